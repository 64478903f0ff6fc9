/- Part 28. -/
import Derived.Test.YtdcjgmlgmjjogaaJ27
set_option linter.unusedSimpArgs false
set_option linter.unusedVariables false
set_option maxHeartbeats 8000000
set_option maxRecDepth 100000
namespace Go.Proofs.Ytdcjgmlgmjjogaa
open Go.Conc Go.RowKit Go.Relay
open Go.ConcN (upd upd_ne upd_same)
section
section
variable {L : La} {main : Bool} {V : Nat → Option Wait} {Stop : Goroutine → World → Prop} {cs : List Frame} {base : World} {R : L.Sg × Ans}
variable {b : Frame} {a : Act} {k : List Item} {ops : Array Oper} {i : Nat} {rest : List Nat} {o : Oper} {w : World}
theorem Walk.callLoneS {f : FuncId} {fn : Func} {args : Array Operand} {ats : Array TypeId} {Rel : Value → Ans → Prop} (N : Nat) (s : L.Sg) (r0 : Ans ⊕ L.D) (hA : ∀ b, Apart V b) (hI : L.I s w) (hrun : runN L N (s, r0) = some R)
  (hc : ∀ (K : Lg L .nilIface), SilN K → ∀ (e : K.E), K.tgt e = (K.s e, r0) → SCall K.toLb f (args.map a.eval) e (fun v e' => ∃ x, Rel v x ∧ K.tgt e' = (K.s e', .inl x)))
  (ho : ops[i]? = some o) (hw : Region.wanted o (yielded ops a.tmps) = true) (hk : b.kind ≠ .early) (hop : o.op = .call { callee := .value (.func f), args, argTypes := ats })
  (hf : Try.prog.funcs[f]? = some fn) (hname : (fn.name == "runtime.NumGoroutine") = false) (hb : fn.body.isNone = false) (hp : Plain (b.at a (.inRegion ops (i :: rest) :: k)))
  (h : ∀ v w', Rel v R.2 → Lone L w R w' → Walk Try.prog main (DR V) Stop (G (b.at (a.put o.dst v) (.inRegion ops rest :: k)) cs) w') :
  Walk Try.prog main (DR V) Stop (G (b.at a (.inRegion ops (i :: rest) :: k)) cs) w := by
 refine Walk.callE ho hw hk hop hf hname hb ?_
 have key := hc (nilL (V := V) (base := w) hA (fun b h => L.lt hI h) main Stop cs R) (nil_sil hA _) { w := w, s := s, tgt := (s, r0), fuel := N, inv := hI, size := Nat.le_refl _, old := fun _ _ _ => rfl, run := hrun } rfl (b.at a (.inRegion ops (i :: rest) :: k)) [] hp (fun _ h => by cases h) ?_
 ·exact key
 ·rintro v e' ⟨x, hr, ht⟩
  have hrn := e'.run
  have ht : e'.tgt = (e'.s, .inl x) := ht
  rw [ht, runN_inl] at hrn
  have hR := Option.some.inj hrn
  have r1 : R.1 = e'.s := (congrArg Prod.fst hR).symm
  have r2 : R.2 = x := (congrArg Prod.snd hR).symm
  have := h v e'.w (by rw [r2]; exact hr) ⟨by rw [r1]; exact e'.inv, e'.size, e'.old⟩
  rw [Frame.finish_at, ho]
  exact this
end
section
variable {L : La} {main : Bool} {V : Nat → Option Wait} {Stop : Goroutine → World → Prop} {cs : List Frame} {base : World} {p : Nat} {R : Nat × L.Sg × Ans}
variable {b : Frame} {a : Act} {k : List Item} {ops : Array Oper} {i : Nat} {rest : List Nat} {o : Oper} {w : World}
theorem Walk.callCntS {f : FuncId} {fn : Func} {args : Array Operand} {ats : Array TypeId} {Rel : Value → Ans → Prop} (N n : Nat) (s : L.Sg) (r0 : Ans ⊕ L.D) (hA : ∀ b, Apart V b) (hI : L.I s w) (hp0 : ¬ L.sh p) (hcnt : w.heap[p]? = some (.cells #[.int .i64 n] 48)) (hfew : n + N < 4611686018427387904) (hrun : lonC L N n (s, r0) = some R)
  (hc : ∀ (K : Lg L (.iface 46 (.pointer (some ⟨p, 0, none⟩)))), SilC p K → ∀ (e : K.E), K.tgt e = (K.s e, r0) → SCall K.toLb f (args.map a.eval) e (fun v e' => ∃ x, Rel v x ∧ K.tgt e' = (K.s e', .inl x)))
  (ho : ops[i]? = some o) (hw : Region.wanted o (yielded ops a.tmps) = true) (hk : b.kind ≠ .early) (hop : o.op = .call { callee := .value (.func f), args, argTypes := ats })
  (hf : Try.prog.funcs[f]? = some fn) (hname : (fn.name == "runtime.NumGoroutine") = false) (hb : fn.body.isNone = false) (hp : Plain (b.at a (.inRegion ops (i :: rest) :: k)))
  (h : ∀ v w', Rel v R.2.2 → Counted L w p R w' → Walk Try.prog main (DR V) Stop (G (b.at (a.put o.dst v) (.inRegion ops rest :: k)) cs) w') :
  Walk Try.prog main (DR V) Stop (G (b.at a (.inRegion ops (i :: rest) :: k)) cs) w := by
 refine Walk.callE ho hw hk hop hf hname hb ?_
 have key := hc (cntL (V := V) (base := w) hA (fun b h => L.lt hI h) hp0 (Array.getElem?_eq_some_iff.1 hcnt).1 main Stop cs R) (cnt_sil hA _ hp0 _) { w := w, s := s, tgt := (s, r0), fuel := N, n := n, inv := hI, size := Nat.le_refl _, old := fun _ _ _ _ => rfl, cnt := hcnt, few := hfew, run := hrun } rfl (b.at a (.inRegion ops (i :: rest) :: k)) [] hp (fun _ h => by cases h) ?_
 ·exact key
 ·rintro v e' ⟨x, hr, ht⟩
  have hrn := e'.run
  have hcn := e'.cnt
  have ht : e'.tgt = (e'.s, .inl x) := ht
  rw [ht, lonC_inl] at hrn
  have hR := Option.some.inj hrn
  have r0 : R.1 = e'.n := (congrArg Prod.fst hR).symm
  have r1 : R.2.1 = e'.s := (congrArg (fun x => x.2.1) hR).symm
  have r2 : R.2.2 = x := (congrArg (fun x => x.2.2) hR).symm
  have := h v e'.w (by rw [r2]; exact hr) ⟨by rw [r1]; exact e'.inv, e'.size, e'.old, by rw [r0]; exact hcn⟩
  rw [Frame.finish_at, ho]
  exact this
end
section
variable {cb m : Nat}
theorem call_n (K : Lg (onLa cb m) .nilIface) (hS : SilN K) (i : Nat) (hi : i < m) (e : K.E) (ok ob oc : Int) (ht : K.tgt e = onEnter m (K.s e) ⟨ok, (i : Int), ob, oc⟩) :
  SCall K.toLb 14 #[onP cb i, .nilIface, .agg #[.int .i64 ok, .int .i64 i, .int .i64 ob, .int .i64 oc]] e (fun v e' => ∃ a, K.tgt e' = (K.s e', .inl a) ∧ v = ansVal a) :=
 call_s K i hi (fun N ok oa ob oc e1 B => call1_nil (Fz K e1) (hS.fz e1) i hi ob ok oa oc N (N + 1) fun x => ⟨(x.2 _ B.m0).2.trans B.b0, (x.2 _ B.m1).2.trans B.b1⟩) e ok ob oc ht
theorem call_c (p : Nat) (K : Lg (onLa cb m) (.iface 46 (.pointer (some ⟨p, 0, none⟩)))) (hS : SilC p K) (i : Nat) (hi : i < m) (e : K.E) (ok ob oc : Int) (ht : K.tgt e = onEnter m (K.s e) ⟨ok, (i : Int), ob, oc⟩) :
  SCall K.toLb 14 #[onP cb i, .iface 46 (.pointer (some ⟨p, 0, none⟩)), .agg #[.int .i64 ok, .int .i64 i, .int .i64 ob, .int .i64 oc]] e (fun v e' => ∃ a, K.tgt e' = (K.s e', .inl a) ∧ v = ansVal a) :=
 call_s K i hi (fun N ok oa ob oc e1 B => call1_cnt p (Fz K e1) (hS.fz e1) i hi ob ok oa oc N (N + 1) fun x => ⟨(x.2 _ B.m0).2.trans B.b0, (x.2 _ B.m1).2.trans B.b1⟩) e ok ob oc ht
end
end
noncomputable def reg4_0 := rg Try.f4.body [0]
noncomputable def reg4_1 := rg Try.f4.body [1, 0, 0]
noncomputable def reg4_2 := rg Try.f4.body [1, 0, 1, 0, 0]
noncomputable def reg4_3 := rg Try.f4.body [1, 1, 0]
noncomputable def reg4_4 := rg Try.f4.body [1, 1, 1, 0, 0]
noncomputable def reg4_5 := rg Try.f4.body [1, 1, 1, 0, 1, 0, 0, 0]
noncomputable def reg4_6 := rg Try.f4.body [1, 1, 1, 0, 1, 0, 0, 1, 1, 0, 0, 0]
noncomputable def reg4_7 := rg Try.f4.body [1, 1, 1, 0, 1, 0, 0, 1, 1, 0, 0, 1, 0]
noncomputable def reg4_8 := rg Try.f4.body [1, 1, 1, 0, 1, 0, 0, 1, 1, 0, 0, 1, 1]
noncomputable def reg4_9 := rg Try.f4.body [1, 1, 1, 0, 1, 0, 0, 1, 1, 1]
noncomputable def reg4_10 := rg Try.f4.body [1, 1, 1, 1, 0]
noncomputable def reg4_11 := rg Try.f4.body [1, 1, 1, 1, 1, 0, 0]
noncomputable def reg4_12 := rg Try.f4.body [1, 1, 1, 1, 1, 0, 1, 0, 0]
noncomputable def reg4_13 := rg Try.f4.body [1, 1, 1, 1, 1, 1, 0]
noncomputable def reg4_14 := rg Try.f4.body [1, 1, 1, 1, 1, 1, 1, 0, 0]
noncomputable def reg4_15 := rg Try.f4.body [1, 1, 1, 1, 1, 1, 1, 0, 1, 0, 0, 0]
noncomputable def reg4_16 := rg Try.f4.body [1, 1, 1, 1, 1, 1, 1, 0, 1, 0, 0, 1, 1, 0, 0, 0]
noncomputable def reg4_17 := rg Try.f4.body [1, 1, 1, 1, 1, 1, 1, 0, 1, 0, 0, 1, 1, 0, 0, 1, 0]
theorem size4_17 : reg4_17.size = 18 := by kernel_rfl
noncomputable def reg4_18 := rg Try.f4.body [1, 1, 1, 1, 1, 1, 1, 0, 1, 0, 0, 1, 1, 0, 0, 1, 1, 0]
noncomputable def reg4_19 := rg Try.f4.body [1, 1, 1, 1, 1, 1, 1, 0, 1, 0, 0, 1, 1, 0, 0, 1, 1, 1, 0, 0]
noncomputable def reg4_20 := rg Try.f4.body [1, 1, 1, 1, 1, 1, 1, 0, 1, 0, 0, 1, 1, 1]
noncomputable def reg4_21 := rg Try.f4.body [1, 1, 1, 1, 1, 1, 1, 1, 0]
noncomputable def reg4_22 := rg Try.f4.body [1, 1, 1, 1, 1, 1, 1, 1, 1, 0]
noncomputable def reg4_23 := rg Try.f4.body [1, 1, 1, 1, 1, 1, 1, 1, 1, 1, 0]
theorem size4_23 : reg4_23.size = 27 := by kernel_rfl
theorem z4 : List.range reg4_0.size = [0] ∧ List.range reg4_1.size = [0, 1] ∧ List.range reg4_2.size = [0] ∧ List.range reg4_3.size = [0] ∧ List.range reg4_4.size = [0, 1, 2] ∧ List.range reg4_5.size = [0] ∧ List.range reg4_6.size = [0, 1, 2, 3] ∧ List.range reg4_7.size = [0, 1] ∧ List.range reg4_8.size = [0, 1, 2, 3, 4] ∧ List.range reg4_9.size = [0, 1] ∧ List.range reg4_10.size = [0, 1, 2, 3, 4] ∧ List.range reg4_11.size = [0, 1] ∧ List.range reg4_12.size = [0] ∧ List.range reg4_13.size = [0, 1, 2, 3, 4, 5, 6, 7] ∧ List.range reg4_14.size = [0, 1, 2, 3, 4, 5] ∧ List.range reg4_15.size = [0] ∧ List.range reg4_16.size = [0, 1, 2, 3, 4, 5] ∧ List.range reg4_17.size = [0, 1, 2, 3, 4, 5, 6, 7, 8, 9, 10, 11, 12, 13, 14, 15, 16, 17] ∧ List.range reg4_18.size = [0, 1, 2, 3, 4, 5, 6, 7, 8, 9, 10, 11, 12, 13, 14, 15, 16, 17, 18, 19, 20, 21, 22, 23, 24, 25] ∧ List.range reg4_19.size = [0] ∧ List.range reg4_20.size = [0, 1] ∧ List.range reg4_21.size = [0, 1, 2, 3, 4, 5, 6, 7, 8] ∧ List.range reg4_22.size = [0, 1, 2, 3, 4, 5, 6, 7, 8] ∧ List.range reg4_23.size = [0, 1, 2, 3, 4, 5, 6, 7, 8, 9, 10, 11, 12, 13, 14, 15, 16, 17, 18, 19, 20, 21, 22, 23, 24, 25, 26] := by refine ⟨?_, ?_, ?_, ?_, ?_, ?_, ?_, ?_, ?_, ?_, ?_, ?_, ?_, ?_, ?_, ?_, ?_, ?_, ?_, ?_, ?_, ?_, ?_, ?_⟩ <;> kernel_rfl
theorem code4_is : Try.f4.body = some (.seq (.region 0 reg4_0 false) (.seq (.seq (.region 1 reg4_1 false) (.cond (.tmp 21 ) (.seq (.region 2 reg4_2 false) (.ret)) (.skip))) (.seq (.region 3 reg4_3 false) (.seq (.seq (.region 4 reg4_4 false) (.block 0 (.loop (.seq (.region 5 reg4_5 false) (.seq (.cond (.tmp 25 ) (.skip) (.exit 0)) (.seq (.block 1 (.seq (.region 6 reg4_6 false) (.seq (.region 7 reg4_7 false) (.region 8 reg4_8 false)))) (.region 9 reg4_9 false))))))) (.seq (.region 10 reg4_10 false) (.seq (.seq (.region 11 reg4_11 false) (.cond (.tmp 38 ) (.seq (.region 12 reg4_12 false) (.ret)) (.skip))) (.seq (.region 13 reg4_13 false) (.seq (.seq (.region 14 reg4_14 false) (.block 2 (.loop (.seq (.region 15 reg4_15 false) (.seq (.cond (.tmp 50 ) (.skip) (.exit 2)) (.seq (.block 3 (.seq (.region 16 reg4_16 false) (.seq (.region 17 reg4_17 true) (.seq (.region 18 reg4_18 false) (.cond (.tmp 93 ) (.seq (.region 19 reg4_19 false) (.ret)) (.skip)))))) (.region 20 reg4_20 false))))))) (.seq (.region 21 reg4_21 false) (.seq (.region 22 reg4_22 false) (.seq (.region 23 reg4_23 true) (.ret)))))))))))) := by kernel_rfl
def tmA (tb toff n0 tc R kb lb p q i : Nat) (aa : Option Addr) (m ac : Nat) (u : Nat → Value) : Array Value := #[u 0, u 1, .bool false, .slice (some ⟨tb, toff, none⟩) n0 tc, u 4, u 5, .pointer (some ⟨R, 0, none⟩), .pointer (some ⟨kb, 0, none⟩), .pointer (some ⟨lb, 0, none⟩), .pointer (some ⟨p, 0, none⟩), .int .i64 i, .pointer (some ⟨q, 0, none⟩), u 12, u 13, u 14, u 15, u 16, u 17, u 18, u 19, u 20, u 21, u 22, u 23, u 24, u 25, u 26, u 27, u 28, u 29, u 30, u 31, u 32, u 33, u 34, u 35, u 36, u 37, u 38, u 39, u 40, u 41, u 42, u 43, u 44, u 45, u 46, .slice aa m ac, .int .i64 m, .int .i64 i, u 50, u 51, u 52, u 53, u 54, u 55, u 56, u 57, u 58, u 59, u 60, u 61, u 62, u 63, u 64, u 65, u 66, u 67, u 68, u 69, u 70, u 71, u 72, u 73, u 74, u 75, u 76, u 77, u 78, u 79, u 80, u 81, u 82, u 83, u 84, u 85, u 86, u 87, u 88, u 89, u 90, u 91, u 92, u 93, u 94, u 95, u 96, u 97, u 98, u 99, u 100, u 101, u 102, u 103, u 104, u 105, u 106, u 107, u 108, u 109, u 110, u 111, u 112, u 113, u 114, u 115, u 116, u 117, u 118, u 119, u 120, u 121, u 122, u 123, u 124, u 125, u 126, u 127, u 128, u 129, u 130, u 131, u 132]
def dsA : List Nat := [54, 55, 56, 57, 58, 59, 60, 61, 62, 63, 64, 65, 66, 67, 12, 13]
def vsA (tb toff n0 tc kb lb p i : Nat) (o : OpV) (a : Ans) (A B : Nat) : List Value := [.pointer (some ⟨kb, 0, none⟩), .pointer (some ⟨p, 0, none⟩), .iface 46 (.pointer (some ⟨p, 0, none⟩)), .slice (some ⟨tb, toff, none⟩) n0 tc, .int .i64 i, .pointer (some ⟨tb, toff + i * 4, none⟩), opVal o, ansVal a, .pointer (some ⟨lb, 0, none⟩), .slice (some ⟨tb, toff, none⟩) n0 tc, .int .i64 i, .pointer (some ⟨tb, toff + i * 4, none⟩), opVal o, ansVal a, .pointer (some ⟨A, 0, none⟩), .pointer (some ⟨B, 0, none⟩)]
structure AloW (kb lb p : Nat) (S S' U U' : Oz) (c c' : Nat) (a : Ans) (W : World) (f : Nat → Bool) (A B : Nat) (w : World) : Prop where
 ik : OzI kb 1 (if f 7 then S' else S) w
 cn : w.heap[p]? = some (.cells #[.int .i64 ((if f 7 then c' else c : Nat) : Int)] 48)
 il : OzI lb 1 (if f 13 then U' else U) w
 a1 : f 14 = true → W.heap.size ≤ A ∧ w.heap[A]? = some (if f 16 then (.cells #[.bool a.1, .int .i64 a.2, .slice none 0 0] 51) else (.cells #[.bool false, .int .i64 0, .slice none 0 0] 51))
 b1 : f 15 = true → W.heap.size ≤ B ∧ w.heap[B]? = some (if f 17 then (.cells #[.bool a.1, .int .i64 a.2, .slice none 0 0] 51) else (.cells #[.bool false, .int .i64 0, .slice none 0 0] 51))
 ne : f 14 = true → f 15 = true → A ≠ B
 old : ∀ b, b < W.heap.size → b ≠ kb → b ≠ lb → b ≠ p → w.heap[b]? = W.heap[b]?
 size : W.heap.size ≤ w.heap.size
theorem AloW.at {kb lb p : Nat} {S S' U U' : Oz} {c c' : Nat} {a : Ans} {W : World} {f : Nat → Bool} {A B : Nat} {w : World} (h : AloW kb lb p S S' U U' c c' a W f A B w) (d : Nat) : AloW kb lb p S S' U U' c c' a W f A B (w.at d) := ⟨h.ik.old rfl, h.cn, h.il.old rfl, h.a1, h.b1, h.ne, h.old, h.size⟩
theorem AloW.quiet {kb lb p : Nat} {S S' U U' : Oz} {c c' : Nat} {a : Ans} {W : World} {f : Nat → Bool} {A B : Nat} {w : World} (h : AloW kb lb p S S' U U' c c' a W f A B w) {i : Nat} (h7 : i ≠ 7) (h13 : i ≠ 13) (h14 : i ≠ 14) (h15 : i ≠ 15) (h16 : i ≠ 16) (h17 : i ≠ 17) : AloW kb lb p S S' U U' c c' a W (upd f i true) A B w := by
 refine ⟨?_, ?_, ?_, ?_, ?_, ?_, h.old, h.size⟩
 ·rw [upd_ne _ _ (Ne.symm h7)]; exact h.ik
 ·rw [upd_ne _ _ (Ne.symm h7)]; exact h.cn
 ·rw [upd_ne _ _ (Ne.symm h13)]; exact h.il
 ·rw [upd_ne _ _ (Ne.symm h14), upd_ne _ _ (Ne.symm h16)]; exact h.a1
 ·rw [upd_ne _ _ (Ne.symm h15), upd_ne _ _ (Ne.symm h17)]; exact h.b1
 ·rw [upd_ne _ _ (Ne.symm h14), upd_ne _ _ (Ne.symm h15)]; exact h.ne
theorem facts_more {dsts : List Nat} {vals : List Value} {f : Nat → Bool} {u : Nat → Value} (F : Facts dsts vals f u) {i : Nat} (hd : dsts[i]? = none) : Facts dsts vals (upd f i true) u := by
 intro j d v hf hj hv
 by_cases e : j = i
 ·rw [e, hd] at hj; cases hj
 ·rw [upd_ne _ _ e] at hf
  exact F j d v hf hj hv
theorem facts_vals {dsts : List Nat} {vals vals' : List Value} {f : Nat → Bool} {u : Nat → Value} (F : Facts dsts vals f u) (h : ∀ j v, f j = true → vals'[j]? = some v → vals[j]? = some v) : Facts dsts vals' f u := fun j d v hf hd hv => F j d v hf hd (h j v hf hv)
theorem onEnter_any (s s' : Oz) (o : OpV) : onEnter 1 s o = (s, (onEnter 1 s' o).2) := by
 unfold onEnter
 split
 ·rfl
 split
 ·rfl
 split
 ·rfl
 split
 ·rfl
 split <;> rfl
theorem alone_do {main : Bool} (tb toff n0 tc R kb lb p q i : Nat) (aa : Option Addr) (m ac : Nat) (S U : Oz) (c : Nat) (o : OpV) (hoS : OkZ S) (hoU : OkZ U) (hoa : o.a = ((0 : Nat) : Int)) (hi : i < n0) (hn0 : n0 ≤ 17592186044416) (W : World)
  (hk : OzI kb 1 S W) (hl : OzI lb 1 U W) (hc : W.heap[p]? = some (.cells #[.int .i64 (c : Nat)] 48)) (hfew : c ≤ 9223372036854) (hs : (oneZ 0 U o).2.2 = (oneZ c S o).2.2)
  (hne : kb ≠ lb ∧ p ≠ kb ∧ p ≠ lb) (ht : tb ≠ kb ∧ tb ≠ lb ∧ tb ≠ p)
  (o0 : W.cell? ⟨tb, toff + i * 4, none⟩ = some (.int .i64 o.k)) (o1 : W.cell? ⟨tb, toff + i * 4 + 1, none⟩ = some (.int .i64 o.a)) (o2 : W.cell? ⟨tb, toff + i * 4 + 2, none⟩ = some (.int .i64 o.b)) (o3 : W.cell? ⟨tb, toff + i * 4 + 3, none⟩ = some (.int .i64 o.c))
  (k : List Item) (cs : List Frame) (u0 : Nat → Value) {Stop : Goroutine → World → Prop}
  (hend : ∀ (u : Nat → Value) (A B : Nat) (w : World), u 12 = .pointer (some ⟨A, 0, none⟩) → u 13 = .pointer (some ⟨B, 0, none⟩) → AloW kb lb p S (oneZ c S o).2.1 U (oneZ 0 U o).2.1 c (oneZ c S o).1 (oneZ c S o).2.2 W (fun _ => true) A B w → Walk Try.prog main (DR (fun _ => none)) Stop (G ((base 4).at ⟨tmA tb toff n0 tc R kb lb p q i aa m ac u, []⟩ (.inRegion reg4_17 [] :: k)) cs) w) :
  Walk Try.prog main (DR (fun _ => none)) Stop (G ((base 4).at ⟨tmA tb toff n0 tc R kb lb p q i aa m ac u0, []⟩ (.code (.region 17 reg4_17 true) :: k)) cs) W := by
 have hif1 := run_ifaceSteps
 have hif2 := ev_ifaceSteps
 obtain ⟨fsO, huO⟩ := structT 34 (by kernel_rfl)
 have ho2 : (⟨o.k, ((0 : Nat) : Int), o.b, o.c⟩ : OpV) = o := by rw [← hoa]
 have hrun := oneZ_is kb c S o hoS hoa
 have hrunU : runN (onLa lb 1) 7 ((onLa lb 1).enter U o) = some ((oneZ 0 U o).2.1, (oneZ 0 U o).2.2) := lonC_runN (c1 := (oneZ 0 U o).1) (oneZ_is lb 0 U o hoU hoa)
 generalize hX : oneZ c S o = X at *
 generalize hY : oneZ 0 U o = Y at *
 obtain ⟨c', S', a⟩ := X
 obtain ⟨cu, U', a'⟩ := Y
 have hs : a = a' := hs.symm
 subst hs
 dsimp only at hend hrun hrunU
 clear hX hY
 have hrun' : lonC (onLa kb 1) 7 c (S, (onEnter 1 S o).2) = some (c', S', a) := (congrArg (lonC (onLa kb 1) 7 c) (onEnter_any S S o).symm).trans hrun
 have hrunU' : runN (onLa lb 1) 7 (U, (onEnter 1 U o).2) = some (U', a) := (congrArg (runN (onLa lb 1) 7) (onEnter_any U U o).symm).trans hrunU
 have l1 : kb < W.heap.size := hk.lt
 have l3 : lb < W.heap.size := hl.lt
 have l5 : p < W.heap.size := (Array.getElem?_eq_some_iff.1 hc).1
 obtain ⟨n2, n7, n9⟩ := hne
 refine Walk.drawnJ (Inv := fun f ac' w => ∃ u A B, ac' = ⟨tmA tb toff n0 tc R kb lb p q i aa m ac u, []⟩ ∧ Facts dsA (vsA tb toff n0 tc kb lb p i o a A B) f u ∧ AloW kb lb p S S' U U' c c' a W f A B w) (by kernel_rfl) (by kernel_rfl) (fun d => ⟨u0, 0, 0, rfl, Facts.none _ _ _, AloW.at ⟨hk, hc, hl, fun h => (by cases h), fun h => (by cases h), fun h => (by cases h), fun _ _ _ _ _ => rfl, Nat.le_refl _⟩ d⟩) ?_ ?_
 ·rintro f j op act w ⟨u, A, B, rfl, F0, Q⟩ hC hfj ho hdeps rest hr
  have hj : j < 18 := by have := (Array.getElem?_eq_some_iff.1 ho).1; rw [size4_17] at this; exact this
  have hcell : ∀ {x y : Nat} {v : Value}, x = tb → W.cell? ⟨x, y, none⟩ = some v → w.cell? ⟨x, y, none⟩ = some v := fun {x y v} e h => by
   subst e
   exact (World.cell?_of_block (a := ⟨x, y, none⟩) (Q.old x (cell_lt' h) ht.1 ht.2.1 ht.2.2)).trans h
  have hC' := hC
  match j, hj with
  | 0, _ =>
   clear hdeps hC hC' hrun hrunU hrun' hrunU' hend
   simp only [tmA] at hr ⊢
   (refine Walk.oq ?_; try walk_nrm)
   refine hr _ _ ⟨upd u 54 (.pointer (some ⟨kb, 0, none⟩)), A, B, ?_, F0.set (by decide) rfl rfl, Q.quiet (by decide) (by decide) (by decide) (by decide) (by decide) (by decide)⟩
   simp [tmA, upd]
  | 1, _ =>
   clear hdeps hC hC' hrun hrunU hrun' hrunU' hend
   simp only [tmA] at hr ⊢
   (refine Walk.oq ?_; try walk_nrm)
   refine hr _ _ ⟨upd u 55 (.pointer (some ⟨p, 0, none⟩)), A, B, ?_, F0.set (by decide) rfl rfl, Q.quiet (by decide) (by decide) (by decide) (by decide) (by decide) (by decide)⟩
   simp [tmA, upd]
  | 2, _ =>
   have hd := deps_of (l := [1]) (by kernel_rfl) ho hdeps
   have e47 := F0 1 55 _ (hd 1 (by simp)) rfl rfl
   clear hdeps hC hC' hrun hrunU hrun' hrunU' hend
   simp only [tmA] at hr ⊢
   simp only [e47]
   (refine Walk.oq ?_; try walk_nrm)
   refine hr _ _ ⟨upd u 56 (.iface 46 (.pointer (some ⟨p, 0, none⟩))), A, B, ?_, F0.set (by decide) rfl rfl, Q.quiet (by decide) (by decide) (by decide) (by decide) (by decide) (by decide)⟩
   simp [tmA, upd, e47]
  | 3, _ =>
   clear hdeps hC hC' hrun hrunU hrun' hrunU' hend
   simp only [tmA] at hr ⊢
   (refine Walk.oq ?_; try walk_nrm)
   refine hr _ _ ⟨upd u 57 (.slice (some ⟨tb, toff, none⟩) n0 tc), A, B, ?_, F0.set (by decide) rfl rfl, Q.quiet (by decide) (by decide) (by decide) (by decide) (by decide) (by decide)⟩
   simp [tmA, upd]
  | 4, _ =>
   clear hdeps hC hC' hrun hrunU hrun' hrunU' hend
   simp only [tmA] at hr ⊢
   (refine Walk.oq ?_; try walk_nrm)
   refine hr _ _ ⟨upd u 58 (.int .i64 i), A, B, ?_, F0.set (by decide) rfl rfl, Q.quiet (by decide) (by decide) (by decide) (by decide) (by decide) (by decide)⟩
   simp [tmA, upd]
  | 5, _ =>
   have hd := deps_of (l := [3, 4]) (by kernel_rfl) ho hdeps
   have e49 := F0 3 57 _ (hd 3 (by simp)) rfl rfl
   have e50 := F0 4 58 _ (hd 4 (by simp)) rfl rfl
   have hi0 : (0 : Int) ≤ i := by omega
   have hi3 : decide (i < n0) = true := by simp; omega
   have hi1 : decide ((i : Int) < n0) = true := by simp; omega
   have hi4 : (i : Int) < n0 := by omega
   clear hdeps hC hC' hrun hrunU hrun' hrunU' hend
   simp only [tmA] at hr ⊢
   simp only [e49, e50]
   (refine Walk.oq ?_; try walk_nrm)
   refine hr _ _ ⟨upd u 59 (.pointer (some ⟨tb, toff + i * 4, none⟩)), A, B, ?_, F0.set (by decide) rfl rfl, Q.quiet (by decide) (by decide) (by decide) (by decide) (by decide) (by decide)⟩
   simp [tmA, upd, e49, e50]
  | 6, _ =>
   have hd := deps_of (l := [5]) (by kernel_rfl) ho hdeps
   have e51 := F0 5 59 _ (hd 5 (by simp)) rfl rfl
   have hcs : ∀ (y : Nat) (v : Value), ([.int .i64 o.k, .int .i64 o.a, .int .i64 o.b, .int .i64 o.c] : List Value)[y]? = some v → w.cell? ⟨tb, toff + i * 4 + y, none⟩ = some v := fun y v hv => by
    match y, hv with
    | 0, hv => cases hv; exact hcell rfl o0
    | 1, hv => cases hv; exact hcell rfl o1
    | 2, hv => cases hv; exact hcell rfl o2
    | 3, hv => cases hv; exact hcell rfl o3
   clear hdeps hC hC' hrun hrunU hrun' hrunU' hend
   simp only [tmA] at hr ⊢
   simp only [e51]
   refine Walk.loadS 34 (.tmp 59) (ho_of (by conv => lhs; whnf) (by kernel_rfl)) (by rfl) (by decide) rfl tb (toff + i * 4) [.int .i64 o.k, .int .i64 o.a, .int .i64 o.b, .int .i64 o.c] (.struct fsO) rfl hcs huO rfl (by kernel_rfl) ?_
   walk_nrm
   refine hr _ _ ⟨upd u 60 (opVal o), A, B, ?_, F0.set (by decide) rfl rfl, Q.quiet (by decide) (by decide) (by decide) (by decide) (by decide) (by decide)⟩
   simp [tmA, upd, opVal, e51]
  | 7, _ =>
   have hd := deps_of (l := [0, 2, 6]) (by kernel_rfl) ho hdeps
   have e46 := F0 0 54 _ (hd 0 (by simp)) rfl rfl
   have e48 := F0 2 56 _ (hd 2 (by simp)) rfl rfl
   have e52 := F0 6 60 _ (hd 6 (by simp)) rfl rfl
   have ik := Q.ik
   have cn := Q.cn
   rw [hfj] at ik cn
   simp only [Bool.false_eq_true, if_false] at ik cn
   clear hdeps hC hend
   simp only [tmA] at hr ⊢
   simp only [e46, e48, e52, opVal]
   refine Walk.callCntS (L := onLa kb 1) (p := p) (R := (c', S', a)) (Rel := fun v x => v = ansVal x) 7 c S (onEnter 1 S o).2 ap0 ik (fun h => n7 h) cn (by omega) hrun' ?_ (ho_of (by conv => lhs; whnf) (by kernel_rfl)) (by rfl) (by decide) rfl Try.func14 (by kernel_rfl) (by rfl) ⟨rfl, rfl, _, Try.func4⟩ ?_
   ·intro K hSil e he
    have hcc := (call_c p K hSil 0 (by decide) e o.k o.b o.c (by rw [ho2]; exact he.trans (onEnter_any (K.s e) S o).symm)).mono fun v e' (h : ∃ a, K.tgt e' = (K.s e', .inl a) ∧ v = ansVal a) => (show ∃ x, v = ansVal x ∧ K.tgt e' = (K.s e', .inl x) by obtain ⟨x, h1, h2⟩ := h; exact ⟨x, h2, h1⟩)
    rw [← hoa] at hcc
    unfold onP at hcc
    rw [Nat.zero_mul] at hcc
    walk_nrm
    exact hcc
   rintro v w1 rfl hCn
   have hCo := hCn.old
   have hCs := hCn.size
   have hQs := Q.size
   walk_nrm
   refine hr _ _ ⟨upd u 61 (ansVal a), A, B, ?_, F0.set (by decide) rfl rfl, ⟨?_, ?_, ?_, fun h => ?_, fun h => ?_, fun h h2 => ?_, fun b hb h1 h3 h5 => ?_, by omega⟩⟩
   ·simp [tmA, upd, ansVal, opVal, e46, e48, e52]
   ·rw [upd_same, if_pos rfl]; exact hCn.I
   ·rw [upd_same, if_pos rfl]; exact hCn.cnt
   ·rw [upd_ne _ _ (by decide)]
    exact OzI.old Q.il (hCo lb (by omega) (fun h => by have h : lb = kb := h; omega) (by omega))
   ·rw [upd_ne _ _ (by decide)] at h
    rw [upd_ne _ _ (by decide)]
    obtain ⟨z1, z2⟩ := Q.a1 h
    exact ⟨z1, (hCo A (Array.getElem?_eq_some_iff.1 z2).1 (fun h => by have h : _ = kb := h; omega) (by omega)).trans z2⟩
   ·rw [upd_ne _ _ (by decide)] at h
    rw [upd_ne _ _ (by decide)]
    obtain ⟨z1, z2⟩ := Q.b1 h
    exact ⟨z1, (hCo B (Array.getElem?_eq_some_iff.1 z2).1 (fun h => by have h : _ = kb := h; omega) (by omega)).trans z2⟩
   ·rw [upd_ne _ _ (by decide)] at h h2
    exact Q.ne h h2
   ·exact (hCo b (by omega) (fun h => h1 h) h5).trans (Q.old b hb h1 h3 h5)
  | 8, _ =>
   clear hdeps hC hC' hrun hrunU hrun' hrunU' hend
   simp only [tmA] at hr ⊢
   (refine Walk.oq ?_; try walk_nrm)
   refine hr _ _ ⟨upd u 62 (.pointer (some ⟨lb, 0, none⟩)), A, B, ?_, F0.set (by decide) rfl rfl, Q.quiet (by decide) (by decide) (by decide) (by decide) (by decide) (by decide)⟩
   simp [tmA, upd]
  | 9, _ =>
   clear hdeps hC hC' hrun hrunU hrun' hrunU' hend
   simp only [tmA] at hr ⊢
   (refine Walk.oq ?_; try walk_nrm)
   refine hr _ _ ⟨upd u 63 (.slice (some ⟨tb, toff, none⟩) n0 tc), A, B, ?_, F0.set (by decide) rfl rfl, Q.quiet (by decide) (by decide) (by decide) (by decide) (by decide) (by decide)⟩
   simp [tmA, upd]
  | 10, _ =>
   clear hdeps hC hC' hrun hrunU hrun' hrunU' hend
   simp only [tmA] at hr ⊢
   (refine Walk.oq ?_; try walk_nrm)
   refine hr _ _ ⟨upd u 64 (.int .i64 i), A, B, ?_, F0.set (by decide) rfl rfl, Q.quiet (by decide) (by decide) (by decide) (by decide) (by decide) (by decide)⟩
   simp [tmA, upd]
  | 11, _ =>
   have hd := deps_of (l := [9, 10]) (by kernel_rfl) ho hdeps
   have e55 := F0 9 63 _ (hd 9 (by simp)) rfl rfl
   have e56 := F0 10 64 _ (hd 10 (by simp)) rfl rfl
   have hi0 : (0 : Int) ≤ i := by omega
   have hi3 : decide (i < n0) = true := by simp; omega
   have hi1 : decide ((i : Int) < n0) = true := by simp; omega
   have hi4 : (i : Int) < n0 := by omega
   clear hdeps hC hC' hrun hrunU hrun' hrunU' hend
   simp only [tmA] at hr ⊢
   simp only [e55, e56]
   (refine Walk.oq ?_; try walk_nrm)
   refine hr _ _ ⟨upd u 65 (.pointer (some ⟨tb, toff + i * 4, none⟩)), A, B, ?_, F0.set (by decide) rfl rfl, Q.quiet (by decide) (by decide) (by decide) (by decide) (by decide) (by decide)⟩
   simp [tmA, upd, e55, e56]
  | 12, _ =>
   have hd := deps_of (l := [11]) (by kernel_rfl) ho hdeps
   have e57 := F0 11 65 _ (hd 11 (by simp)) rfl rfl
   have hcs : ∀ (y : Nat) (v : Value), ([.int .i64 o.k, .int .i64 o.a, .int .i64 o.b, .int .i64 o.c] : List Value)[y]? = some v → w.cell? ⟨tb, toff + i * 4 + y, none⟩ = some v := fun y v hv => by
    match y, hv with
    | 0, hv => cases hv; exact hcell rfl o0
    | 1, hv => cases hv; exact hcell rfl o1
    | 2, hv => cases hv; exact hcell rfl o2
    | 3, hv => cases hv; exact hcell rfl o3
   clear hdeps hC hC' hrun hrunU hrun' hrunU' hend
   simp only [tmA] at hr ⊢
   simp only [e57]
   refine Walk.loadS 34 (.tmp 65) (ho_of (by conv => lhs; whnf) (by kernel_rfl)) (by rfl) (by decide) rfl tb (toff + i * 4) [.int .i64 o.k, .int .i64 o.a, .int .i64 o.b, .int .i64 o.c] (.struct fsO) rfl hcs huO rfl (by kernel_rfl) ?_
   walk_nrm
   refine hr _ _ ⟨upd u 66 (opVal o), A, B, ?_, F0.set (by decide) rfl rfl, Q.quiet (by decide) (by decide) (by decide) (by decide) (by decide) (by decide)⟩
   simp [tmA, upd, opVal, e57]
  | 13, _ =>
   have hd := deps_of (l := [8, 12, 7]) (by kernel_rfl) ho hdeps
   have e54 := F0 8 62 _ (hd 8 (by simp)) rfl rfl
   have e58 := F0 12 66 _ (hd 12 (by simp)) rfl rfl
   have e53 := F0 7 61 _ (hd 7 (by simp)) rfl rfl
   have il := Q.il
   rw [hfj] at il
   simp only [Bool.false_eq_true, if_false] at il
   clear hdeps hC hend
   simp only [tmA] at hr ⊢
   simp only [e54, e58, opVal]
   refine Walk.callLoneS (L := onLa lb 1) (R := (U', a)) (Rel := fun v x => v = ansVal x) 7 U (onEnter 1 U o).2 ap0 il hrunU' ?_ (ho_of (by conv => lhs; whnf) (by kernel_rfl)) (by rfl) (by decide) rfl Try.func14 (by kernel_rfl) (by rfl) ⟨rfl, rfl, _, Try.func4⟩ ?_
   ·intro K hSil e he
    have hcc := (call_n K hSil 0 (by decide) e o.k o.b o.c (by rw [ho2]; exact he.trans (onEnter_any (K.s e) U o).symm)).mono fun v e' (h : ∃ a, K.tgt e' = (K.s e', .inl a) ∧ v = ansVal a) => (show ∃ x, v = ansVal x ∧ K.tgt e' = (K.s e', .inl x) by obtain ⟨x, h1, h2⟩ := h; exact ⟨x, h2, h1⟩)
    rw [← hoa] at hcc
    unfold onP at hcc
    rw [Nat.zero_mul] at hcc
    walk_nrm
    exact hcc
   rintro v w1 rfl hCn
   have hCo := hCn.old
   have hCs := hCn.size
   have hQs := Q.size
   walk_nrm
   refine hr _ _ ⟨upd u 67 (ansVal a), A, B, ?_, F0.set (by decide) rfl rfl, ⟨?_, ?_, ?_, fun h => ?_, fun h => ?_, fun h h2 => ?_, fun b hb h1 h3 h5 => ?_, by omega⟩⟩
   ·simp [tmA, upd, ansVal, opVal, e54, e58]
   ·rw [upd_ne _ _ (by decide)]
    exact OzI.old Q.ik (hCo kb (by omega) (fun h => by have h : kb = lb := h; omega))
   ·rw [upd_ne _ _ (by decide)]
    exact (hCo p (by omega) (fun h => by have h : p = lb := h; omega)).trans Q.cn
   ·rw [upd_same, if_pos rfl]; exact hCn.I
   ·rw [upd_ne _ _ (by decide)] at h
    rw [upd_ne _ _ (by decide)]
    obtain ⟨z1, z2⟩ := Q.a1 h
    exact ⟨z1, (hCo A (Array.getElem?_eq_some_iff.1 z2).1 (fun h => by have h : _ = lb := h; omega)).trans z2⟩
   ·rw [upd_ne _ _ (by decide)] at h
    rw [upd_ne _ _ (by decide)]
    obtain ⟨z1, z2⟩ := Q.b1 h
    exact ⟨z1, (hCo B (Array.getElem?_eq_some_iff.1 z2).1 (fun h => by have h : _ = lb := h; omega)).trans z2⟩
   ·rw [upd_ne _ _ (by decide)] at h h2
    exact Q.ne h h2
   ·exact (hCo b (by omega) (fun h => h3 h)).trans (Q.old b hb h1 h3 h5)
  | 14, _ =>
   clear hdeps hC hrun hrunU hend
   have hN := heap_alloc_new w (.cells #[.bool false, .int .i64 0, .slice none 0 0] 51)
   have hO : ∀ b, b < w.heap.size → (w.alloc (.cells #[.bool false, .int .i64 0, .slice none 0 0] 51)).heap[b]? = w.heap[b]? := fun b hb => heap_new_lt _ _ hb
   have hZ : (w.alloc (.cells #[.bool false, .int .i64 0, .slice none 0 0] 51)).heap.size = w.heap.size + 1 := by simp
   have hQs := Q.size
   have h1x : f 16 = false := by
    cases h : f 16 with
    | false => rfl
    | true =>
     have := hC'.deps (i := 16) (l := [14]) h (by kernel_rfl) 14 (by simp)
     rw [hfj] at this
     cases this
   simp only [tmA] at hr ⊢
   (refine Walk.oa ?_; try walk_nrm)
   refine hr _ _ ⟨upd u 12 (.pointer (some ⟨w.heap.size, 0, none⟩)), w.heap.size, B, ?_, Facts.set (facts_vals F0 fun j v hf hv => ?_) (by decide) rfl rfl, ⟨?_, ?_, ?_, fun h => ?_, fun h => ?_, fun h h2 => ?_, fun b hb h1 h3 h5 => (hO b (by omega)).trans (Q.old b hb h1 h3 h5), by omega⟩⟩
   ·simp [tmA, upd]
   ·exact match j, hf, hv with
     | 0, _, hv => hv
     | 1, _, hv => hv
     | 2, _, hv => hv
     | 3, _, hv => hv
     | 4, _, hv => hv
     | 5, _, hv => hv
     | 6, _, hv => hv
     | 7, _, hv => hv
     | 8, _, hv => hv
     | 9, _, hv => hv
     | 10, _, hv => hv
     | 11, _, hv => hv
     | 12, _, hv => hv
     | 13, _, hv => hv
     | 14, hf, hv => by rw [hfj] at hf; cases hf
     | 15, _, hv => hv
     | j + 16, _, hv => hv
   ·rw [upd_ne _ _ (by decide)]; exact Q.ik.old (hO kb (by omega))
   ·rw [upd_ne _ _ (by decide)]; exact (hO p (by omega)).trans Q.cn
   ·rw [upd_ne _ _ (by decide)]; exact Q.il.old (hO lb (by omega))
   ·rw [upd_ne _ _ (by decide), h1x]
    exact ⟨hQs, hN⟩
   ·rw [upd_ne _ _ (by decide)] at h
    rw [upd_ne _ _ (by decide)]
    obtain ⟨z1, z2⟩ := Q.b1 h
    exact ⟨z1, (hO _ (Array.getElem?_eq_some_iff.1 z2).1).trans z2⟩
   ·rw [upd_ne _ _ (by decide)] at h2
    have := (Array.getElem?_eq_some_iff.1 (Q.b1 h2).2).1
    omega
  | 15, _ =>
   clear hdeps hC hrun hrunU hend
   have hN := heap_alloc_new w (.cells #[.bool false, .int .i64 0, .slice none 0 0] 51)
   have hO : ∀ b, b < w.heap.size → (w.alloc (.cells #[.bool false, .int .i64 0, .slice none 0 0] 51)).heap[b]? = w.heap[b]? := fun b hb => heap_new_lt _ _ hb
   have hZ : (w.alloc (.cells #[.bool false, .int .i64 0, .slice none 0 0] 51)).heap.size = w.heap.size + 1 := by simp
   have hQs := Q.size
   have h1x : f 17 = false := by
    cases h : f 17 with
    | false => rfl
    | true =>
     have := hC'.deps (i := 17) (l := [15]) h (by kernel_rfl) 15 (by simp)
     rw [hfj] at this
     cases this
   simp only [tmA] at hr ⊢
   (refine Walk.oa ?_; try walk_nrm)
   refine hr _ _ ⟨upd u 13 (.pointer (some ⟨w.heap.size, 0, none⟩)), A, w.heap.size, ?_, Facts.set (facts_vals F0 fun j v hf hv => ?_) (by decide) rfl rfl, ⟨?_, ?_, ?_, fun h => ?_, fun h => ?_, fun h h2 => ?_, fun b hb h1 h3 h5 => (hO b (by omega)).trans (Q.old b hb h1 h3 h5), by omega⟩⟩
   ·simp [tmA, upd]
   ·exact match j, hf, hv with
     | 0, _, hv => hv
     | 1, _, hv => hv
     | 2, _, hv => hv
     | 3, _, hv => hv
     | 4, _, hv => hv
     | 5, _, hv => hv
     | 6, _, hv => hv
     | 7, _, hv => hv
     | 8, _, hv => hv
     | 9, _, hv => hv
     | 10, _, hv => hv
     | 11, _, hv => hv
     | 12, _, hv => hv
     | 13, _, hv => hv
     | 14, _, hv => hv
     | 15, hf, hv => by rw [hfj] at hf; cases hf
     | j + 16, _, hv => hv
   ·rw [upd_ne _ _ (by decide)]; exact Q.ik.old (hO kb (by omega))
   ·rw [upd_ne _ _ (by decide)]; exact (hO p (by omega)).trans Q.cn
   ·rw [upd_ne _ _ (by decide)]; exact Q.il.old (hO lb (by omega))
   ·rw [upd_ne _ _ (by decide)] at h
    rw [upd_ne _ _ (by decide)]
    obtain ⟨z1, z2⟩ := Q.a1 h
    exact ⟨z1, (hO _ (Array.getElem?_eq_some_iff.1 z2).1).trans z2⟩
   ·rw [upd_ne _ _ (by decide), h1x]
    exact ⟨hQs, hN⟩
   ·rw [upd_ne _ _ (by decide)] at h
    have := (Array.getElem?_eq_some_iff.1 (Q.a1 h).2).1
    omega
  | 16, _ =>
   have hd := deps_of (l := [14, 7, 13]) (by kernel_rfl) ho hdeps
   have e11 := F0 14 12 _ (hd 14 (by simp)) rfl rfl
   have e53 := F0 7 61 _ (hd 7 (by simp)) rfl rfl
   have e59 := F0 13 67 _ (hd 13 (by simp)) rfl rfl
   have hz := Q.a1 (hd 14 (by simp))
   rw [hfj] at hz
   simp only [Bool.false_eq_true, if_false] at hz
   obtain ⟨z1, z2⟩ := hz
   have hQs := Q.size
   have hO : ∀ b, b ≠ A → (w.setRow A #[.bool a.1, .int .i64 a.2, .slice none 0 0]).heap[b]? = w.heap[b]? := fun b hb => setRow_other _ _ hb
   have hN := setRow_self (cells := #[.bool a.1, .int .i64 a.2, .slice none 0 0]) z2
   have hZ : (w.setRow A #[.bool a.1, .int .i64 a.2, .slice none 0 0]).heap.size = w.heap.size := setRow_size _ _ _
   clear hdeps hC hC' hrun hrunU hend
   simp only [tmA] at hr ⊢
   simp only [e11, e53, ansVal]
   refine Walk.storeS 51 (.tmp 12) (.tmp 61) (ho_of (by conv => lhs; whnf) (by kernel_rfl)) (by rfl) (by decide) rfl A #[.bool a.1, .int .i64 a.2, .slice none 0 0] _ 51 rfl rfl z2 (by kernel_rfl) (by rfl) (by simp [Value.oneCell']) (ap0 _) ?_
   walk_nrm
   refine hr _ _ ⟨u, A, B, ?_, facts_more F0 rfl, ⟨?_, ?_, ?_, fun h => ?_, fun h => ?_, fun h h2 => ?_, fun b hb h1 h3 h5 => (hO b (by omega)).trans (Q.old b hb h1 h3 h5), by omega⟩⟩
   ·simp [tmA, e11, e53, ansVal]
   ·rw [upd_ne _ _ (by decide)]
    exact Q.ik.old (hO kb (by omega))
   ·rw [upd_ne _ _ (by decide)]; exact (hO p (by omega)).trans Q.cn
   ·rw [upd_ne _ _ (by decide)]
    exact Q.il.old (hO lb (by omega))
   ·rw [upd_same, if_pos rfl]
    exact ⟨z1, hN⟩
   ·rw [upd_ne _ _ (by decide)] at h
    rw [upd_ne _ _ (by decide)]
    obtain ⟨y1, y2⟩ := Q.b1 h
    exact ⟨y1, (hO _ (Ne.symm (Q.ne (hd 14 (by simp)) h))).trans y2⟩
   ·rw [upd_ne _ _ (by decide)] at h h2
    exact Q.ne h h2
  | 17, _ =>
   have hd := deps_of (l := [15, 13, 16]) (by kernel_rfl) ho hdeps
   have e12 := F0 15 13 _ (hd 15 (by simp)) rfl rfl
   have e59 := F0 13 67 _ (hd 13 (by simp)) rfl rfl
   have hz := Q.b1 (hd 15 (by simp))
   rw [hfj] at hz
   simp only [Bool.false_eq_true, if_false] at hz
   obtain ⟨z1, z2⟩ := hz
   have hQs := Q.size
   have hO : ∀ b, b ≠ B → (w.setRow B #[.bool a.1, .int .i64 a.2, .slice none 0 0]).heap[b]? = w.heap[b]? := fun b hb => setRow_other _ _ hb
   have hN := setRow_self (cells := #[.bool a.1, .int .i64 a.2, .slice none 0 0]) z2
   have hZ : (w.setRow B #[.bool a.1, .int .i64 a.2, .slice none 0 0]).heap.size = w.heap.size := setRow_size _ _ _
   clear hdeps hC hC' hrun hrunU hend
   simp only [tmA] at hr ⊢
   simp only [e12, e59, ansVal]
   refine Walk.storeS 51 (.tmp 13) (.tmp 67) (ho_of (by conv => lhs; whnf) (by kernel_rfl)) (by rfl) (by decide) rfl B #[.bool a.1, .int .i64 a.2, .slice none 0 0] _ 51 rfl rfl z2 (by kernel_rfl) (by rfl) (by simp [Value.oneCell']) (ap0 _) ?_
   walk_nrm
   refine hr _ _ ⟨u, A, B, ?_, facts_more F0 rfl, ⟨?_, ?_, ?_, fun h => ?_, fun h => ?_, fun h h2 => ?_, fun b hb h1 h3 h5 => (hO b (by omega)).trans (Q.old b hb h1 h3 h5), by omega⟩⟩
   ·simp [tmA, e12, e59, ansVal]
   ·rw [upd_ne _ _ (by decide)]
    exact Q.ik.old (hO kb (by omega))
   ·rw [upd_ne _ _ (by decide)]; exact (hO p (by omega)).trans Q.cn
   ·rw [upd_ne _ _ (by decide)]
    exact Q.il.old (hO lb (by omega))
   ·rw [upd_ne _ _ (by decide)] at h
    rw [upd_ne _ _ (by decide)]
    obtain ⟨y1, y2⟩ := Q.a1 h
    exact ⟨y1, (hO _ (Q.ne h (hd 15 (by simp)))).trans y2⟩
   ·rw [upd_same, if_pos rfl]
    exact ⟨z1, hN⟩
   ·rw [upd_ne _ _ (by decide)] at h h2
    exact Q.ne h h2
 ·rintro f act w ⟨u, A, B, rfl, F0, Q⟩ hall
  have h : ∀ j, j < 18 → f j = true := fun j hj => hall j (by rw [size4_17]; exact hj)
  refine hend u A B w (F0 14 12 _ (h 14 (by decide)) rfl rfl) (F0 15 13 _ (h 15 (by decide)) rfl rfl) ?_
  have q1 := Q.ik
  have q2 := Q.cn
  have q3 := Q.il
  have q4 := Q.a1 (h 14 (by decide))
  have q5 := Q.b1 (h 15 (by decide))
  rw [h 7 (by decide)] at q1 q2
  rw [h 13 (by decide)] at q3
  rw [h 16 (by decide)] at q4
  rw [h 17 (by decide)] at q5
  exact ⟨q1, q2, q3, fun _ => q4, fun _ => q5, fun _ _ => Q.ne (h 14 (by decide)) (h 15 (by decide)), Q.old, Q.size⟩
end Go.Proofs.Ytdcjgmlgmjjogaa
