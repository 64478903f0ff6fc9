/- Part 18. -/
import Derived.Test.YtcdcnmphjhfbpaaJ10
import Derived.Test.YtcdcnmphjhfbpaaJ13
import Derived.Test.YtcdcnmphjhfbpaaJ14
import Derived.Test.YtcdcnmphjhfbpaaJ17
set_option linter.unusedSimpArgs false
set_option linter.unusedVariables false
set_option linter.unusedVariables false
set_option maxHeartbeats 8000000
set_option maxRecDepth 100000
namespace Go.Proofs.Ytcdcnmphjhfbpaa
open Go.Conc Go.RowKit Go.Relay
open Go.ConcN (upd upd_ne upd_same)
section
def CallP (main : Bool) (V : Nat → Option Wait) (f : FuncId) (args : Array Value) (w : World) (Post : Value → World → Prop) : Prop :=
  ∀ (c : Frame) (cs : List Frame), Plain c → Walk Try.prog main (DR V) (fun g w' => ∃ v, Post v w' ∧ g = G (c.finish v) cs) (G (Frame.enter Try.prog f args .normal) (c :: cs)) w
section
variable {main : Bool} {V : Nat → Option Wait} {Stop : Goroutine → World → Prop} {w : World} {b : Frame} {a : Act} {k : List Item} {cs : List Frame} {ops : Array Oper} {i : Nat} {rest : List Nat} {o : Oper}
theorem CallP.mono {f : FuncId} {args : Array Value} {Post Post' : Value → World → Prop} (h : CallP main V f args w Post) (hP : ∀ v w', Post v w' → Post' v w') : CallP main V f args w Post' :=
  fun c cs hp => (h c cs hp).mono fun g w' ⟨v, hv, e⟩ => ⟨v, hP v w' hv, e⟩
theorem Walk.callP {f : FuncId} {fn : Func} {args : Array Operand} {ats : Array TypeId} {Post : Value → World → Prop} (hc : CallP main V f (args.map a.eval) w Post) (ho : ops[i]? = some o) (hw : Region.wanted o (yielded ops a.tmps) = true) (hk : b.kind ≠ .early) (hop : o.op = .call { callee := .value (.func f), args, argTypes := ats })
    (hf : Try.prog.funcs[f]? = some fn) (hname : (fn.name == "runtime.NumGoroutine") = false) (hb : fn.body.isNone = false) (hp : Plain (b.at a (.inRegion ops (i :: rest) :: k)))
    (h : ∀ v w', Post v w' → Walk Try.prog main (DR V) Stop (G (b.at (a.put o.dst v) (.inRegion ops rest :: k)) cs) w') : Walk Try.prog main (DR V) Stop (G (b.at a (.inRegion ops (i :: rest) :: k)) cs) w := by
  refine Walk.callE ho hw hk hop hf hname hb ((hc _ cs hp).then ?_)
  rintro _ w' ⟨v, hv, rfl⟩
  rw [Frame.finish_at, ho]
  exact h v w' hv
theorem CallP.lone {L : La} {f : FuncId} {args : Array Value} {Rel : Value → Ans → World → (Nat → Prop) → Prop} {R : L.Sg × Ans} (N : Nat) (y0 : L.Gh) (s : L.Sg) (r0 : Ans ⊕ L.D) (hat : ∀ v x w' P d, Rel v x w' P → Rel v x (w'.at d) P) (hA : ∀ b, Apart V b) (hI : L.I y0 s w) (hrun : runN L N (s, r0) = some R)
    (hc : ∀ (K : Lg L .nilIface) (e : K.E), K.w e = w → K.tgt e = (K.s e, r0) → SCall K.toLb f args e (fun v e' => ∃ x, Rel v x (K.w e') (K.mine e') ∧ K.tgt e' = (K.s e', .inl x))) :
    CallP main V f args w (fun v w' => ∃ y, Rel v R.2 w' (fun b => (w.heap.size ≤ b ∧ b < w'.heap.size) ∧ ¬ L.sh y b) ∧ Lone L y0 w R w' y) := by
  intro c cs hp
  have key := hc (nilL (V := V) hA main (fun g w' => ∃ v, (∃ y, Rel v R.2 w' (fun b => (w.heap.size ≤ b ∧ b < w'.heap.size) ∧ ¬ L.sh y b) ∧ Lone L y0 w R w' y) ∧ g = G (c.finish v) cs) cs y0 w R) { w := w, y := y0, s := s, tgt := (s, r0), fuel := N, le := L.refl _, inv := hI, size := Nat.le_refl _, old := fun _ _ _ => rfl, pub := fun _ h _ => h, run := hrun } rfl rfl c [] hp (fun _ h => by cases h) ?_
  · exact key
  · rintro v e' ⟨x, hr, ht⟩
    have hrn := e'.run
    have ht : e'.tgt = (e'.s, .inl x) := ht
    rw [ht, runN_inl] at hrn
    have hR := Option.some.inj hrn
    have r1 : R.1 = e'.s := (congrArg Prod.fst hR).symm
    have r2 : R.2 = x := (congrArg Prod.snd hR).symm
    refine .stop fun d => ⟨v, ⟨e'.y, ?_, ⟨e'.le, ?_, e'.size, fun b h1 h2 => e'.old b h1 h2, e'.pub⟩⟩, rfl⟩
    · rw [r2]
      exact hat _ _ _ _ d hr
    · rw [r1]; exact L.stable e'.inv fun _ _ => rfl
end
end
section
section
variable {main : Bool} {V : Nat → Option Wait} {w : World}
theorem CallP.loneO {L : La} {f : FuncId} {args : Array Value} {Rel : Value → Ans → World → (Nat → Prop) → Prop} {R : L.Sg × Ans} (N : Nat) (y0 : L.Gh) (s : L.Sg) (T : L.Sg × (Ans ⊕ L.D)) (hat : ∀ v x w' P d, Rel v x w' P → Rel v x (w'.at d) P) (hA : ∀ b, Apart V b) (hI : L.I y0 s w) (hrun : runN L N T = some R)
    (hc : ∀ (K : Lg L .nilIface) (e : K.E), (∀ (e' : K.E) (b : Nat), b < w.heap.size → ¬ L.sh y0 b → (K.w e').heap[b]? = w.heap[b]?) → K.w e = w → K.s e = s → K.tgt e = T → SCall K.toLb f args e (fun v e' => ∃ x, Rel v x (K.w e') (K.mine e') ∧ K.tgt e' = (K.s e', .inl x))) :
    CallP main V f args w (fun v w' => ∃ y, Rel v R.2 w' (fun b => (w.heap.size ≤ b ∧ b < w'.heap.size) ∧ ¬ L.sh y b) ∧ Lone L y0 w R w' y) := by
  intro c cs hp
  have key := hc (nilL (V := V) hA main (fun g w' => ∃ v, (∃ y, Rel v R.2 w' (fun b => (w.heap.size ≤ b ∧ b < w'.heap.size) ∧ ¬ L.sh y b) ∧ Lone L y0 w R w' y) ∧ g = G (c.finish v) cs) cs y0 w R) { w := w, y := y0, s := s, tgt := T, fuel := N, le := L.refl _, inv := hI, size := Nat.le_refl _, old := fun _ _ _ => rfl, pub := fun _ h _ => h, run := hrun } (fun e' b h1 h2 => NilE.old e' b h1 h2) rfl rfl rfl c [] hp (fun _ h => by cases h) ?_
  · exact key
  · rintro v e' ⟨x, hr, ht⟩
    have hrn := e'.run
    have ht : e'.tgt = (e'.s, .inl x) := ht
    rw [ht, runN_inl] at hrn
    have hR := Option.some.inj hrn
    have r1 : R.1 = e'.s := (congrArg Prod.fst hR).symm
    have r2 : R.2 = x := (congrArg Prod.snd hR).symm
    refine .stop fun d => ⟨v, ⟨e'.y, ?_, ⟨e'.le, ?_, e'.size, fun b h1 h2 => e'.old b h1 h2, e'.pub⟩⟩, rfl⟩
    · rw [r2]
      exact hat _ _ _ _ d hr
    · rw [r1]; exact L.stable e'.inv fun _ _ => rfl
end
structure CN (rb sb n ob qb m : Nat) (s : So) (w w' : World) : Prop where
  I : SoI rb sb n ob qb m s w'
  size : w.heap.size ≤ w'.heap.size
  old : ∀ b, b < w.heap.size → ¬ soSh rb sb ob qb b → w'.heap[b]? = w.heap[b]?
section
variable {main : Bool} {V : Nat → Option Wait} {rb sb n ob qb m : Nat} {s : So} {w : World}
theorem CN.of {R : So × Ans} {w' : World} {y : (soLa rb sb n ob qb m).Gh} (h : Lone (soLa rb sb n ob qb m) () w R w' y) : CN rb sb n ob qb m R.1 w w' := ⟨h.I, h.size, h.old⟩
theorem owrite_n (hA : ∀ b, Apart V b) (I : SoI rb sb n ob qb m s w) (N : Nat) (a0 : Option Addr) (cp : Nat) (vs : List Int) (xs : Nat → Int) (hxs : ∀ i, i < vs.length → vs[i]? = some (xs i)) (hl : LsR (.slice a0 vs.length cp) vs w) (hB : ∀ b off, a0 = some ⟨b, off, none⟩ → ¬ soSh rb sb ob qb b) (R : So × Ans) (hrun : runN (soLa rb sb n ob qb m) N (soClaim n m s vs.length (some (vs.length, xs))) = some R) :
    CallP main V 41 #[.pointer (some ⟨ob, 0, none⟩), .nilIface, .slice a0 vs.length cp] w (fun v w' => ∃ a er, v = .tuple #[.int .i64 a, .int .i64 er] ∧ R.2 = ⟨er == 0, if er = 0 then a else er, []⟩ ∧ (er ≠ 0 → a = 0) ∧ CN rb sb n ob qb m R.1 w w') :=
  (CallP.loneO (L := soLa rb sb n ob qb m) (Rel := fun v x _ _ => ∃ a er, v = .tuple #[.int .i64 a, .int .i64 er] ∧ x = ⟨er == 0, if er = 0 then a else er, []⟩ ∧ (er ≠ 0 → a = 0)) N () s _ (fun _ _ _ _ _ h => h) hA I hrun (fun K e hold hw hs ht => by
    have hrd : ∀ e' : K.E, LsR (.slice a0 vs.length cp) vs (K.w e') := fun e' => by
      obtain ⟨a, cc, h1, h2, h3, h4⟩ := hl
      refine ⟨a, cc, h1, h2, h3, fun j z hz => ?_⟩
      obtain ⟨b, off, h5, h6⟩ := h4 j z hz
      refine ⟨b, off, h5, ?_⟩
      have hb : a0 = some ⟨b, off, none⟩ := by
        injection h1 with h7 _ _
        rw [h7, h5]
      exact (World.cell?_of_block (a := ⟨b, off + j, none⟩) (hold e' b (cell_lt' h6) (hB b off hb))).trans h6
    exact (write_so K e _ cp vs xs hxs hrd (by rw [hs]; exact ht)).mono fun x e' ⟨a, er, h1, h2, h3⟩ => ⟨_, ⟨a, er, h1, rfl, h3⟩, h2⟩)).mono fun v w' ⟨y, ⟨a, er, h1, h2, h3⟩, h4⟩ => ⟨a, er, h1, h2, h3, CN.of h4⟩
theorem obatch_n (hA : ∀ b, Apart V b) (I : SoI rb sb n ob qb m s w) (N : Nat) (k : Nat) (hk : k < m) (mo : Int) (R : So × Ans) (hrun : runN (soLa rb sb n ob qb m) N (s, .inr (.b0 k (s.pl k) mo)) = some R) :
    CallP main V 42 #[.pointer (some ⟨ob, 0, none⟩), .nilIface, .int .i64 k, .int .i64 mo] w (fun v w' => ∃ a cp er, v = .tuple #[.slice a R.2.l.length cp, .int .i64 er] ∧ R.2.ok = (er == 0) ∧ R.2.n = er ∧ w'.ownsRow 0 2 1 (.slice a R.2.l.length cp) R.2.l.length (R.2.l.map fun z => .int .i64 z) ∧ (∀ b, (Value.slice a R.2.l.length cp).ownBlock = some b → w.heap.size ≤ b ∧ b < w'.heap.size) ∧ CN rb sb n ob qb m R.1 w w') :=
  (CallP.loneO (L := soLa rb sb n ob qb m) (Rel := fun v x w' P => ∃ a cp er, v = .tuple #[.slice a x.l.length cp, .int .i64 er] ∧ x.ok = (er == 0) ∧ x.n = er ∧ w'.ownsRow 0 2 1 (.slice a x.l.length cp) x.l.length (x.l.map fun z => .int .i64 z) ∧ ∀ b, (Value.slice a x.l.length cp).ownBlock = some b → P b) N () s _ (fun _ _ _ _ _ h => h) hA I hrun (fun K e hold hw hs ht =>
    (batch_s K e k hk mo (by rw [hs]; exact ht)).mono fun x e' ⟨sl, er, ls, h1, ⟨⟨a, cp, h2⟩, h3, h4⟩, h5, h6, h7⟩ => ⟨_, ⟨a, cp, er, by rw [h1, h2], rfl, rfl, h2 ▸ h3, h2 ▸ h4⟩, h6⟩)).mono fun v w' ⟨y, ⟨a, cp, er, h1, h2, h3, h4, h5⟩, h6⟩ => ⟨a, cp, er, h1, h2, h3, h4, fun b hb => (h5 b hb).1, CN.of h6⟩
end
end
section
noncomputable def reg38_0 := rg Try.f38.body [0]
noncomputable def reg38_1 := rg Try.f38.body [1, 0, 0]
noncomputable def reg38_2 := rg Try.f38.body [1, 0, 1, 0, 0]
noncomputable def reg38_3 := rg Try.f38.body [1, 1, 0]
noncomputable def reg38_4 := rg Try.f38.body [1, 1, 1, 0, 0]
noncomputable def reg38_5 := rg Try.f38.body [1, 1, 1, 0, 1, 0, 0]
noncomputable def reg38_6 := rg Try.f38.body [1, 1, 1, 1, 0]
noncomputable def reg38_7 := rg Try.f38.body [1, 1, 1, 1, 1, 0]
noncomputable def reg38_8 := rg Try.f38.body [1, 1, 1, 1, 1, 1, 0, 0]
noncomputable def reg38_9 := rg Try.f38.body [1, 1, 1, 1, 1, 1, 0, 1, 0, 0, 0]
noncomputable def reg38_10 := rg Try.f38.body [1, 1, 1, 1, 1, 1, 0, 1, 0, 0, 1, 1, 0, 0, 0]
noncomputable def reg38_11 := rg Try.f38.body [1, 1, 1, 1, 1, 1, 0, 1, 0, 0, 1, 1, 0, 0, 1, 0]
noncomputable def reg38_12 := rg Try.f38.body [1, 1, 1, 1, 1, 1, 0, 1, 0, 0, 1, 1, 0, 0, 1, 1]
noncomputable def reg38_13 := rg Try.f38.body [1, 1, 1, 1, 1, 1, 0, 1, 0, 0, 1, 1, 1]
noncomputable def reg38_14 := rg Try.f38.body [1, 1, 1, 1, 1, 1, 1, 0]
theorem z38 : List.range reg38_0.size = [0, 1] ∧ List.range reg38_1.size = [0, 1, 2, 3, 4, 5] ∧ List.range reg38_2.size = [0, 1] ∧ List.range reg38_3.size = [0, 1, 2, 3, 4, 5, 6] ∧ List.range reg38_4.size = [0, 1] ∧ List.range reg38_5.size = [0, 1, 2] ∧ List.range reg38_6.size = [0, 1, 2, 3, 4, 5, 6] ∧ List.range reg38_7.size = [0, 1, 2, 3] ∧ List.range reg38_8.size = [0, 1, 2, 3, 4, 5] ∧ List.range reg38_9.size = [0] ∧ List.range reg38_10.size = [0, 1] ∧ List.range reg38_11.size = [0, 1, 2, 3, 4, 5, 6, 7] ∧ List.range reg38_12.size = [0, 1, 2, 3, 4, 5, 6, 7] ∧ List.range reg38_13.size = [0, 1] ∧ List.range reg38_14.size = [0, 1, 2] := by refine ⟨?_, ?_, ?_, ?_, ?_, ?_, ?_, ?_, ?_, ?_, ?_, ?_, ?_, ?_, ?_⟩ <;> kernel_rfl
theorem code38_is : Try.f38.body = some (.seq (.region 0 reg38_0 false) (.seq (.seq (.region 1 reg38_1 false) (.cond (.tmp 15 ) (.seq (.region 2 reg38_2 false) (.ret)) (.skip))) (.seq (.region 3 reg38_3 false) (.seq (.seq (.region 4 reg38_4 false) (.cond (.tmp 22 ) (.seq (.region 5 reg38_5 false) (.ret)) (.skip))) (.seq (.region 6 reg38_6 false) (.seq (.region 7 reg38_7 false) (.seq (.seq (.region 8 reg38_8 false) (.block 0 (.loop (.seq (.region 9 reg38_9 false) (.seq (.cond (.tmp 40 ) (.skip) (.exit 0)) (.seq (.block 1 (.seq (.region 10 reg38_10 false) (.seq (.region 11 reg38_11 false) (.region 12 reg38_12 false)))) (.region 13 reg38_13 false))))))) (.seq (.region 14 reg38_14 false) (.ret))))))))) := by kernel_rfl
noncomputable def hdSn (ob m j : Nat) (u : Nat → Value) : Frame :=
  (base 38).at { tmps := #[u 0, u 1, u 2, u 3, .pointer none, .int .i64 0, u 6, u 7, .pointer (some ⟨ob, 0, none⟩), u 9, u 10, u 11, u 12, u 13, u 14, u 15, u 16, u 17, u 18, u 19, u 20, u 21, u 22, u 23, u 24, u 25, u 26, u 27, u 28, u 29, u 30, u 31, u 32, u 33, u 34, u 35, u 36, u 37, .int .i64 m, .int .i64 j, u 40, u 41, u 42, u 43, u 44, u 45, u 46, u 47, u 48, u 49, u 50, u 51, u 52, u 53, u 54, u 55, u 56, u 57, u 58], defers := [] } [.code (.seq (.region 9 reg38_9 false) (.seq (.cond (.tmp 40 ) (.skip) (.exit 0)) (.seq (.block 1 (.seq (.region 10 reg38_10 false) (.seq (.region 11 reg38_11 false) (.region 12 reg38_12 false)))) (.region 13 reg38_13 false)))), .inLoop (.seq (.region 9 reg38_9 false) (.seq (.cond (.tmp 40 ) (.skip) (.exit 0)) (.seq (.block 1 (.seq (.region 10 reg38_10 false) (.seq (.region 11 reg38_11 false) (.region 12 reg38_12 false)))) (.region 13 reg38_13 false)))), .inBlock 0, .code (.seq (.region 14 reg38_14 false) (.ret))]
def soJ (n j : Nat) : So := ⟨rgJ n, -1, fun k => if k < j then -1 else 0, fun k => if k < j then -1 else 0, 0, -1, -1⟩
theorem soJ_put (n j : Nat) : soPl (soNm (soJ n j) j (-1)) j (-1) = soJ n (j + 1) := by
  unfold soPl soNm soJ
  congr 1 <;>
  · funext k
    simp only [upd]
    by_cases e : k = j
    · rw [if_pos e, if_pos (by omega)]
    · rw [if_neg e]
      by_cases h : k < j
      · rw [if_pos h, if_pos (by omega)]
      · rw [if_neg h, if_neg (by omega)]
theorem soJ_bd (n m j : Nat) : SoB m (soJ n j) := by
  have h : ∀ k : Nat, seqP (if k < j then (-1 : Int) else 0) := fun k => by
    by_cases hk : k < j
    · rw [if_pos hk]; constructor <;> omega
    · rw [if_neg hk]; constructor <;> omega
  exact ⟨⟨by simp [soJ], by simp [soJ]⟩, by constructor <;> simp [soJ], by constructor <;> simp [soJ], fun k _ => h k, fun k _ => h k⟩
section
variable {main : Bool} {V : Nat → Option Wait} {n m : Nat}
structure NwS (w0 : World) (rb sb n ob qb m j : Nat) (w : World) : Prop where
  I : SoI rb sb n ob qb m (soJ n j) w
  old : ∀ b, b < w0.heap.size → w.heap[b]? = w0.heap[b]?
  size : w0.heap.size ≤ w.heap.size
theorem SoI.at {rb sb ob qb : Nat} {s : So} {w : World} (h : SoI rb sb n ob qb m s w) (d : Nat) : SoI rb sb n ob qb m s (w.at d) := h.old fun _ _ => rfl
theorem NwS.at {w0 w : World} {rb sb ob qb j : Nat} (h : NwS w0 rb sb n ob qb m j w) (d : Nat) : NwS w0 rb sb n ob qb m j (w.at d) := ⟨h.I.at d, h.old, h.size⟩
theorem son_in (sz : Int) (hz : sz.toNat = n) (hok : okS sz) (hm : m ≤ 64) (hA : ∀ b, Apart V b) (cs : List Frame) (w : World) :
    Walk Try.prog main (DR V) (fun gr w' => (∃ ob qb, (∃ u, gr = G (hdSn ob m 0 u) cs) ∧ NwS w (w.heap.size + 1) w.heap.size n ob qb m 0 w' ∧ w.heap.size ≤ qb ∧ w.heap.size ≤ ob)) (G (Frame.enter Try.prog 38 #[.int .i64 sz, .int .i64 m] .normal) cs) w := by
  have hi1 := Option.some_get (show (Try.prog.info? 169).isSome = true by kernel_rfl)
  have hm0 : (0 : Int) ≤ m := by omega
  have hm6 : (m : Int) ≤ 64 := by omega
  have g1 : decide ((m : Int) < 0) = false := decide_eq_false (by omega)
  have g2 : decide (64 < (m : Int)) = false := decide_eq_false (by omega)
  have hnw := new_w (main := main) (V := V) sz hok w (fun b _ => hA b)
  rw [hz] at hnw
  rw [enter_at _ Try.func38 code38_is]
  simp only [Try.ntmps38, ez, Nat.reduceAdd, Nat.reduceSub]
  repeat (first | refine Walk.cx ?_ | (refine Walk.cReg ?_; simp only [z38]) | (refine Walk.oq ?_; try walk_nrm) | (refine Walk.un ?_; walk_nrm))
  refine Walk.callW (Post := fun v w' => v = .tuple #[.pointer (some ⟨w.heap.size + 1, 0, none⟩), .int .i64 0] ∧ NwR w (w.heap.size + 1) w.heap.size n n w') ?_ (ho_of (by conv => lhs; whnf) (by kernel_rfl)) (by rfl) (by decide) rfl Try.func17 (by kernel_rfl) (by rfl) ?_
  · walk_nrm
    exact hnw
  rintro _ w1 ⟨rfl, E⟩
  clear hnw
  have E1 := E.I
  have E2 := E.old
  have E3 := E.size
  have E4 := E1.size
  generalize hN : w.heap.size = N at *
  walk_nrm
  repeat (first | refine Walk.cx ?_ | (refine Walk.cReg ?_; simp only [z38]) | (refine Walk.oq ?_; try walk_nrm) | (refine Walk.un ?_; walk_nrm))
  clear g1 g2
  refine Walk.make 163 (.tmp 25) (.tmp 25) (ho_of (by conv => lhs; whnf) (by kernel_rfl)) (by rfl) (by decide) rfl 169 _ (.agg #[.int .i64 0, .int .i64 0]) 2 16 (by kernel_rfl) hi1.symm (by rfl) (by rfl) (by rfl) m (by rfl) (by rfl) (by omega) (by omega) ?_
  walk_nrm
  simp only [Value.cells]
  have s2 : (w1.alloc (.cells (madeCells #[.int .i64 0, .int .i64 0] (m * 2)) 169)).heap.size = w1.heap.size + 1 := by simp
  have o2 : ∀ b, b < w1.heap.size → (w1.alloc (.cells (madeCells #[.int .i64 0, .int .i64 0] (m * 2)) 169)).heap[b]? = w1.heap[b]? := fun b hb => heap_new_lt _ _ hb
  have d2 := heap_alloc_new w1 (.cells (madeCells #[.int .i64 0, .int .i64 0] (m * 2)) 169)
  generalize hM : w1.heap.size = M at *
  generalize w1.alloc (.cells (madeCells #[.int .i64 0, .int .i64 0] (m * 2)) 169) = w2 at *
  repeat (first | (refine Walk.oq ?_; try walk_nrm) | (refine Walk.un ?_; walk_nrm))
  (refine Walk.oa ?_; try walk_nrm)
  have s3 : (w2.alloc (.cells #[.pointer (some ⟨N + 1, 0, none⟩), .int .i64 0, .slice (some ⟨M, 0, none⟩) m m, .int .i64 0, .int .i64 (-1), .int .i64 (-1)] 167)).heap.size = w2.heap.size + 1 := by simp
  have o3 : ∀ b, b < w2.heap.size → (w2.alloc (.cells #[.pointer (some ⟨N + 1, 0, none⟩), .int .i64 0, .slice (some ⟨M, 0, none⟩) m m, .int .i64 0, .int .i64 (-1), .int .i64 (-1)] 167)).heap[b]? = w2.heap[b]? := fun b hb => heap_new_lt _ _ hb
  have d3 := heap_alloc_new w2 (.cells #[.pointer (some ⟨N + 1, 0, none⟩), .int .i64 0, .slice (some ⟨M, 0, none⟩) m m, .int .i64 0, .int .i64 (-1), .int .i64 (-1)] 167)
  try simp only [s2]
  rw [s2] at d3
  generalize w2.alloc (.cells #[.pointer (some ⟨N + 1, 0, none⟩), .int .i64 0, .slice (some ⟨M, 0, none⟩) m m, .int .i64 0, .int .i64 (-1), .int .i64 (-1)] 167) = w3 at *
  have l1 := E1.lt.1
  have l2 := E1.lt.2
  have hb : SoB m (soCur (soJ n 0) 0) := ⟨(soJ_bd n m 0).nx, (soJ_bd n m 0).pb, ⟨by simp [soCur], by simp [soCur]⟩, (soJ_bd n m 0).nm, (soJ_bd n m 0).pl⟩
  have I : SoI (N + 1) N n (M + 1) M m (soCur (soJ n 0) 0) w3 := ⟨(E1.old ((o3 _ (by omega)).trans (o2 _ (by omega))) ((o3 _ (by omega)).trans (o2 _ (by omega)))), d3, ⟨_, (o3 M (by omega)).trans d2, by rw [size_madeCells]; omega, fun i hi => ⟨(made2 m (i * 2) (by omega)).trans (by simp [soJ, soCur]), (made2 m (i * 2 + 1) (by omega)).trans (by simp [soJ, soCur])⟩⟩, hb, hm⟩
  obtain ⟨hc0, hz0⟩ := I.rdC
  have hst := store_nil (main := main) (V := V) (M + 1) 1 _ (-1) w3 hc0 hz0 ((hA _).1 _ rfl)
  have I2 := I.setC (x := -1) ⟨by omega, by omega⟩
  have hJ : soCur (soCur (soJ n 0) 0) (-1) = soJ n 0 := rfl
  rw [hJ] at I2
  have o4 : ∀ b, b < N → (w3.setCell ⟨M + 1, 1, none⟩ (.int .i64 (-1))).heap[b]? = w.heap[b]? := fun b hb => (heap_set_other _ _ _ _ (fun e : b = M + 1 => by omega)).trans ((o3 b (by omega)).trans ((o2 b (by omega)).trans (E2 b hb)))
  have s4 : (w3.setCell ⟨M + 1, 1, none⟩ (.int .i64 (-1))).heap.size = M + 2 := by rw [size_set]; omega
  clear I hc0 hz0 hJ d3 d2 E1 hb E E2
  repeat (first | refine Walk.cx ?_ | (refine Walk.cReg ?_; simp only [z38]) | (refine Walk.oq ?_; try walk_nrm) | (refine Walk.un ?_; walk_nrm))
  refine Walk.callV (x := .tuple #[]) (W := w3.setCell ⟨M + 1, 1, none⟩ (.int .i64 (-1))) ?_ (ho_of (by conv => lhs; whnf) (by kernel_rfl)) (by rfl) (by decide) rfl Try.func71 (by kernel_rfl) (by rfl) ?_
  · walk_nrm
    exact hst
  clear hst o2 o3 s3
  generalize w3.setCell ⟨M + 1, 1, none⟩ (.int .i64 (-1)) = w4 at *
  walk_nrm
  have c2 := (cell_of I2.ob 2).trans rfl
  repeat (first | refine Walk.cx ?_ | (refine Walk.cReg ?_; simp only [z38]) | (refine Walk.oq ?_; try walk_nrm) | (refine Walk.un ?_; walk_nrm))
  refine Walk.ctl rfl (fun w => stepG_loop) ?_
  refine .stop fun d => ⟨M + 1, M, at_slots ?_, NwS.at ⟨I2, fun b hb => o4 b (by omega), by omega⟩ d, by omega, by omega⟩
  simp only [hdSn]
  rfl
theorem son_go (w0 : World) (rb sb ob qb j : Nat) (hj : j < m) (u : Nat → Value) (cs : List Frame) (w : World) (hA : ∀ b, Apart V b) (E : NwS w0 rb sb n ob qb m j w) (hqb : w0.heap.size ≤ qb) :
    Walk Try.prog main (DR V) (fun gr w' => (∃ u, gr = G (hdSn ob m (j + 1) u) cs) ∧ NwS w0 rb sb n ob qb m (j + 1) w') (G (hdSn ob m j u) cs) w := by
  have hm := E.I.few
  obtain ⟨hc0, hz0⟩ := E.I.rdN hj
  have hst := store_nil (main := main) (V := V) qb (j * 2) _ (-1) w hc0 hz0 ((hA _).1 _ rfl)
  have I2 := E.I.setN hj (x := -1) ⟨by omega, by omega⟩
  have I3 := I2.setP hj (x := -1) ⟨by omega, by omega⟩
  rw [soJ_put] at I3
  have c2 := (cell_of E.I.ob 2).trans rfl
  have c3 := (cell_of I2.ob 2).trans rfl
  obtain ⟨cp, zp⟩ := I2.rdP hj
  have hap : Free V ⟨qb, j * 2 + 1, none⟩ := (hA qb).1 _ rfl
  have E3 : NwS w0 rb sb n ob qb m (j + 1) ((w.setCell ⟨qb, j * 2, none⟩ (.int .i64 (-1))).setCell ⟨qb, j * 2 + 1, none⟩ (.int .i64 (-1))) := ⟨I3, fun b hb => (heap_set_other _ _ _ _ (fun e : b = qb => by omega)).trans ((heap_set_other _ _ _ _ (fun e : b = qb => by omega)).trans (E.old b hb)), by rw [size_set, size_set]; exact E.size⟩
  have hj0 : (0 : Int) ≤ j := by omega
  have hj1 : decide ((j : Int) < m) = true := by simp; omega
  have hj3 : decide (j < m) = true := by simp; omega
  have hj4 : (j : Int) < m := by omega
  have hw1 : IntKind.wrap .i64 ((j : Int) + 1) = (j : Int) + 1 := by rw [IntKind.wrap_i64]; omega
  have hc : ((j + 1 : Nat) : Int) = (j : Int) + 1 := by simp
  clear E I2 I3 hc0 hz0
  conv => arg 5; unfold hdSn
  repeat (first | refine Walk.cx ?_ | (refine Walk.cReg ?_; simp only [z38]) | (refine Walk.oq ?_; try walk_nrm) | (refine Walk.un ?_; walk_nrm))
  refine Walk.callV (x := .tuple #[]) (W := w.setCell ⟨qb, j * 2, none⟩ (.int .i64 (-1))) ?_ (ho_of (by conv => lhs; whnf) (by kernel_rfl)) (by rfl) (by decide) rfl Try.func71 (by kernel_rfl) (by rfl) ?_
  · walk_nrm
    exact hst
  clear hst c2
  generalize w.setCell ⟨qb, j * 2, none⟩ (.int .i64 (-1)) = w2 at *
  walk_nrm
  repeat (first | refine Walk.cx ?_ | (refine Walk.cReg ?_; simp only [z38]) | (refine Walk.oq ?_; try walk_nrm) | (refine Walk.un ?_; walk_nrm))
  (refine Walk.os hap cp ?_; try walk_nrm)
  clear c3 cp zp
  generalize w2.setCell ⟨qb, j * 2 + 1, none⟩ (.int .i64 (-1)) = w3 at *
  repeat (first | refine Walk.cx ?_ | (refine Walk.cReg ?_; simp only [z38]) | (refine Walk.oq ?_; try walk_nrm) | (refine Walk.un ?_; walk_nrm))
  refine Walk.ctl rfl (fun w => stepG_inLoop) ?_
  refine .stop fun d' => ⟨at_slots ?_, E3.at d'⟩
  simp only [hdSn, hc]
  rfl
theorem son_out (ob : Nat) (u : Nat → Value) (c : Frame) (cs : List Frame) (w : World) :
    Walk Try.prog main (DR V) (fun gr w' => gr = G (c.finish (.tuple #[.pointer (some ⟨ob, 0, none⟩), .int .i64 0])) cs ∧ ∃ d, w' = w.at d) (G (hdSn ob m m u) (c :: cs)) w := by
  have hj1 : decide ((m : Int) < m) = false := by simp
  have hj3 : decide (m < m) = false := by simp
  conv => arg 5; unfold hdSn
  repeat (first | refine Walk.cx ?_ | (refine Walk.cReg ?_; simp only [z38]) | (refine Walk.oq ?_; try walk_nrm) | (refine Walk.un ?_; walk_nrm))
  exact Walk.on2 rfl rfl Try.func38 rfl (.stop fun d => ⟨rfl, d, rfl⟩)
theorem son_loop (w0 : World) (rb sb ob qb : Nat) (cs : List Frame) (hA : ∀ b, Apart V b) (hqb : w0.heap.size ≤ qb) :
    ∀ (r j : Nat) (u : Nat → Value) (w : World), j + r = m → NwS w0 rb sb n ob qb m j w → Walk Try.prog main (DR V) (fun gr w' => (∃ u, gr = G (hdSn ob m m u) cs) ∧ NwS w0 rb sb n ob qb m m w') (G (hdSn ob m j u) cs) w := by
  intro r
  induction r with
  | zero =>
    intro j u w hj E
    have hj : j = m := hj
    subst hj
    exact .stop fun d => ⟨⟨u, rfl⟩, E.at d⟩
  | succ r ih =>
    intro j u w hj E
    refine (son_go w0 rb sb ob qb j (by omega) u cs w hA E hqb).then ?_
    rintro _ w2 ⟨⟨u2, rfl⟩, E2⟩
    exact ih (j + 1) u2 w2 (by omega) E2
theorem son_w (sz rd : Int) (hok : okS sz) (h1 : 0 ≤ rd) (h2 : rd ≤ 64) (w : World) (hA : ∀ b, Apart V b) : CallW Try.prog main V 38 #[.int .i64 sz, .int .i64 rd] w (fun v w' => ∃ ob qb, v = .tuple #[.pointer (some ⟨ob, 0, none⟩), .int .i64 0] ∧ NwS w (w.heap.size + 1) w.heap.size sz.toNat ob qb rd.toNat rd.toNat w' ∧ w.heap.size ≤ ob ∧ w.heap.size ≤ qb) := fun fr cs => by
  have hz : rd = ((rd.toNat : Nat) : Int) := by omega
  have hm : rd.toNat ≤ 64 := by omega
  generalize rd.toNat = m at *
  subst hz
  refine (son_in sz rfl hok hm hA (fr :: cs) w).then ?_
  rintro _ w1 ⟨ob, qb, ⟨u, rfl⟩, E1, hqb, hob⟩
  refine (son_loop w (w.heap.size + 1) w.heap.size ob qb (fr :: cs) hA hqb m 0 u w1 (Nat.zero_add _) E1).then ?_
  rintro _ w2 ⟨⟨u2, rfl⟩, E2⟩
  refine (son_out ob u2 fr cs w2).mono ?_
  rintro _ _ ⟨rfl, d, rfl⟩
  exact ⟨_, ⟨ob, qb, rfl, E2.at d, hob, hqb⟩, rfl⟩
end
end
end Go.Proofs.Ytcdcnmphjhfbpaa
