/- Part 8. -/
import Derived.Test.YtnnakajldnaldaaK6
import Derived.Test.YtnnakajldnaldaaK7
set_option linter.unusedSimpArgs false
set_option linter.unusedVariables false
set_option maxHeartbeats 8000000
set_option maxRecDepth 100000
namespace Go.Proofs.Ytnnakajldnaldaa
open Go.Conc Go.RowKit Go.Relay
open Go.ConcN (upd upd_ne upd_same)
section
theorem spEnter_any (m : Nat) (s s' : Sp) (o : OpV) : spEnter m s o = (s, (spEnter m s' o).2) := by
  unfold spEnter
  split
  · rfl
  split
  · rfl
  split
  · rfl
  split
  · rfl
  split <;> rfl
theorem call_v {cb rb m : Nat} {ra : Option Addr} {rc : Nat} {sv : Value} (K : Lg (spLa cb rb m ra rc) sv) (S : Sp) (o : OpV) (e : K.E) (he : K.tgt e = (K.s e, (spEnter m S o).2)) : SCall K.toLb 18 #[.pointer (some ⟨cb, 0, none⟩), sv, opVal o] e (fun v e' => ∃ x, v = ansVal x ∧ K.tgt e' = (K.s e', .inl x)) :=
  (call_s K e o.k o.a o.b o.c (he.trans (spEnter_any m (K.s e) S o).symm)).mono fun v e' ⟨x, h1, h2⟩ => ⟨x, h2, h1⟩
theorem facts_more {dsts : List Nat} {vals : List Value} {f : Nat → Bool} {u : Nat → Value} (F : Facts dsts vals f u) {i : Nat} (hd : dsts[i]? = none) : Facts dsts vals (upd f i true) u := by
  intro j d v hf hj hv
  by_cases e : j = i
  · rw [e, hd] at hj; cases hj
  · rw [upd_ne _ _ e] at hf
    exact F j d v hf hj hv
theorem facts_vals {dsts : List Nat} {vals vals' : List Value} {f : Nat → Bool} {u : Nat → Value} (F : Facts dsts vals f u) (h : ∀ j v, f j = true → vals'[j]? = some v → vals[j]? = some v) : Facts dsts vals' f u := fun j d v hf hd hv => F j d v hf hd (h j v hf hv)
noncomputable def reg4_0 : Array Oper := match Try.f4.body with | some (.seq (.region _ ops _) _) => ops | _ => #[]
theorem size4_0 : reg4_0.size = 1 := by kernel_rfl
noncomputable def reg4_1 : Array Oper := match Try.f4.body with | some (.seq _ (.seq (.seq (.region _ ops _) _) _)) => ops | _ => #[]
theorem size4_1 : reg4_1.size = 2 := by kernel_rfl
noncomputable def reg4_2 : Array Oper := match Try.f4.body with | some (.seq _ (.seq (.seq _ (.cond _ (.seq (.region _ ops _) _) _)) _)) => ops | _ => #[]
theorem size4_2 : reg4_2.size = 1 := by kernel_rfl
noncomputable def reg4_3 : Array Oper := match Try.f4.body with | some (.seq _ (.seq _ (.seq (.region _ ops _) _))) => ops | _ => #[]
theorem size4_3 : reg4_3.size = 4 := by kernel_rfl
noncomputable def reg4_4 : Array Oper := match Try.f4.body with | some (.seq _ (.seq _ (.seq _ (.seq (.region _ ops _) _)))) => ops | _ => #[]
theorem size4_4 : reg4_4.size = 7 := by kernel_rfl
noncomputable def reg4_5 : Array Oper := match Try.f4.body with | some (.seq _ (.seq _ (.seq _ (.seq _ (.seq (.region _ ops _) _))))) => ops | _ => #[]
theorem size4_5 : reg4_5.size = 9 := by kernel_rfl
noncomputable def reg4_6 : Array Oper := match Try.f4.body with | some (.seq _ (.seq _ (.seq _ (.seq _ (.seq _ (.seq (.seq (.region _ ops _) _) _)))))) => ops | _ => #[]
theorem size4_6 : reg4_6.size = 16 := by kernel_rfl
noncomputable def reg4_7 : Array Oper := match Try.f4.body with | some (.seq _ (.seq _ (.seq _ (.seq _ (.seq _ (.seq (.seq _ (.cond _ (.seq (.region _ ops _) _) _)) _)))))) => ops | _ => #[]
theorem size4_7 : reg4_7.size = 3 := by kernel_rfl
noncomputable def reg4_8 : Array Oper := match Try.f4.body with | some (.seq _ (.seq _ (.seq _ (.seq _ (.seq _ (.seq _ (.seq (.seq (.region _ ops _) _) _))))))) => ops | _ => #[]
theorem size4_8 : reg4_8.size = 1 := by kernel_rfl
noncomputable def reg4_9 : Array Oper := match Try.f4.body with | some (.seq _ (.seq _ (.seq _ (.seq _ (.seq _ (.seq _ (.seq (.seq _ (.block _ (.loop (.seq (.seq (.region _ ops _) _) _)))) _))))))) => ops | _ => #[]
theorem size4_9 : reg4_9.size = 7 := by kernel_rfl
noncomputable def reg4_11 : Array Oper := match Try.f4.body with | some (.seq _ (.seq _ (.seq _ (.seq _ (.seq _ (.seq _ (.seq (.seq _ (.block _ (.loop (.seq _ (.seq (.block _ (.seq (.region _ ops _) _)) _))))) _))))))) => ops | _ => #[]
theorem size4_11 : reg4_11.size = 18 := by kernel_rfl
noncomputable def reg4_12 : Array Oper := match Try.f4.body with | some (.seq _ (.seq _ (.seq _ (.seq _ (.seq _ (.seq _ (.seq (.seq _ (.block _ (.loop (.seq _ (.seq (.block _ (.seq _ (.seq (.region _ ops _) _))) _))))) _))))))) => ops | _ => #[]
theorem size4_12 : reg4_12.size = 20 := by kernel_rfl
noncomputable def reg4_13 : Array Oper := match Try.f4.body with | some (.seq _ (.seq _ (.seq _ (.seq _ (.seq _ (.seq _ (.seq (.seq _ (.block _ (.loop (.seq _ (.seq (.block _ (.seq _ (.seq _ (.cond _ (.seq (.region _ ops _) _) _)))) _))))) _))))))) => ops | _ => #[]
theorem size4_13 : reg4_13.size = 1 := by kernel_rfl
noncomputable def reg4_10 : Array Oper := match Try.f4.body with | some (.seq _ (.seq _ (.seq _ (.seq _ (.seq _ (.seq _ (.seq (.seq _ (.block _ (.loop (.seq _ (.seq _ (.region _ ops _)))))) _))))))) => ops | _ => #[]
theorem size4_10 : reg4_10.size = 3 := by kernel_rfl
noncomputable def reg4_14 : Array Oper := match Try.f4.body with | some (.seq _ (.seq _ (.seq _ (.seq _ (.seq _ (.seq _ (.seq _ (.seq (.region _ ops _) _)))))))) => ops | _ => #[]
theorem size4_14 : reg4_14.size = 1 := by kernel_rfl
noncomputable def reg4_15 : Array Oper := match Try.f4.body with | some (.seq _ (.seq _ (.seq _ (.seq _ (.seq _ (.seq _ (.seq _ (.seq _ (.seq (.seq (.region _ ops _) _) _))))))))) => ops | _ => #[]
theorem size4_15 : reg4_15.size = 1 := by kernel_rfl
noncomputable def reg4_16 : Array Oper := match Try.f4.body with | some (.seq _ (.seq _ (.seq _ (.seq _ (.seq _ (.seq _ (.seq _ (.seq _ (.seq (.seq _ (.block _ (.loop (.seq (.seq (.region _ ops _) _) _)))) _))))))))) => ops | _ => #[]
theorem size4_16 : reg4_16.size = 5 := by kernel_rfl
noncomputable def reg4_18 : Array Oper := match Try.f4.body with | some (.seq _ (.seq _ (.seq _ (.seq _ (.seq _ (.seq _ (.seq _ (.seq _ (.seq (.seq _ (.block _ (.loop (.seq _ (.seq (.block _ (.region _ ops _)) _))))) _))))))))) => ops | _ => #[]
theorem size4_18 : reg4_18.size = 8 := by kernel_rfl
noncomputable def reg4_17 : Array Oper := match Try.f4.body with | some (.seq _ (.seq _ (.seq _ (.seq _ (.seq _ (.seq _ (.seq _ (.seq _ (.seq (.seq _ (.block _ (.loop (.seq _ (.seq _ (.region _ ops _)))))) _))))))))) => ops | _ => #[]
theorem size4_17 : reg4_17.size = 3 := by kernel_rfl
noncomputable def reg4_19 : Array Oper := match Try.f4.body with | some (.seq _ (.seq _ (.seq _ (.seq _ (.seq _ (.seq _ (.seq _ (.seq _ (.seq _ (.seq (.region _ ops _) _)))))))))) => ops | _ => #[]
theorem size4_19 : reg4_19.size = 29 := by kernel_rfl
theorem code4_is : Try.f4.body = some (.seq (.region 0 reg4_0 false) (.seq (.seq (.region 1 reg4_1 false) (.cond (.tmp 16 ) (.seq (.region 2 reg4_2 false) (.ret)) (.skip))) (.seq (.region 3 reg4_3 false) (.seq (.region 4 reg4_4 false) (.seq (.region 5 reg4_5 false) (.seq (.seq (.region 6 reg4_6 false) (.cond (.tmp 46 ) (.seq (.region 7 reg4_7 false) (.ret)) (.skip))) (.seq (.seq (.region 8 reg4_8 false) (.block 0 (.loop (.seq (.seq (.region 9 reg4_9 false) (.cond (.tmp 55 ) (.skip) (.exit 0))) (.seq (.block 1 (.seq (.region 11 reg4_11 true) (.seq (.region 12 reg4_12 true) (.cond (.tmp 91 ) (.seq (.region 13 reg4_13 false) (.ret)) (.skip))))) (.region 10 reg4_10 false)))))) (.seq (.region 14 reg4_14 false) (.seq (.seq (.region 15 reg4_15 false) (.block 2 (.loop (.seq (.seq (.region 16 reg4_16 false) (.cond (.tmp 96 ) (.skip) (.exit 2))) (.seq (.block 3 (.region 18 reg4_18 false)) (.region 17 reg4_17 false)))))) (.seq (.region 19 reg4_19 true) (.ret))))))))))) := by kernel_rfl
noncomputable def tmI (sz : Int) (tb toff n0 tc m Q kb lb p i : Nat) (u : Nat → Value) : Array Value := #[.int .i64 sz, .slice (some ⟨tb, toff, none⟩) n0 tc, u 2, u 3, .bool false, .int .i64 m, .pointer (some ⟨Q, 0, none⟩), .pointer (some ⟨kb, 0, none⟩), .pointer (some ⟨lb, 0, none⟩), .pointer (some ⟨p, 0, none⟩), .int .i64 i, u 11, u 12, u 13, u 14, u 15, u 16, u 17, u 18, u 19, u 20, u 21, u 22, u 23, u 24, u 25, u 26, u 27, u 28, u 29, u 30, u 31, u 32, u 33, u 34, u 35, u 36, u 37, u 38, u 39, u 40, u 41, u 42, u 43, u 44, u 45, u 46, u 47, u 48, u 49, u 50, u 51, u 52, u 53, u 54, u 55, u 56, u 57, u 58, u 59, u 60, u 61, u 62, u 63, u 64, u 65, u 66, u 67, u 68, u 69, u 70, u 71, u 72, u 73, u 74, u 75, u 76, u 77, u 78, u 79, u 80, u 81, u 82, u 83, u 84, u 85, u 86, u 87, u 88, u 89, u 90, u 91, u 92, u 93, u 94, u 95, u 96, u 97, u 98, u 99, u 100, u 101, u 102, u 103, u 104, u 105, u 106, u 107, u 108, u 109, u 110, u 111, u 112, u 113, u 114, u 115, u 116, u 117, u 118, u 119, u 120, u 121, u 122, u 123, u 124, u 125, u 126, u 127, u 128, u 129, u 130, u 131, u 132, u 133]
def dsI : List Nat := [58, 59, 60, 61, 62, 63, 64, 65, 66, 67, 68, 69, 70, 71, 11, 12]
def vsI (tb toff n0 tc kb lb p i : Nat) (o : OpV) (a : Ans) (A B : Nat) : List Value := [.pointer (some ⟨kb, 0, none⟩), .slice (some ⟨tb, toff, none⟩) n0 tc, .int .i64 i, .pointer (some ⟨tb, toff + i * 4, none⟩), opVal o, ansVal a, .pointer (some ⟨lb, 0, none⟩), .pointer (some ⟨p, 0, none⟩), .iface 37 (.pointer (some ⟨p, 0, none⟩)), .slice (some ⟨tb, toff, none⟩) n0 tc, .int .i64 i, .pointer (some ⟨tb, toff + i * 4, none⟩), opVal o, ansVal a, .pointer (some ⟨A, 0, none⟩), .pointer (some ⟨B, 0, none⟩)]
structure Two (kb kr lb lr p m : Nat) : Prop where
  kl : kb ≠ lb
  kp : kb ≠ p
  lp : lb ≠ p
  r1 : 1 < m → kr ≠ lb ∧ kr ≠ lr ∧ kb ≠ lr ∧ kr ≠ p ∧ lr ≠ p
def Off (kb kr lb lr p m b : Nat) : Prop := ¬ (b = kb ∨ (1 < m ∧ b = kr)) ∧ ¬ (b = lb ∨ (1 < m ∧ b = lr)) ∧ b ≠ p
structure AloI (kb kr : Nat) (kra : Option Addr) (krc : Nat) (lb lr : Nat) (lra : Option Addr) (lrc m p : Nat) (S S' : Sp) (c c' : Nat) (a : Ans) (W : World) (f : Nat → Bool) (A B : Nat) (w : World) : Prop where
  ik : SpI kb kr m kra krc (if f 5 then S' else S) w
  il : SpI lb lr m lra lrc (if f 13 then S' else S) w
  cn : w.heap[p]? = some (.cells #[.int .i64 ((if f 13 then c' else c : Nat) : Int)] 39)
  a1 : f 14 = true → W.heap.size ≤ A ∧ w.heap[A]? = some (if f 16 then (.cells #[.bool a.1, .int .i64 a.2, .slice none 0 0] 43) else (.cells #[.bool false, .int .i64 0, .slice none 0 0] 43))
  b1 : f 15 = true → W.heap.size ≤ B ∧ w.heap[B]? = some (if f 17 then (.cells #[.bool a.1, .int .i64 a.2, .slice none 0 0] 43) else (.cells #[.bool false, .int .i64 0, .slice none 0 0] 43))
  ne : f 14 = true → f 15 = true → A ≠ B
  old : ∀ b, b < W.heap.size → Off kb kr lb lr p m b → w.heap[b]? = W.heap[b]?
  size : W.heap.size ≤ w.heap.size
section
variable {kb kr : Nat} {kra : Option Addr} {krc lb lr : Nat} {lra : Option Addr} {lrc m p : Nat} {S S' : Sp} {c c' : Nat} {a : Ans} {W : World} {f : Nat → Bool} {A B : Nat} {w : World}
theorem AloI.at (h : AloI kb kr kra krc lb lr lra lrc m p S S' c c' a W f A B w) (d : Nat) : AloI kb kr kra krc lb lr lra lrc m p S S' c c' a W f A B (w.at d) := ⟨h.ik.old fun _ _ => rfl, h.il.old fun _ _ => rfl, h.cn, h.a1, h.b1, h.ne, h.old, h.size⟩
theorem AloI.quiet (h : AloI kb kr kra krc lb lr lra lrc m p S S' c c' a W f A B w) {i : Nat} (h5 : i ≠ 5) (h13 : i ≠ 13) (h14 : i ≠ 14) (h15 : i ≠ 15) (h16 : i ≠ 16) (h17 : i ≠ 17) : AloI kb kr kra krc lb lr lra lrc m p S S' c c' a W (upd f i true) A B w := by
  refine ⟨?_, ?_, ?_, ?_, ?_, ?_, h.old, h.size⟩
  · rw [upd_ne _ _ (Ne.symm h5)]; exact h.ik
  · rw [upd_ne _ _ (Ne.symm h13)]; exact h.il
  · rw [upd_ne _ _ (Ne.symm h13)]; exact h.cn
  · rw [upd_ne _ _ (Ne.symm h14), upd_ne _ _ (Ne.symm h16)]; exact h.a1
  · rw [upd_ne _ _ (Ne.symm h15), upd_ne _ _ (Ne.symm h17)]; exact h.b1
  · rw [upd_ne _ _ (Ne.symm h14), upd_ne _ _ (Ne.symm h15)]; exact h.ne
theorem calls_do {main : Bool} (sz : Int) (tb toff n0 tc Q i : Nat) (o : OpV) (hi : i < n0) (hn0 : n0 ≤ 17592186044416) (W : World) (hm0 : 0 < m)
    (hk : SpI kb kr m kra krc S W) (hl : SpI lb lr m lra lrc S W) (hc : W.heap[p]? = some (.cells #[.int .i64 (c : Nat)] 39)) (hfew : c ≤ 9223372036854) (T : Two kb kr lb lr p m) (ht : Off kb kr lb lr p m tb)
    (o0 : W.cell? ⟨tb, toff + i * 4, none⟩ = some (.int .i64 o.k)) (o1 : W.cell? ⟨tb, toff + i * 4 + 1, none⟩ = some (.int .i64 o.a)) (o2 : W.cell? ⟨tb, toff + i * 4 + 2, none⟩ = some (.int .i64 o.b)) (o3 : W.cell? ⟨tb, toff + i * 4 + 3, none⟩ = some (.int .i64 o.c))
    (k : List Item) (cs : List Frame) (u0 : Nat → Value) {Stop : Goroutine → World → Prop}
    (hend : ∀ (u : Nat → Value) (A B : Nat) (w : World), u 11 = .pointer (some ⟨A, 0, none⟩) → u 12 = .pointer (some ⟨B, 0, none⟩) → AloI kb kr kra krc lb lr lra lrc m p S (oneS m S o).1 c (c + (oneS m S o).2.2) (oneS m S o).2.1 W (fun _ => true) A B w → Walk Try.prog main (DR (fun _ => none)) Stop (G ((base 4).at ⟨tmI sz tb toff n0 tc m Q kb lb p i u, []⟩ (.inRegion reg4_11 [] :: k)) cs) w) :
    Walk Try.prog main (DR (fun _ => none)) Stop (G ((base 4).at ⟨tmI sz tb toff n0 tc m Q kb lb p i u0, []⟩ (.code (.region 11 reg4_11 true) :: k)) cs) W := by
  have hif1 := run_ifaceSteps
  have hif2 := ev_ifaceSteps
  obtain ⟨fsO, huO⟩ := structT 46 (by kernel_rfl)
  have hm64 := hk.pos.2
  have hrun := oneS_is (cb := lb) (rb := lr) (rc := lrc) (ra := lra) hm0 S o c
  have hrunU : runN (spLa kb kr m kra krc) (m + m + 2) ((spLa kb kr m kra krc).enter S o) = some ((oneS m S o).1, (oneS m S o).2.1) := lonC_runN (oneS_is (cb := kb) (rb := kr) (rc := krc) (ra := kra) hm0 S o 0)
  have hrun' : lonC (spLa lb lr m lra lrc) (m + m + 2) c (S, (spEnter m S o).2) = some (c + (oneS m S o).2.2, (oneS m S o).1, (oneS m S o).2.1) := (congrArg (lonC (spLa lb lr m lra lrc) (m + m + 2) c) (spEnter_any m S S o).symm).trans hrun
  have hrunU' : runN (spLa kb kr m kra krc) (m + m + 2) (S, (spEnter m S o).2) = some ((oneS m S o).1, (oneS m S o).2.1) := (congrArg (runN (spLa kb kr m kra krc) (m + m + 2)) (spEnter_any m S S o).symm).trans hrunU
  clear hrun hrunU
  generalize hX : oneS m S o = X at *
  obtain ⟨S', a, st⟩ := X
  dsimp only at hend hrun' hrunU'
  clear hX
  obtain ⟨t1, t2, t3, t4⟩ := T
  have l1 : kb < W.heap.size := hk.lt
  have l2 : 1 < m → kr < W.heap.size := fun h => hk.ltr h
  have l3 : lb < W.heap.size := hl.lt
  have l4 : 1 < m → lr < W.heap.size := fun h => hl.ltr h
  have l5 : p < W.heap.size := (Array.getElem?_eq_some_iff.1 hc).1
  refine Walk.drawnJ (Inv := fun f ac' w => ∃ u A B, ac' = ⟨tmI sz tb toff n0 tc m Q kb lb p i u, []⟩ ∧ Facts dsI (vsI tb toff n0 tc kb lb p i o a A B) f u ∧ AloI kb kr kra krc lb lr lra lrc m p S S' c (c + st) a W f A B w) (by kernel_rfl) (by kernel_rfl) (fun d => ⟨u0, 0, 0, rfl, Facts.none _ _ _, AloI.at ⟨hk, hl, hc, fun h => (by cases h), fun h => (by cases h), fun h => (by cases h), fun _ _ _ => rfl, Nat.le_refl _⟩ d⟩) ?_ ?_
  · rintro f j op act w ⟨u, A, B, rfl, F0, Q⟩ hC hfj ho hdeps rest hr
    have hj : j < 18 := by have := (Array.getElem?_eq_some_iff.1 ho).1; rw [size4_11] at this; exact this
    have hcell : ∀ {y : Nat} {v : Value}, W.cell? ⟨tb, y, none⟩ = some v → w.cell? ⟨tb, y, none⟩ = some v := fun {y v} h => (World.cell?_of_block (a := ⟨tb, y, none⟩) (Q.old tb (cell_lt' h) ht)).trans h
    have hC' := hC
    have hQs := Q.size
    match j, hj with
    | 0, _ =>
      clear hdeps hC hC' hrun' hrunU' hend
      simp only [tmI] at hr ⊢
      (refine Walk.oq ?_; try walk_nrm)
      refine hr _ _ ⟨upd u 58 (.pointer (some ⟨kb, 0, none⟩)), A, B, ?_, F0.set (by decide) rfl rfl, Q.quiet (by decide) (by decide) (by decide) (by decide) (by decide) (by decide)⟩
      simp [tmI, upd]
    | 1, _ =>
      clear hdeps hC hC' hrun' hrunU' hend
      simp only [tmI] at hr ⊢
      (refine Walk.oq ?_; try walk_nrm)
      refine hr _ _ ⟨upd u 59 (.slice (some ⟨tb, toff, none⟩) n0 tc), A, B, ?_, F0.set (by decide) rfl rfl, Q.quiet (by decide) (by decide) (by decide) (by decide) (by decide) (by decide)⟩
      simp [tmI, upd]
    | 2, _ =>
      clear hdeps hC hC' hrun' hrunU' hend
      simp only [tmI] at hr ⊢
      (refine Walk.oq ?_; try walk_nrm)
      refine hr _ _ ⟨upd u 60 (.int .i64 i), A, B, ?_, F0.set (by decide) rfl rfl, Q.quiet (by decide) (by decide) (by decide) (by decide) (by decide) (by decide)⟩
      simp [tmI, upd]
    | 3, _ =>
      have hd := deps_of (l := [1, 2]) (by kernel_rfl) ho hdeps
      have e59 := F0 1 59 _ (hd 1 (by simp)) rfl rfl
      have e60 := F0 2 60 _ (hd 2 (by simp)) rfl rfl
      have hi0 : (0 : Int) ≤ i := by omega
      have hi3 : decide (i < n0) = true := by simp; omega
      have hi1 : decide ((i : Int) < n0) = true := by simp; omega
      have hi4 : (i : Int) < n0 := by omega
      clear hdeps hC hC' hrun' hrunU' hend
      simp only [tmI] at hr ⊢
      simp only [e59, e60]
      (refine Walk.oq ?_; try walk_nrm)
      refine hr _ _ ⟨upd u 61 (.pointer (some ⟨tb, toff + i * 4, none⟩)), A, B, ?_, F0.set (by decide) rfl rfl, Q.quiet (by decide) (by decide) (by decide) (by decide) (by decide) (by decide)⟩
      simp [tmI, upd, e59, e60]
    | 4, _ =>
      have hd := deps_of (l := [3]) (by kernel_rfl) ho hdeps
      have e61 := F0 3 61 _ (hd 3 (by simp)) rfl rfl
      have hcs : ∀ (y : Nat) (v : Value), ([.int .i64 o.k, .int .i64 o.a, .int .i64 o.b, .int .i64 o.c] : List Value)[y]? = some v → w.cell? ⟨tb, toff + i * 4 + y, none⟩ = some v := fun y v hv => by
        match y, hv with
        | 0, hv => cases hv; exact hcell o0
        | 1, hv => cases hv; exact hcell o1
        | 2, hv => cases hv; exact hcell o2
        | 3, hv => cases hv; exact hcell o3
      clear hdeps hC hC' hrun' hrunU' hend
      simp only [tmI] at hr ⊢
      simp only [e61]
      refine Walk.loadS 46 (.tmp 61) (ho_of (by conv => lhs; whnf) (by kernel_rfl)) (by rfl) (by decide) rfl tb (toff + i * 4) [.int .i64 o.k, .int .i64 o.a, .int .i64 o.b, .int .i64 o.c] (.struct fsO) rfl hcs huO rfl (by kernel_rfl) ?_
      walk_nrm
      refine hr _ _ ⟨upd u 62 (opVal o), A, B, ?_, F0.set (by decide) rfl rfl, Q.quiet (by decide) (by decide) (by decide) (by decide) (by decide) (by decide)⟩
      simp [tmI, upd, opVal, e61]
    | 5, _ =>
      have hd := deps_of (l := [0, 4]) (by kernel_rfl) ho hdeps
      have e58 := F0 0 58 _ (hd 0 (by simp)) rfl rfl
      have e62 := F0 4 62 _ (hd 4 (by simp)) rfl rfl
      have ik := Q.ik
      rw [hfj] at ik
      simp only [Bool.false_eq_true, if_false] at ik
      clear hdeps hC hend
      simp only [tmI] at hr ⊢
      simp only [e58, e62, opVal]
      refine Walk.callLone (L := spLa kb kr m kra krc) (R := (S', a)) (Rel := fun v x => v = ansVal x) (m + m + 2) S (spEnter m S o).2 ap0 ik hrunU' ?_ (ho_of (by conv => lhs; whnf) (by kernel_rfl)) (by rfl) (by decide) rfl Try.func18 (by kernel_rfl) (by rfl) ⟨rfl, rfl, _, Try.func4⟩ ?_
      · intro K e he
        walk_nrm
        exact call_v K S o e he
      rintro v w1 rfl hCn
      have hCo := hCn.old
      have hCs := hCn.size
      have hsh : ∀ b, (spLa kb kr m kra krc).sh b ↔ (b = kb ∨ (1 < m ∧ b = kr)) := fun b => Iff.rfl
      simp only [hsh] at hCo
      walk_nrm
      refine hr _ _ ⟨upd u 63 (ansVal a), A, B, ?_, F0.set (by decide) rfl rfl, ⟨?_, ?_, ?_, fun h => ?_, fun h => ?_, fun h h2 => ?_, fun b hb hOf => ?_, by omega⟩⟩
      · simp [tmI, upd, ansVal, opVal, e58, e62]
      · rw [upd_same, if_pos rfl]; exact hCn.I
      · rw [upd_ne _ _ (by decide)]
        exact Q.il.old fun b hb => hCo b (by rcases hb with rfl | ⟨hm1, rfl⟩; omega; have := l4 hm1; omega) (by
          rcases hb with rfl | ⟨hm1, rfl⟩
          · rintro (h | ⟨hm1, h⟩)
            · omega
            · have := t4 hm1; omega
          · have := t4 hm1
            rintro (h | ⟨_, h⟩) <;> omega)
      · rw [upd_ne _ _ (by decide)]
        refine (hCo p (by omega) ?_).trans Q.cn
        rintro (h | ⟨hm1, h⟩)
        · omega
        · have := t4 hm1; omega
      · rw [upd_ne _ _ (by decide)] at h
        rw [upd_ne _ _ (by decide)]
        obtain ⟨z1, z2⟩ := Q.a1 h
        refine ⟨z1, (hCo A (Array.getElem?_eq_some_iff.1 z2).1 ?_).trans z2⟩
        rintro (h | ⟨hm1, h⟩)
        · omega
        · have := l2 hm1; omega
      · rw [upd_ne _ _ (by decide)] at h
        rw [upd_ne _ _ (by decide)]
        obtain ⟨z1, z2⟩ := Q.b1 h
        refine ⟨z1, (hCo B (Array.getElem?_eq_some_iff.1 z2).1 ?_).trans z2⟩
        rintro (h | ⟨hm1, h⟩)
        · omega
        · have := l2 hm1; omega
      · rw [upd_ne _ _ (by decide)] at h h2
        exact Q.ne h h2
      · exact (hCo b (by omega) hOf.1).trans (Q.old b hb hOf)
    | 6, _ =>
      clear hdeps hC hC' hrun' hrunU' hend
      simp only [tmI] at hr ⊢
      (refine Walk.oq ?_; try walk_nrm)
      refine hr _ _ ⟨upd u 64 (.pointer (some ⟨lb, 0, none⟩)), A, B, ?_, F0.set (by decide) rfl rfl, Q.quiet (by decide) (by decide) (by decide) (by decide) (by decide) (by decide)⟩
      simp [tmI, upd]
    | 7, _ =>
      clear hdeps hC hC' hrun' hrunU' hend
      simp only [tmI] at hr ⊢
      (refine Walk.oq ?_; try walk_nrm)
      refine hr _ _ ⟨upd u 65 (.pointer (some ⟨p, 0, none⟩)), A, B, ?_, F0.set (by decide) rfl rfl, Q.quiet (by decide) (by decide) (by decide) (by decide) (by decide) (by decide)⟩
      simp [tmI, upd]
    | 8, _ =>
      have hd := deps_of (l := [7]) (by kernel_rfl) ho hdeps
      have e65 := F0 7 65 _ (hd 7 (by simp)) rfl rfl
      clear hdeps hC hC' hrun' hrunU' hend
      simp only [tmI] at hr ⊢
      simp only [e65]
      (refine Walk.oq ?_; try walk_nrm)
      refine hr _ _ ⟨upd u 66 (.iface 37 (.pointer (some ⟨p, 0, none⟩))), A, B, ?_, F0.set (by decide) rfl rfl, Q.quiet (by decide) (by decide) (by decide) (by decide) (by decide) (by decide)⟩
      simp [tmI, upd, e65]
    | 9, _ =>
      clear hdeps hC hC' hrun' hrunU' hend
      simp only [tmI] at hr ⊢
      (refine Walk.oq ?_; try walk_nrm)
      refine hr _ _ ⟨upd u 67 (.slice (some ⟨tb, toff, none⟩) n0 tc), A, B, ?_, F0.set (by decide) rfl rfl, Q.quiet (by decide) (by decide) (by decide) (by decide) (by decide) (by decide)⟩
      simp [tmI, upd]
    | 10, _ =>
      clear hdeps hC hC' hrun' hrunU' hend
      simp only [tmI] at hr ⊢
      (refine Walk.oq ?_; try walk_nrm)
      refine hr _ _ ⟨upd u 68 (.int .i64 i), A, B, ?_, F0.set (by decide) rfl rfl, Q.quiet (by decide) (by decide) (by decide) (by decide) (by decide) (by decide)⟩
      simp [tmI, upd]
    | 11, _ =>
      have hd := deps_of (l := [9, 10]) (by kernel_rfl) ho hdeps
      have e67 := F0 9 67 _ (hd 9 (by simp)) rfl rfl
      have e68 := F0 10 68 _ (hd 10 (by simp)) rfl rfl
      have hi0 : (0 : Int) ≤ i := by omega
      have hi3 : decide (i < n0) = true := by simp; omega
      have hi1 : decide ((i : Int) < n0) = true := by simp; omega
      have hi4 : (i : Int) < n0 := by omega
      clear hdeps hC hC' hrun' hrunU' hend
      simp only [tmI] at hr ⊢
      simp only [e67, e68]
      (refine Walk.oq ?_; try walk_nrm)
      refine hr _ _ ⟨upd u 69 (.pointer (some ⟨tb, toff + i * 4, none⟩)), A, B, ?_, F0.set (by decide) rfl rfl, Q.quiet (by decide) (by decide) (by decide) (by decide) (by decide) (by decide)⟩
      simp [tmI, upd, e67, e68]
    | 12, _ =>
      have hd := deps_of (l := [11]) (by kernel_rfl) ho hdeps
      have e69 := F0 11 69 _ (hd 11 (by simp)) rfl rfl
      have hcs : ∀ (y : Nat) (v : Value), ([.int .i64 o.k, .int .i64 o.a, .int .i64 o.b, .int .i64 o.c] : List Value)[y]? = some v → w.cell? ⟨tb, toff + i * 4 + y, none⟩ = some v := fun y v hv => by
        match y, hv with
        | 0, hv => cases hv; exact hcell o0
        | 1, hv => cases hv; exact hcell o1
        | 2, hv => cases hv; exact hcell o2
        | 3, hv => cases hv; exact hcell o3
      clear hdeps hC hC' hrun' hrunU' hend
      simp only [tmI] at hr ⊢
      simp only [e69]
      refine Walk.loadS 46 (.tmp 69) (ho_of (by conv => lhs; whnf) (by kernel_rfl)) (by rfl) (by decide) rfl tb (toff + i * 4) [.int .i64 o.k, .int .i64 o.a, .int .i64 o.b, .int .i64 o.c] (.struct fsO) rfl hcs huO rfl (by kernel_rfl) ?_
      walk_nrm
      refine hr _ _ ⟨upd u 70 (opVal o), A, B, ?_, F0.set (by decide) rfl rfl, Q.quiet (by decide) (by decide) (by decide) (by decide) (by decide) (by decide)⟩
      simp [tmI, upd, opVal, e69]
    | 13, _ =>
      have hd := deps_of (l := [6, 8, 12, 5]) (by kernel_rfl) ho hdeps
      have e64 := F0 6 64 _ (hd 6 (by simp)) rfl rfl
      have e66 := F0 8 66 _ (hd 8 (by simp)) rfl rfl
      have e70 := F0 12 70 _ (hd 12 (by simp)) rfl rfl
      have il := Q.il
      have cn := Q.cn
      rw [hfj] at il cn
      simp only [Bool.false_eq_true, if_false] at il cn
      have hpsh : ¬ (spLa lb lr m lra lrc).sh p := by
        rintro (h | ⟨hm1, h⟩)
        · omega
        · have := t4 hm1; omega
      clear hdeps hC hend
      simp only [tmI] at hr ⊢
      simp only [e64, e66, e70, opVal]
      refine Walk.callCnt (L := spLa lb lr m lra lrc) (p := p) (R := (c + st, S', a)) (Rel := fun v x => v = ansVal x) (m + m + 2) c S (spEnter m S o).2 ap0 il hpsh cn (by omega) hrun' ?_ (ho_of (by conv => lhs; whnf) (by kernel_rfl)) (by rfl) (by decide) rfl Try.func18 (by kernel_rfl) (by rfl) ⟨rfl, rfl, _, Try.func4⟩ ?_
      · intro K e he
        walk_nrm
        exact call_v K S o e he
      rintro v w1 rfl hCn
      have hCo := hCn.old
      have hCs := hCn.size
      have hsh : ∀ b, (spLa lb lr m lra lrc).sh b ↔ (b = lb ∨ (1 < m ∧ b = lr)) := fun b => Iff.rfl
      simp only [hsh] at hCo
      walk_nrm
      refine hr _ _ ⟨upd u 71 (ansVal a), A, B, ?_, F0.set (by decide) rfl rfl, ⟨?_, ?_, ?_, fun h => ?_, fun h => ?_, fun h h2 => ?_, fun b hb hOf => ?_, by omega⟩⟩
      · simp [tmI, upd, ansVal, opVal, e64, e66, e70]
      · rw [upd_ne _ _ (by decide)]
        exact Q.ik.old fun b hb => hCo b (by rcases hb with rfl | ⟨hm1, rfl⟩; omega; have := l2 hm1; omega) (by
          rcases hb with rfl | ⟨hm1, rfl⟩
          · rintro (h | ⟨hm1, h⟩)
            · omega
            · have := t4 hm1; omega
          · have := t4 hm1
            rintro (h | ⟨_, h⟩) <;> omega) (by
          rcases hb with rfl | ⟨hm1, rfl⟩
          · omega
          · have := t4 hm1; omega)
      · rw [upd_same, if_pos rfl]; exact hCn.I
      · rw [upd_same, if_pos rfl]; exact hCn.cnt
      · rw [upd_ne _ _ (by decide)] at h
        rw [upd_ne _ _ (by decide)]
        obtain ⟨z1, z2⟩ := Q.a1 h
        refine ⟨z1, (hCo A (Array.getElem?_eq_some_iff.1 z2).1 ?_ (by omega)).trans z2⟩
        rintro (h | ⟨hm1, h⟩)
        · omega
        · have := l4 hm1; omega
      · rw [upd_ne _ _ (by decide)] at h
        rw [upd_ne _ _ (by decide)]
        obtain ⟨z1, z2⟩ := Q.b1 h
        refine ⟨z1, (hCo B (Array.getElem?_eq_some_iff.1 z2).1 ?_ (by omega)).trans z2⟩
        rintro (h | ⟨hm1, h⟩)
        · omega
        · have := l4 hm1; omega
      · rw [upd_ne _ _ (by decide)] at h h2
        exact Q.ne h h2
      · exact (hCo b (by omega) hOf.2.1 hOf.2.2).trans (Q.old b hb hOf)
    | 14, _ =>
      clear hdeps hC hrun' hrunU' hend
      have hN := heap_alloc_new w (.cells #[.bool false, .int .i64 0, .slice none 0 0] 43)
      have hO : ∀ b, b < w.heap.size → (w.alloc (.cells #[.bool false, .int .i64 0, .slice none 0 0] 43)).heap[b]? = w.heap[b]? := fun b hb => heap_new_lt _ _ hb
      have hZ : (w.alloc (.cells #[.bool false, .int .i64 0, .slice none 0 0] 43)).heap.size = w.heap.size + 1 := by simp
      have h1x : f 16 = false := by
        cases h : f 16 with
        | false => rfl
        | true =>
          have := hC'.deps (i := 16) (l := [14]) h (by kernel_rfl) 14 (by simp)
          rw [hfj] at this
          cases this
      simp only [tmI] at hr ⊢
      (refine Walk.oa ?_; try walk_nrm)
      refine hr _ _ ⟨upd u 11 (.pointer (some ⟨w.heap.size, 0, none⟩)), w.heap.size, B, ?_, Facts.set (facts_vals F0 fun j v hf hv => ?_) (by decide) rfl rfl, ⟨?_, ?_, ?_, fun h => ?_, fun h => ?_, fun h h2 => ?_, fun b hb hOf => (hO b (by omega)).trans (Q.old b hb hOf), by omega⟩⟩
      · simp [tmI, upd]
      · exact match j, hf, hv with
          | 0, _, hv => hv
          | 1, _, hv => hv
          | 2, _, hv => hv
          | 3, _, hv => hv
          | 4, _, hv => hv
          | 5, _, hv => hv
          | 6, _, hv => hv
          | 7, _, hv => hv
          | 8, _, hv => hv
          | 9, _, hv => hv
          | 10, _, hv => hv
          | 11, _, hv => hv
          | 12, _, hv => hv
          | 13, _, hv => hv
          | 14, hf, hv => by rw [hfj] at hf; cases hf
          | 15, _, hv => hv
          | j + 16, _, hv => hv
      · rw [upd_ne _ _ (by decide)]; exact Q.ik.old fun b hb => hO b (by rcases hb with rfl | ⟨hm1, rfl⟩; omega; have := l2 hm1; omega)
      · rw [upd_ne _ _ (by decide)]; exact Q.il.old fun b hb => hO b (by rcases hb with rfl | ⟨hm1, rfl⟩; omega; have := l4 hm1; omega)
      · rw [upd_ne _ _ (by decide)]; exact (hO p (by omega)).trans Q.cn
      · rw [upd_ne _ _ (by decide), h1x]
        exact ⟨hQs, hN⟩
      · rw [upd_ne _ _ (by decide)] at h
        rw [upd_ne _ _ (by decide)]
        obtain ⟨z1, z2⟩ := Q.b1 h
        exact ⟨z1, (hO _ (Array.getElem?_eq_some_iff.1 z2).1).trans z2⟩
      · rw [upd_ne _ _ (by decide)] at h2
        have := (Array.getElem?_eq_some_iff.1 (Q.b1 h2).2).1
        omega
    | 15, _ =>
      clear hdeps hC hrun' hrunU' hend
      have hN := heap_alloc_new w (.cells #[.bool false, .int .i64 0, .slice none 0 0] 43)
      have hO : ∀ b, b < w.heap.size → (w.alloc (.cells #[.bool false, .int .i64 0, .slice none 0 0] 43)).heap[b]? = w.heap[b]? := fun b hb => heap_new_lt _ _ hb
      have hZ : (w.alloc (.cells #[.bool false, .int .i64 0, .slice none 0 0] 43)).heap.size = w.heap.size + 1 := by simp
      have h1x : f 17 = false := by
        cases h : f 17 with
        | false => rfl
        | true =>
          have := hC'.deps (i := 17) (l := [15]) h (by kernel_rfl) 15 (by simp)
          rw [hfj] at this
          cases this
      simp only [tmI] at hr ⊢
      (refine Walk.oa ?_; try walk_nrm)
      refine hr _ _ ⟨upd u 12 (.pointer (some ⟨w.heap.size, 0, none⟩)), A, w.heap.size, ?_, Facts.set (facts_vals F0 fun j v hf hv => ?_) (by decide) rfl rfl, ⟨?_, ?_, ?_, fun h => ?_, fun h => ?_, fun h h2 => ?_, fun b hb hOf => (hO b (by omega)).trans (Q.old b hb hOf), by omega⟩⟩
      · simp [tmI, upd]
      · exact match j, hf, hv with
          | 0, _, hv => hv
          | 1, _, hv => hv
          | 2, _, hv => hv
          | 3, _, hv => hv
          | 4, _, hv => hv
          | 5, _, hv => hv
          | 6, _, hv => hv
          | 7, _, hv => hv
          | 8, _, hv => hv
          | 9, _, hv => hv
          | 10, _, hv => hv
          | 11, _, hv => hv
          | 12, _, hv => hv
          | 13, _, hv => hv
          | 14, _, hv => hv
          | 15, hf, hv => by rw [hfj] at hf; cases hf
          | j + 16, _, hv => hv
      · rw [upd_ne _ _ (by decide)]; exact Q.ik.old fun b hb => hO b (by rcases hb with rfl | ⟨hm1, rfl⟩; omega; have := l2 hm1; omega)
      · rw [upd_ne _ _ (by decide)]; exact Q.il.old fun b hb => hO b (by rcases hb with rfl | ⟨hm1, rfl⟩; omega; have := l4 hm1; omega)
      · rw [upd_ne _ _ (by decide)]; exact (hO p (by omega)).trans Q.cn
      · rw [upd_ne _ _ (by decide)] at h
        rw [upd_ne _ _ (by decide)]
        obtain ⟨z1, z2⟩ := Q.a1 h
        exact ⟨z1, (hO _ (Array.getElem?_eq_some_iff.1 z2).1).trans z2⟩
      · rw [upd_ne _ _ (by decide), h1x]
        exact ⟨hQs, hN⟩
      · rw [upd_ne _ _ (by decide)] at h
        have := (Array.getElem?_eq_some_iff.1 (Q.a1 h).2).1
        omega
    | 16, _ =>
      have hd := deps_of (l := [14, 5, 13]) (by kernel_rfl) ho hdeps
      have e11 := F0 14 11 _ (hd 14 (by simp)) rfl rfl
      have e63 := F0 5 63 _ (hd 5 (by simp)) rfl rfl
      have hz := Q.a1 (hd 14 (by simp))
      rw [hfj] at hz
      simp only [Bool.false_eq_true, if_false] at hz
      obtain ⟨z1, z2⟩ := hz
      have hO : ∀ b, b ≠ A → (w.setRow A #[.bool a.1, .int .i64 a.2, .slice none 0 0]).heap[b]? = w.heap[b]? := fun b hb => setRow_other _ _ hb
      have hN := setRow_self (cells := #[.bool a.1, .int .i64 a.2, .slice none 0 0]) z2
      have hZ : (w.setRow A #[.bool a.1, .int .i64 a.2, .slice none 0 0]).heap.size = w.heap.size := setRow_size _ _ _
      clear hdeps hC hC' hrun' hrunU' hend
      simp only [tmI] at hr ⊢
      simp only [e11, e63, ansVal]
      refine Walk.storeS 43 (.tmp 11) (.tmp 63) (ho_of (by conv => lhs; whnf) (by kernel_rfl)) (by rfl) (by decide) rfl A #[.bool a.1, .int .i64 a.2, .slice none 0 0] _ 43 rfl rfl z2 (by kernel_rfl) (by rfl) (by simp [Value.oneCell']) (ap0 _) ?_
      walk_nrm
      refine hr _ _ ⟨u, A, B, ?_, facts_more F0 rfl, ⟨?_, ?_, ?_, fun h => ?_, fun h => ?_, fun h h2 => ?_, fun b hb hOf => (hO b (by omega)).trans (Q.old b hb hOf), by omega⟩⟩
      · simp [tmI, e11, e63, ansVal]
      · rw [upd_ne _ _ (by decide)]; exact Q.ik.old fun b hb => hO b (by rcases hb with rfl | ⟨hm1, rfl⟩; omega; have := l2 hm1; omega)
      · rw [upd_ne _ _ (by decide)]; exact Q.il.old fun b hb => hO b (by rcases hb with rfl | ⟨hm1, rfl⟩; omega; have := l4 hm1; omega)
      · rw [upd_ne _ _ (by decide)]; exact (hO p (by omega)).trans Q.cn
      · rw [upd_same, if_pos rfl]
        exact ⟨z1, hN⟩
      · rw [upd_ne _ _ (by decide)] at h
        rw [upd_ne _ _ (by decide)]
        obtain ⟨y1, y2⟩ := Q.b1 h
        exact ⟨y1, (hO _ (Ne.symm (Q.ne (hd 14 (by simp)) h))).trans y2⟩
      · rw [upd_ne _ _ (by decide)] at h h2
        exact Q.ne h h2
    | 17, _ =>
      have hd := deps_of (l := [15, 13, 16]) (by kernel_rfl) ho hdeps
      have e12 := F0 15 12 _ (hd 15 (by simp)) rfl rfl
      have e71 := F0 13 71 _ (hd 13 (by simp)) rfl rfl
      have hz := Q.b1 (hd 15 (by simp))
      rw [hfj] at hz
      simp only [Bool.false_eq_true, if_false] at hz
      obtain ⟨z1, z2⟩ := hz
      have hO : ∀ b, b ≠ B → (w.setRow B #[.bool a.1, .int .i64 a.2, .slice none 0 0]).heap[b]? = w.heap[b]? := fun b hb => setRow_other _ _ hb
      have hN := setRow_self (cells := #[.bool a.1, .int .i64 a.2, .slice none 0 0]) z2
      have hZ : (w.setRow B #[.bool a.1, .int .i64 a.2, .slice none 0 0]).heap.size = w.heap.size := setRow_size _ _ _
      have h14 : f 14 = true := hC'.deps (i := 16) (l := [14]) (hd 16 (by simp)) (by kernel_rfl) 14 (by simp)
      clear hdeps hC hC' hrun' hrunU' hend
      simp only [tmI] at hr ⊢
      simp only [e12, e71, ansVal]
      refine Walk.storeS 43 (.tmp 12) (.tmp 71) (ho_of (by conv => lhs; whnf) (by kernel_rfl)) (by rfl) (by decide) rfl B #[.bool a.1, .int .i64 a.2, .slice none 0 0] _ 43 rfl rfl z2 (by kernel_rfl) (by rfl) (by simp [Value.oneCell']) (ap0 _) ?_
      walk_nrm
      refine hr _ _ ⟨u, A, B, ?_, facts_more F0 rfl, ⟨?_, ?_, ?_, fun h => ?_, fun h => ?_, fun h h2 => ?_, fun b hb hOf => (hO b (by omega)).trans (Q.old b hb hOf), by omega⟩⟩
      · simp [tmI, e12, e71, ansVal]
      · rw [upd_ne _ _ (by decide)]; exact Q.ik.old fun b hb => hO b (by rcases hb with rfl | ⟨hm1, rfl⟩; omega; have := l2 hm1; omega)
      · rw [upd_ne _ _ (by decide)]; exact Q.il.old fun b hb => hO b (by rcases hb with rfl | ⟨hm1, rfl⟩; omega; have := l4 hm1; omega)
      · rw [upd_ne _ _ (by decide)]; exact (hO p (by omega)).trans Q.cn
      · rw [upd_ne _ _ (by decide)] at h
        rw [upd_ne _ _ (by decide)]
        obtain ⟨y1, y2⟩ := Q.a1 h
        exact ⟨y1, (hO _ (Q.ne h (hd 15 (by simp)))).trans y2⟩
      · rw [upd_same, if_pos rfl]
        exact ⟨z1, hN⟩
      · rw [upd_ne _ _ (by decide)] at h h2
        exact Q.ne h h2
  · rintro f act w ⟨u, A, B, rfl, F0, Q⟩ hall
    have hf : f = fun j => if j < 18 then true else f j := by
      funext j
      split
      · exact hall j (by rw [size4_11]; assumption)
      · rfl
    refine hend u A B w (F0 14 11 _ (hall 14 (by rw [size4_11]; decide)) rfl rfl) (F0 15 12 _ (hall 15 (by rw [size4_11]; decide)) rfl rfl) ?_
    have g : ∀ j, j < 18 → f j = true := fun j hj => hall j (by rw [size4_11]; exact hj)
    obtain ⟨q1, q2, q3, q4, q5, q6, q7, q8⟩ := Q
    rw [g 5 (by decide)] at q1
    rw [g 13 (by decide)] at q2 q3
    rw [g 16 (by decide)] at q4
    rw [g 17 (by decide)] at q5
    exact ⟨q1, q2, q3, fun _ => q4 (g 14 (by decide)), fun _ => q5 (g 15 (by decide)), fun _ _ => q6 (g 14 (by decide)) (g 15 (by decide)), q7, q8⟩
end
end
end Go.Proofs.Ytnnakajldnaldaa
