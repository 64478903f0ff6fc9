/- Part 22. -/
import Derived.Test.YtnnakajldnaldaaJ14
import Derived.Test.YtnnakajldnaldaaJ21
set_option linter.unusedSimpArgs false
set_option linter.unusedVariables false
set_option maxHeartbeats 8000000
set_option maxRecDepth 100000
namespace Go.Proofs.Ytnnakajldnaldaa
open Go.Conc Go.RowKit Go.Relay
open Go.ConcN (upd upd_ne upd_same)
section
theorem Told.cell {w : World} {B m : Nat} {l : List Int} (h : Told w B m l) (j : Nat) (x : Int) (hx : l[j]? = some x) : w.cell? ⟨B, j, none⟩ = some (.int .i64 x) := by
  obtain ⟨arr, h1, _, h3⟩ := h
  exact (cell_of h1 j).trans (h3 j x hx)
noncomputable def reg36_0 := rg Try.f36.body [0]
noncomputable def reg36_1 := rg Try.f36.body [1, 0]
theorem z36 : List.range reg36_0.size = [0, 1] ∧ List.range reg36_1.size = [0, 1, 2, 3] := by refine ⟨?_, ?_⟩ <;> kernel_rfl
theorem code36_is : Try.f36.body = some (.seq (.region 0 reg36_0 false) (.seq (.region 1 reg36_1 false) (.ret))) := by kernel_rfl
noncomputable def reg27_0 := rg Try.f27.body [0]
noncomputable def reg27_1 := rg Try.f27.body [1, 0]
theorem z27 : List.range reg27_0.size = [0] ∧ List.range reg27_1.size = [0, 1, 2, 3, 4] := by refine ⟨?_, ?_⟩ <;> kernel_rfl
theorem code27_is : Try.f27.body = some (.seq (.region 0 reg27_0 false) (.seq (.region 1 reg27_1 false) (.ret))) := by kernel_rfl
noncomputable def reg28_0 := rg Try.f28.body [0]
noncomputable def reg28_1 := rg Try.f28.body [1, 0]
theorem z28 : List.range reg28_0.size = [0, 1] ∧ List.range reg28_1.size = [0, 1, 2, 3, 4] := by refine ⟨?_, ?_⟩ <;> kernel_rfl
theorem code28_is : Try.f28.body = some (.seq (.region 0 reg28_0 false) (.seq (.region 1 reg28_1 false) (.ret))) := by kernel_rfl
noncomputable def reg26_0 := rg Try.f26.body [0]
noncomputable def reg26_1 := rg Try.f26.body [1, 0]
theorem z26 : List.range reg26_0.size = [0] ∧ List.range reg26_1.size = [0, 1, 2, 3, 4, 5, 6] := by refine ⟨?_, ?_⟩ <;> kernel_rfl
theorem code26_is : Try.f26.body = some (.seq (.region 0 reg26_0 false) (.seq (.region 1 reg26_1 false) (.ret))) := by kernel_rfl
noncomputable def reg35_0 := rg Try.f35.body [0]
noncomputable def reg35_1 := rg Try.f35.body [1]
theorem z35 : List.range reg35_0.size = [0, 1, 2, 3, 4, 5] ∧ List.range reg35_1.size = [0, 1, 2, 3, 4] := by refine ⟨?_, ?_⟩ <;> kernel_rfl
theorem code35_is : Try.f35.body = some (.seq (.region 0 reg35_0 false) (.region 1 reg35_1 false)) := by kernel_rfl
noncomputable def reg25_0 := rg Try.f25.body [0]
noncomputable def reg25_1 := rg Try.f25.body [1, 0, 0]
noncomputable def reg25_2 := rg Try.f25.body [1, 0, 1, 0, 0]
noncomputable def reg25_3 := rg Try.f25.body [1, 1, 0]
noncomputable def reg25_4 := rg Try.f25.body [1, 1, 1, 0, 0]
noncomputable def reg25_5 := rg Try.f25.body [1, 1, 1, 0, 1, 0, 0, 0]
noncomputable def reg25_6 := rg Try.f25.body [1, 1, 1, 0, 1, 0, 0, 1, 1, 0, 0, 0]
noncomputable def reg25_7 := rg Try.f25.body [1, 1, 1, 0, 1, 0, 0, 1, 1, 0, 0, 1, 0]
noncomputable def reg25_8 := rg Try.f25.body [1, 1, 1, 0, 1, 0, 0, 1, 1, 0, 0, 1, 1, 0, 0]
noncomputable def reg25_9 := rg Try.f25.body [1, 1, 1, 0, 1, 0, 0, 1, 1, 1]
noncomputable def reg25_10 := rg Try.f25.body [1, 1, 1, 1, 0]
theorem z25 : List.range reg25_0.size = [0, 1] ∧ List.range reg25_1.size = [0, 1] ∧ List.range reg25_2.size = [0, 1] ∧ List.range reg25_3.size = [0, 1, 2, 3] ∧ List.range reg25_4.size = [0, 1, 2] ∧ List.range reg25_5.size = [0] ∧ List.range reg25_6.size = [0, 1, 2, 3, 4] ∧ List.range reg25_7.size = [0, 1, 2, 3, 4, 5, 6] ∧ List.range reg25_8.size = [0, 1] ∧ List.range reg25_9.size = [0, 1] ∧ List.range reg25_10.size = [0, 1, 2, 3] := by refine ⟨?_, ?_, ?_, ?_, ?_, ?_, ?_, ?_, ?_, ?_, ?_⟩ <;> kernel_rfl
theorem code25_is : Try.f25.body = some (.seq (.region 0 reg25_0 false) (.seq (.seq (.region 1 reg25_1 false) (.cond (.tmp 10 ) (.seq (.region 2 reg25_2 false) (.ret)) (.skip))) (.seq (.region 3 reg25_3 false) (.seq (.seq (.region 4 reg25_4 false) (.block 0 (.loop (.seq (.region 5 reg25_5 false) (.seq (.cond (.tmp 17 ) (.skip) (.exit 0)) (.seq (.block 1 (.seq (.region 6 reg25_6 false) (.seq (.region 7 reg25_7 false) (.cond (.tmp 27 ) (.seq (.region 8 reg25_8 false) (.ret)) (.skip))))) (.region 9 reg25_9 false))))))) (.seq (.region 10 reg25_10 false) (.ret)))))) := by kernel_rfl
noncomputable def hdEven (cb : Nat) (sv : Value) (B m j : Nat) (u : Nat → Value) : Frame :=
  (base 25).at { tmps := #[.pointer (some ⟨cb, 0, none⟩), sv, u 2, u 3, .int .i64 0, .bool false, .slice (some ⟨B, 0, none⟩) m m, u 7, u 8, u 9, u 10, u 11, u 12, u 13, .slice (some ⟨B, 0, none⟩) m m, .int .i64 m, .int .i64 j, u 17, u 18, u 19, u 20, u 21, u 22, u 23, u 24, u 25, u 26, u 27, u 28, u 29, u 30], defers := [] } [.code (.seq (.region 5 reg25_5 false) (.seq (.cond (.tmp 17 ) (.skip) (.exit 0)) (.seq (.block 1 (.seq (.region 6 reg25_6 false) (.seq (.region 7 reg25_7 false) (.cond (.tmp 27 ) (.seq (.region 8 reg25_8 false) (.ret)) (.skip))))) (.region 9 reg25_9 false)))), .inLoop (.seq (.region 5 reg25_5 false) (.seq (.cond (.tmp 17 ) (.skip) (.exit 0)) (.seq (.block 1 (.seq (.region 6 reg25_6 false) (.seq (.region 7 reg25_7 false) (.cond (.tmp 27 ) (.seq (.region 8 reg25_8 false) (.ret)) (.skip))))) (.region 9 reg25_9 false)))), .inBlock 0, .code (.seq (.region 10 reg25_10 false) (.ret))]
def dU (m : Nat) (k : Nat) (l : List Int) : Ans ⊕ SD := if k = m then .inl (true, sumZ l) else .inr (.u1 k l)
def dT (m : Nat) (k : Nat) (l : List Int) : Ans ⊕ SD := if k = m then .inl (true, sumZ l) else .inr (.t1 k l)
def dE (m : Nat) (k : Nat) (l : List Int) : Ans ⊕ SD := if k = m then .inr (.e2 0 l) else .inr (.e1 k l)
def dF (m : Nat) (k : Nat) (l : List Int) : Ans ⊕ SD := if k = m then .inl (true, sumZ l) else .inr (.e2 k l)
section
variable {cb rb m : Nat} {ra : Option Addr} {rc : Nat} {sv : Value}
theorem loadAll_s (K : Lg (spLa cb rb m ra rc) sv) (dk : Nat → List Int → Ans ⊕ SD) (dl : Nat → List Int → SD) (hdk : ∀ k l, k < m → dk k l = .inr (dl k l)) (hact : ∀ s k l, spAct m s (dl k l) = (s, dk (k + 1) (l ++ [s k])))
    (e : K.E) (ht : K.tgt e = (K.s e, dk 0 [])) : SCall K.toLb 36 #[.pointer (some ⟨cb, 0, none⟩), sv] e (EachOut K dk) := by
  intro fr l hp hl hk
  have he := fun (e1 : K.E) (N : Nat) (hN : K.mine e1 N) (hc : (K.w e1).heap[N]? = some (.cells #[sv] 84)) (h : K.tgt e1 = (K.s e1, dk 0 [])) =>
    SCall.fz K (each_s (Fz K e1) dk 52 _ #[.pointer (some ⟨N, 0, none⟩)] Try.func52 (by kernel_rfl) (by rfl) (fun e0 => askLoad_ok (Fz (Fz K e1) e0) dk dl hdk hact N (fun e2 => ((e2.1.2 N hN).2).trans hc)) (fz0 K e1) h)
  unfold LW
  rw [enter_at _ Try.func36 code36_is]
  simp only [Try.ntmps36, ez, Nat.reduceAdd, Nat.reduceSub]
  repeat (first | refine Walk.cx ?_ | (refine Walk.cReg ?_; simp only [z36]) | (refine Walk.oq ?_; try walk_nrm) | (refine Walk.un ?_; walk_nrm))
  (refine Walk.oa ?_; try walk_nrm)
  change Walk Try.prog K.main (DR (K.V e)) (K.Stop e) _ ((K.w e).alloc (.cells sv.cells 84))
  rw [K.one]
  have c1 := heap_alloc_new (K.w e) (.cells #[sv] 84)
  have s1 : ((K.w e).alloc (.cells #[sv] 84)).heap.size = (K.w e).heap.size + 1 := by simp
  obtain ⟨e1, m1⟩ := K.grow e (w' := (K.w e).alloc (.cells #[sv] 84)) (by omega) (fun b hb' => heap_new_lt _ _ hb')
  generalize hR : (K.w e).heap.size = R at *
  generalize (K.w e).alloc (.cells #[sv] 84) = w1 at *
  have hmR : K.mine e1 R := m1.new (by omega) (by omega)
  have ht1 : K.tgt e1 = (K.s e1, dk 0 []) := by rw [m1.tgt, m1.s]; exact ht
  have hw1 := m1.w
  rw [← hw1] at c1
  have h1 := he e1 R hmR c1 ht1
  clear he hw1 c1
  repeat (first | refine Walk.cx ?_ | (refine Walk.cReg ?_; simp only [z36]) | (refine Walk.oq ?_; try walk_nrm) | (refine Walk.un ?_; walk_nrm))
  refine LW.to (l := fr :: l) m1 ?_
  refine LW.callS (K := K.toLb) (e := e1) (l := fr :: l) (f := 43) (Q := fun x e' => ∃ h : Kept K e1 e', EachOut (Fz K e1) dk x ⟨e', h⟩) ?_ (ho_of (by conv => lhs; whnf) (by kernel_rfl)) (by rfl) (by decide) rfl Try.func43 (by kernel_rfl) (by rfl) ⟨rfl, rfl, _, Try.func36⟩ (plain_cons hp hl) ?_
  · walk_nrm
    exact h1
  rintro x e2 ⟨hkept, B, ls, rfl, hlen, hmB, hT, ht2⟩
  have hkk := hk (.slice (some ⟨B, 0, none⟩) m m) e2 ⟨B, ls, rfl, hlen, hmB.1, hT, ht2⟩
  unfold LW at hkk ⊢
  walk_nrm
  repeat (first | refine Walk.cx ?_ | (refine Walk.cReg ?_; simp only [z36]) | (refine Walk.oq ?_; try walk_nrm) | (refine Walk.un ?_; walk_nrm))
  exact Walk.on1 rfl rfl Try.func36 rfl hkk
theorem ssum_s (K : Lg (spLa cb rb m ra rc) sv) (dk : Nat → List Int → Ans ⊕ SD) (dl : Nat → List Int → SD) (hdk : ∀ k l, k < m → dk k l = .inr (dl k l)) (hact : ∀ s k l, spAct m s (dl k l) = (s, dk (k + 1) (l ++ [s k])))
    (e : K.E) (ht : K.tgt e = (K.s e, dk 0 [])) : SCall K.toLb 27 #[.pointer (some ⟨cb, 0, none⟩), sv] e (fun v e' => ∃ l, l.length = m ∧ v = .int .i64 (sumZ l) ∧ K.tgt e' = (K.s e', dk m l)) := by
  intro fr l hp hl hk
  have h1 := loadAll_s K dk dl hdk hact e ht
  have hm := (K.inv e).pos.2
  unfold LW
  rw [enter_at _ Try.func27 code27_is]
  simp only [Try.ntmps27, ez, Nat.reduceAdd, Nat.reduceSub]
  repeat (first | refine Walk.cx ?_ | (refine Walk.cReg ?_; simp only [z27]) | (refine Walk.oq ?_; try walk_nrm) | (refine Walk.un ?_; walk_nrm))
  refine LW.callS (K := K.toLb) (e := e) (l := fr :: l) (f := 36) (Q := EachOut K dk) ?_ (ho_of (by conv => lhs; whnf) (by kernel_rfl)) (by rfl) (by decide) rfl Try.func36 (by kernel_rfl) (by rfl) ⟨rfl, rfl, _, Try.func27⟩ (plain_cons hp hl) ?_
  · walk_nrm
    exact h1
  rintro x e2 ⟨B, ls, rfl, hlen, hmB, hT, ht2⟩
  have hkk := hk (.int .i64 (sumZ ls)) e2 ⟨ls, hlen, rfl, ht2⟩
  have hs := sum_w (main := K.main) (V := K.V e2) B m m ls hlen hm (K.w e2) hT.cell
  generalize sumZ ls = y at *
  unfold LW at hkk ⊢
  walk_nrm
  repeat (first | refine Walk.cx ?_ | (refine Walk.cReg ?_; simp only [z27]) | (refine Walk.oq ?_; try walk_nrm) | (refine Walk.un ?_; walk_nrm))
  refine Walk.callV (x := .int .i64 y) (W := K.w e2) ?_ (ho_of (by conv => lhs; whnf) (by kernel_rfl)) (by rfl) (by decide) rfl Try.func40 (by kernel_rfl) (by rfl) ?_
  · walk_nrm
    exact hs
  walk_nrm
  repeat (first | refine Walk.cx ?_ | (refine Walk.cReg ?_; simp only [z27]) | (refine Walk.oq ?_; try walk_nrm) | (refine Walk.un ?_; walk_nrm))
  exact Walk.on1 rfl rfl Try.func27 rfl hkk
theorem stake_s (K : Lg (spLa cb rb m ra rc) sv) (e : K.E) (ht : K.tgt e = (K.s e, dT m 0 [])) : SCall K.toLb 28 #[.pointer (some ⟨cb, 0, none⟩), sv] e (fun v e' => ∃ l, l.length = m ∧ v = .int .i64 (sumZ l) ∧ K.tgt e' = (K.s e', dT m m l)) := by
  intro fr l hp hl hk
  have hm := (K.inv e).pos.2
  have he := fun (e1 : K.E) (N : Nat) (hN : K.mine e1 N) (hc : (K.w e1).heap[N]? = some (.cells #[sv] 84)) (h : K.tgt e1 = (K.s e1, dT m 0 [])) =>
    SCall.fz K (each_s (Fz K e1) (dT m) 44 _ #[.pointer (some ⟨N, 0, none⟩)] Try.func44 (by kernel_rfl) (by rfl) (fun e0 => askTake_ok (Fz (Fz K e1) e0) (dT m) .t1 (fun k l hk => if_neg (by omega)) (fun _ _ _ => rfl) N (fun e2 => ((e2.1.2 N hN).2).trans hc)) (fz0 K e1) h)
  unfold LW
  rw [enter_at _ Try.func28 code28_is]
  simp only [Try.ntmps28, ez, Nat.reduceAdd, Nat.reduceSub]
  repeat (first | refine Walk.cx ?_ | (refine Walk.cReg ?_; simp only [z28]) | (refine Walk.oq ?_; try walk_nrm) | (refine Walk.un ?_; walk_nrm))
  (refine Walk.oa ?_; try walk_nrm)
  change Walk Try.prog K.main (DR (K.V e)) (K.Stop e) _ ((K.w e).alloc (.cells sv.cells 84))
  rw [K.one]
  have c1 := heap_alloc_new (K.w e) (.cells #[sv] 84)
  have s1 : ((K.w e).alloc (.cells #[sv] 84)).heap.size = (K.w e).heap.size + 1 := by simp
  obtain ⟨e1, m1⟩ := K.grow e (w' := (K.w e).alloc (.cells #[sv] 84)) (by omega) (fun b hb' => heap_new_lt _ _ hb')
  generalize hR : (K.w e).heap.size = R at *
  generalize (K.w e).alloc (.cells #[sv] 84) = w1 at *
  have hmR : K.mine e1 R := m1.new (by omega) (by omega)
  have ht1 : K.tgt e1 = (K.s e1, dT m 0 []) := by rw [m1.tgt, m1.s]; exact ht
  have hw1 := m1.w
  rw [← hw1] at c1
  have h1 := he e1 R hmR c1 ht1
  clear he hw1 c1
  repeat (first | refine Walk.cx ?_ | (refine Walk.cReg ?_; simp only [z28]) | (refine Walk.oq ?_; try walk_nrm) | (refine Walk.un ?_; walk_nrm))
  refine LW.to (l := fr :: l) m1 ?_
  refine LW.callS (K := K.toLb) (e := e1) (l := fr :: l) (f := 43) (Q := fun x e' => ∃ h : Kept K e1 e', EachOut (Fz K e1) (dT m) x ⟨e', h⟩) ?_ (ho_of (by conv => lhs; whnf) (by kernel_rfl)) (by rfl) (by decide) rfl Try.func43 (by kernel_rfl) (by rfl) ⟨rfl, rfl, _, Try.func28⟩ (plain_cons hp hl) ?_
  · walk_nrm
    exact h1
  rintro x e2 ⟨hkept, B, ls, rfl, hlen, hmB, hT, ht2⟩
  replace hT : Told (K.w e2) B m ls := hT
  have hkk := hk (.int .i64 (sumZ ls)) e2 ⟨ls, hlen, rfl, ht2⟩
  have hs := sum_w (main := K.main) (V := K.V e2) B m m ls hlen hm (K.w e2) hT.cell
  generalize sumZ ls = y at *
  unfold LW at hkk ⊢
  walk_nrm
  repeat (first | refine Walk.cx ?_ | (refine Walk.cReg ?_; simp only [z28]) | (refine Walk.oq ?_; try walk_nrm) | (refine Walk.un ?_; walk_nrm))
  refine Walk.callV (x := .int .i64 y) (W := K.w e2) ?_ (ho_of (by conv => lhs; whnf) (by kernel_rfl)) (by rfl) (by decide) rfl Try.func40 (by kernel_rfl) (by rfl) ?_
  · walk_nrm
    exact hs
  walk_nrm
  repeat (first | refine Walk.cx ?_ | (refine Walk.cReg ?_; simp only [z28]) | (refine Walk.oq ?_; try walk_nrm) | (refine Walk.un ?_; walk_nrm))
  exact Walk.on1 rfl rfl Try.func28 rfl hkk
theorem sadd_s (K : Lg (spLa cb rb m ra rc) sv) (a v : Int) (d : SD) (Z : Int → Ans ⊕ SD) (hact : ∀ s : Sp, spAct m s d = (spPut s (stAt m a) (IntKind.i64.wrap (s (stAt m a) + v)), Z (IntKind.i64.wrap (s (stAt m a) + v)))) (e : K.E) (ht : K.tgt e = (K.s e, .inr d)) :
    SCall K.toLb 26 #[.pointer (some ⟨cb, 0, none⟩), sv, .int .i64 a, .int .i64 v] e (fun x e' => ∃ y, x = .int .i64 y ∧ K.tgt e' = (K.s e', Z y)) := by
  intro fr l hp hl hk
  have h1 := at_w (main := K.main) (V := K.V e) a (K.w e) (K.inv e)
  have hlt := stAt_lt (K.inv e).pos.1 a
  generalize stAt m a = i at *
  have w1 := word_add K (spW i hlt) e d v (fun _ => trivial) ht
  unfold Wd.p at w1
  unfold LW
  rw [enter_at _ Try.func26 code26_is]
  simp only [Try.ntmps26, ez, Nat.reduceAdd, Nat.reduceSub]
  repeat (first | refine Walk.cx ?_ | (refine Walk.cReg ?_; simp only [z26]) | (refine Walk.oq ?_; try walk_nrm) | (refine Walk.un ?_; walk_nrm))
  refine Walk.callV (x := spP cb rb i) (W := K.w e) ?_ (ho_of (by conv => lhs; whnf) (by kernel_rfl)) (by rfl) (by decide) rfl Try.func41 (by kernel_rfl) (by rfl) ?_
  · walk_nrm
    exact h1
  walk_nrm
  repeat (first | refine Walk.cx ?_ | (refine Walk.cReg ?_; simp only [z26]) | (refine Walk.oq ?_; try walk_nrm) | (refine Walk.un ?_; walk_nrm))
  refine LW.callS (K := K.toLb) (e := e) (l := fr :: l) (f := 42) (Q := fun x e' => ∃ s : Sp, x = .int .i64 (IntKind.i64.wrap (s i + v)) ∧ Wrote K e d s (spPut s i (IntKind.i64.wrap (s i + v))) e') ?_ (ho_of (by conv => lhs; whnf) (by kernel_rfl)) (by rfl) (by decide) rfl Try.func42 (by kernel_rfl) (by rfl) ⟨rfl, rfl, _, Try.func26⟩ (plain_cons hp hl) ?_
  · walk_nrm
    exact w1
  rintro x e1 ⟨s, rfl, hw⟩
  have ht1 : K.tgt e1 = (K.s e1, Z (IntKind.i64.wrap (s i + v))) := by rw [hw.s]; exact hw.tgt.trans (hact s)
  have hkk := hk (.int .i64 (IntKind.i64.wrap (s i + v))) e1 ⟨_, rfl, ht1⟩
  generalize IntKind.i64.wrap (s i + v) = y at *
  unfold LW at hkk ⊢
  walk_nrm
  repeat (first | refine Walk.cx ?_ | (refine Walk.cReg ?_; simp only [z26]) | (refine Walk.oq ?_; try walk_nrm) | (refine Walk.un ?_; walk_nrm))
  exact Walk.on1 rfl rfl Try.func26 rfl hkk
theorem smove_s (K : Lg (spLa cb rb m ra rc) sv) (a b v : Int) (e : K.E) (ht : K.tgt e = (K.s e, .inr (.m1 (stAt m a) (stAt m b) v))) :
    SCall K.toLb 35 #[.pointer (some ⟨cb, 0, none⟩), sv, .int .i64 a, .int .i64 b, .int .i64 v] e (fun _ e' => K.tgt e' = (K.s e', .inl (true, 0))) := by
  intro fr l hp hl hk
  have h1 := sadd_s K a (IntKind.i64.wrap (-v)) (.m1 (stAt m a) (stAt m b) v) (fun _ => .inr (.m2 (stAt m b) v)) (fun _ => rfl) e ht
  have h2 := fun e1 => sadd_s K b v (.m2 (stAt m b) v) (fun _ => .inl (true, 0)) (fun _ => rfl) e1
  unfold LW
  rw [enter_at _ Try.func35 code35_is]
  simp only [Try.ntmps35, ez, Nat.reduceAdd, Nat.reduceSub]
  repeat (first | refine Walk.cx ?_ | (refine Walk.cReg ?_; simp only [z35]) | (refine Walk.oq ?_; try walk_nrm) | (refine Walk.un ?_; walk_nrm))
  refine LW.callS (K := K.toLb) (e := e) (l := fr :: l) (f := 26) (Q := fun x e' => ∃ y, x = .int .i64 y ∧ K.tgt e' = (K.s e', .inr (.m2 (stAt m b) v))) ?_ (ho_of (by conv => lhs; whnf) (by kernel_rfl)) (by rfl) (by decide) rfl Try.func26 (by kernel_rfl) (by rfl) ⟨rfl, rfl, _, Try.func35⟩ (plain_cons hp hl) ?_
  · walk_nrm
    exact h1
  rintro x1 e1 ⟨y1, rfl, ht1⟩
  unfold LW
  walk_nrm
  repeat (first | refine Walk.cx ?_ | (refine Walk.cReg ?_; simp only [z35]) | (refine Walk.oq ?_; try walk_nrm) | (refine Walk.un ?_; walk_nrm))
  refine LW.callS (K := K.toLb) (e := e1) (l := fr :: l) (f := 26) (Q := fun x e' => ∃ y, x = .int .i64 y ∧ K.tgt e' = (K.s e', .inl (true, 0))) ?_ (ho_of (by conv => lhs; whnf) (by kernel_rfl)) (by rfl) (by decide) rfl Try.func26 (by kernel_rfl) (by rfl) ⟨rfl, rfl, _, Try.func35⟩ (plain_cons hp hl) ?_
  · walk_nrm
    exact h2 e1 ht1
  rintro x2 e2 ⟨y2, rfl, ht2⟩
  unfold LW
  walk_nrm
  repeat (first | refine Walk.cx ?_ | (refine Walk.cReg ?_; simp only [z35]) | (refine Walk.oq ?_; try walk_nrm) | (refine Walk.un ?_; walk_nrm))
  exact Walk.on0 rfl rfl Try.func35 rfl (hk _ e2 ht2)
def EvenOut (K : Lg (spLa cb rb m ra rc) sv) (v : Value) (e' : K.E) : Prop := ∃ b y, v = .tuple #[.int .i64 y, .bool b] ∧ K.tgt e' = (K.s e', .inl (b, y))
theorem even_round (K : Lg (spLa cb rb m ra rc) sv) (B : Nat) (ls : List Int) (hlen : ls.length = m) (fr : Frame) (l : List Frame) (hp : Plain fr) (hl : ∀ f ∈ l, Plain f) (hk : ∀ x e', EvenOut K x e' → LW K.toLb e' (G (fr.finish x) (l ++ K.bot e'))) (j : Nat) (hj : j < m) (e : K.E) (u : Nat → Value) (hB : K.mine e B) (hT : Told (K.w e) B m ls) (ht : K.tgt e = (K.s e, dF m j ls))
    (ih : ∀ (e' : K.E) (u : Nat → Value), K.mine e' B → Told (K.w e') B m ls → K.tgt e' = (K.s e', dF m (j + 1) ls) → LW K.toLb e' (G (hdEven cb sv B m (j + 1) u) (fr :: (l ++ K.bot e')))) :
    LW K.toLb e (G (hdEven cb sv B m j u) (fr :: (l ++ K.bot e))) := by
  have hm := (K.inv e).pos.2
  have hs := stripe_w (main := K.main) (V := K.V e) j hj (K.w e) (K.inv e)
  have ht0 : K.tgt e = (K.s e, .inr (.e2 j ls)) := ht.trans (by unfold dF; rw [if_neg (by omega)]; rfl)
  have w1 := SCall.fz K (word_load (Fz K e) (spW j hj) (fz0 K e) (.e2 j ls) ht0)
  unfold Wd.p at w1
  have hx0 : ls[j]? = some (ls.getD j 0) := by rw [List.getD_eq_getElem?_getD, List.getElem?_eq_getElem (by omega)]; rfl
  have c1 := hT.cell j _ hx0
  have hact : ∀ s : Sp, spAct m s (.e2 j ls) = (s, if s j ≠ ls.getD j 0 then .inl (false, 0) else dF m (j + 1) ls) := fun _ => rfl
  generalize ls.getD j 0 = n at *
  have hj0 : (0 : Int) ≤ j := by omega
  have hj1 : decide ((j : Int) < m) = true := by simp; omega
  have hj3 : decide (j < m) = true := by simp; omega
  have hj4 : (j : Int) < m := by omega
  have hw1 : IntKind.wrap .i64 ((j : Int) + 1) = ((j + 1 : Nat) : Int) := by rw [IntKind.wrap_i64]; omega
  unfold LW hdEven
  repeat (first | refine Walk.cx ?_ | (refine Walk.cReg ?_; simp only [z25]) | (refine Walk.oq ?_; try walk_nrm) | (refine Walk.un ?_; walk_nrm))
  refine Walk.callV (x := spP cb rb j) (W := K.w e) ?_ (ho_of (by conv => lhs; whnf) (by kernel_rfl)) (by rfl) (by decide) rfl Try.func38 (by kernel_rfl) (by rfl) ?_
  · walk_nrm
    exact hs
  walk_nrm
  repeat (first | refine Walk.cx ?_ | (refine Walk.cReg ?_; simp only [z25]) | (refine Walk.oq ?_; try walk_nrm) | (refine Walk.un ?_; walk_nrm))
  refine LW.callS (K := K.toLb) (e := e) (l := fr :: l) (f := 39) (Q := fun v e' => ∃ h : Kept K e e', Aft (Fz K e).toLb (fz0 K e) (.e2 j ls) ⟨e', h⟩ ∧ v = .int .i64 ((K.s e' : Sp) j)) ?_ (ho_of (by conv => lhs; whnf) (by kernel_rfl)) (by rfl) (by decide) rfl Try.func39 (by kernel_rfl) (by rfl) ⟨rfl, rfl, _, Try.func25⟩ (plain_cons hp hl) ?_
  · walk_nrm
    exact w1
  rintro v e1 ⟨hkept, ha, rfl⟩
  obtain ⟨hm1, hb1⟩ := hkept B hB
  have hT1 : Told (K.w e1) B m ls := by
    obtain ⟨arr, h1, h2⟩ := hT
    exact ⟨arr, hb1.trans h1, h2⟩
  have ht1 : K.tgt e1 = (K.s e1, if (K.s e1 : Sp) j ≠ n then .inl (false, 0) else dF m (j + 1) ls) := ha.tgt.trans (hact _)
  generalize (K.s e1 : Sp) j = x at *
  clear hact hs w1 hT c1 ha
  unfold LW
  walk_nrm
  by_cases h : x = n
  · subst h
    rw [if_neg (by simp)] at ht1
    have hih := fun u => ih e1 u hm1 hT1 ht1
    have hb : (x == x) = true := by simp
    have hb2 : (x != x) = false := by simp
    unfold LW at hih
    clear ih
    repeat (first | refine Walk.cx ?_ | (refine Walk.cReg ?_; simp only [z25]) | (refine Walk.oq ?_; try walk_nrm) | (refine Walk.un ?_; walk_nrm))
    refine Walk.ctl rfl (fun w => stepG_inLoop) ?_
    refine slots_walk (F := fun u => G (hdEven cb sv B m (j + 1) u) (fr :: (l ++ K.bot e1))) hih ?_
    simp only [hdEven]
    rfl
  · rw [if_pos h] at ht1
    have hb : (x == n) = false := by simp [h]
    have hb2 : (x != n) = true := by simp [h]
    have hkk := hk (.tuple #[.int .i64 0, .bool false]) e1 ⟨_, _, rfl, ht1⟩
    unfold LW at hkk
    clear ih
    repeat (first | refine Walk.cx ?_ | (refine Walk.cReg ?_; simp only [z25]) | (refine Walk.oq ?_; try walk_nrm) | (refine Walk.un ?_; walk_nrm))
    exact Walk.on2 rfl rfl Try.func25 rfl hkk
theorem even_end (K : Lg (spLa cb rb m ra rc) sv) (B : Nat) (ls : List Int) (hlen : ls.length = m) (fr : Frame) (l : List Frame) (hk : ∀ x e', EvenOut K x e' → LW K.toLb e' (G (fr.finish x) (l ++ K.bot e'))) (e : K.E) (u : Nat → Value) (hT : Told (K.w e) B m ls) (ht : K.tgt e = (K.s e, dF m m ls)) :
    LW K.toLb e (G (hdEven cb sv B m m u) (fr :: (l ++ K.bot e))) := by
  have hm := (K.inv e).pos.2
  have hj3 : decide (m < m) = false := by simp
  have ht0 : K.tgt e = (K.s e, .inl (true, sumZ ls)) := ht.trans (by unfold dF; rw [if_pos rfl]; rfl)
  have hs := sum_w (main := K.main) (V := K.V e) B m m ls hlen hm (K.w e) hT.cell
  have hkk := hk (.tuple #[.int .i64 (sumZ ls), .bool true]) e ⟨_, _, rfl, ht0⟩
  generalize sumZ ls = y at *
  unfold LW hdEven
  unfold LW at hkk
  repeat (first | refine Walk.cx ?_ | (refine Walk.cReg ?_; simp only [z25]) | (refine Walk.oq ?_; try walk_nrm) | (refine Walk.un ?_; walk_nrm))
  refine Walk.callV (x := .int .i64 y) (W := K.w e) ?_ (ho_of (by conv => lhs; whnf) (by kernel_rfl)) (by rfl) (by decide) rfl Try.func40 (by kernel_rfl) (by rfl) ?_
  · walk_nrm
    exact hs
  walk_nrm
  repeat (first | refine Walk.cx ?_ | (refine Walk.cReg ?_; simp only [z25]) | (refine Walk.oq ?_; try walk_nrm) | (refine Walk.un ?_; walk_nrm))
  exact Walk.on2 rfl rfl Try.func25 rfl hkk
theorem even_loop (K : Lg (spLa cb rb m ra rc) sv) (B : Nat) (ls : List Int) (hlen : ls.length = m) (fr : Frame) (l : List Frame) (hp : Plain fr) (hl : ∀ f ∈ l, Plain f) (hk : ∀ x e', EvenOut K x e' → LW K.toLb e' (G (fr.finish x) (l ++ K.bot e'))) :
    ∀ (r j : Nat) (e : K.E) (u : Nat → Value), j + r = m → K.mine e B → Told (K.w e) B m ls → K.tgt e = (K.s e, dF m j ls) → LW K.toLb e (G (hdEven cb sv B m j u) (fr :: (l ++ K.bot e))) := by
  intro r
  induction r with
  | zero =>
    intro j e u hj hB hT ht
    have hj' : j = m := by omega
    rw [hj'] at ht ⊢
    exact even_end K B ls hlen fr l hk e u hT ht
  | succ r ih =>
    intro j e u hj hB hT ht
    exact even_round K B ls hlen fr l hp hl hk j (by omega) e u hB hT ht fun e' u' hB' hT' ht' => ih (j + 1) e' u' (by omega) hB' hT' ht'
theorem even_s (K : Lg (spLa cb rb m ra rc) sv) (e : K.E) (ht : K.tgt e = (K.s e, dE m 0 [])) : SCall K.toLb 25 #[.pointer (some ⟨cb, 0, none⟩), sv] e (EvenOut K) := by
  intro fr l hp hl hk
  have hm0 := (K.inv e).pos.1
  have h1 := loadAll_s K (dE m) .e1 (fun k l hk => if_neg (by omega)) (fun _ _ _ => rfl) e ht
  have hlp := fun B ls hlen e' u hB hT ht' => even_loop K B ls hlen fr l hp hl hk m 0 e' u (by omega) hB hT ht'
  clear hk
  unfold LW
  have hp1 := fun w => run_eql_ptr (P := Try.prog) 35 undCtr (some ⟨cb, 0, none⟩) w
  have hp2 := fun w es => ev_eql_ptr (P := Try.prog) 35 undCtr (some ⟨cb, 0, none⟩) w es
  simp only [Option.isNone_some] at hp1
  rw [enter_at _ Try.func25 code25_is]
  simp only [Try.ntmps25, ez, Nat.reduceAdd, Nat.reduceSub]
  repeat (first | refine Walk.cx ?_ | (refine Walk.cReg ?_; simp only [z25]) | (refine Walk.oq ?_; try walk_nrm) | (refine Walk.un ?_; walk_nrm))
  refine LW.callS (K := K.toLb) (e := e) (l := fr :: l) (f := 36) (Q := EachOut K (dE m)) ?_ (ho_of (by conv => lhs; whnf) (by kernel_rfl)) (by rfl) (by decide) rfl Try.func36 (by kernel_rfl) (by rfl) ⟨rfl, rfl, _, Try.func25⟩ (plain_cons hp hl) ?_
  · walk_nrm
    exact h1
  rintro x e2 ⟨B, ls, rfl, hlen, hmB, hT, ht2⟩
  have ht3 : K.tgt e2 = (K.s e2, dF m 0 ls) := ht2.trans (by unfold dF dE; rw [if_pos rfl, if_neg (by omega)])
  have hh := fun u => hlp B ls hlen e2 u hmB hT ht3
  clear hlp h1
  unfold LW at hh ⊢
  walk_nrm
  repeat (first | refine Walk.cx ?_ | (refine Walk.cReg ?_; simp only [z25]) | (refine Walk.oq ?_; try walk_nrm) | (refine Walk.un ?_; walk_nrm))
  refine Walk.ctl rfl (fun w => stepG_loop) ?_
  refine slots_walk (F := fun u => G (hdEven cb sv B m 0 u) (fr :: (l ++ K.bot e2))) hh ?_
  simp only [hdEven]
  rfl
end
end
section
section
variable {cb rb m : Nat} {ra : Option Addr} {rc : Nat}
theorem cell_back {L : La} {sv : Value} (K : Lg L sv) {F : FuncId} {fn : Func} {e2 : K.E} {fr c : Frame} {l : List Frame} {R : Nat} {a : Ans} {Q : Value → K.E → Prop} (hm : K.mine e2 R) (hR : (K.w e2).heap[R]? = some (.cells #[.bool false, .int .i64 0, .slice none 0 0] 43))
    (ht : K.tgt e2 = (K.s e2, .inl a)) (hk : ∀ e', K.tgt e' = (K.s e', .inl a) → LW K.toLb e' (G (c.finish (ansVal a)) (l ++ K.bot e')))
    (hF : Try.prog.funcs[F]? = some fn) (hres : fn.results = #[.cell 8 43]) (hfr : fr.mode = .returning ∧ fr.kind = .normal ∧ fr.defers = [] ∧ fr.fn = F ∧ fr.tmps.getD 8 undef = .pointer (some ⟨R, 0, none⟩)) :
    Walk Try.prog K.main (DR (K.V e2)) (K.Stop e2) (G fr (c :: (l ++ K.bot e2))) ((K.w e2).setRow R #[.bool a.1, .int .i64 a.2, .slice none 0 0]) := by
  obtain ⟨h1, h2, h3, h4, h5⟩ := hfr
  obtain ⟨e3, m⟩ := K.own e2 (w' := (K.w e2).setRow R #[.bool a.1, .int .i64 a.2, .slice none 0 0]) (by rw [setRow_size]; exact Nat.le_refl _) (fun b _ hbm => setRow_other _ _ (fun he : b = R => hbm (by rw [he]; exact hm)))
  have c9 := setRow_self (cells := #[.bool a.1, .int .i64 a.2, .slice none 0 0]) hR
  refine Walk.onCell (T := R) h1 h2 h3 (by rw [h4]; exact hF) hres h5 c9 (by kernel_rfl) (by kernel_rfl) ?_
  refine LW.to m (hk e3 ?_)
  rw [m.tgt, m.s]
  exact ht
theorem spEnter_no (s : Sp) (o : OpV) (h1 : o.k ≠ 1) (h2 : o.k ≠ 2) (h3 : o.k ≠ 3) (h4 : o.k ≠ 4) (h5 : o.k ≠ 5) : spEnter m s o = (s, .inl (false, 0)) := by
  unfold spEnter
  rw [if_neg h1, if_neg h2, if_neg h3, if_neg h4, if_neg h5]
noncomputable def reg32_0 := rg Try.f32.body [0]
noncomputable def reg32_1 := rg Try.f32.body [1, 0, 0]
noncomputable def reg32_2 := rg Try.f32.body [1, 0, 1, 0, 0]
noncomputable def reg32_3 := rg Try.f32.body [1, 0, 1, 0, 1, 0, 0]
noncomputable def reg32_4 := rg Try.f32.body [1, 0, 1, 0, 1, 1, 0]
noncomputable def reg32_5 := rg Try.f32.body [1, 0, 1, 0, 1, 1, 1, 0, 0]
noncomputable def reg32_6 := rg Try.f32.body [1, 0, 1, 0, 1, 1, 1, 1, 0]
noncomputable def reg32_7 := rg Try.f32.body [1, 0, 1, 0, 1, 1, 1, 1, 1, 0, 0]
noncomputable def reg32_8 := rg Try.f32.body [1, 0, 1, 0, 1, 1, 1, 1, 1, 1, 0]
noncomputable def reg32_9 := rg Try.f32.body [1, 0, 1, 0, 1, 1, 1, 1, 1, 1, 1, 0, 0]
noncomputable def reg32_10 := rg Try.f32.body [1, 0, 1, 0, 1, 1, 1, 1, 1, 1, 1, 0, 1, 0]
noncomputable def reg32_11 := rg Try.f32.body [1, 0, 1, 0, 1, 1, 1, 1, 1, 1, 1, 1, 0]
noncomputable def reg32_12 := rg Try.f32.body [1, 0, 1, 0, 1, 1, 1, 1, 1, 1, 1, 1, 1, 0, 0]
noncomputable def reg32_13 := rg Try.f32.body [1, 0, 1, 0, 1, 1, 1, 1, 1, 1, 1, 1, 1, 0, 1, 0]
noncomputable def reg32_14 := rg Try.f32.body [1, 1, 0]
theorem z32 : List.range reg32_0.size = [0, 1] ∧ List.range reg32_1.size = [0, 1] ∧ List.range reg32_2.size = [0, 1] ∧ List.range reg32_3.size = [0, 1, 2, 3, 4, 5, 6, 7, 8] ∧ List.range reg32_4.size = [0, 1] ∧ List.range reg32_5.size = [0, 1, 2, 3, 4] ∧ List.range reg32_6.size = [0, 1] ∧ List.range reg32_7.size = [0, 1, 2, 3, 4] ∧ List.range reg32_8.size = [0, 1] ∧ List.range reg32_9.size = [0, 1, 2, 3, 4, 5, 6, 7, 8] ∧ List.range reg32_10.size = [0, 1] ∧ List.range reg32_11.size = [0, 1] ∧ List.range reg32_12.size = [0, 1, 2, 3, 4, 5, 6, 7] ∧ List.range reg32_13.size = [0, 1, 2, 3] ∧ List.range reg32_14.size = [0, 1] := by refine ⟨?_, ?_, ?_, ?_, ?_, ?_, ?_, ?_, ?_, ?_, ?_, ?_, ?_, ?_, ?_⟩ <;> kernel_rfl
theorem code32_is : Try.f32.body = some (.seq (.region 0 reg32_0 false) (.seq (.seq (.region 1 reg32_1 false) (.block 0 (.seq (.region 2 reg32_2 false) (.cond (.tmp 13 ) (.seq (.region 3 reg32_3 false) (.ret)) (.seq (.region 4 reg32_4 false) (.cond (.tmp 23 ) (.seq (.region 5 reg32_5 false) (.ret)) (.seq (.region 6 reg32_6 false) (.cond (.tmp 29 ) (.seq (.region 7 reg32_7 false) (.ret)) (.seq (.region 8 reg32_8 false) (.cond (.tmp 35 ) (.seq (.region 9 reg32_9 false) (.seq (.region 10 reg32_10 false) (.ret))) (.seq (.region 11 reg32_11 false) (.cond (.tmp 47 ) (.seq (.region 12 reg32_12 false) (.seq (.region 13 reg32_13 false) (.ret))) (.skip))))))))))))) (.seq (.region 14 reg32_14 false) (.ret)))) := by kernel_rfl
theorem sdo_s {sv : Value} (K : Lg (spLa cb rb m ra rc) sv) (e : K.E) (th ok oa ob oc : Int) (ht : K.tgt e = spEnter m (K.s e) ⟨ok, oa, ob, oc⟩) :
    SCall K.toLb 32 #[.pointer (some ⟨cb, 0, none⟩), sv, .int .i64 th, .agg #[.int .i64 ok, .int .i64 oa, .int .i64 ob, .int .i64 oc]] e (fun v e' => ∃ a, K.tgt e' = (K.s e', .inl a) ∧ v = ansVal a) := by
  intro fr l hp hl hk
  have hm0 := (K.inv e).pos.1
  unfold LW
  rw [enter_at _ Try.func32 code32_is]
  simp only [Try.ntmps32, ez, Nat.reduceAdd, Nat.reduceSub]
  repeat (first | refine Walk.cx ?_ | (refine Walk.cReg ?_; simp only [z32]) | (refine Walk.oq ?_; try walk_nrm) | (refine Walk.un ?_; walk_nrm))
  (refine Walk.oa ?_; try walk_nrm)
  (refine Walk.oa ?_; try walk_nrm)
  have hA1 : ((K.w e).alloc (.cells #[.int .i64 ok, .int .i64 oa, .int .i64 ob, .int .i64 oc] 46)).heap.size = (K.w e).heap.size + 1 := by simp
  have c1 : (((K.w e).alloc (.cells #[.int .i64 ok, .int .i64 oa, .int .i64 ob, .int .i64 oc] 46)).alloc (.cells #[.bool false, .int .i64 0, .slice none 0 0] 43)).heap[(K.w e).heap.size]? = some (.cells #[.int .i64 ok, .int .i64 oa, .int .i64 ob, .int .i64 oc] 46) := by
    rw [heap_new_lt _ _ (by omega)]
    exact heap_alloc_new _ _
  have c2 : (((K.w e).alloc (.cells #[.int .i64 ok, .int .i64 oa, .int .i64 ob, .int .i64 oc] 46)).alloc (.cells #[.bool false, .int .i64 0, .slice none 0 0] 43)).heap[(K.w e).heap.size + 1]? = some (.cells #[.bool false, .int .i64 0, .slice none 0 0] 43) := by
    have := heap_alloc_new ((K.w e).alloc (.cells #[.int .i64 ok, .int .i64 oa, .int .i64 ob, .int .i64 oc] 46)) (.cells #[.bool false, .int .i64 0, .slice none 0 0] 43)
    rwa [hA1] at this
  have hs2 : (((K.w e).alloc (.cells #[.int .i64 ok, .int .i64 oa, .int .i64 ob, .int .i64 oc] 46)).alloc (.cells #[.bool false, .int .i64 0, .slice none 0 0] 43)).heap.size = (K.w e).heap.size + 2 := by simp
  obtain ⟨e1, m1⟩ := K.grow e (w' := ((K.w e).alloc (.cells #[.int .i64 ok, .int .i64 oa, .int .i64 ob, .int .i64 oc] 46)).alloc (.cells #[.bool false, .int .i64 0, .slice none 0 0] 43)) (by omega) (fun b hb' => by
    rw [heap_new_lt _ _ (by omega)]
    exact heap_new_lt _ _ hb')
  try simp only [hA1]
  generalize hw2 : ((K.w e).alloc (.cells #[.int .i64 ok, .int .i64 oa, .int .i64 ob, .int .i64 oc] 46)).alloc (.cells #[.bool false, .int .i64 0, .slice none 0 0] 43) = w2 at *
  generalize hN : (K.w e).heap.size = N at *
  have hmn : K.mine e1 (N + 1) := m1.new (by omega) (by omega)
  have ht1 : K.tgt e1 = spEnter m (K.s e1) ⟨ok, oa, ob, oc⟩ := by rw [m1.tgt, m1.s]; exact ht
  have d0 := (cell_of c1 0).trans rfl
  have d1 := (cell_of c1 1).trans rfl
  have d2 := (cell_of c1 2).trans rfl
  have d3 := (cell_of c1 3).trans rfl
  have hw1 := m1.w
  refine LW.to (l := fr :: l) m1 ?_
  unfold LW
  clear hw2 m1 ht
  subst hw1
  have hapN := (K.mineA e1 _ hmn).1
  repeat (first | refine Walk.cx ?_ | (refine Walk.cReg ?_; simp only [z32]) | (refine Walk.oq ?_; try walk_nrm) | (refine Walk.un ?_; walk_nrm))
  by_cases h1 : ok = 1
  · subst h1
    have ht3 : K.tgt e1 = (K.s e1, .inr (.a1 (stAt m oa) ob)) := ht1
    repeat (first | refine Walk.cx ?_ | (refine Walk.cReg ?_; simp only [z32]) | (refine Walk.oq ?_; try walk_nrm) | (refine Walk.un ?_; walk_nrm))
    have hg := (SCall.fz K (sadd_s (Fz K e1) oa ob (.a1 (stAt m oa) ob) (fun y => .inl (true, y)) (fun _ => rfl) (fz0 K e1) ht3)).mono (Q' := fun x e' => Kept K e1 e' ∧ ∃ y, x = .int .i64 y ∧ K.tgt e' = (K.s e', .inl (true, y))) (fun v e' ⟨h, y, h1, h2⟩ => ⟨h, y, h1, h2⟩)
    refine LW.callS (K := K.toLb) (e := e1) (l := fr :: l) (f := 26) (Q := fun x e' => Kept K e1 e' ∧ ∃ y, x = .int .i64 y ∧ K.tgt e' = (K.s e', .inl (true, y))) ?_ (ho_of (by conv => lhs; whnf) (by kernel_rfl)) (by rfl) (by decide) rfl Try.func26 (by kernel_rfl) (by rfl) ⟨rfl, rfl, _, Try.func32⟩ (plain_cons hp hl) ?_
    · walk_nrm
      exact hg
    rintro x e2 ⟨hkept, y, rfl, ht4⟩
    obtain ⟨hm2, hb2⟩ := hkept (N + 1) hmn
    rw [c2] at hb2
    have hap2 := (K.mineA e2 _ hm2).1
    clear hg
    unfold LW
    walk_nrm
    repeat (first | refine Walk.cx ?_ | (refine Walk.cReg ?_; simp only [z32]) | (refine Walk.oq ?_; try walk_nrm) | (refine Walk.un ?_; walk_nrm))
    refine Walk.storeS 43 (.tmp 8) (.tmp 22) (ho_of (by conv => lhs; whnf) (by kernel_rfl)) (by rfl) (by decide) rfl (N + 1) #[.bool true, .int .i64 y, .slice none 0 0] _ 43 rfl rfl hb2 (by kernel_rfl) (by rfl) (by simp [Value.oneCell']) hap2 ?_
    walk_nrm
    repeat (first | refine Walk.cx ?_ | (refine Walk.cReg ?_; simp only [z32]) | (refine Walk.oq ?_; try walk_nrm) | (refine Walk.un ?_; walk_nrm))
    exact cell_back K (a := (true, y)) (Q := fun _ _ => True) hm2 hb2 ht4 (fun e' h => hk _ e' ⟨_, h, rfl⟩) Try.func32 rfl ⟨rfl, rfl, rfl, rfl, rfl⟩
  have hbk1 : (ok == 1) = false := by simp [h1]
  simp only [hbk1]
  repeat (first | refine Walk.cx ?_ | (refine Walk.cReg ?_; simp only [z32]) | (refine Walk.oq ?_; try walk_nrm) | (refine Walk.un ?_; walk_nrm))
  by_cases h2 : ok = 2
  · subst h2
    have ht3 : K.tgt e1 = (K.s e1, .inr (.u1 0 [])) := ht1
    repeat (first | refine Walk.cx ?_ | (refine Walk.cReg ?_; simp only [z32]) | (refine Walk.oq ?_; try walk_nrm) | (refine Walk.un ?_; walk_nrm))
    have ht4 : K.tgt e1 = (K.s e1, dU m 0 []) := ht3.trans (by unfold dU; rw [if_neg (by omega)]; rfl)
    have hg := (SCall.fz K (ssum_s (Fz K e1) (dU m) .u1 (fun k l hk => if_neg (by omega)) (fun _ _ _ => rfl) (fz0 K e1) ht4)).mono (Q' := fun x e' => Kept K e1 e' ∧ ∃ y, x = .int .i64 y ∧ K.tgt e' = (K.s e', .inl (true, y))) (fun v e' ⟨h, l, _, h1, h2⟩ => ⟨h, sumZ l, h1, h2.trans (by unfold dU; rw [if_pos rfl]; rfl)⟩)
    clear ht4
    refine LW.callS (K := K.toLb) (e := e1) (l := fr :: l) (f := 27) (Q := fun x e' => Kept K e1 e' ∧ ∃ y, x = .int .i64 y ∧ K.tgt e' = (K.s e', .inl (true, y))) ?_ (ho_of (by conv => lhs; whnf) (by kernel_rfl)) (by rfl) (by decide) rfl Try.func27 (by kernel_rfl) (by rfl) ⟨rfl, rfl, _, Try.func32⟩ (plain_cons hp hl) ?_
    · walk_nrm
      exact hg
    rintro x e2 ⟨hkept, y, rfl, ht4⟩
    obtain ⟨hm2, hb2⟩ := hkept (N + 1) hmn
    rw [c2] at hb2
    have hap2 := (K.mineA e2 _ hm2).1
    clear hg
    unfold LW
    walk_nrm
    repeat (first | refine Walk.cx ?_ | (refine Walk.cReg ?_; simp only [z32]) | (refine Walk.oq ?_; try walk_nrm) | (refine Walk.un ?_; walk_nrm))
    refine Walk.storeS 43 (.tmp 8) (.tmp 28) (ho_of (by conv => lhs; whnf) (by kernel_rfl)) (by rfl) (by decide) rfl (N + 1) #[.bool true, .int .i64 y, .slice none 0 0] _ 43 rfl rfl hb2 (by kernel_rfl) (by rfl) (by simp [Value.oneCell']) hap2 ?_
    walk_nrm
    repeat (first | refine Walk.cx ?_ | (refine Walk.cReg ?_; simp only [z32]) | (refine Walk.oq ?_; try walk_nrm) | (refine Walk.un ?_; walk_nrm))
    exact cell_back K (a := (true, y)) (Q := fun _ _ => True) hm2 hb2 ht4 (fun e' h => hk _ e' ⟨_, h, rfl⟩) Try.func32 rfl ⟨rfl, rfl, rfl, rfl, rfl⟩
  have hbk2 : (ok == 2) = false := by simp [h2]
  simp only [hbk2]
  repeat (first | refine Walk.cx ?_ | (refine Walk.cReg ?_; simp only [z32]) | (refine Walk.oq ?_; try walk_nrm) | (refine Walk.un ?_; walk_nrm))
  by_cases h3 : ok = 3
  · subst h3
    have ht3 : K.tgt e1 = (K.s e1, .inr (.t1 0 [])) := ht1
    repeat (first | refine Walk.cx ?_ | (refine Walk.cReg ?_; simp only [z32]) | (refine Walk.oq ?_; try walk_nrm) | (refine Walk.un ?_; walk_nrm))
    have ht4 : K.tgt e1 = (K.s e1, dT m 0 []) := ht3.trans (by unfold dT; rw [if_neg (by omega)]; rfl)
    have hg := (SCall.fz K (stake_s (Fz K e1) (fz0 K e1) ht4)).mono (Q' := fun x e' => Kept K e1 e' ∧ ∃ y, x = .int .i64 y ∧ K.tgt e' = (K.s e', .inl (true, y))) (fun v e' ⟨h, l, _, h1, h2⟩ => ⟨h, sumZ l, h1, h2.trans (by unfold dT; rw [if_pos rfl]; rfl)⟩)
    clear ht4
    refine LW.callS (K := K.toLb) (e := e1) (l := fr :: l) (f := 28) (Q := fun x e' => Kept K e1 e' ∧ ∃ y, x = .int .i64 y ∧ K.tgt e' = (K.s e', .inl (true, y))) ?_ (ho_of (by conv => lhs; whnf) (by kernel_rfl)) (by rfl) (by decide) rfl Try.func28 (by kernel_rfl) (by rfl) ⟨rfl, rfl, _, Try.func32⟩ (plain_cons hp hl) ?_
    · walk_nrm
      exact hg
    rintro x e2 ⟨hkept, y, rfl, ht4⟩
    obtain ⟨hm2, hb2⟩ := hkept (N + 1) hmn
    rw [c2] at hb2
    have hap2 := (K.mineA e2 _ hm2).1
    clear hg
    unfold LW
    walk_nrm
    repeat (first | refine Walk.cx ?_ | (refine Walk.cReg ?_; simp only [z32]) | (refine Walk.oq ?_; try walk_nrm) | (refine Walk.un ?_; walk_nrm))
    refine Walk.storeS 43 (.tmp 8) (.tmp 34) (ho_of (by conv => lhs; whnf) (by kernel_rfl)) (by rfl) (by decide) rfl (N + 1) #[.bool true, .int .i64 y, .slice none 0 0] _ 43 rfl rfl hb2 (by kernel_rfl) (by rfl) (by simp [Value.oneCell']) hap2 ?_
    walk_nrm
    repeat (first | refine Walk.cx ?_ | (refine Walk.cReg ?_; simp only [z32]) | (refine Walk.oq ?_; try walk_nrm) | (refine Walk.un ?_; walk_nrm))
    exact cell_back K (a := (true, y)) (Q := fun _ _ => True) hm2 hb2 ht4 (fun e' h => hk _ e' ⟨_, h, rfl⟩) Try.func32 rfl ⟨rfl, rfl, rfl, rfl, rfl⟩
  have hbk3 : (ok == 3) = false := by simp [h3]
  simp only [hbk3]
  repeat (first | refine Walk.cx ?_ | (refine Walk.cReg ?_; simp only [z32]) | (refine Walk.oq ?_; try walk_nrm) | (refine Walk.un ?_; walk_nrm))
  by_cases h4 : ok = 4
  · subst h4
    have ht3 : K.tgt e1 = (K.s e1, .inr (.m1 (stAt m oa) (stAt m ob) oc)) := ht1
    repeat (first | refine Walk.cx ?_ | (refine Walk.cReg ?_; simp only [z32]) | (refine Walk.oq ?_; try walk_nrm) | (refine Walk.un ?_; walk_nrm))
    have hg := (SCall.fz K (smove_s (Fz K e1) oa ob oc (fz0 K e1) ht3)).mono (Q' := fun x e' => Kept K e1 e' ∧ K.tgt e' = (K.s e', .inl (true, 0))) (fun v e' ⟨h, h2⟩ => ⟨h, h2⟩)
    refine LW.callS (K := K.toLb) (e := e1) (l := fr :: l) (f := 35) (Q := fun x e' => Kept K e1 e' ∧ K.tgt e' = (K.s e', .inl (true, 0))) ?_ (ho_of (by conv => lhs; whnf) (by kernel_rfl)) (by rfl) (by decide) rfl Try.func35 (by kernel_rfl) (by rfl) ⟨rfl, rfl, _, Try.func32⟩ (plain_cons hp hl) ?_
    · walk_nrm
      exact hg
    rintro x e2 ⟨hkept, ht4⟩
    obtain ⟨hm2, hb2⟩ := hkept (N + 1) hmn
    rw [c2] at hb2
    have hap2 := (K.mineA e2 _ hm2).1
    clear hg
    unfold LW
    walk_nrm
    repeat (first | refine Walk.cx ?_ | (refine Walk.cReg ?_; simp only [z32]) | (refine Walk.oq ?_; try walk_nrm) | (refine Walk.un ?_; walk_nrm))
    refine Walk.storeS 43 (.tmp 8) (.tmp 46) (ho_of (by conv => lhs; whnf) (by kernel_rfl)) (by rfl) (by decide) rfl (N + 1) #[.bool true, .int .i64 0, .slice none 0 0] _ 43 rfl rfl hb2 (by kernel_rfl) (by rfl) (by simp [Value.oneCell']) hap2 ?_
    walk_nrm
    repeat (first | refine Walk.cx ?_ | (refine Walk.cReg ?_; simp only [z32]) | (refine Walk.oq ?_; try walk_nrm) | (refine Walk.un ?_; walk_nrm))
    exact cell_back K (a := (true, 0)) (Q := fun _ _ => True) hm2 hb2 ht4 (fun e' h => hk _ e' ⟨_, h, rfl⟩) Try.func32 rfl ⟨rfl, rfl, rfl, rfl, rfl⟩
  have hbk4 : (ok == 4) = false := by simp [h4]
  simp only [hbk4]
  repeat (first | refine Walk.cx ?_ | (refine Walk.cReg ?_; simp only [z32]) | (refine Walk.oq ?_; try walk_nrm) | (refine Walk.un ?_; walk_nrm))
  by_cases h5 : ok = 5
  · subst h5
    have ht3 : K.tgt e1 = (K.s e1, .inr (.e1 0 [])) := ht1
    repeat (first | refine Walk.cx ?_ | (refine Walk.cReg ?_; simp only [z32]) | (refine Walk.oq ?_; try walk_nrm) | (refine Walk.un ?_; walk_nrm))
    have ht4 : K.tgt e1 = (K.s e1, dE m 0 []) := ht3.trans (by unfold dE; rw [if_neg (by omega)]; rfl)
    have hg := (SCall.fz K (even_s (Fz K e1) (fz0 K e1) ht4)).mono (Q' := fun x e' => Kept K e1 e' ∧ ∃ b y, x = .tuple #[.int .i64 y, .bool b] ∧ K.tgt e' = (K.s e', .inl (b, y))) (fun v e' ⟨h, b, y, h1, h2⟩ => ⟨h, b, y, h1, h2⟩)
    clear ht4
    refine LW.callS (K := K.toLb) (e := e1) (l := fr :: l) (f := 25) (Q := fun x e' => Kept K e1 e' ∧ ∃ b y, x = .tuple #[.int .i64 y, .bool b] ∧ K.tgt e' = (K.s e', .inl (b, y))) ?_ (ho_of (by conv => lhs; whnf) (by kernel_rfl)) (by rfl) (by decide) rfl Try.func25 (by kernel_rfl) (by rfl) ⟨rfl, rfl, _, Try.func32⟩ (plain_cons hp hl) ?_
    · walk_nrm
      exact hg
    rintro x e2 ⟨hkept, b, y, rfl, ht4⟩
    obtain ⟨hm2, hb2⟩ := hkept (N + 1) hmn
    rw [c2] at hb2
    have hap2 := (K.mineA e2 _ hm2).1
    clear hg
    unfold LW
    walk_nrm
    repeat (first | refine Walk.cx ?_ | (refine Walk.cReg ?_; simp only [z32]) | (refine Walk.oq ?_; try walk_nrm) | (refine Walk.un ?_; walk_nrm))
    refine Walk.storeS 43 (.tmp 8) (.tmp 57) (ho_of (by conv => lhs; whnf) (by kernel_rfl)) (by rfl) (by decide) rfl (N + 1) #[.bool b, .int .i64 y, .slice none 0 0] _ 43 rfl rfl hb2 (by kernel_rfl) (by rfl) (by simp [Value.oneCell']) hap2 ?_
    walk_nrm
    repeat (first | refine Walk.cx ?_ | (refine Walk.cReg ?_; simp only [z32]) | (refine Walk.oq ?_; try walk_nrm) | (refine Walk.un ?_; walk_nrm))
    exact cell_back K (a := (b, y)) (Q := fun _ _ => True) hm2 hb2 ht4 (fun e' h => hk _ e' ⟨_, h, rfl⟩) Try.func32 rfl ⟨rfl, rfl, rfl, rfl, rfl⟩
  have hbk5 : (ok == 5) = false := by simp [h5]
  simp only [hbk5]
  repeat (first | refine Walk.cx ?_ | (refine Walk.cReg ?_; simp only [z32]) | (refine Walk.oq ?_; try walk_nrm) | (refine Walk.un ?_; walk_nrm))
  have ht3 : K.tgt e1 = (K.s e1, .inl (false, 0)) := ht1.trans (spEnter_no _ _ h1 h2 h3 h4 h5)
  repeat (first | refine Walk.cx ?_ | (refine Walk.cReg ?_; simp only [z32]) | (refine Walk.oq ?_; try walk_nrm) | (refine Walk.un ?_; walk_nrm))
  refine Walk.storeS 43 (.tmp 8) (.tmp 58) (ho_of (by conv => lhs; whnf) (by kernel_rfl)) (by rfl) (by decide) rfl (N + 1) #[.bool false, .int .i64 0, .slice none 0 0] _ 43 rfl rfl c2 (by kernel_rfl) (by rfl) (by simp [Value.oneCell']) hapN ?_
  walk_nrm
  repeat (first | refine Walk.cx ?_ | (refine Walk.cReg ?_; simp only [z32]) | (refine Walk.oq ?_; try walk_nrm) | (refine Walk.un ?_; walk_nrm))
  exact cell_back K (a := (false, 0)) (Q := fun _ _ => True) hmn c2 ht3 (fun e' h => hk _ e' ⟨_, h, rfl⟩) Try.func32 rfl ⟨rfl, rfl, rfl, rfl, rfl⟩
theorem sdo_ok : DoFn (spLa cb rb m ra rc) 32 #[.pointer (some ⟨cb, 0, none⟩)] #[] :=
  ⟨⟨_, Try.func32, by kernel_rfl, by rfl⟩, fun sv K e th op ht => sdo_s K e th op.k op.a op.b op.c ht⟩
end
end
end Go.Proofs.Ytnnakajldnaldaa
