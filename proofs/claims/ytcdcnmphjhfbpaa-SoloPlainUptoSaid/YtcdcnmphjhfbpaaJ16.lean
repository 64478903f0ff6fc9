/- Part 16. -/
import Derived.Test.YtcdcnmphjhfbpaaJ15
set_option linter.unusedSimpArgs false
set_option linter.unusedVariables false
set_option linter.unusedVariables false
set_option maxHeartbeats 8000000
set_option maxRecDepth 100000
namespace Go.Proofs.Ytcdcnmphjhfbpaa
open Go.Conc Go.RowKit Go.Relay
open Go.ConcN (upd upd_ne upd_same)
section
noncomputable def reg131_0 := rg Try.f131.body [0]
noncomputable def reg131_1 := rg Try.f131.body [1, 0]
noncomputable def reg131_2 := rg Try.f131.body [1, 1, 0, 0]
noncomputable def reg131_3 := rg Try.f131.body [1, 1, 0, 1, 0]
noncomputable def reg131_4 := rg Try.f131.body [1, 1, 1, 0]
theorem z131 : List.range reg131_0.size = [0] ∧ List.range reg131_1.size = [0, 1, 2, 3] ∧ List.range reg131_2.size = [0, 1, 2, 3, 4, 5] ∧ List.range reg131_3.size = [0, 1, 2, 3, 4, 5, 6] ∧ List.range reg131_4.size = [0, 1, 2, 3, 4, 5, 6] := by refine ⟨?_, ?_, ?_, ?_, ?_⟩ <;> kernel_rfl
theorem code131_is : Try.f131.body = some (.seq (.region 0 reg131_0 false) (.seq (.region 1 reg131_1 false) (.seq (.seq (.region 2 reg131_2 false) (.cond (.tmp 16 ) (.region 3 reg131_3 false) (.skip))) (.seq (.region 4 reg131_4 false) (.ret))))) := by kernel_rfl
noncomputable def reg96_0 := rg Try.f96.body [0]
noncomputable def reg96_1 := rg Try.f96.body [1, 0, 0]
noncomputable def reg96_2 := rg Try.f96.body [1, 0, 1, 0, 0]
noncomputable def reg96_3 := rg Try.f96.body [1, 1, 0]
noncomputable def reg96_4 := rg Try.f96.body [1, 1, 1, 0]
theorem size96_4 : reg96_4.size = 12 := by kernel_rfl
noncomputable def reg96_5 := rg Try.f96.body [1, 1, 1, 1, 0, 0]
noncomputable def reg96_6 := rg Try.f96.body [1, 1, 1, 1, 0, 1, 0, 0]
noncomputable def reg96_7 := rg Try.f96.body [1, 1, 1, 1, 1, 0, 0]
noncomputable def reg96_8 := rg Try.f96.body [1, 1, 1, 1, 1, 0, 1, 0, 0]
noncomputable def reg96_9 := rg Try.f96.body [1, 1, 1, 1, 1, 1, 0]
noncomputable def reg96_10 := rg Try.f96.body [1, 1, 1, 1, 1, 1, 1, 0]
theorem z96 : List.range reg96_0.size = [0, 1] ∧ List.range reg96_1.size = [0, 1, 2, 3, 4, 5, 6, 7] ∧ List.range reg96_2.size = [0, 1] ∧ List.range reg96_3.size = [0, 1, 2, 3] ∧ List.range reg96_4.size = [0, 1, 2, 3, 4, 5, 6, 7, 8, 9, 10, 11] ∧ List.range reg96_5.size = [0, 1] ∧ List.range reg96_6.size = [0, 1] ∧ List.range reg96_7.size = [0, 1, 2, 3, 4, 5, 6, 7, 8] ∧ List.range reg96_8.size = [0, 1] ∧ List.range reg96_9.size = [0, 1, 2, 3, 4] ∧ List.range reg96_10.size = [0, 1, 2] := by refine ⟨?_, ?_, ?_, ?_, ?_, ?_, ?_, ?_, ?_, ?_, ?_⟩ <;> kernel_rfl
theorem code96_is : Try.f96.body = some (.seq (.region 0 reg96_0 false) (.seq (.seq (.region 1 reg96_1 false) (.cond (.tmp 18 ) (.seq (.region 2 reg96_2 false) (.ret)) (.skip))) (.seq (.region 3 reg96_3 false) (.seq (.region 4 reg96_4 true) (.seq (.seq (.region 5 reg96_5 false) (.cond (.tmp 33 ) (.seq (.region 6 reg96_6 false) (.ret)) (.skip))) (.seq (.seq (.region 7 reg96_7 false) (.cond (.tmp 42 ) (.seq (.region 8 reg96_8 false) (.ret)) (.skip))) (.seq (.region 9 reg96_9 false) (.seq (.region 10 reg96_10 false) (.ret))))))))) := by kernel_rfl
section
variable {rb sb n ob qb m : Nat} {sv : Value}
def FdOut (K : Lg (soLa rb sb n ob qb m) sv) (f c : Int) (t : Option (Nat × (Nat → Int))) (v : Value) (e' : K.E) : Prop := (v = .bool true ∧ K.tgt e' = soTake (K.s e') f c t) ∨ (v = .bool false ∧ K.tgt e' = (K.s e', .inl ⟨false, 3, []⟩))
theorem finished_s (K : Lg (soLa rb sb n ob qb m) sv) (e : K.E) (f c q : Int) (hq : f + c - 1 - n = q) (t : Option (Nat × (Nat → Int))) (ht : K.tgt e = soFind n m (K.s e) f c t) : SCall K.toLb 131 #[.pointer (some ⟨ob, 0, none⟩), sv, .int .i64 q] e (FdOut K f c t) := by
  intro fr l hp hl hk
  have I : SoI rb sb n ob qb m (K.s e) (K.w e) := K.inv e
  have c5 : (K.w e).cell? ⟨ob, 5, none⟩ = some (.int .i64 (K.s e : So).ca) := (cell_of I.ob 5).trans rfl
  unfold soFind at ht
  rw [hq] at ht
  generalize hca : (K.s e : So).ca = ca at *
  clear I
  unfold LW
  rw [enter_at _ Try.func131 code131_is]
  simp only [Try.ntmps131, ez, Nat.reduceAdd, Nat.reduceSub]
  by_cases h1 : ca < q
  · have g1 : decide (ca < q) = true := by simp [h1]
    rw [if_pos h1] at ht
    have w1 := least_s K e f c t ht
    clear hca ht
    repeat (first | refine Walk.cx ?_ | (refine Walk.cReg ?_; simp only [z131]) | (refine Walk.oq ?_; try walk_nrm) | (refine Walk.un ?_; walk_nrm))
    clear c5
    refine LW.callS (K := K.toLb) (e := e) (l := fr :: l) (f := 164) (Q := LeOut K f c t) ?_ (ho_of (by conv => lhs; whnf) (by kernel_rfl)) (by rfl) (by decide) rfl Try.func164 (by kernel_rfl) (by rfl) ⟨rfl, rfl, _, Try.func131⟩ (plain_cons hp hl) ?_
    · walk_nrm
      exact w1
    rintro v e1 ⟨z, rfl, t1⟩
    have I1 : SoI rb sb n ob qb m (K.s e1) (K.w e1) := K.inv e1
    have c1 : (K.w e1).cell? ⟨ob, 5, none⟩ = some (.int .i64 (K.s e1 : So).ca) := (cell_of I1.ob 5).trans rfl
    have z1 : (K.w e1).frozen? ⟨ob, 5, none⟩ = false := frozen_of I1.ob 5
    have hap := (K.shA e1 ob (.inr (.inr (.inl rfl)))).1 ⟨ob, 5, none⟩ rfl
    obtain ⟨e2, m2⟩ := SoI.plain e1 (soCa (K.s e1) z) ob 5 (.int .i64 z) (.inr (.inr (.inl rfl))) (I1.setA z)
    have I2 : SoI rb sb n ob qb m (soCa (K.s e1) z) (K.w e2) := by have h := K.inv e2; rw [m2.s] at h; exact h
    have c2 : (K.w e2).cell? ⟨ob, 5, none⟩ = some (.int .i64 z) := (cell_of I2.ob 5).trans rfl
    have ta : z < q → K.tgt e2 = (K.s e2, .inl ⟨false, 3, []⟩) := fun h => by
      rw [m2.tgt, m2.s, t1]
      exact if_pos (by omega)
    have tb : ¬ z < q → K.tgt e2 = soTake (K.s e2) f c t := fun h => by
      rw [m2.tgt, m2.s, t1]
      exact if_neg (by omega)
    clear w1 I1 I2 t1
    unfold LW
    walk_nrm
    repeat (first | refine Walk.cx ?_ | (refine Walk.cReg ?_; simp only [z131]) | (refine Walk.oq ?_; try walk_nrm) | (refine Walk.un ?_; walk_nrm))
    (refine Walk.os hap c1 ?_; try walk_nrm)
    refine LW.to (l := fr :: l) m2 ?_
    clear c1 z1 hap
    by_cases h2 : z < q
    · have t2 := ta h2
      clear ta tb
      have g2 : decide (q ≤ z) = false := by simp; omega
      have hkk := hk (.bool false) e2 (.inr ⟨rfl, t2⟩)
      unfold LW at hkk ⊢
      repeat (first | refine Walk.cx ?_ | (refine Walk.cReg ?_; simp only [z131]) | (refine Walk.oq ?_; try walk_nrm) | (refine Walk.un ?_; walk_nrm))
      exact Walk.on1 rfl rfl Try.func131 rfl hkk
    · have t2 := tb h2
      clear ta tb
      have g2 : decide (q ≤ z) = true := by simp; omega
      have hkk := hk (.bool true) e2 (.inl ⟨rfl, t2⟩)
      unfold LW at hkk ⊢
      repeat (first | refine Walk.cx ?_ | (refine Walk.cReg ?_; simp only [z131]) | (refine Walk.oq ?_; try walk_nrm) | (refine Walk.un ?_; walk_nrm))
      exact Walk.on1 rfl rfl Try.func131 rfl hkk
  · have g1 : decide (ca < q) = false := by simp [h1]
    have g2 : decide (q ≤ ca) = true := by simp; omega
    rw [if_neg h1] at ht
    have hkk := hk (.bool true) e (.inl ⟨rfl, ht⟩)
    clear hca ht
    unfold LW at hkk
    repeat (first | refine Walk.cx ?_ | (refine Walk.cReg ?_; simp only [z131]) | (refine Walk.oq ?_; try walk_nrm) | (refine Walk.un ?_; walk_nrm))
    exact Walk.on1 rfl rfl Try.func131 rfl hkk
def ClOut (K : Lg (soLa rb sb n ob qb m) sv) (c : Int) (t : Option (Nat × (Nat → Int))) (v : Value) (e' : K.E) : Prop := ∃ a er, v = .tuple #[.int .i64 a, .int .i64 er] ∧ ((er = 0 ∧ K.tgt e' = (K.s e', soThen (K.s e') a t) ∧ 0 ≤ a ∧ a + c ≤ 4611686018427387904 ∧ 1 ≤ c ∧ c ≤ n) ∨ (er ≠ 0 ∧ a = 0 ∧ K.tgt e' = (K.s e', .inl ⟨false, er, []⟩)))
theorem claim_bad (K : Lg (soLa rb sb n ob qb m) sv) (e : K.E) (c : Int) (t : Option (Nat × (Nat → Int))) (hc : c < 1 ∨ (n : Int) < c) (ht : K.tgt e = (K.s e, .inl ⟨false, 1, []⟩)) : SCall K.toLb 96 #[.pointer (some ⟨ob, 0, none⟩), sv, .int .i64 c] e (ClOut K c t) := by
  intro fr l hp hl hk
  have hsz := osize_w (main := K.main) (V := K.V e) (K.w e) (K.inv e)
  have hkk := hk (.tuple #[.int .i64 0, .int .i64 1]) e ⟨0, 1, rfl, .inr ⟨by decide, rfl, ht⟩⟩
  unfold LW at hkk ⊢
  rw [enter_at _ Try.func96 code96_is]
  simp only [Try.ntmps96, ez, Nat.reduceAdd, Nat.reduceSub]
  by_cases h1 : c < 1
  · have g1 : decide (c < 1) = true := by simp; omega
    repeat (first | refine Walk.cx ?_ | (refine Walk.cReg ?_; simp only [z96]) | (refine Walk.oq ?_; try walk_nrm) | (refine Walk.un ?_; walk_nrm))
    exact Walk.on2 rfl rfl Try.func96 rfl hkk
  · have g1 : decide (c < 1) = false := by simp; omega
    have g2 : decide ((n : Int) < c) = true := by simp; omega
    repeat (first | refine Walk.cx ?_ | (refine Walk.cReg ?_; simp only [z96]) | (refine Walk.oq ?_; try walk_nrm) | (refine Walk.un ?_; walk_nrm))
    refine Walk.callV (x := .int .i64 (n : Nat)) (W := K.w e) ?_ (ho_of (by conv => lhs; whnf) (by kernel_rfl)) (by rfl) (by decide) rfl Try.func39 (by kernel_rfl) (by rfl) ?_
    · walk_nrm
      exact hsz
    walk_nrm
    repeat (first | refine Walk.cx ?_ | (refine Walk.cReg ?_; simp only [z96]) | (refine Walk.oq ?_; try walk_nrm) | (refine Walk.un ?_; walk_nrm))
    exact Walk.on2 rfl rfl Try.func96 rfl hkk
theorem claim_far (K : Lg (soLa rb sb n ob qb m) sv) (e : K.E) (c : Int) (t : Option (Nat × (Nat → Int))) (h1 : 1 ≤ c) (h2 : c ≤ n) (h3 : 4611686018427387904 < (K.s e : So).nx + c) (ht : K.tgt e = (K.s e, .inl ⟨false, 8, []⟩)) : SCall K.toLb 96 #[.pointer (some ⟨ob, 0, none⟩), sv, .int .i64 c] e (ClOut K c t) := by
  intro fr l hp hl hk
  have I : SoI rb sb n ob qb m (K.s e) (K.w e) := K.inv e
  have hn := I.ring.pos
  have hnx := I.bd.nx
  have hsz := osize_w (main := K.main) (V := K.V e) (K.w e) I
  have c3 : (K.w e).cell? ⟨ob, 3, none⟩ = some (.int .i64 (K.s e : So).nx) := (cell_of I.ob 3).trans rfl
  have hkk := hk (.tuple #[.int .i64 0, .int .i64 8]) e ⟨0, 8, rfl, .inr ⟨by decide, rfl, ht⟩⟩
  generalize (K.s e : So).nx = nx at *
  have g1 : decide (c < 1) = false := by simp; omega
  have g2 : decide ((n : Int) < c) = false := by simp; omega
  have g3 : decide (4611686018427387904 < nx + c) = true := by simp; omega
  have hw : IntKind.i64.wrap (nx + c) = nx + c := by rw [IntKind.wrap_i64]; omega
  have hcw : IntKind.i64.wrap c = c := by rw [IntKind.wrap_i64]; omega
  clear I ht hnx h3
  unfold LW at hkk ⊢
  rw [enter_at _ Try.func96 code96_is]
  simp only [Try.ntmps96, ez, Nat.reduceAdd, Nat.reduceSub]
  repeat (first | refine Walk.cx ?_ | (refine Walk.cReg ?_; simp only [z96]) | (refine Walk.oq ?_; try walk_nrm) | (refine Walk.un ?_; walk_nrm))
  refine Walk.callV (x := .int .i64 (n : Nat)) (W := K.w e) ?_ (ho_of (by conv => lhs; whnf) (by kernel_rfl)) (by rfl) (by decide) rfl Try.func39 (by kernel_rfl) (by rfl) ?_
  · walk_nrm
    exact hsz
  walk_nrm
  repeat (first | refine Walk.cx ?_ | (refine Walk.cReg ?_; simp only [z96]) | (refine Walk.oq ?_; try walk_nrm) | (refine Walk.un ?_; walk_nrm))
  (refine Walk.drawnCW (by kernel_rfl) size96_4 (by kernel_rfl) (by kernel_rfl) (by decide) ?_; simp only [List.range, List.range.loop]; repeat (first | (refine Cm.oq ?_) | (refine Cm.unw (ho_of (by conv => lhs; whnf) (by kernel_rfl)) (by rfl) ?_; walk_nrm)))
  refine Cm.done ?_
  repeat (first | refine Walk.cx ?_ | (refine Walk.cReg ?_; simp only [z96]) | (refine Walk.oq ?_; try walk_nrm) | (refine Walk.un ?_; walk_nrm))
  exact Walk.on2 rfl rfl Try.func96 rfl hkk
theorem claim_go (K : Lg (soLa rb sb n ob qb m) sv) (e : K.E) (c : Int) (t : Option (Nat × (Nat → Int))) (h1 : 1 ≤ c) (h2 : c ≤ n) (h3 : ¬ 4611686018427387904 < (K.s e : So).nx + c) (ht : K.tgt e = soFind n m (K.s e) (K.s e : So).nx c t) : SCall K.toLb 96 #[.pointer (some ⟨ob, 0, none⟩), sv, .int .i64 c] e (ClOut K c t) := by
  intro fr l hp hl hk
  have I : SoI rb sb n ob qb m (K.s e) (K.w e) := K.inv e
  have hn := I.ring.pos
  have hnx := I.bd.nx
  have hsz := osize_w (main := K.main) (V := K.V e) (K.w e) I
  have c3 : (K.w e).cell? ⟨ob, 3, none⟩ = some (.int .i64 (K.s e : So).nx) := (cell_of I.ob 3).trans rfl
  generalize (K.s e : So).nx = nx at *
  have w1 := finished_s K e nx c (nx + c - 1 - n) rfl t ht
  have g1 : decide (c < 1) = false := by simp; omega
  have g2 : decide ((n : Int) < c) = false := by simp; omega
  have g3 : decide (4611686018427387904 < nx + c) = false := by simp; omega
  have hw : IntKind.i64.wrap (nx + c) = nx + c := by rw [IntKind.wrap_i64]; omega
  have hcw : IntKind.i64.wrap c = c := by rw [IntKind.wrap_i64]; omega
  have hw1 : IntKind.i64.wrap (nx + c - 1) = nx + c - 1 := by rw [IntKind.wrap_i64]; omega
  have hw2 : IntKind.i64.wrap (nx + c - 1 - (n : Int)) = nx + c - 1 - n := by rw [IntKind.wrap_i64]; omega
  have hbd : 0 ≤ nx + c ∧ nx + c ≤ 4611686018427387904 := by omega
  clear I ht h3
  unfold LW
  rw [enter_at _ Try.func96 code96_is]
  simp only [Try.ntmps96, ez, Nat.reduceAdd, Nat.reduceSub]
  repeat (first | refine Walk.cx ?_ | (refine Walk.cReg ?_; simp only [z96]) | (refine Walk.oq ?_; try walk_nrm) | (refine Walk.un ?_; walk_nrm))
  refine Walk.callV (x := .int .i64 (n : Nat)) (W := K.w e) ?_ (ho_of (by conv => lhs; whnf) (by kernel_rfl)) (by rfl) (by decide) rfl Try.func39 (by kernel_rfl) (by rfl) ?_
  · walk_nrm
    exact hsz
  walk_nrm
  repeat (first | refine Walk.cx ?_ | (refine Walk.cReg ?_; simp only [z96]) | (refine Walk.oq ?_; try walk_nrm) | (refine Walk.un ?_; walk_nrm))
  (refine Walk.drawnCW (by kernel_rfl) size96_4 (by kernel_rfl) (by kernel_rfl) (by decide) ?_; simp only [List.range, List.range.loop]; repeat (first | (refine Cm.oq ?_) | (refine Cm.unw (ho_of (by conv => lhs; whnf) (by kernel_rfl)) (by rfl) ?_; walk_nrm)))
  refine Cm.done ?_
  clear c3
  repeat (first | refine Walk.cx ?_ | (refine Walk.cReg ?_; simp only [z96]) | (refine Walk.oq ?_; try walk_nrm) | (refine Walk.un ?_; walk_nrm))
  refine Walk.callV (x := .int .i64 (n : Nat)) (W := K.w e) ?_ (ho_of (by conv => lhs; whnf) (by kernel_rfl)) (by rfl) (by decide) rfl Try.func39 (by kernel_rfl) (by rfl) ?_
  · walk_nrm
    exact hsz
  walk_nrm
  clear hsz
  repeat (first | refine Walk.cx ?_ | (refine Walk.cReg ?_; simp only [z96]) | (refine Walk.oq ?_; try walk_nrm) | (refine Walk.un ?_; walk_nrm))
  refine LW.callS (K := K.toLb) (e := e) (l := fr :: l) (f := 131) (Q := FdOut K nx c t) ?_ (ho_of (by conv => lhs; whnf) (by kernel_rfl)) (by rfl) (by decide) rfl Try.func131 (by kernel_rfl) (by rfl) ⟨rfl, rfl, _, Try.func96⟩ (plain_cons hp hl) ?_
  · walk_nrm
    exact w1
  clear w1 hw1 hw2 hw hcw
  rintro v e1 (⟨rfl, t1⟩ | ⟨rfl, t1⟩)
  · have I1 : SoI rb sb n ob qb m (K.s e1) (K.w e1) := K.inv e1
    have c1 : (K.w e1).cell? ⟨ob, 3, none⟩ = some (.int .i64 (K.s e1 : So).nx) := (cell_of I1.ob 3).trans rfl
    have z1 : (K.w e1).frozen? ⟨ob, 3, none⟩ = false := frozen_of I1.ob 3
    have hap := (K.shA e1 ob (.inr (.inr (.inl rfl)))).1 ⟨ob, 3, none⟩ rfl
    obtain ⟨e2, m2⟩ := SoI.plain e1 (soNx (K.s e1) (nx + c)) ob 3 (.int .i64 (nx + c)) (.inr (.inr (.inl rfl))) (I1.setX hbd)
    have t2 : K.tgt e2 = (K.s e2, soThen (K.s e2) nx t) := by
      rw [m2.tgt, m2.s, t1]
      rfl
    have hkk := hk (.tuple #[.int .i64 nx, .int .i64 0]) e2 ⟨nx, 0, rfl, .inl ⟨rfl, t2, hnx.1, hbd.2, h1, h2⟩⟩
    clear t1 t2 I1
    generalize nx + c = bh at *
    unfold LW at hkk ⊢
    walk_nrm
    repeat (first | refine Walk.cx ?_ | (refine Walk.cReg ?_; simp only [z96]) | (refine Walk.oq ?_; try walk_nrm) | (refine Walk.un ?_; walk_nrm))
    (refine Walk.os hap c1 ?_; try walk_nrm)
    refine LW.to (l := fr :: l) m2 ?_
    unfold LW
    repeat (first | refine Walk.cx ?_ | (refine Walk.cReg ?_; simp only [z96]) | (refine Walk.oq ?_; try walk_nrm) | (refine Walk.un ?_; walk_nrm))
    exact Walk.on2 rfl rfl Try.func96 rfl hkk
  · have hkk := hk (.tuple #[.int .i64 0, .int .i64 3]) e1 ⟨0, 3, rfl, .inr ⟨by decide, rfl, t1⟩⟩
    unfold LW at hkk ⊢
    walk_nrm
    repeat (first | refine Walk.cx ?_ | (refine Walk.cReg ?_; simp only [z96]) | (refine Walk.oq ?_; try walk_nrm) | (refine Walk.un ?_; walk_nrm))
    exact Walk.on2 rfl rfl Try.func96 rfl hkk
theorem claim_s (K : Lg (soLa rb sb n ob qb m) sv) (e : K.E) (c : Int) (t : Option (Nat × (Nat → Int))) (ht : K.tgt e = soClaim n m (K.s e) c t) : SCall K.toLb 96 #[.pointer (some ⟨ob, 0, none⟩), sv, .int .i64 c] e (ClOut K c t) := by
  unfold soClaim at ht
  by_cases h1 : c < 1 ∨ (n : Int) < c
  · rw [if_pos h1] at ht
    exact claim_bad K e c t h1 ht
  · rw [if_neg h1] at ht
    by_cases h3 : 4611686018427387904 < (K.s e : So).nx + c
    · rw [if_pos h3] at ht
      exact claim_far K e c t (by omega) (by omega) h3 ht
    · rw [if_neg h3] at ht
      exact claim_go K e c t (by omega) (by omega) h3 ht
end
end
section
noncomputable def reg97_0 := rg Try.f97.body [0]
noncomputable def reg97_1 := rg Try.f97.body [1, 0, 0]
noncomputable def reg97_2 := rg Try.f97.body [1, 0, 1, 0, 0]
noncomputable def reg97_3 := rg Try.f97.body [1, 1, 0]
theorem z97 : List.range reg97_0.size = [0] ∧ List.range reg97_1.size = [0, 1, 2, 3] ∧ List.range reg97_2.size = [0] ∧ List.range reg97_3.size = [0, 1, 2, 3, 4, 5, 6, 7, 8] := by refine ⟨?_, ?_, ?_, ?_⟩ <;> kernel_rfl
theorem code97_is : Try.f97.body = some (.seq (.region 0 reg97_0 false) (.seq (.seq (.region 1 reg97_1 false) (.cond (.tmp 12 ) (.seq (.region 2 reg97_2 false) (.ret)) (.skip))) (.seq (.region 3 reg97_3 false) (.ret)))) := by kernel_rfl
noncomputable def reg98_0 := rg Try.f98.body [0]
noncomputable def reg98_1 := rg Try.f98.body [1, 0, 0]
noncomputable def reg98_2 := rg Try.f98.body [1, 0, 1, 0, 0]
noncomputable def reg98_3 := rg Try.f98.body [1, 1, 0]
noncomputable def reg98_4 := rg Try.f98.body [1, 1, 1, 0]
noncomputable def reg98_5 := rg Try.f98.body [1, 1, 1, 1, 0]
theorem z98 : List.range reg98_0.size = [0] ∧ List.range reg98_1.size = [0, 1, 2, 3] ∧ List.range reg98_2.size = [0] ∧ List.range reg98_3.size = [0, 1, 2, 3, 4, 5] ∧ List.range reg98_4.size = [0, 1, 2, 3, 4, 5] ∧ List.range reg98_5.size = [0] := by refine ⟨?_, ?_, ?_, ?_, ?_, ?_⟩ <;> kernel_rfl
theorem code98_is : Try.f98.body = some (.seq (.region 0 reg98_0 false) (.seq (.seq (.region 1 reg98_1 false) (.cond (.tmp 10 ) (.seq (.region 2 reg98_2 false) (.ret)) (.skip))) (.seq (.region 3 reg98_3 false) (.seq (.region 4 reg98_4 false) (.seq (.region 5 reg98_5 false) (.ret)))))) := by kernel_rfl
section
variable {rb sb n ob qb m : Nat} {sv : Value}
def PtOut (K : Lg (soLa rb sb n ob qb m) sv) (t : Option WT) (N : So → Ans ⊕ SoD) (v : Value) (e' : K.E) : Prop := (v = .int .i64 0 ∧ K.tgt e' = (K.s e', soPut (K.s e') t)) ∨ (v = .int .i64 1 ∧ K.tgt e' = (K.s e', N (K.s e')))
theorem oput_s (K : Lg (soLa rb sb n ob qb m) sv) (e : K.E) (q v : Int) (t : Option WT) (N : So → Ans ⊕ SoD) (ht1 : soOpen (K.s e) q → K.tgt e = (K.s e, .inr (.p1 q v t))) (ht2 : ¬ soOpen (K.s e) q → K.tgt e = (K.s e, N (K.s e))) : SCall K.toLb 97 #[.pointer (some ⟨ob, 0, none⟩), sv, .int .i64 q, .int .i64 v] e (PtOut K t N) := by
  intro fr l hp hl hk
  have I : SoI rb sb n ob qb m (K.s e) (K.w e) := K.inv e
  have c0 : (K.w e).cell? ⟨ob, 0, none⟩ = some (.pointer (some ⟨rb, 0, none⟩)) := (cell_of I.ob 0).trans rfl
  have hbd := I.bd
  by_cases h : soOpen (K.s e) q
  · have hg : good q := by
      have h1 := h.1
      have h2 := h.2
      have h3 := hbd.pb.1
      have h4 := hbd.nx.2
      exact ⟨by omega, by omega⟩
    have hop := open_yes (main := K.main) (V := K.V e) (K.w e) I q h
    have ht := ht1 h
    have w1 := putG_s soRing K e q v hg (.p1 q v t) (.p2 q v t) (.p3 q t) (fun s => soPut s t) (fun _ => rfl) (fun _ => rfl) (fun _ => rfl) ht
    clear I hbd h ht1 ht2
    unfold LW
    rw [enter_at _ Try.func97 code97_is]
    simp only [Try.ntmps97, ez, Nat.reduceAdd, Nat.reduceSub]
    repeat (first | refine Walk.cx ?_ | (refine Walk.cReg ?_; simp only [z97]) | (refine Walk.oq ?_; try walk_nrm) | (refine Walk.un ?_; walk_nrm))
    refine Walk.callV (x := .bool true) (W := K.w e) ?_ (ho_of (by conv => lhs; whnf) (by kernel_rfl)) (by rfl) (by decide) rfl Try.func132 (by kernel_rfl) (by rfl) ?_
    · walk_nrm
      exact hop
    walk_nrm
    repeat (first | refine Walk.cx ?_ | (refine Walk.cReg ?_; simp only [z97]) | (refine Walk.oq ?_; try walk_nrm) | (refine Walk.un ?_; walk_nrm))
    clear c0
    refine LW.callS (K := K.toLb) (e := e) (l := fr :: l) (f := 60) (Q := fun x e' => x = .int .i64 0 ∧ K.tgt e' = (K.s e', soPut (K.s e') t)) ?_ (ho_of (by conv => lhs; whnf) (by kernel_rfl)) (by rfl) (by decide) rfl Try.func60 (by kernel_rfl) (by rfl) ⟨rfl, rfl, _, Try.func97⟩ (plain_cons hp hl) ?_
    · walk_nrm
      exact w1
    rintro x e1 ⟨rfl, t1⟩
    have hkk := hk (.int .i64 0) e1 (.inl ⟨rfl, t1⟩)
    unfold LW at hkk ⊢
    walk_nrm
    repeat (first | refine Walk.cx ?_ | (refine Walk.cReg ?_; simp only [z97]) | (refine Walk.oq ?_; try walk_nrm) | (refine Walk.un ?_; walk_nrm))
    exact Walk.on1 rfl rfl Try.func97 rfl hkk
  · have hop := open_no (main := K.main) (V := K.V e) (K.w e) I q h
    have ht := ht2 h
    have hkk := hk (.int .i64 1) e (.inr ⟨rfl, ht⟩)
    clear I hbd h ht1 ht2
    unfold LW at hkk ⊢
    rw [enter_at _ Try.func97 code97_is]
    simp only [Try.ntmps97, ez, Nat.reduceAdd, Nat.reduceSub]
    repeat (first | refine Walk.cx ?_ | (refine Walk.cReg ?_; simp only [z97]) | (refine Walk.oq ?_; try walk_nrm) | (refine Walk.un ?_; walk_nrm))
    refine Walk.callV (x := .bool false) (W := K.w e) ?_ (ho_of (by conv => lhs; whnf) (by kernel_rfl)) (by rfl) (by decide) rfl Try.func132 (by kernel_rfl) (by rfl) ?_
    · walk_nrm
      exact hop
    walk_nrm
    repeat (first | refine Walk.cx ?_ | (refine Walk.cReg ?_; simp only [z97]) | (refine Walk.oq ?_; try walk_nrm) | (refine Walk.un ?_; walk_nrm))
    exact Walk.on1 rfl rfl Try.func97 rfl hkk
def PbOut (K : Lg (soLa rb sb n ob qb m) sv) (a : Ans) (N : Ans ⊕ SoD) (v : Value) (e' : K.E) : Prop := (v = .int .i64 0 ∧ K.tgt e' = (K.s e', .inl a)) ∨ (v = .int .i64 1 ∧ K.tgt e' = (K.s e', N))
theorem opub_s (K : Lg (soLa rb sb n ob qb m) sv) (e : K.E) (q : Int) (a : Ans) (N : Ans ⊕ SoD) (ht1 : soOpen (K.s e) q → K.tgt e = (K.s e, .inr (.pu q a))) (ht2 : ¬ soOpen (K.s e) q → K.tgt e = (K.s e, N)) : SCall K.toLb 98 #[.pointer (some ⟨ob, 0, none⟩), sv, .int .i64 q] e (PbOut K a N) := by
  intro fr l hp hl hk
  have I : SoI rb sb n ob qb m (K.s e) (K.w e) := K.inv e
  have hbd := I.bd
  by_cases h : soOpen (K.s e) q
  · have hg : seqP q := by
      have h1 := h.1
      have h2 := h.2
      have h3 := hbd.pb.1
      have h4 := hbd.nx.2
      exact ⟨by omega, by omega⟩
    have hop := open_yes (main := K.main) (V := K.V e) (K.w e) I q h
    have ht := ht1 h
    have w1 := word_store K curW e (.pu q a) q hg trivial ht
    unfold Wd.p at w1
    clear I hbd h ht1 ht2
    unfold LW
    rw [enter_at _ Try.func98 code98_is]
    simp only [Try.ntmps98, ez, Nat.reduceAdd, Nat.reduceSub]
    repeat (first | refine Walk.cx ?_ | (refine Walk.cReg ?_; simp only [z98]) | (refine Walk.oq ?_; try walk_nrm) | (refine Walk.un ?_; walk_nrm))
    refine Walk.callV (x := .bool true) (W := K.w e) ?_ (ho_of (by conv => lhs; whnf) (by kernel_rfl)) (by rfl) (by decide) rfl Try.func132 (by kernel_rfl) (by rfl) ?_
    · walk_nrm
      exact hop
    walk_nrm
    repeat (first | refine Walk.cx ?_ | (refine Walk.cReg ?_; simp only [z98]) | (refine Walk.oq ?_; try walk_nrm) | (refine Walk.un ?_; walk_nrm))
    refine LW.callS (K := K.toLb) (e := e) (l := fr :: l) (f := 71) (Q := fun _ e' => ∃ s : So, Wrote K e (.pu q a) s (soCur s q) e') ?_ (ho_of (by conv => lhs; whnf) (by kernel_rfl)) (by rfl) (by decide) rfl Try.func71 (by kernel_rfl) (by rfl) ⟨rfl, rfl, _, Try.func98⟩ (plain_cons hp hl) ?_
    · walk_nrm
      exact w1
    rintro x e1 ⟨s, hs⟩
    have I1 : SoI rb sb n ob qb m (soCur s q) (K.w e1) := by have h := K.inv e1; rw [hs.s] at h; exact h
    have t1 : K.tgt e1 = (soPb (soCur s q) q, .inl a) := hs.tgt
    have c1 : (K.w e1).cell? ⟨ob, 4, none⟩ = some (.int .i64 (soCur s q).pb) := (cell_of I1.ob 4).trans rfl
    have z1 : (K.w e1).frozen? ⟨ob, 4, none⟩ = false := frozen_of I1.ob 4
    have hap := (K.shA e1 ob (.inr (.inr (.inl rfl)))).1 ⟨ob, 4, none⟩ rfl
    obtain ⟨e2, m2⟩ := SoI.plain e1 (soPb (soCur s q) q) ob 4 (.int .i64 q) (.inr (.inr (.inl rfl))) (I1.setB hg)
    have t2 : K.tgt e2 = (K.s e2, .inl a) := by rw [m2.tgt, m2.s]; exact t1
    have hkk := hk (.int .i64 0) e2 (.inl ⟨rfl, t2⟩)
    clear w1 I1 t1 t2
    unfold LW at hkk ⊢
    walk_nrm
    repeat (first | refine Walk.cx ?_ | (refine Walk.cReg ?_; simp only [z98]) | (refine Walk.oq ?_; try walk_nrm) | (refine Walk.un ?_; walk_nrm))
    (refine Walk.os hap c1 ?_; try walk_nrm)
    refine LW.to (l := fr :: l) m2 ?_
    unfold LW
    repeat (first | refine Walk.cx ?_ | (refine Walk.cReg ?_; simp only [z98]) | (refine Walk.oq ?_; try walk_nrm) | (refine Walk.un ?_; walk_nrm))
    exact Walk.on1 rfl rfl Try.func98 rfl hkk
  · have hop := open_no (main := K.main) (V := K.V e) (K.w e) I q h
    have ht := ht2 h
    have hkk := hk (.int .i64 1) e (.inr ⟨rfl, ht⟩)
    clear I hbd h ht1 ht2
    unfold LW at hkk ⊢
    rw [enter_at _ Try.func98 code98_is]
    simp only [Try.ntmps98, ez, Nat.reduceAdd, Nat.reduceSub]
    repeat (first | refine Walk.cx ?_ | (refine Walk.cReg ?_; simp only [z98]) | (refine Walk.oq ?_; try walk_nrm) | (refine Walk.un ?_; walk_nrm))
    refine Walk.callV (x := .bool false) (W := K.w e) ?_ (ho_of (by conv => lhs; whnf) (by kernel_rfl)) (by rfl) (by decide) rfl Try.func132 (by kernel_rfl) (by rfl) ?_
    · walk_nrm
      exact hop
    walk_nrm
    repeat (first | refine Walk.cx ?_ | (refine Walk.cReg ?_; simp only [z98]) | (refine Walk.oq ?_; try walk_nrm) | (refine Walk.un ?_; walk_nrm))
    exact Walk.on1 rfl rfl Try.func98 rfl hkk
end
end
end Go.Proofs.Ytcdcnmphjhfbpaa
