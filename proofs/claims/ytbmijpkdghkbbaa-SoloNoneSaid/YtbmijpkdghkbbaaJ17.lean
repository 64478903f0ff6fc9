/- Part 17. -/
import Derived.Test.YtbmijpkdghkbbaaJ16
set_option linter.unusedSimpArgs false
set_option linter.unusedVariables false
set_option linter.unusedVariables false
set_option maxHeartbeats 8000000
set_option maxRecDepth 100000
namespace Go.Proofs.Ytbmijpkdghkbbaa
open Go.Conc Go.RowKit Go.Relay
open Go.ConcN (upd upd_ne upd_same)
section
noncomputable def reg34_0 := rg Try.f34.body [0]
noncomputable def reg34_1 := rg Try.f34.body [1, 0, 0]
noncomputable def reg34_2 := rg Try.f34.body [1, 0, 1, 0, 0]
noncomputable def reg34_3 := rg Try.f34.body [1, 1, 0]
noncomputable def reg34_4 := rg Try.f34.body [1, 1, 1, 0, 0]
noncomputable def reg34_5 := rg Try.f34.body [1, 1, 1, 0, 1, 0, 0]
noncomputable def reg34_6 := rg Try.f34.body [1, 1, 1, 0, 1, 0, 1, 0, 0]
noncomputable def reg34_7 := rg Try.f34.body [1, 1, 1, 0, 1, 0, 1, 1, 0]
noncomputable def reg34_8 := rg Try.f34.body [1, 1, 1, 0, 1, 0, 1, 1, 1, 0, 0]
noncomputable def reg34_9 := rg Try.f34.body [1, 1, 1, 1, 0]
noncomputable def reg34_10 := rg Try.f34.body [1, 1, 1, 1, 1, 0, 0]
noncomputable def reg34_11 := rg Try.f34.body [1, 1, 1, 1, 1, 0, 1, 0, 0]
noncomputable def reg34_12 := rg Try.f34.body [1, 1, 1, 1, 1, 1, 0]
theorem z34 : List.range reg34_0.size = [0, 1] ∧ List.range reg34_1.size = [0, 1, 2, 3] ∧ List.range reg34_2.size = [0, 1] ∧ List.range reg34_3.size = [0, 1, 2, 3, 4, 5, 6, 7] ∧ List.range reg34_4.size = [0, 1, 2, 3, 4, 5] ∧ List.range reg34_5.size = [0, 1, 2, 3] ∧ List.range reg34_6.size = [0, 1] ∧ List.range reg34_7.size = [0, 1, 2, 3] ∧ List.range reg34_8.size = [0, 1] ∧ List.range reg34_9.size = [0, 1, 2, 3, 4, 5] ∧ List.range reg34_10.size = [0, 1, 2, 3, 4, 5, 6] ∧ List.range reg34_11.size = [0, 1] ∧ List.range reg34_12.size = [0, 1, 2] := by refine ⟨?_, ?_, ?_, ?_, ?_, ?_, ?_, ?_, ?_, ?_, ?_, ?_, ?_⟩ <;> kernel_rfl
theorem code34_is : Try.f34.body = some (.seq (.region 0 reg34_0 false) (.seq (.seq (.region 1 reg34_1 false) (.cond (.tmp 15 ) (.seq (.region 2 reg34_2 false) (.ret)) (.skip))) (.seq (.region 3 reg34_3 false) (.seq (.seq (.region 4 reg34_4 false) (.block 0 (.seq (.region 5 reg34_5 false) (.cond (.tmp 27 ) (.seq (.region 6 reg34_6 false) (.ret)) (.seq (.region 7 reg34_7 false) (.cond (.tmp 31 ) (.seq (.region 8 reg34_8 false) (.ret)) (.skip))))))) (.seq (.region 9 reg34_9 false) (.seq (.seq (.region 10 reg34_10 false) (.cond (.tmp 46 ) (.seq (.region 11 reg34_11 false) (.ret)) (.skip))) (.seq (.region 12 reg34_12 false) (.ret)))))))) := by kernel_rfl
section
variable {rb sb n : Nat} {sv : Value}
def GetOut (K : Lg (rgLa rb sb n) sv) (E6 E10 : Ans ⊕ RD) (F : Int → Ans ⊕ RD) (v : Value) (e' : K.E) : Prop := ∃ a er, v = .tuple #[.int .i64 a, .int .i64 er] ∧ ((er = 6 ∧ K.tgt e' = (K.s e', E6)) ∨ (er = 10 ∧ K.tgt e' = (K.s e', E10)) ∨ (er = 0 ∧ K.tgt e' = (K.s e', F a)))
theorem get_s (K : Lg (rgLa rb sb n) sv) (e : K.E) (q : Int) (hq : good q) (d1 d2 : RD) (d3 : Int → RD) (E6 E10 : Ans ⊕ RD) (F : Int → Ans ⊕ RD) (a1 : ∀ s : Rg, rgAct n s d1 = (s, if s.st (ixR n q) < laR n q then E6 else if laR n q < s.st (ixR n q) then E10 else .inr d2)) (a2 : ∀ s : Rg, rgAct n s d2 = (s, .inr (d3 (s.va (ixR n q))))) (a3 : ∀ (s : Rg) v, rgAct n s (d3 v) = (s, if s.st (ixR n q) = laR n q then F v else E10))
    (ht : K.tgt e = (K.s e, .inr d1)) : SCall K.toLb 34 #[.pointer (some ⟨rb, 0, none⟩), sv, .int .i64 q] e (GetOut K E6 E10 F) := by
  intro fr l hp hl hk
  have I := K.inv e
  have hh := holds_yes (main := K.main) (V := K.V e) (K.w e) I q hq
  have ha := at_w (main := K.main) (V := K.V e) (K.w e) I q hq
  have hix := ixR_lt I.pos.1 q
  have w1 := load_stp K (ixR n q) hix e d1 ht
  have w2 := fun (e1 : K.E) (h : K.tgt e1 = (K.s e1, .inr d2)) => load_vlu K (ixR n q) hix e1 d2 h
  have w3 := fun (e1 : K.E) (v : Int) (h : K.tgt e1 = (K.s e1, .inr (d3 v))) => load_stp K (ixR n q) hix e1 (d3 v) h
  generalize ixR n q = ix at *
  generalize laR n q = la at *
  unfold LW
  clear I
  rw [enter_at _ Try.func34 code34_is]
  simp only [Try.ntmps34, ez, Nat.reduceAdd, Nat.reduceSub]
  repeat (first | refine Walk.cx ?_ | (refine Walk.cReg ?_; simp only [z34]) | (refine Walk.oq ?_; try walk_nrm) | (refine Walk.un ?_; walk_nrm))
  refine Walk.callV (x := .bool true) (W := K.w e) ?_ (ho_of (by conv => lhs; whnf) (by kernel_rfl)) (by rfl) (by decide) rfl Try.func65 (by kernel_rfl) (by rfl) ?_
  · walk_nrm
    exact hh
  walk_nrm
  clear hh
  repeat (first | refine Walk.cx ?_ | (refine Walk.cReg ?_; simp only [z34]) | (refine Walk.oq ?_; try walk_nrm) | (refine Walk.un ?_; walk_nrm))
  refine Walk.callV (x := .tuple #[.pointer (some ⟨sb, ix * 2, none⟩), .int .i64 la]) (W := K.w e) ?_ (ho_of (by conv => lhs; whnf) (by kernel_rfl)) (by rfl) (by decide) rfl Try.func72 (by kernel_rfl) (by rfl) ?_
  · walk_nrm
    exact ha
  walk_nrm
  clear ha
  repeat (first | refine Walk.cx ?_ | (refine Walk.cReg ?_; simp only [z34]) | (refine Walk.oq ?_; try walk_nrm) | (refine Walk.un ?_; walk_nrm))
  refine LW.callS (K := K.toLb) (e := e) (l := fr :: l) (f := 73) (Q := fun v e' => Aft K.toLb e d1 e' ∧ v = .int .i64 ((K.s e' : Rg).st ix)) ?_ (ho_of (by conv => lhs; whnf) (by kernel_rfl)) (by rfl) (by decide) rfl Try.func73 (by kernel_rfl) (by rfl) ⟨rfl, rfl, _, Try.func34⟩ (plain_cons hp hl) ?_
  · walk_nrm
    exact w1
  rintro v e1 ⟨ha, rfl⟩
  have t1 : K.tgt e1 = (K.s e1, if (K.s e1 : Rg).st ix < la then E6 else if la < (K.s e1 : Rg).st ix then E10 else .inr d2) := ha.tgt.trans (a1 _)
  generalize (K.s e1 : Rg).st ix = x at *
  clear w1 ht a1
  by_cases h1 : x < la
  · rw [if_pos h1] at t1
    have hkk := hk (.tuple #[.int .i64 0, .int .i64 6]) e1 ⟨0, 6, rfl, .inl ⟨rfl, t1⟩⟩
    have h1' : decide (x < la) = true := by simp [h1]
    unfold LW at hkk ⊢
    walk_nrm
    repeat (first | refine Walk.cx ?_ | (refine Walk.cReg ?_; simp only [z34]) | (refine Walk.oq ?_; try walk_nrm) | (refine Walk.un ?_; walk_nrm))
    exact Walk.on2 rfl rfl Try.func34 rfl hkk
  rw [if_neg h1] at t1
  have h1' : decide (x < la) = false := by simp [h1]
  have h1i : la ≤ x := by omega
  by_cases h2 : la < x
  · rw [if_pos h2] at t1
    have hkk := hk (.tuple #[.int .i64 0, .int .i64 10]) e1 ⟨0, 10, rfl, .inr (.inl ⟨rfl, t1⟩)⟩
    have h2' : decide (la < x) = true := by simp [h2]
    unfold LW at hkk ⊢
    walk_nrm
    repeat (first | refine Walk.cx ?_ | (refine Walk.cReg ?_; simp only [z34]) | (refine Walk.oq ?_; try walk_nrm) | (refine Walk.un ?_; walk_nrm))
    exact Walk.on2 rfl rfl Try.func34 rfl hkk
  rw [if_neg h2] at t1
  have h2' : decide (la < x) = false := by simp [h2]
  have h2i : x ≤ la := by omega
  have w2 := w2 e1 t1
  unfold LW
  walk_nrm
  repeat (first | refine Walk.cx ?_ | (refine Walk.cReg ?_; simp only [z34]) | (refine Walk.oq ?_; try walk_nrm) | (refine Walk.un ?_; walk_nrm))
  refine LW.callS (K := K.toLb) (e := e1) (l := fr :: l) (f := 73) (Q := fun v e' => Aft K.toLb e1 d2 e' ∧ v = .int .i64 ((K.s e' : Rg).va ix)) ?_ (ho_of (by conv => lhs; whnf) (by kernel_rfl)) (by rfl) (by decide) rfl Try.func73 (by kernel_rfl) (by rfl) ⟨rfl, rfl, _, Try.func34⟩ (plain_cons hp hl) ?_
  · walk_nrm
    exact w2
  rintro v e2 ⟨ha2, rfl⟩
  have t2 : K.tgt e2 = (K.s e2, .inr (d3 ((K.s e2 : Rg).va ix))) := ha2.tgt.trans (a2 _)
  generalize (K.s e2 : Rg).va ix = y at *
  have w3 := w3 e2 y t2
  clear w2 a2 h1' h2'
  unfold LW
  walk_nrm
  repeat (first | refine Walk.cx ?_ | (refine Walk.cReg ?_; simp only [z34]) | (refine Walk.oq ?_; try walk_nrm) | (refine Walk.un ?_; walk_nrm))
  refine LW.callS (K := K.toLb) (e := e2) (l := fr :: l) (f := 73) (Q := fun v e' => Aft K.toLb e2 (d3 y) e' ∧ v = .int .i64 ((K.s e' : Rg).st ix)) ?_ (ho_of (by conv => lhs; whnf) (by kernel_rfl)) (by rfl) (by decide) rfl Try.func73 (by kernel_rfl) (by rfl) ⟨rfl, rfl, _, Try.func34⟩ (plain_cons hp hl) ?_
  · walk_nrm
    exact w3
  rintro v e3 ⟨ha3, rfl⟩
  have t3 : K.tgt e3 = (K.s e3, if (K.s e3 : Rg).st ix = la then F y else E10) := ha3.tgt.trans (a3 _ _)
  generalize (K.s e3 : Rg).st ix = z at *
  clear w3 a3
  by_cases h3 : z = la
  · rw [if_pos h3] at t3
    have hkk := hk (.tuple #[.int .i64 y, .int .i64 0]) e3 ⟨y, 0, rfl, .inr (.inr ⟨rfl, t3⟩)⟩
    have h3' : (z != la) = false := by simp [h3]
    have h3'' : (z == la) = true := by simp [h3]
    unfold LW at hkk ⊢
    walk_nrm
    repeat (first | refine Walk.cx ?_ | (refine Walk.cReg ?_; simp only [z34]) | (refine Walk.oq ?_; try walk_nrm) | (refine Walk.un ?_; walk_nrm))
    exact Walk.on2 rfl rfl Try.func34 rfl hkk
  · rw [if_neg h3] at t3
    have hkk := hk (.tuple #[.int .i64 0, .int .i64 10]) e3 ⟨0, 10, rfl, .inr (.inl ⟨rfl, t3⟩)⟩
    have h3' : (z != la) = true := by simp [h3]
    have h3'' : (z == la) = false := by simp [h3]
    unfold LW at hkk ⊢
    walk_nrm
    repeat (first | refine Walk.cx ?_ | (refine Walk.cReg ?_; simp only [z34]) | (refine Walk.oq ?_; try walk_nrm) | (refine Walk.un ?_; walk_nrm))
    exact Walk.on2 rfl rfl Try.func34 rfl hkk
end
end
section
noncomputable def reg36_0 := rg Try.f36.body [0]
noncomputable def reg36_1 := rg Try.f36.body [1, 0, 0, 0]
noncomputable def reg36_2 := rg Try.f36.body [1, 0, 0, 1, 0, 0]
noncomputable def reg36_3 := rg Try.f36.body [1, 0, 0, 1, 1, 0]
noncomputable def reg36_4 := rg Try.f36.body [1, 0, 0, 1, 1, 1, 0, 0]
noncomputable def reg36_5 := rg Try.f36.body [1, 1, 0]
noncomputable def reg36_6 := rg Try.f36.body [1, 1, 1, 0, 0]
noncomputable def reg36_7 := rg Try.f36.body [1, 1, 1, 0, 1, 0, 0, 0, 0]
noncomputable def reg36_9 := rg Try.f36.body [1, 1, 1, 0, 1, 0, 0, 1, 0, 0, 0]
noncomputable def reg36_10 := rg Try.f36.body [1, 1, 1, 0, 1, 0, 0, 1, 0, 0, 1, 0, 0]
noncomputable def reg36_8 := rg Try.f36.body [1, 1, 1, 0, 1, 0, 0, 1, 1]
noncomputable def reg36_11 := rg Try.f36.body [1, 1, 1, 1, 0]
theorem z36 : List.range reg36_0.size = [0] ∧ List.range reg36_1.size = [0, 1, 2] ∧ List.range reg36_2.size = [0, 1] ∧ List.range reg36_3.size = [0, 1, 2, 3, 4, 5, 6, 7, 8, 9] ∧ List.range reg36_4.size = [0, 1, 2] ∧ List.range reg36_5.size = [0, 1, 2, 3, 4, 5, 6, 7] ∧ List.range reg36_6.size = [0, 1] ∧ List.range reg36_7.size = [0, 1, 2] ∧ List.range reg36_8.size = [0, 1, 2] ∧ List.range reg36_9.size = [0, 1, 2, 3, 4] ∧ List.range reg36_10.size = [0, 1, 2] ∧ List.range reg36_11.size = [0, 1] := by refine ⟨?_, ?_, ?_, ?_, ?_, ?_, ?_, ?_, ?_, ?_, ?_, ?_⟩ <;> kernel_rfl
theorem code36_is : Try.f36.body = some (.seq (.region 0 reg36_0 false) (.seq (.block 0 (.seq (.region 1 reg36_1 false) (.cond (.tmp 11 ) (.seq (.region 2 reg36_2 false) (.ret)) (.seq (.region 3 reg36_3 false) (.cond (.tmp 15 ) (.seq (.region 4 reg36_4 false) (.ret)) (.skip)))))) (.seq (.region 5 reg36_5 false) (.seq (.seq (.region 6 reg36_6 false) (.block 1 (.loop (.seq (.seq (.region 7 reg36_7 false) (.cond (.tmp 37 ) (.skip) (.exit 1))) (.seq (.block 2 (.seq (.region 9 reg36_9 false) (.cond (.tmp 44 ) (.seq (.region 10 reg36_10 false) (.ret)) (.skip)))) (.region 8 reg36_8 false)))))) (.seq (.region 11 reg36_11 false) (.ret)))))) := by kernel_rfl
noncomputable def hdHi (rb : Nat) (sv : Value) (a b m q : Int) (u : Nat → Value) : Frame :=
  (base 36).at { tmps := #[.pointer (some ⟨rb, 0, none⟩), sv, .int .i64 a, .int .i64 b, u 4, u 5, u 6, u 7, u 8, .int .i64 m, .int .i64 q, u 11, u 12, u 13, u 14, u 15, u 16, u 17, u 18, u 19, u 20, u 21, u 22, u 23, u 24, u 25, u 26, u 27, u 28, u 29, u 30, u 31, u 32, u 33, u 34, u 35, u 36, u 37, u 38, u 39, u 40, u 41, u 42, u 43, u 44, u 45, u 46, u 47], defers := [] } [.code (.seq (.seq (.region 7 reg36_7 false) (.cond (.tmp 37 ) (.skip) (.exit 1))) (.seq (.block 2 (.seq (.region 9 reg36_9 false) (.cond (.tmp 44 ) (.seq (.region 10 reg36_10 false) (.ret)) (.skip)))) (.region 8 reg36_8 false))), .inLoop (.seq (.seq (.region 7 reg36_7 false) (.cond (.tmp 37 ) (.skip) (.exit 1))) (.seq (.block 2 (.seq (.region 9 reg36_9 false) (.cond (.tmp 44 ) (.seq (.region 10 reg36_10 false) (.ret)) (.skip)))) (.region 8 reg36_8 false))), .inBlock 1, .code (.seq (.region 11 reg36_11 false) (.ret))]
theorem ev_min3 {P : Program} {w : World} (ts : Array TypeId) (t : TypeId) (x y z : Int) (es : Array Event) : (Builtin.min_ ts t #[.int .i64 x, .int .i64 y, .int .i64 z]).events P w es = es := by
  simp [Builtin.min_, Builtin.min2]
theorem run_min3 {P : Program} {w : World} (ts : Array TypeId) (t : TypeId) (x y z : Int) : (Builtin.min_ ts t #[.int .i64 x, .int .i64 y, .int .i64 z]).run P w = .ok (.int .i64 (min (min x y) z)) w := by
  simp [Builtin.min_, Builtin.min2]
  repeat' split
  all_goals omega
def hiD (n : Nat) (a b : Int) : Ans ⊕ RD := if a = -9223372036854775808 then .inl ⟨true, a, []⟩ else if good a ∧ a ≤ b then .inr (.h a (min b (min 4611686018427387903 (a + n - 1)))) else .inl ⟨true, IntKind.i64.wrap (a - 1), []⟩
section
variable {rb sb n : Nat} {sv : Value}
def HiOut (K : Lg (rgLa rb sb n) sv) (v : Value) (e' : K.E) : Prop := ∃ x, v = .int .i64 x ∧ K.tgt e' = (K.s e', .inl ⟨true, x, []⟩)
theorem hi_out (K : Lg (rgLa rb sb n) sv) (a b m q : Int) (hq : m < q) (fr : Frame) (l : List Frame) (hk : ∀ x e', HiOut K x e' → LW K.toLb e' (G (fr.finish x) (l ++ K.bot e'))) (e : K.E) (u : Nat → Value) (ht : K.tgt e = (K.s e, .inl ⟨true, m, []⟩)) : LW K.toLb e (G (hdHi rb sv a b m q u) (fr :: (l ++ K.bot e))) := by
  have hkk := hk (.int .i64 m) e ⟨m, rfl, ht⟩
  have h1 : decide (q ≤ m) = false := by simp; omega
  unfold LW at hkk ⊢
  unfold hdHi
  repeat (first | refine Walk.cx ?_ | (refine Walk.cReg ?_; simp only [z36]) | (refine Walk.oq ?_; try walk_nrm) | (refine Walk.un ?_; walk_nrm))
  exact Walk.on1 rfl rfl Try.func36 rfl hkk
theorem hi_round (K : Lg (rgLa rb sb n) sv) (a b m q : Int) (hq : good q) (hqm : q ≤ m) (hm : m < 4611686018427387904) (fr : Frame) (l : List Frame) (hp : Plain fr) (hl : ∀ f ∈ l, Plain f) (hk : ∀ x e', HiOut K x e' → LW K.toLb e' (G (fr.finish x) (l ++ K.bot e'))) (e : K.E) (u : Nat → Value) (ht : K.tgt e = (K.s e, .inr (.h q m)))
    (ih : ∀ (e' : K.E) (u' : Nat → Value), K.tgt e' = (K.s e', if q < m then .inr (.h (q + 1) m) else .inl ⟨true, m, []⟩) → LW K.toLb e' (G (hdHi rb sv a b m (q + 1) u') (fr :: (l ++ K.bot e')))) :
    LW K.toLb e (G (hdHi rb sv a b m q u) (fr :: (l ++ K.bot e))) := by
  have hth := there_s K e q hq (.h q m) ht
  have h1 : decide (q ≤ m) = true := by simp [hqm]
  have hq1 := hq.1
  have hw1 : IntKind.wrap .i64 (q + 1) = q + 1 := by rw [IntKind.wrap_i64]; omega
  have hw2 : IntKind.wrap .i64 (q - 1) = q - 1 := by rw [IntKind.wrap_i64]; omega
  unfold LW hdHi
  repeat (first | refine Walk.cx ?_ | (refine Walk.cReg ?_; simp only [z36]) | (refine Walk.oq ?_; try walk_nrm) | (refine Walk.un ?_; walk_nrm))
  refine LW.callS (K := K.toLb) (e := e) (l := fr :: l) (f := 35) (Q := fun v e' => Aft K.toLb e (.h q m) e' ∧ v = .bool (decide ((K.s e' : Rg).st (ixR n q) = laR n q))) ?_ (ho_of (by conv => lhs; whnf) (by kernel_rfl)) (by rfl) (by decide) rfl Try.func35 (by kernel_rfl) (by rfl) ⟨rfl, rfl, _, Try.func36⟩ (plain_cons hp hl) ?_
  · walk_nrm
    exact hth
  rintro v e1 ⟨ha, rfl⟩
  have t1 : K.tgt e1 = (K.s e1, if (K.s e1 : Rg).st (ixR n q) = laR n q then (if q < m then .inr (.h (q + 1) m) else .inl ⟨true, m, []⟩) else .inl ⟨true, q - 1, []⟩) := ha.tgt
  generalize (K.s e1 : Rg).st (ixR n q) = x at *
  generalize laR n q = la at *
  clear hth ht
  by_cases h : x = la
  · rw [if_pos h] at t1
    have hih := fun u => ih e1 u t1
    clear ih hk
    simp only [h, decide_true]
    unfold LW at hih ⊢
    walk_nrm
    repeat (first | refine Walk.cx ?_ | (refine Walk.cReg ?_; simp only [z36]) | (refine Walk.oq ?_; try walk_nrm) | (refine Walk.un ?_; walk_nrm))
    refine Walk.ctl rfl (fun w => stepG_inLoop) ?_
    refine slots_walk (F := fun u => G (hdHi rb sv a b m (q + 1) u) (fr :: (l ++ K.bot e1))) hih ?_
    simp only [hdHi]
    rfl
  · rw [if_neg h] at t1
    have hkk := hk (.int .i64 (q - 1)) e1 ⟨q - 1, rfl, t1⟩
    clear ih hk
    simp only [h, decide_false]
    unfold LW at hkk ⊢
    walk_nrm
    repeat (first | refine Walk.cx ?_ | (refine Walk.cReg ?_; simp only [z36]) | (refine Walk.oq ?_; try walk_nrm) | (refine Walk.un ?_; walk_nrm))
    exact Walk.on1 rfl rfl Try.func36 rfl hkk
theorem hi_loop (K : Lg (rgLa rb sb n) sv) (a b m : Int) (hm : m < 4611686018427387904) (fr : Frame) (l : List Frame) (hp : Plain fr) (hl : ∀ f ∈ l, Plain f) (hk : ∀ x e', HiOut K x e' → LW K.toLb e' (G (fr.finish x) (l ++ K.bot e'))) :
    ∀ (r : Nat) (q : Int) (e : K.E) (u : Nat → Value), 0 ≤ q → q ≤ m → (m - q).toNat = r → K.tgt e = (K.s e, .inr (.h q m)) → LW K.toLb e (G (hdHi rb sv a b m q u) (fr :: (l ++ K.bot e))) := by
  intro r
  induction r with
  | zero =>
    intro q e u h0 hqm hr ht
    refine hi_round K a b m q ⟨h0, by omega⟩ hqm hm fr l hp hl hk e u ht fun e' u' ht' => ?_
    rw [if_neg (by omega)] at ht'
    exact hi_out K a b m (q + 1) (by omega) fr l hk e' u' ht'
  | succ r ih =>
    intro q e u h0 hqm hr ht
    refine hi_round K a b m q ⟨h0, by omega⟩ hqm hm fr l hp hl hk e u ht fun e' u' ht' => ?_
    rw [if_pos (by omega)] at ht'
    exact ih (q + 1) e' u' (by omega) (by omega) (by omega) ht'
theorem highest_s (K : Lg (rgLa rb sb n) sv) (e : K.E) (a b : Int) (ht : K.tgt e = (K.s e, hiD n a b)) : SCall K.toLb 36 #[.pointer (some ⟨rb, 0, none⟩), sv, .int .i64 a, .int .i64 b] e (HiOut K) := by
  intro fr l hp hl hk
  have hmn := @ev_min3 Try.prog
  have hmr := @run_min3 Try.prog
  have I := K.inv e
  have hn := I.pos
  have hsz := size_w (main := K.main) (V := K.V e) (K.w e) I
  have hyes := holds_yes (main := K.main) (V := K.V e) (K.w e) I a
  have hno := holds_no (main := K.main) (V := K.V e) (.pointer (some ⟨rb, 0, none⟩)) (K.w e) a
  clear I
  unfold LW
  rw [enter_at _ Try.func36 code36_is]
  simp only [Try.ntmps36, ez, Nat.reduceAdd, Nat.reduceSub]
  by_cases h1 : a = -9223372036854775808
  · subst h1
    unfold hiD at ht
    rw [if_pos rfl] at ht
    have hkk := hk (.int .i64 (-9223372036854775808)) e ⟨_, rfl, ht⟩
    unfold LW at hkk
    repeat (first | refine Walk.cx ?_ | (refine Walk.cReg ?_; simp only [z36]) | (refine Walk.oq ?_; try walk_nrm) | (refine Walk.un ?_; walk_nrm))
    exact Walk.on1 rfl rfl Try.func36 rfl hkk
  unfold hiD at ht
  rw [if_neg h1] at ht
  have h1' : (a == -9223372036854775808) = false := by simp [h1]
  repeat (first | refine Walk.cx ?_ | (refine Walk.cReg ?_; simp only [z36]) | (refine Walk.oq ?_; try walk_nrm) | (refine Walk.un ?_; walk_nrm))
  by_cases h2 : good a
  · refine Walk.callV (x := .bool true) (W := K.w e) ?_ (ho_of (by conv => lhs; whnf) (by kernel_rfl)) (by rfl) (by decide) rfl Try.func65 (by kernel_rfl) (by rfl) ?_
    · walk_nrm
      exact hyes h2
    walk_nrm
    clear hyes hno
    by_cases h3 : a ≤ b
    · rw [if_pos ⟨h2, h3⟩] at ht
      have hq := h2.1
      have hq2 := h2.2
      have hw2 : IntKind.wrap .i64 (a + (n : Int)) = a + n := by rw [IntKind.wrap_i64]; omega
      have hw3 : IntKind.wrap .i64 (a + (n : Int) - 1) = a + n - 1 := by rw [IntKind.wrap_i64]; omega
      have h3' : decide (b < a) = false := by simp; omega
      have hlp := fun u => hi_loop K a b (min b (min 4611686018427387903 (a + n - 1))) (by omega) fr l hp hl hk _ a e u hq (by omega) rfl ht
      generalize hmm : min b (min 4611686018427387903 (a + n - 1)) = m at *
      have hm1 : min (min b 4611686018427387903) (a + n - 1) = m := by omega
      repeat (first | refine Walk.cx ?_ | (refine Walk.cReg ?_; simp only [z36]) | (refine Walk.oq ?_; try walk_nrm) | (refine Walk.un ?_; walk_nrm))
      refine Walk.callV (x := .int .i64 (n : Nat)) (W := K.w e) ?_ (ho_of (by conv => lhs; whnf) (by kernel_rfl)) (by rfl) (by decide) rfl Try.func20 (by kernel_rfl) (by rfl) ?_
      · walk_nrm
        exact hsz
      walk_nrm
      clear hsz
      repeat (first | refine Walk.cx ?_ | (refine Walk.cReg ?_; simp only [z36]) | (refine Walk.oq ?_; try walk_nrm) | (refine Walk.un ?_; walk_nrm))
      refine Walk.ctl rfl (fun w => stepG_loop) ?_
      unfold LW at hlp
      refine slots_walk (F := fun u => G (hdHi rb sv a b m a u) (fr :: (l ++ K.bot e))) hlp ?_
      simp only [hdHi, hm1, hmm]
      rfl
    · rw [if_neg fun h => h3 h.2] at ht
      have hkk := hk (.int .i64 (IntKind.i64.wrap (a - 1))) e ⟨_, rfl, ht⟩
      have h3' : decide (b < a) = true := by simp; omega
      unfold LW at hkk
      repeat (first | refine Walk.cx ?_ | (refine Walk.cReg ?_; simp only [z36]) | (refine Walk.oq ?_; try walk_nrm) | (refine Walk.un ?_; walk_nrm))
      exact Walk.on1 rfl rfl Try.func36 rfl hkk
  · refine Walk.callV (x := .bool false) (W := K.w e) ?_ (ho_of (by conv => lhs; whnf) (by kernel_rfl)) (by rfl) (by decide) rfl Try.func65 (by kernel_rfl) (by rfl) ?_
    · walk_nrm
      exact hno h2
    walk_nrm
    rw [if_neg fun h => h2 h.1] at ht
    have hkk := hk (.int .i64 (IntKind.i64.wrap (a - 1))) e ⟨_, rfl, ht⟩
    unfold LW at hkk
    repeat (first | refine Walk.cx ?_ | (refine Walk.cReg ?_; simp only [z36]) | (refine Walk.oq ?_; try walk_nrm) | (refine Walk.un ?_; walk_nrm))
    exact Walk.on1 rfl rfl Try.func36 rfl hkk
end
end
section
noncomputable def reg37_0 := rg Try.f37.body [0]
noncomputable def reg37_1 := rg Try.f37.body [1, 0, 0]
noncomputable def reg37_2 := rg Try.f37.body [1, 0, 1, 0, 0]
noncomputable def reg37_3 := rg Try.f37.body [1, 1, 0]
noncomputable def reg37_4 := rg Try.f37.body [1, 1, 1, 0, 0, 0, 0, 0]
noncomputable def reg37_5 := rg Try.f37.body [1, 1, 1, 0, 0, 0, 1, 0, 0]
noncomputable def reg37_7 := rg Try.f37.body [1, 1, 1, 0, 0, 0, 1, 0, 1, 0, 0]
noncomputable def reg37_8 := rg Try.f37.body [1, 1, 1, 0, 0, 0, 1, 0, 1, 0, 1, 0]
noncomputable def reg37_9 := rg Try.f37.body [1, 1, 1, 0, 0, 0, 1, 0, 1, 0, 1, 1, 0]
noncomputable def reg37_10 := rg Try.f37.body [1, 1, 1, 0, 0, 0, 1, 0, 1, 0, 1, 1, 1, 0, 0]
noncomputable def reg37_6 := rg Try.f37.body [1, 1, 1, 0, 0, 0, 1, 0, 1, 0, 1, 1, 1, 1, 0]
noncomputable def reg37_11 := rg Try.f37.body [1, 1, 1, 1, 0]
theorem z37 : List.range reg37_0.size = [0, 1] ∧ List.range reg37_1.size = [0, 1, 2, 3] ∧ List.range reg37_2.size = [0, 1] ∧ List.range reg37_3.size = [0] ∧ List.range reg37_4.size = [0, 1, 2, 3, 4, 5, 6] ∧ List.range reg37_5.size = [0, 1, 2, 3, 4, 5, 6, 7, 8, 9, 10, 11] ∧ List.range reg37_6.size = [0, 1, 2] ∧ List.range reg37_7.size = [0, 1, 2] ∧ List.range reg37_8.size = [0, 1, 2, 3, 4] ∧ List.range reg37_9.size = [0, 1, 2, 3] ∧ List.range reg37_10.size = [0, 1, 2] ∧ List.range reg37_11.size = [0, 1, 2] := by refine ⟨?_, ?_, ?_, ?_, ?_, ?_, ?_, ?_, ?_, ?_, ?_, ?_⟩ <;> kernel_rfl
theorem code37_is : Try.f37.body = some (.seq (.region 0 reg37_0 false) (.seq (.seq (.region 1 reg37_1 false) (.cond (.tmp 16 ) (.seq (.region 2 reg37_2 false) (.ret)) (.skip))) (.seq (.region 3 reg37_3 false) (.seq (.block 0 (.loop (.seq (.seq (.region 4 reg37_4 false) (.cond (.tmp 23 ) (.skip) (.exit 0))) (.block 1 (.seq (.region 5 reg37_5 false) (.block 2 (.seq (.region 7 reg37_7 false) (.cond (.tmp 35 ) (.region 8 reg37_8 false) (.seq (.region 9 reg37_9 false) (.cond (.tmp 42 ) (.seq (.region 10 reg37_10 false) (.ret)) (.seq (.region 6 reg37_6 false) (.ret)))))))))))) (.seq (.region 11 reg37_11 false) (.ret)))))) := by kernel_rfl
noncomputable def hdGa (rb : Nat) (sv al : Value) (a m : Int) (u : Nat → Value) : Frame :=
  (base 37).at { tmps := #[.pointer (some ⟨rb, 0, none⟩), sv, .int .i64 a, .int .i64 m, u 4, u 5, u 6, u 7, .slice none 0 0, .int .i64 0, al, u 11, u 12, u 13, u 14, u 15, u 16, u 17, u 18, u 19, u 20, u 21, u 22, u 23, u 24, u 25, u 26, u 27, u 28, u 29, u 30, u 31, u 32, u 33, u 34, u 35, u 36, u 37, u 38, u 39, u 40, u 41, u 42, u 43, u 44, u 45, u 46, u 47], defers := [] } [.code (.seq (.seq (.region 4 reg37_4 false) (.cond (.tmp 23 ) (.skip) (.exit 0))) (.block 1 (.seq (.region 5 reg37_5 false) (.block 2 (.seq (.region 7 reg37_7 false) (.cond (.tmp 35 ) (.region 8 reg37_8 false) (.seq (.region 9 reg37_9 false) (.cond (.tmp 42 ) (.seq (.region 10 reg37_10 false) (.ret)) (.seq (.region 6 reg37_6 false) (.ret)))))))))), .inLoop (.seq (.seq (.region 4 reg37_4 false) (.cond (.tmp 23 ) (.skip) (.exit 0))) (.block 1 (.seq (.region 5 reg37_5 false) (.block 2 (.seq (.region 7 reg37_7 false) (.cond (.tmp 35 ) (.region 8 reg37_8 false) (.seq (.region 9 reg37_9 false) (.cond (.tmp 42 ) (.seq (.region 10 reg37_10 false) (.ret)) (.seq (.region 6 reg37_6 false) (.ret)))))))))), .inBlock 0, .code (.seq (.region 11 reg37_11 false) (.ret))]
theorem get_no {main : Bool} {V : Nat → Option Wait} (r sv : Value) (q : Int) (hq : ¬ good q) (w : World) : CallV Try.prog main V 34 #[r, sv, .int .i64 q] w (.tuple #[.int .i64 0, .int .i64 1]) w := by
  have hno := holds_no (main := main) (V := V) r w q hq
  refine callW_in Try.func34 code34_is fun fr cs => ?_
  simp only [Try.ntmps34, ez, Nat.reduceAdd, Nat.reduceSub]
  repeat (first | refine Walk.cx ?_ | (refine Walk.cReg ?_; simp only [z34]) | (refine Walk.oq ?_; try walk_nrm) | (refine Walk.un ?_; walk_nrm))
  refine Walk.callV (x := .bool false) (W := w) ?_ (ho_of (by conv => lhs; whnf) (by kernel_rfl)) (by rfl) (by decide) rfl Try.func65 (by kernel_rfl) (by rfl) ?_
  · walk_nrm
    exact hno
  walk_nrm
  repeat (first | refine Walk.cx ?_ | (refine Walk.cReg ?_; simp only [z34]) | (refine Walk.oq ?_; try walk_nrm) | (refine Walk.un ?_; walk_nrm))
  exact Walk.on2 rfl rfl Try.func34 rfl (.stop fun d => ⟨_, ⟨rfl, d, rfl⟩, rfl⟩)
def GatL {L : La} {sv : Value} (K : Lg L sv) (e : K.E) (sl : Value) (ls : List Int) : Prop := (∃ a c, sl = .slice a ls.length c) ∧ (K.w e).ownsRow 0 2 1 sl ls.length (ls.map fun z => .int .i64 z) ∧ ∀ b, sl.ownBlock = some b → K.mine e b
def gaD (n : Nat) (a : Int) (m : Int) (ls : List Int) : Ans ⊕ RD := if (ls.length : Int) < m ∧ good (a + ls.length) then .inr (.a1 (a + ls.length) m ls) else .inl ⟨true, 0, ls⟩
section
variable {rb sb n : Nat} {sv : Value}
def GaOut (K : Lg (rgLa rb sb n) sv) (v : Value) (e' : K.E) : Prop := ∃ sl er ls, v = .tuple #[sl, .int .i64 er] ∧ GatL K e' sl ls ∧ ls.length ≤ 65536 ∧ K.tgt e' = (K.s e', .inl ⟨er == 0, er, ls⟩)
theorem ga_out (K : Lg (rgLa rb sb n) sv) (a mo m : Int) (hmo : min mo n = m) (fr : Frame) (l : List Frame) (hk : ∀ x e', GaOut K x e' → LW K.toLb e' (G (fr.finish x) (l ++ K.bot e'))) (sl : Value) (ls : List Int) (e : K.E) (u : Nat → Value) (hm : m ≤ ls.length) (h6 : ls.length ≤ 65536) (hL : GatL K e sl ls) (ht : K.tgt e = (K.s e, .inl ⟨true, 0, ls⟩)) : LW K.toLb e (G (hdGa rb sv sl a mo u) (fr :: (l ++ K.bot e))) := by
  have hmn := @events_min_ints Try.prog
  have hkk := hk (.tuple #[sl, .int .i64 0]) e ⟨sl, 0, ls, rfl, hL, h6, ht⟩
  have hsz := size_w (main := K.main) (V := K.V e) (K.w e) (K.inv e)
  obtain ⟨⟨sa, sc, rfl⟩, _, _⟩ := hL
  have h1 : decide ((ls.length : Int) < m) = false := by simp; omega
  generalize ls.length = j at *
  unfold LW at hkk ⊢
  unfold hdGa
  repeat (first | refine Walk.cx ?_ | (refine Walk.cReg ?_; simp only [z37]) | (refine Walk.oq ?_; try walk_nrm) | (refine Walk.un ?_; walk_nrm))
  refine Walk.callV (x := .int .i64 (n : Nat)) (W := K.w e) ?_ (ho_of (by conv => lhs; whnf) (by kernel_rfl)) (by rfl) (by decide) rfl Try.func20 (by kernel_rfl) (by rfl) ?_
  · walk_nrm
    exact hsz
  walk_nrm
  repeat (first | refine Walk.cx ?_ | (refine Walk.cReg ?_; simp only [z37]) | (refine Walk.oq ?_; try walk_nrm) | (refine Walk.un ?_; walk_nrm))
  exact Walk.on2 rfl rfl Try.func37 rfl hkk
end
end
end Go.Proofs.Ytbmijpkdghkbbaa
