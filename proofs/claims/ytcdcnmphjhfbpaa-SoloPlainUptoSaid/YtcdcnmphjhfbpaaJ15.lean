/- Part 15. -/
import Derived.Test.YtcdcnmphjhfbpaaJ14
set_option linter.unusedSimpArgs false
set_option linter.unusedVariables false
set_option linter.unusedVariables false
set_option maxHeartbeats 8000000
set_option maxRecDepth 100000
namespace Go.Proofs.Ytcdcnmphjhfbpaa
open Go.Conc Go.RowKit Go.Relay
open Go.ConcN (upd upd_ne upd_same)
section
noncomputable def reg101_0 := rg Try.f101.body [0]
noncomputable def reg101_1 := rg Try.f101.body [1]
theorem z101 : List.range reg101_0.size = [0, 1, 2, 3, 4, 5] ∧ List.range reg101_1.size = [0, 1, 2, 3, 4] := by refine ⟨?_, ?_⟩ <;> kernel_rfl
theorem code101_is : Try.f101.body = some (.seq (.region 0 reg101_0 false) (.region 1 reg101_1 false)) := by kernel_rfl
noncomputable def reg81_0 := rg Try.f81.body [0]
noncomputable def reg81_1 := rg Try.f81.body [1, 0]
noncomputable def reg81_2 := rg Try.f81.body [1, 1, 0, 0]
noncomputable def reg81_3 := rg Try.f81.body [1, 1, 0, 1, 0, 0]
noncomputable def reg81_4 := rg Try.f81.body [1, 1, 1, 0]
noncomputable def reg81_5 := rg Try.f81.body [1, 1, 1, 1, 0, 0]
noncomputable def reg81_6 := rg Try.f81.body [1, 1, 1, 1, 0, 1, 0, 0]
noncomputable def reg81_7 := rg Try.f81.body [1, 1, 1, 1, 1, 0]
noncomputable def reg81_8 := rg Try.f81.body [1, 1, 1, 1, 1, 1, 0, 0]
noncomputable def reg81_9 := rg Try.f81.body [1, 1, 1, 1, 1, 1, 0, 1, 0, 0]
noncomputable def reg81_10 := rg Try.f81.body [1, 1, 1, 1, 1, 1, 1, 0]
noncomputable def reg81_11 := rg Try.f81.body [1, 1, 1, 1, 1, 1, 1, 1, 0]
theorem z81 : List.range reg81_0.size = [0, 1] ∧ List.range reg81_1.size = [0, 1, 2, 3] ∧ List.range reg81_2.size = [0, 1] ∧ List.range reg81_3.size = [0, 1] ∧ List.range reg81_4.size = [0, 1, 2, 3, 4, 5] ∧ List.range reg81_5.size = [0, 1, 2, 3, 4, 5, 6] ∧ List.range reg81_6.size = [0, 1] ∧ List.range reg81_7.size = [0, 1, 2, 3, 4, 5, 6, 7, 8, 9, 10, 11] ∧ List.range reg81_8.size = [0, 1] ∧ List.range reg81_9.size = [0, 1, 2] ∧ List.range reg81_10.size = [0, 1, 2, 3] ∧ List.range reg81_11.size = [0, 1, 2] := by refine ⟨?_, ?_, ?_, ?_, ?_, ?_, ?_, ?_, ?_, ?_, ?_, ?_⟩ <;> kernel_rfl
theorem code81_is : Try.f81.body = some (.seq (.region 0 reg81_0 false) (.seq (.region 1 reg81_1 false) (.seq (.seq (.region 2 reg81_2 false) (.cond (.tmp 16 ) (.seq (.region 3 reg81_3 false) (.ret)) (.skip))) (.seq (.region 4 reg81_4 false) (.seq (.seq (.region 5 reg81_5 false) (.cond (.tmp 28 ) (.seq (.region 6 reg81_6 false) (.ret)) (.skip))) (.seq (.region 7 reg81_7 false) (.seq (.seq (.region 8 reg81_8 false) (.cond (.tmp 40 ) (.seq (.region 9 reg81_9 false) (.ret)) (.skip))) (.seq (.region 10 reg81_10 false) (.seq (.region 11 reg81_11 false) (.ret)))))))))) := by kernel_rfl
section
variable {rb sb n ob qb m : Nat} {sv : Value}
theorem SoI.plain {K : Lg (soLa rb sb n ob qb m) sv} (e : K.E) (s' : So) (b j : Nat) (v : Value) (hb : soSh rb sb ob qb b) (h : SoI rb sb n ob qb m s' ((K.w e).setCell ⟨b, j, none⟩ v)) : ∃ e', Mv K.toLb e e' s' ((K.w e).setCell ⟨b, j, none⟩ v) :=
  K.mv e s' _ (Nat.le_of_eq (size_set ..).symm) (fun x _ _ hs => heap_set_other _ _ _ _ fun he : x = b => hs (by rw [he]; exact hb)) h
theorem finish_s (K : Lg (soLa rb sb n ob qb m) sv) (e : K.E) (k : Nat) (hk : k < m) (q : Int) (hq : seqP q) (d : SoD) (a : Ans) (hd : ∀ s, soAct n m s d = (soFin s k q, .inl a)) (ht : K.tgt e = (K.s e, .inr d)) : SCall K.toLb 101 #[.pointer (some ⟨qb, k * 2, none⟩), sv, .int .i64 q] e (fun v e' => v = .tuple #[] ∧ K.tgt e' = (K.s e', .inl a)) := by
  intro fr l hp hl hk2
  have w1 := word_store K (numW k hk) e d q hq trivial ht
  unfold LW
  rw [enter_at _ Try.func101 code101_is]
  simp only [Try.ntmps101, ez, Nat.reduceAdd, Nat.reduceSub]
  repeat (first | refine Walk.cx ?_ | (refine Walk.cReg ?_; simp only [z101]) | (refine Walk.oq ?_; try walk_nrm) | (refine Walk.un ?_; walk_nrm))
  refine LW.callS (K := K.toLb) (e := e) (l := fr :: l) (f := 71) (Q := fun _ e' => ∃ s : So, Wrote K e d s (soNm s k q) e') ?_ (ho_of (by conv => lhs; whnf) (by kernel_rfl)) (by rfl) (by decide) rfl Try.func71 (by kernel_rfl) (by rfl) ⟨rfl, rfl, _, Try.func101⟩ (plain_cons hp hl) ?_
  · walk_nrm
    exact w1
  rintro x e1 ⟨s, hs⟩
  have I1 : SoI rb sb n ob qb m (soNm s k q) (K.w e1) := by have h := K.inv e1; rw [hs.s] at h; exact h
  have t1 : K.tgt e1 = (soFin s k q, .inl a) := hs.tgt.trans (hd s)
  obtain ⟨c1, z1⟩ := I1.rdP hk
  have hap := (K.shA e1 qb (.inr (.inr (.inr rfl)))).1 ⟨qb, k * 2 + 1, none⟩ rfl
  obtain ⟨e2, m2⟩ := SoI.plain e1 (soPl (soNm s k q) k q) qb (k * 2 + 1) (.int .i64 q) (.inr (.inr (.inr rfl))) (I1.setP hk hq)
  have t2 : K.tgt e2 = (K.s e2, .inl a) := by rw [m2.tgt, m2.s]; exact t1
  have hkk := hk2 (.tuple #[]) e2 ⟨rfl, t2⟩
  clear w1 I1
  unfold LW at hkk ⊢
  walk_nrm
  repeat (first | refine Walk.cx ?_ | (refine Walk.cReg ?_; simp only [z101]) | (refine Walk.oq ?_; try walk_nrm) | (refine Walk.un ?_; walk_nrm))
  (refine Walk.os hap c1 ?_; try walk_nrm)
  refine LW.to (l := fr :: l) m2 ?_
  unfold LW
  repeat (first | refine Walk.cx ?_ | (refine Walk.cReg ?_; simp only [z101]) | (refine Walk.oq ?_; try walk_nrm) | (refine Walk.un ?_; walk_nrm))
  exact Walk.on0 rfl rfl Try.func101 rfl hkk
def ErOut (K : Lg (soLa rb sb n ob qb m) sv) (v : Value) (e' : K.E) : Prop := ∃ a er, v = .tuple #[.int .i64 a, .int .i64 er] ∧ K.tgt e' = (K.s e', .inl ⟨er == 0, if er = 0 then a else er, []⟩) ∧ (er ≠ 0 → a = 0)
theorem read_s (K : Lg (soLa rb sb n ob qb m) sv) (e : K.E) (k : Nat) (hk : k < m) (ht : K.tgt e = (K.s e, .inr (.r0 k ((K.s e : So).pl k + 1)))) : SCall K.toLb 81 #[.pointer (some ⟨ob, 0, none⟩), sv, .int .i64 k] e (ErOut K) := by
  intro fr l hp hl hk2
  have I : SoI rb sb n ob qb m (K.s e) (K.w e) := K.inv e
  have hrd := reader_yes (main := K.main) (V := K.V e) (K.w e) I k hk
  have hpl := I.bd.pl k hk
  have c1 := (I.rdP hk).1
  have hp1 := fun w => run_eql_ptr (P := Try.prog) 171 undRdr (some ⟨qb, k * 2, none⟩) w
  have hp2 := fun w es => ev_eql_ptr (P := Try.prog) 171 undRdr (some ⟨qb, k * 2, none⟩) w es
  simp only [Option.isNone_some] at hp1
  generalize (K.s e : So).pl k = p at *
  obtain ⟨q, hq⟩ : ∃ q, p + 1 = q := ⟨_, rfl⟩
  rw [hq] at ht
  have hw1 : IntKind.wrap .i64 (p + 1) = q := by have := hpl.1; have := hpl.2; rw [IntKind.wrap_i64]; omega
  have hq0 : 0 ≤ q := by have := hpl.1; omega
  clear hq
  have w1 := word_load K curW e (.r0 k q) trivial ht
  unfold Wd.p at w1
  unfold LW
  clear I hpl
  rw [enter_at _ Try.func81 code81_is]
  simp only [Try.ntmps81, ez, Nat.reduceAdd, Nat.reduceSub]
  repeat (first | refine Walk.cx ?_ | (refine Walk.cReg ?_; simp only [z81]) | (refine Walk.oq ?_; try walk_nrm) | (refine Walk.un ?_; walk_nrm))
  refine Walk.callV (x := .pointer (some ⟨qb, k * 2, none⟩)) (W := K.w e) ?_ (ho_of (by conv => lhs; whnf) (by kernel_rfl)) (by rfl) (by decide) rfl Try.func99 (by kernel_rfl) (by rfl) ?_
  · walk_nrm
    exact hrd
  walk_nrm
  clear hrd
  repeat (first | refine Walk.cx ?_ | (refine Walk.cReg ?_; simp only [z81]) | (refine Walk.oq ?_; try walk_nrm) | (refine Walk.un ?_; walk_nrm))
  clear c1 hw1
  refine LW.callS (K := K.toLb) (e := e) (l := fr :: l) (f := 100) (Q := fun v e' => Aft K.toLb e (.r0 k q) e' ∧ v = .int .i64 ((K.s e' : So).cur)) ?_ (ho_of (by conv => lhs; whnf) (by kernel_rfl)) (by rfl) (by decide) rfl Try.func100 (by kernel_rfl) (by rfl) ⟨rfl, rfl, _, Try.func81⟩ (plain_cons hp hl) ?_
  · walk_nrm
    exact w1
  rintro v e1 ⟨ha, rfl⟩
  have I1 : SoI rb sb n ob qb m (K.s e1) (K.w e1) := K.inv e1
  have hcu := I1.bd.cur
  have t1 : K.tgt e1 = (K.s e1, if (K.s e1 : So).cur < q then .inl ⟨false, 4, []⟩ else .inr (.r1 k q)) := ha.tgt
  have c0 : (K.w e1).cell? ⟨ob, 0, none⟩ = some (.pointer (some ⟨rb, 0, none⟩)) := (cell_of I1.ob 0).trans rfl
  generalize (K.s e1 : So).cur = x at *
  clear w1 I1
  by_cases h1 : x < q
  · rw [if_pos h1] at t1
    have hkk := hk2 (.tuple #[.int .i64 0, .int .i64 4]) e1 ⟨0, 4, rfl, t1, fun _ => rfl⟩
    have g1 : decide (x < q) = true := by simp [h1]
    unfold LW at hkk ⊢
    walk_nrm
    repeat (first | refine Walk.cx ?_ | (refine Walk.cReg ?_; simp only [z81]) | (refine Walk.oq ?_; try walk_nrm) | (refine Walk.un ?_; walk_nrm))
    exact Walk.on2 rfl rfl Try.func81 rfl hkk
  rw [if_neg h1] at t1
  have g1 : decide (x < q) = false := by simp [h1]
  have hq1 : q < 4611686018427387904 := by have := hcu.2; omega
  have w2 := getG_s soRing K e1 q ⟨hq0, hq1⟩ (.r1 k q) (.r2 k q) (.r3 k q) (.inl ⟨false, 6, []⟩) (.inl ⟨false, 10, []⟩) (fun v => .inr (.r4 k q v)) (fun _ => rfl) (fun _ => rfl) (fun _ _ => rfl) t1
  unfold LW
  walk_nrm
  repeat (first | refine Walk.cx ?_ | (refine Walk.cReg ?_; simp only [z81]) | (refine Walk.oq ?_; try walk_nrm) | (refine Walk.un ?_; walk_nrm))
  clear c0
  refine LW.callS (K := K.toLb) (e := e1) (l := fr :: l) (f := 61) (Q := GetOutG K (.inl ⟨false, 6, []⟩) (.inl ⟨false, 10, []⟩) (fun v => .inr (.r4 k q v))) ?_ (ho_of (by conv => lhs; whnf) (by kernel_rfl)) (by rfl) (by decide) rfl Try.func61 (by kernel_rfl) (by rfl) ⟨rfl, rfl, _, Try.func81⟩ (plain_cons hp hl) ?_
  · walk_nrm
    exact w2
  rintro v e2 ⟨a, er, rfl, hcase⟩
  clear w2 g1 t1
  have hcase' : (er ≠ 0 ∧ K.tgt e2 = (K.s e2, .inl ⟨false, er, []⟩)) ∨ (er = 0 ∧ K.tgt e2 = (K.s e2, .inr (.r4 k q a))) := by
    rcases hcase with ⟨h, h'⟩ | ⟨h, h'⟩ | ⟨h, h'⟩
    · exact .inl ⟨by omega, by rw [h]; exact h'⟩
    · exact .inl ⟨by omega, by rw [h]; exact h'⟩
    · exact .inr ⟨h, h'⟩
  clear hcase
  rcases hcase' with ⟨her, t2⟩ | ⟨rfl, t2⟩
  · have hb1 : (er == 0) = false := by simp [her]
    have hb2 : (er != 0) = true := by simp [her]
    have hkk := hk2 (.tuple #[.int .i64 0, .int .i64 er]) e2 ⟨0, er, rfl, by rw [hb1, if_neg her]; exact t2, fun _ => rfl⟩
    unfold LW at hkk ⊢
    walk_nrm
    repeat (first | refine Walk.cx ?_ | (refine Walk.cReg ?_; simp only [z81]) | (refine Walk.oq ?_; try walk_nrm) | (refine Walk.un ?_; walk_nrm))
    exact Walk.on2 rfl rfl Try.func81 rfl hkk
  · have w3 := finish_s K e2 k hk q ⟨by omega, hq1⟩ (.r4 k q a) ⟨true, a, []⟩ (fun _ => rfl) t2
    unfold LW
    walk_nrm
    repeat (first | refine Walk.cx ?_ | (refine Walk.cReg ?_; simp only [z81]) | (refine Walk.oq ?_; try walk_nrm) | (refine Walk.un ?_; walk_nrm))
    refine LW.callS (K := K.toLb) (e := e2) (l := fr :: l) (f := 101) (Q := fun v e' => v = .tuple #[] ∧ K.tgt e' = (K.s e', .inl ⟨true, a, []⟩)) ?_ (ho_of (by conv => lhs; whnf) (by kernel_rfl)) (by rfl) (by decide) rfl Try.func101 (by kernel_rfl) (by rfl) ⟨rfl, rfl, _, Try.func81⟩ (plain_cons hp hl) ?_
    · walk_nrm
      exact w3
    rintro v e3 ⟨rfl, t3⟩
    have hkk := hk2 (.tuple #[.int .i64 a, .int .i64 0]) e3 ⟨a, 0, rfl, t3, fun h => absurd rfl h⟩
    unfold LW at hkk ⊢
    walk_nrm
    repeat (first | refine Walk.cx ?_ | (refine Walk.cReg ?_; simp only [z81]) | (refine Walk.oq ?_; try walk_nrm) | (refine Walk.un ?_; walk_nrm))
    exact Walk.on2 rfl rfl Try.func81 rfl hkk
end
end
section
noncomputable def reg164_0 := rg Try.f164.body [0]
noncomputable def reg164_1 := rg Try.f164.body [1, 0]
noncomputable def reg164_2 := rg Try.f164.body [1, 1, 0, 0]
noncomputable def reg164_3 := rg Try.f164.body [1, 1, 0, 1, 0, 0, 0]
noncomputable def reg164_4 := rg Try.f164.body [1, 1, 0, 1, 0, 0, 1, 1, 0, 0, 0]
noncomputable def reg164_5 := rg Try.f164.body [1, 1, 0, 1, 0, 0, 1, 1, 0, 0, 1]
noncomputable def reg164_6 := rg Try.f164.body [1, 1, 0, 1, 0, 0, 1, 1, 1]
noncomputable def reg164_7 := rg Try.f164.body [1, 1, 1, 0]
theorem z164 : List.range reg164_0.size = [0] ∧ List.range reg164_1.size = [0] ∧ List.range reg164_2.size = [0, 1, 2, 3, 4, 5] ∧ List.range reg164_3.size = [0] ∧ List.range reg164_4.size = [0, 1] ∧ List.range reg164_5.size = [0, 1, 2, 3, 4, 5, 6, 7, 8, 9, 10, 11] ∧ List.range reg164_6.size = [0, 1] ∧ List.range reg164_7.size = [0, 1] := by refine ⟨?_, ?_, ?_, ?_, ?_, ?_, ?_, ?_⟩ <;> kernel_rfl
theorem code164_is : Try.f164.body = some (.seq (.region 0 reg164_0 false) (.seq (.region 1 reg164_1 false) (.seq (.seq (.region 2 reg164_2 false) (.block 0 (.loop (.seq (.region 3 reg164_3 false) (.seq (.cond (.tmp 13 ) (.skip) (.exit 0)) (.seq (.block 1 (.seq (.region 4 reg164_4 false) (.region 5 reg164_5 false))) (.region 6 reg164_6 false))))))) (.seq (.region 7 reg164_7 false) (.ret))))) := by kernel_rfl
noncomputable def hdLe (ob : Nat) (sv : Value) (z : Int) (m k : Nat) (u : Nat → Value) : Frame :=
  (base 164).at { tmps := #[.pointer (some ⟨ob, 0, none⟩), sv, u 2, u 3, u 4, .int .i64 z, u 6, u 7, u 8, u 9, u 10, .int .i64 m, .int .i64 k, u 13, u 14, u 15, u 16, u 17, u 18, u 19, u 20, u 21, u 22, u 23, u 24, u 25, u 26, u 27], defers := [] } [.code (.seq (.region 3 reg164_3 false) (.seq (.cond (.tmp 13 ) (.skip) (.exit 0)) (.seq (.block 1 (.seq (.region 4 reg164_4 false) (.region 5 reg164_5 false))) (.region 6 reg164_6 false)))), .inLoop (.seq (.region 3 reg164_3 false) (.seq (.cond (.tmp 13 ) (.skip) (.exit 0)) (.seq (.block 1 (.seq (.region 4 reg164_4 false) (.region 5 reg164_5 false))) (.region 6 reg164_6 false)))), .inBlock 0, .code (.seq (.region 7 reg164_7 false) (.ret))]
def soL (n m : Nat) (s : So) (k : Nat) (z f c : Int) (t : Option (Nat × (Nat → Int))) : So × (Ans ⊕ SoD) := if k < m then (s, .inr (.cl k z f c t)) else soGot n s z f c t
theorem soL_zero (n m : Nat) (s : So) (f c : Int) (t : Option (Nat × (Nat → Int))) : soLst n m s f c t = soL n m s 0 4611686018427387904 f c t := by
  unfold soLst soL
  by_cases h : m = 0
  · rw [if_pos h, if_neg (by omega)]
  · rw [if_neg h, if_pos (by omega)]
section
variable {rb sb n ob qb m : Nat} {sv : Value}
theorem le_round (K : Lg (soLa rb sb n ob qb m) sv) (f c : Int) (t : Option (Nat × (Nat → Int))) (fr : Frame) (l : List Frame) (hp : Plain fr) (hl : ∀ f ∈ l, Plain f) (k : Nat) (hk : k < m) (z : Int) (e : K.E) (u : Nat → Value) (ht : K.tgt e = (K.s e, .inr (.cl k z f c t)))
    (ih : ∀ (e' : K.E) (u' : Nat → Value) (z' : Int), K.tgt e' = soL n m (K.s e') (k + 1) z' f c t → LW K.toLb e' (G (hdLe ob sv z' m (k + 1) u') (fr :: (l ++ K.bot e')))) :
    LW K.toLb e (G (hdLe ob sv z m k u) (fr :: (l ++ K.bot e))) := by
  have hmn := @events_min_ints Try.prog
  have I : SoI rb sb n ob qb m (K.s e) (K.w e) := K.inv e
  have c0 : (K.w e).cell? ⟨ob, 2, none⟩ = some (.slice (some ⟨qb, 0, none⟩) m m) := (cell_of I.ob 2).trans rfl
  have hm := I.few
  have w1 := word_load K (numW k hk) e (.cl k z f c t) trivial ht
  unfold Wd.p at w1
  have hk0 : (0 : Int) ≤ k := by omega
  have hk1 : decide ((k : Int) < m) = true := by simp; omega
  have hk3 : decide (k < m) = true := by simp; omega
  have hk4 : (k : Int) < m := by omega
  have hw1 : IntKind.wrap .i64 ((k : Int) + 1) = (k : Int) + 1 := by rw [IntKind.wrap_i64]; omega
  have hcc : ((k + 1 : Nat) : Int) = (k : Int) + 1 := by simp
  clear I
  unfold LW hdLe
  repeat (first | refine Walk.cx ?_ | (refine Walk.cReg ?_; simp only [z164]) | (refine Walk.oq ?_; try walk_nrm) | (refine Walk.un ?_; walk_nrm))
  clear c0
  refine LW.callS (K := K.toLb) (e := e) (l := fr :: l) (f := 100) (Q := fun v e' => Aft K.toLb e (.cl k z f c t) e' ∧ v = .int .i64 ((K.s e' : So).nm k)) ?_ (ho_of (by conv => lhs; whnf) (by kernel_rfl)) (by rfl) (by decide) rfl Try.func100 (by kernel_rfl) (by rfl) ⟨rfl, rfl, _, Try.func164⟩ (plain_cons hp hl) ?_
  · walk_nrm
    exact w1
  rintro v e1 ⟨ha, rfl⟩
  have t1 : K.tgt e1 = soL n m (K.s e1) (k + 1) (min z ((K.s e1 : So).nm k)) f c t := ha.tgt
  have hih := fun u => ih e1 u _ t1
  generalize (K.s e1 : So).nm k = x at *
  clear w1 ih t1 ht
  unfold LW at hih ⊢
  walk_nrm
  repeat (first | refine Walk.cx ?_ | (refine Walk.cReg ?_; simp only [z164]) | (refine Walk.oq ?_; try walk_nrm) | (refine Walk.un ?_; walk_nrm))
  refine Walk.ctl rfl (fun w => stepG_inLoop) ?_
  refine slots_walk (F := fun u => G (hdLe ob sv (min z x) m (k + 1) u) (fr :: (l ++ K.bot e1))) hih ?_
  simp only [hdLe, hcc]
  rfl
def LeOut (K : Lg (soLa rb sb n ob qb m) sv) (f c : Int) (t : Option (Nat × (Nat → Int))) (v : Value) (e' : K.E) : Prop := ∃ z, v = .int .i64 z ∧ K.tgt e' = soGot n (K.s e') z f c t
theorem le_end (K : Lg (soLa rb sb n ob qb m) sv) (f c : Int) (t : Option (Nat × (Nat → Int))) (fr : Frame) (l : List Frame) (hk : ∀ x e', LeOut K f c t x e' → LW K.toLb e' (G (fr.finish x) (l ++ K.bot e'))) (z : Int) (e : K.E) (u : Nat → Value) (ht : K.tgt e = soGot n (K.s e) z f c t) : LW K.toLb e (G (hdLe ob sv z m m u) (fr :: (l ++ K.bot e))) := by
  have hk1 : decide ((m : Int) < m) = false := by simp
  have hk3 : decide (m < m) = false := by simp
  have hkk := hk (.int .i64 z) e ⟨z, rfl, ht⟩
  unfold LW at hkk ⊢
  unfold hdLe
  repeat (first | refine Walk.cx ?_ | (refine Walk.cReg ?_; simp only [z164]) | (refine Walk.oq ?_; try walk_nrm) | (refine Walk.un ?_; walk_nrm))
  exact Walk.on1 rfl rfl Try.func164 rfl hkk
theorem le_loop (K : Lg (soLa rb sb n ob qb m) sv) (f c : Int) (t : Option (Nat × (Nat → Int))) (fr : Frame) (l : List Frame) (hp : Plain fr) (hl : ∀ f ∈ l, Plain f) (hk : ∀ x e', LeOut K f c t x e' → LW K.toLb e' (G (fr.finish x) (l ++ K.bot e'))) :
    ∀ (r k : Nat) (z : Int) (e : K.E) (u : Nat → Value), k + r = m → K.tgt e = soL n m (K.s e) k z f c t → LW K.toLb e (G (hdLe ob sv z m k u) (fr :: (l ++ K.bot e))) := by
  intro r
  induction r with
  | zero =>
    intro k z e u hr ht
    have hr : k = m := hr
    subst hr
    unfold soL at ht
    rw [if_neg (Nat.lt_irrefl _)] at ht
    exact le_end K f c t fr l hk z e u ht
  | succ r ih =>
    intro k z e u hr ht
    unfold soL at ht
    rw [if_pos (by omega)] at ht
    exact le_round K f c t fr l hp hl k (by omega) z e u ht fun e' u' z' ht' => ih (k + 1) z' e' u' (by omega) ht'
theorem least_s (K : Lg (soLa rb sb n ob qb m) sv) (e : K.E) (f c : Int) (t : Option (Nat × (Nat → Int))) (ht : K.tgt e = soLst n m (K.s e) f c t) : SCall K.toLb 164 #[.pointer (some ⟨ob, 0, none⟩), sv] e (LeOut K f c t) := by
  intro fr l hp hl hk
  have I : SoI rb sb n ob qb m (K.s e) (K.w e) := K.inv e
  have c0 : (K.w e).cell? ⟨ob, 2, none⟩ = some (.slice (some ⟨qb, 0, none⟩) m m) := (cell_of I.ob 2).trans rfl
  replace ht := ht.trans (soL_zero n m (K.s e) f c t)
  have hlp := fun u => le_loop K f c t fr l hp hl hk m 0 4611686018427387904 e u (Nat.zero_add _) ht
  clear I hk ht
  unfold LW at hlp ⊢
  rw [enter_at _ Try.func164 code164_is]
  simp only [Try.ntmps164, ez, Nat.reduceAdd, Nat.reduceSub]
  repeat (first | refine Walk.cx ?_ | (refine Walk.cReg ?_; simp only [z164]) | (refine Walk.oq ?_; try walk_nrm) | (refine Walk.un ?_; walk_nrm))
  refine Walk.ctl rfl (fun w => stepG_loop) ?_
  refine slots_walk (F := fun u => G (hdLe ob sv 4611686018427387904 m 0 u) (fr :: (l ++ K.bot e))) hlp ?_
  simp only [hdLe]
  rfl
end
end
end Go.Proofs.Ytcdcnmphjhfbpaa
