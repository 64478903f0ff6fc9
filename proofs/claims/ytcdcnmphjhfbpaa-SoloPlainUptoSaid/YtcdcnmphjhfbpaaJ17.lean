/- Part 17. -/
import Derived.Test.YtcdcnmphjhfbpaaJ15
import Derived.Test.YtcdcnmphjhfbpaaJ16
set_option linter.unusedSimpArgs false
set_option linter.unusedVariables false
set_option linter.unusedVariables false
set_option maxHeartbeats 8000000
set_option maxRecDepth 100000
namespace Go.Proofs.Ytcdcnmphjhfbpaa
open Go.Conc Go.RowKit Go.Relay
open Go.ConcN (upd upd_ne upd_same)
section
noncomputable def reg41_0 := rg Try.f41.body [0]
noncomputable def reg41_1 := rg Try.f41.body [1, 0]
noncomputable def reg41_2 := rg Try.f41.body [1, 1, 0, 0]
noncomputable def reg41_3 := rg Try.f41.body [1, 1, 0, 1, 0, 0]
noncomputable def reg41_4 := rg Try.f41.body [1, 1, 1, 0, 0]
noncomputable def reg41_5 := rg Try.f41.body [1, 1, 1, 0, 1, 0, 0, 0]
noncomputable def reg41_6 := rg Try.f41.body [1, 1, 1, 0, 1, 0, 0, 1, 1, 0, 0, 0]
noncomputable def reg41_7 := rg Try.f41.body [1, 1, 1, 0, 1, 0, 0, 1, 1, 0, 0, 1]
noncomputable def reg41_8 := rg Try.f41.body [1, 1, 1, 0, 1, 0, 0, 1, 1, 1]
noncomputable def reg41_9 := rg Try.f41.body [1, 1, 1, 1, 0]
noncomputable def reg41_10 := rg Try.f41.body [1, 1, 1, 1, 1, 0]
theorem z41 : List.range reg41_0.size = [0, 1] ∧ List.range reg41_1.size = [0, 1, 2, 3, 4, 5, 6, 7, 8, 9] ∧ List.range reg41_2.size = [0, 1] ∧ List.range reg41_3.size = [0, 1, 2] ∧ List.range reg41_4.size = [0, 1, 2] ∧ List.range reg41_5.size = [0] ∧ List.range reg41_6.size = [0, 1, 2, 3, 4] ∧ List.range reg41_7.size = [0, 1, 2, 3, 4, 5, 6] ∧ List.range reg41_8.size = [0, 1] ∧ List.range reg41_9.size = [0, 1, 2, 3, 4, 5, 6, 7] ∧ List.range reg41_10.size = [0, 1, 2] := by refine ⟨?_, ?_, ?_, ?_, ?_, ?_, ?_, ?_, ?_, ?_, ?_⟩ <;> kernel_rfl
theorem code41_is : Try.f41.body = some (.seq (.region 0 reg41_0 false) (.seq (.region 1 reg41_1 false) (.seq (.seq (.region 2 reg41_2 false) (.cond (.tmp 21 ) (.seq (.region 3 reg41_3 false) (.ret)) (.skip))) (.seq (.seq (.region 4 reg41_4 false) (.block 0 (.loop (.seq (.region 5 reg41_5 false) (.seq (.cond (.tmp 26 ) (.skip) (.exit 0)) (.seq (.block 1 (.seq (.region 6 reg41_6 false) (.region 7 reg41_7 false))) (.region 8 reg41_8 false))))))) (.seq (.region 9 reg41_9 false) (.seq (.region 10 reg41_10 false) (.ret))))))) := by kernel_rfl
noncomputable def hdWr (ob : Nat) (sv sl : Value) (f : Int) (N i : Nat) (u : Nat → Value) : Frame :=
  (base 41).at { tmps := #[.pointer (some ⟨ob, 0, none⟩), sv, sl, u 3, u 4, u 5, u 6, u 7, .int .i64 f, u 9, u 10, u 11, u 12, u 13, u 14, u 15, u 16, u 17, u 18, u 19, u 20, u 21, u 22, sl, .int .i64 N, .int .i64 i, u 26, u 27, u 28, u 29, u 30, u 31, u 32, u 33, u 34, u 35, u 36, u 37, u 38, u 39, u 40, u 41, u 42, u 43, u 44, u 45, u 46], defers := [] } [.code (.seq (.region 5 reg41_5 false) (.seq (.cond (.tmp 26 ) (.skip) (.exit 0)) (.seq (.block 1 (.seq (.region 6 reg41_6 false) (.region 7 reg41_7 false))) (.region 8 reg41_8 false)))), .inLoop (.seq (.region 5 reg41_5 false) (.seq (.cond (.tmp 26 ) (.skip) (.exit 0)) (.seq (.block 1 (.seq (.region 6 reg41_6 false) (.region 7 reg41_7 false))) (.region 8 reg41_8 false)))), .inBlock 0, .code (.seq (.region 9 reg41_9 false) (.seq (.region 10 reg41_10 false) (.ret)))]
section
variable {rb sb n ob qb m : Nat} {sv : Value}
theorem soW_open (s : So) (f : Int) (N : Nat) (xs : Nat → Int) (i r : Nat) (h : i + (r + 1) = N) : (soOpen s (f + i) → soW s f N xs (r + 1) = .inr (.p1 (f + i) (xs i) (some ⟨f, N, xs, r⟩))) ∧ (¬ soOpen s (f + i) → soW s f N xs (r + 1) = soW s f N xs r) := by
  have e : N - (r + 1) = i := by omega
  constructor
  · intro ho
    show (if soOpen s (f + ((N - (r + 1) : Nat) : Int)) then _ else _) = _
    rw [e, if_pos ho]
  · intro ho
    show (if soOpen s (f + ((N - (r + 1) : Nat) : Int)) then _ else _) = _
    rw [e, if_neg ho]
theorem wr_round (K : Lg (soLa rb sb n ob qb m) sv) (a' : Option Addr) (cp : Nat) (vs : List Int) (xs : Nat → Int) (hrd : ∀ e' : K.E, LsR (.slice a' vs.length cp) vs (K.w e')) (f : Int) (hf0 : 0 ≤ f) (hf1 : f + vs.length ≤ 4611686018427387904) (hN : vs.length ≤ 65536) (fr : Frame) (l : List Frame) (hp : Plain fr) (hl : ∀ f ∈ l, Plain f) (i r : Nat) (hi : i + (r + 1) = vs.length) (hx : vs[i]? = some (xs i)) (e : K.E) (u : Nat → Value) (ht : K.tgt e = (K.s e, soW (K.s e) f vs.length xs (r + 1)))
    (ih : ∀ (e' : K.E) (u' : Nat → Value), K.tgt e' = (K.s e', soW (K.s e') f vs.length xs r) → LW K.toLb e' (G (hdWr ob sv (.slice a' vs.length cp) f vs.length (i + 1) u') (fr :: (l ++ K.bot e')))) :
    LW K.toLb e (G (hdWr ob sv (.slice a' vs.length cp) f vs.length i u) (fr :: (l ++ K.bot e))) := by
  obtain ⟨ca, cc, ce, _, _, hcs⟩ := hrd e
  injection ce with ce1 _ ce3
  subst ce1
  subst ce3
  obtain ⟨b, o, rfl, hc⟩ := hcs i _ hx
  have w1 := oput_s K e (f + i) (xs i) (some ⟨f, vs.length, xs, r⟩) (fun s => soW s f vs.length xs r) (fun ho => ht.trans (congrArg (Prod.mk _) ((soW_open _ f _ xs i r hi).1 ho))) (fun ho => ht.trans (congrArg (Prod.mk _) ((soW_open _ f _ xs i r hi).2 ho)))
  clear hcs hrd ht hx
  generalize xs i = x at *
  generalize vs.length = N at *
  have hi0 : (0 : Int) ≤ i := by omega
  have hi1 : decide ((i : Int) < N) = true := by simp; omega
  have hi3 : decide (i < N) = true := by simp; omega
  have hi4 : (i : Int) < N := by omega
  have hw1 : IntKind.wrap .i64 ((i : Int) + 1) = (i : Int) + 1 := by rw [IntKind.wrap_i64]; omega
  have hw2 : IntKind.wrap .i64 (f + (i : Int)) = f + i := by rw [IntKind.wrap_i64]; omega
  have hcc : ((i + 1 : Nat) : Int) = (i : Int) + 1 := by simp
  unfold LW hdWr
  repeat (first | refine Walk.cx ?_ | (refine Walk.cReg ?_; simp only [z41]) | (refine Walk.oq ?_; try walk_nrm) | (refine Walk.un ?_; walk_nrm))
  clear hc
  refine LW.callS (K := K.toLb) (e := e) (l := fr :: l) (f := 97) (Q := PtOut K (some ⟨f, N, xs, r⟩) (fun s => soW s f N xs r)) ?_ (ho_of (by conv => lhs; whnf) (by kernel_rfl)) (by rfl) (by decide) rfl Try.func97 (by kernel_rfl) (by rfl) ⟨rfl, rfl, _, Try.func41⟩ (plain_cons hp hl) ?_
  · walk_nrm
    exact w1
  intro v e1 h
  have t1 : K.tgt e1 = (K.s e1, soW (K.s e1) f N xs r) := by
    rcases h with ⟨_, h⟩ | ⟨_, h⟩
    · exact h
    · exact h
  have hih := fun u => ih e1 u t1
  clear w1 ih t1 h
  unfold LW at hih ⊢
  walk_nrm
  repeat (first | refine Walk.cx ?_ | (refine Walk.cReg ?_; simp only [z41]) | (refine Walk.oq ?_; try walk_nrm) | (refine Walk.un ?_; walk_nrm))
  refine Walk.ctl rfl (fun w => stepG_inLoop) ?_
  refine slots_walk (F := fun u => G (hdWr ob sv (.slice (some ⟨b, o, none⟩) N cp) f N (i + 1) u) (fr :: (l ++ K.bot e1))) hih ?_
  simp only [hdWr, hcc]
  rfl
theorem wr_end (K : Lg (soLa rb sb n ob qb m) sv) (a' : Option Addr) (cp N : Nat) (xs : Nat → Int) (f : Int) (hf0 : 0 ≤ f) (hf1 : f + N ≤ 4611686018427387904) (fr : Frame) (l : List Frame) (hp : Plain fr) (hl : ∀ f ∈ l, Plain f) (hk : ∀ x e', ErOut K x e' → LW K.toLb e' (G (fr.finish x) (l ++ K.bot e'))) (e : K.E) (u : Nat → Value) (ht : K.tgt e = (K.s e, soW (K.s e) f N xs 0)) :
    LW K.toLb e (G (hdWr ob sv (.slice a' N cp) f N N u) (fr :: (l ++ K.bot e))) := by
  have hi1 : decide ((N : Int) < N) = false := by simp
  have hi3 : decide (N < N) = false := by simp
  have hw1 : IntKind.wrap .i64 (f + (N : Int)) = f + N := by rw [IntKind.wrap_i64]; omega
  have hw2 : IntKind.wrap .i64 (f + (N : Int) - 1) = f + N - 1 := by rw [IntKind.wrap_i64]; omega
  have w1 := opub_s K e (f + N - 1) ⟨true, f, []⟩ (.inl ⟨true, f, []⟩) (fun ho => ht.trans (congrArg (Prod.mk _) (if_pos ho))) (fun ho => ht.trans (congrArg (Prod.mk _) (if_neg ho)))
  clear ht
  unfold LW hdWr
  repeat (first | refine Walk.cx ?_ | (refine Walk.cReg ?_; simp only [z41]) | (refine Walk.oq ?_; try walk_nrm) | (refine Walk.un ?_; walk_nrm))
  refine LW.callS (K := K.toLb) (e := e) (l := fr :: l) (f := 98) (Q := PbOut K ⟨true, f, []⟩ (.inl ⟨true, f, []⟩)) ?_ (ho_of (by conv => lhs; whnf) (by kernel_rfl)) (by rfl) (by decide) rfl Try.func98 (by kernel_rfl) (by rfl) ⟨rfl, rfl, _, Try.func41⟩ (plain_cons hp hl) ?_
  · walk_nrm
    exact w1
  intro v e1 h
  have t1 : K.tgt e1 = (K.s e1, .inl ⟨true, f, []⟩) := by
    rcases h with ⟨_, h⟩ | ⟨_, h⟩
    · exact h
    · exact h
  have hkk := hk (.tuple #[.int .i64 f, .int .i64 0]) e1 ⟨f, 0, rfl, t1, fun h => absurd rfl h⟩
  clear w1 t1 h hw1 hw2
  unfold LW at hkk ⊢
  walk_nrm
  repeat (first | refine Walk.cx ?_ | (refine Walk.cReg ?_; simp only [z41]) | (refine Walk.oq ?_; try walk_nrm) | (refine Walk.un ?_; walk_nrm))
  exact Walk.on2 rfl rfl Try.func41 rfl hkk
theorem wr_loop (K : Lg (soLa rb sb n ob qb m) sv) (a' : Option Addr) (cp : Nat) (vs : List Int) (xs : Nat → Int) (hxs : ∀ i, i < vs.length → vs[i]? = some (xs i)) (hrd : ∀ e' : K.E, LsR (.slice a' vs.length cp) vs (K.w e')) (f : Int) (hf0 : 0 ≤ f) (hf1 : f + vs.length ≤ 4611686018427387904) (hN : vs.length ≤ 65536) (fr : Frame) (l : List Frame) (hp : Plain fr) (hl : ∀ f ∈ l, Plain f) (hk : ∀ x e', ErOut K x e' → LW K.toLb e' (G (fr.finish x) (l ++ K.bot e'))) :
    ∀ (r i : Nat) (e : K.E) (u : Nat → Value), i + r = vs.length → K.tgt e = (K.s e, soW (K.s e) f vs.length xs r) → LW K.toLb e (G (hdWr ob sv (.slice a' vs.length cp) f vs.length i u) (fr :: (l ++ K.bot e))) := by
  intro r
  induction r with
  | zero =>
    intro i e u hi ht
    have hi : i = vs.length := hi
    subst hi
    exact wr_end K a' cp vs.length xs f hf0 hf1 fr l hp hl hk e u ht
  | succ r ih =>
    intro i e u hi ht
    exact wr_round K a' cp vs xs hrd f hf0 hf1 hN fr l hp hl i r hi (hxs i (by omega)) e u ht fun e' u' ht' => ih (i + 1) e' u' (by omega) ht'
theorem write_so (K : Lg (soLa rb sb n ob qb m) sv) (e : K.E) (a' : Option Addr) (cp : Nat) (vs : List Int) (xs : Nat → Int) (hxs : ∀ i, i < vs.length → vs[i]? = some (xs i)) (hrd : ∀ e' : K.E, LsR (.slice a' vs.length cp) vs (K.w e')) (ht : K.tgt e = soClaim n m (K.s e) vs.length (some (vs.length, xs))) : SCall K.toLb 41 #[.pointer (some ⟨ob, 0, none⟩), sv, .slice a' vs.length cp] e (ErOut K) := by
  intro fr l hp hl hk
  have hn := (SoI.ring (K.inv e)).pos
  have w1 := claim_s K e vs.length (some (vs.length, xs)) ht
  have hlp := fun (f : Int) h0 h1 h2 e' u h3 => wr_loop K a' cp vs xs hxs hrd f h0 h1 h2 fr l hp hl hk vs.length 0 e' u (Nat.zero_add _) h3
  clear ht hxs hrd
  generalize vs.length = N at *
  unfold LW
  rw [enter_at _ Try.func41 code41_is]
  simp only [Try.ntmps41, ez, Nat.reduceAdd, Nat.reduceSub]
  repeat (first | refine Walk.cx ?_ | (refine Walk.cReg ?_; simp only [z41]) | (refine Walk.oq ?_; try walk_nrm) | (refine Walk.un ?_; walk_nrm))
  refine LW.callS (K := K.toLb) (e := e) (l := fr :: l) (f := 96) (Q := ClOut K N (some (N, xs))) ?_ (ho_of (by conv => lhs; whnf) (by kernel_rfl)) (by rfl) (by decide) rfl Try.func96 (by kernel_rfl) (by rfl) ⟨rfl, rfl, _, Try.func41⟩ (plain_cons hp hl) ?_
  · walk_nrm
    exact w1
  rintro v e1 ⟨a, er, rfl, h⟩
  clear w1
  rcases h with ⟨rfl, t1, h0, h1, h2, h3⟩ | ⟨her, rfl, t1⟩
  · have hh := fun u => hlp a h0 h1 (by omega) e1 u t1
    clear hlp hk t1
    unfold LW at hh ⊢
    walk_nrm
    repeat (first | refine Walk.cx ?_ | (refine Walk.cReg ?_; simp only [z41]) | (refine Walk.oq ?_; try walk_nrm) | (refine Walk.un ?_; walk_nrm))
    refine Walk.ctl rfl (fun w => stepG_loop) ?_
    refine slots_walk (F := fun u => G (hdWr ob sv (.slice a' N cp) a N 0 u) (fr :: (l ++ K.bot e1))) hh ?_
    simp only [hdWr]
    rfl
  · have hb1 : (er == 0) = false := by simp [her]
    have hb2 : (er != 0) = true := by simp [her]
    have hkk := hk (.tuple #[.int .i64 0, .int .i64 er]) e1 ⟨0, er, rfl, by rw [hb1, if_neg her]; exact t1, fun _ => rfl⟩
    clear hlp hk t1
    unfold LW at hkk ⊢
    walk_nrm
    repeat (first | refine Walk.cx ?_ | (refine Walk.cReg ?_; simp only [z41]) | (refine Walk.oq ?_; try walk_nrm) | (refine Walk.un ?_; walk_nrm))
    exact Walk.on2 rfl rfl Try.func41 rfl hkk
end
end
section
noncomputable def reg42_0 := rg Try.f42.body [0]
noncomputable def reg42_1 := rg Try.f42.body [1, 0]
noncomputable def reg42_2 := rg Try.f42.body [1, 1, 0, 0]
noncomputable def reg42_3 := rg Try.f42.body [1, 1, 0, 1, 0, 0]
noncomputable def reg42_4 := rg Try.f42.body [1, 1, 1, 0]
noncomputable def reg42_5 := rg Try.f42.body [1, 1, 1, 1, 0]
noncomputable def reg42_6 := rg Try.f42.body [1, 1, 1, 1, 1, 0, 0]
noncomputable def reg42_7 := rg Try.f42.body [1, 1, 1, 1, 1, 0, 1, 0, 0]
noncomputable def reg42_8 := rg Try.f42.body [1, 1, 1, 1, 1, 1, 0]
noncomputable def reg42_9 := rg Try.f42.body [1, 1, 1, 1, 1, 1, 1, 0, 0]
noncomputable def reg42_10 := rg Try.f42.body [1, 1, 1, 1, 1, 1, 1, 0, 1, 0, 0]
noncomputable def reg42_11 := rg Try.f42.body [1, 1, 1, 1, 1, 1, 1, 1, 0]
noncomputable def reg42_12 := rg Try.f42.body [1, 1, 1, 1, 1, 1, 1, 1, 1, 0]
theorem z42 : List.range reg42_0.size = [0, 1] ∧ List.range reg42_1.size = [0, 1, 2, 3] ∧ List.range reg42_2.size = [0, 1] ∧ List.range reg42_3.size = [0, 1] ∧ List.range reg42_4.size = [0, 1, 2, 3, 4] ∧ List.range reg42_5.size = [0, 1, 2, 3, 4, 5, 6, 7] ∧ List.range reg42_6.size = [0, 1] ∧ List.range reg42_7.size = [0, 1] ∧ List.range reg42_8.size = [0, 1, 2, 3, 4, 5, 6, 7, 8, 9, 10, 11, 12, 13, 14, 15, 16] ∧ List.range reg42_9.size = [0, 1] ∧ List.range reg42_10.size = [0, 1, 2] ∧ List.range reg42_11.size = [0, 1, 2, 3, 4, 5, 6] ∧ List.range reg42_12.size = [0, 1, 2] := by refine ⟨?_, ?_, ?_, ?_, ?_, ?_, ?_, ?_, ?_, ?_, ?_, ?_, ?_⟩ <;> kernel_rfl
theorem code42_is : Try.f42.body = some (.seq (.region 0 reg42_0 false) (.seq (.region 1 reg42_1 false) (.seq (.seq (.region 2 reg42_2 false) (.cond (.tmp 19 ) (.seq (.region 3 reg42_3 false) (.ret)) (.skip))) (.seq (.region 4 reg42_4 false) (.seq (.region 5 reg42_5 false) (.seq (.seq (.region 6 reg42_6 false) (.cond (.tmp 32 ) (.seq (.region 7 reg42_7 false) (.ret)) (.skip))) (.seq (.region 8 reg42_8 false) (.seq (.seq (.region 9 reg42_9 false) (.cond (.tmp 49 ) (.seq (.region 10 reg42_10 false) (.ret)) (.skip))) (.seq (.region 11 reg42_11 false) (.seq (.region 12 reg42_12 false) (.ret))))))))))) := by kernel_rfl
section
variable {rb sb n ob qb m : Nat} {sv : Value}
def BaOut (K : Lg (soLa rb sb n ob qb m) sv) (v : Value) (e' : K.E) : Prop := ∃ sl er ls, v = .tuple #[sl, .int .i64 er] ∧ GatL K e' sl ls ∧ ls.length ≤ 65536 ∧ K.tgt e' = (K.s e', .inl ⟨er == 0, er, ls⟩) ∧ (er ≠ 0 → ls = [] ∧ sl = .slice none 0 0)
theorem batch_s (K : Lg (soLa rb sb n ob qb m) sv) (e : K.E) (k : Nat) (hk : k < m) (mo : Int) (ht : K.tgt e = (K.s e, .inr (.b0 k ((K.s e : So).pl k) mo))) : SCall K.toLb 42 #[.pointer (some ⟨ob, 0, none⟩), sv, .int .i64 k, .int .i64 mo] e (BaOut K) := by
  intro fr l hp hl hk2
  have hmn := @events_min_ints Try.prog
  have hmx := @events_max_ints Try.prog
  have I : SoI rb sb n ob qb m (K.s e) (K.w e) := K.inv e
  have hn := I.ring.pos
  have hrd := reader_yes (main := K.main) (V := K.V e) (K.w e) I k hk
  have hpl := I.bd.pl k hk
  have c1 := (I.rdP hk).1
  have hp1 := fun w => run_eql_ptr (P := Try.prog) 171 undRdr (some ⟨qb, k * 2, none⟩) w
  have hp2 := fun w es => ev_eql_ptr (P := Try.prog) 171 undRdr (some ⟨qb, k * 2, none⟩) w es
  simp only [Option.isNone_some] at hp1
  generalize (K.s e : So).pl k = p at *
  have hp3 := hpl.1
  have hp4 := hpl.2
  have hw1 : IntKind.wrap .i64 (p + 1) = p + 1 := by rw [IntKind.wrap_i64]; omega
  have w1 := word_load K curW e (.b0 k p mo) trivial ht
  unfold Wd.p at w1
  unfold LW
  clear I hpl ht
  rw [enter_at _ Try.func42 code42_is]
  simp only [Try.ntmps42, ez, Nat.reduceAdd, Nat.reduceSub]
  repeat (first | refine Walk.cx ?_ | (refine Walk.cReg ?_; simp only [z42]) | (refine Walk.oq ?_; try walk_nrm) | (refine Walk.un ?_; walk_nrm))
  refine Walk.callV (x := .pointer (some ⟨qb, k * 2, none⟩)) (W := K.w e) ?_ (ho_of (by conv => lhs; whnf) (by kernel_rfl)) (by rfl) (by decide) rfl Try.func99 (by kernel_rfl) (by rfl) ?_
  · walk_nrm
    exact hrd
  walk_nrm
  clear hrd
  repeat (first | refine Walk.cx ?_ | (refine Walk.cReg ?_; simp only [z42]) | (refine Walk.oq ?_; try walk_nrm) | (refine Walk.un ?_; walk_nrm))
  clear c1
  refine LW.callS (K := K.toLb) (e := e) (l := fr :: l) (f := 100) (Q := fun v e' => Aft K.toLb e (.b0 k p mo) e' ∧ v = .int .i64 ((K.s e' : So).cur)) ?_ (ho_of (by conv => lhs; whnf) (by kernel_rfl)) (by rfl) (by decide) rfl Try.func100 (by kernel_rfl) (by rfl) ⟨rfl, rfl, _, Try.func42⟩ (plain_cons hp hl) ?_
  · walk_nrm
    exact w1
  rintro v e1 ⟨ha, rfl⟩
  have I1 : SoI rb sb n ob qb m (K.s e1) (K.w e1) := K.inv e1
  have hcu := I1.bd.cur
  have t1 : K.tgt e1 = (K.s e1, soBat n (K.s e1 : So).cur k p mo) := ha.tgt
  have c0 : (K.w e1).cell? ⟨ob, 0, none⟩ = some (.pointer (some ⟨rb, 0, none⟩)) := (cell_of I1.ob 0).trans rfl
  generalize (K.s e1 : So).cur = x at *
  have hx1 := hcu.1
  have hx2 := hcu.2
  have hw2 : IntKind.wrap .i64 (x - p) = x - p := by rw [IntKind.wrap_i64]; omega
  clear w1 I1 hcu
  unfold soBat at t1
  by_cases h1 : x - p < 1
  · rw [if_pos h1] at t1
    have hkk := hk2 (.tuple #[.slice none 0 0, .int .i64 4]) e1 ⟨.slice none 0 0, 4, [], rfl, GatL.nil K e1, by simp, t1, fun _ => ⟨rfl, rfl⟩⟩
    have g1 : decide (x - p < 1) = true := by simp [h1]
    unfold LW at hkk ⊢
    walk_nrm
    repeat (first | refine Walk.cx ?_ | (refine Walk.cReg ?_; simp only [z42]) | (refine Walk.oq ?_; try walk_nrm) | (refine Walk.un ?_; walk_nrm))
    exact Walk.on2 rfl rfl Try.func42 rfl hkk
  rw [if_neg h1] at t1
  have g1 : decide (x - p < 1) = false := by simp [h1]
  obtain ⟨mm, hmm⟩ : ∃ mm, min (x - p) (max mo 1) = mm := ⟨_, rfl⟩
  have hg : good (p + 1) := ⟨by omega, by omega⟩
  have w2 := gatherG_s soRing (soGa (rb := rb) (sb := sb) (ob := ob) (qb := qb) (m := m) k p) K e1 (p + 1) mm (by
    rw [t1, hmm]
    have h2 : ¬ min mm (n : Int) ≤ 0 := by omega
    show _ = (K.s e1, if good (p + 1) then (if min mm (n : Int) ≤ 0 then _ else _) else _)
    exact congrArg (Prod.mk _) (((if_pos hg).trans (if_neg h2)).symm))
  clear t1 hg
  unfold LW
  walk_nrm
  repeat (first | refine Walk.cx ?_ | (refine Walk.cReg ?_; simp only [z42]) | (refine Walk.oq ?_; try walk_nrm) | (refine Walk.un ?_; walk_nrm))
  clear c0
  refine LW.callS (K := K.toLb) (e := e1) (l := fr :: l) (f := 73) (Q := GaOutG (soGa (rb := rb) (sb := sb) (ob := ob) (qb := qb) (m := m) k p) K mm) ?_ (ho_of (by conv => lhs; whnf) (by kernel_rfl)) (by rfl) (by decide) rfl Try.func73 (by kernel_rfl) (by rfl) ⟨rfl, rfl, _, Try.func42⟩ (plain_cons hp hl) ?_
  · walk_nrm
    exact w2
  rintro v e2 ⟨sl, er, ls, rfl, hL, h6, hz, hnz⟩
  clear w2 g1
  by_cases her : er = 0
  · subst her
    have t2 : K.tgt e2 = (K.s e2, .inr (.b4 k (p + ls.length) ls)) := hz rfl
    have hq : seqP (p + ls.length) := by have h := h6.2; constructor <;> omega
    have hwq : IntKind.wrap .i64 (p + (ls.length : Int)) = p + ls.length := by rw [IntKind.wrap_i64]; have := hq.1; have := hq.2; omega
    have w3 := SCall.fz K (finish_s (Fz K e2) (fz0 K e2) k hk (p + ls.length) hq (.b4 k (p + ls.length) ls) ⟨true, 0, ls⟩ (fun _ => rfl) t2)
    obtain ⟨⟨sa, sc, rfl⟩, hrow, hmine⟩ := hL
    clear hz hnz t2
    unfold LW
    generalize hj : ls.length = j at *
    walk_nrm
    repeat (first | refine Walk.cx ?_ | (refine Walk.cReg ?_; simp only [z42]) | (refine Walk.oq ?_; try walk_nrm) | (refine Walk.un ?_; walk_nrm))
    refine LW.callS (K := K.toLb) (e := e2) (l := fr :: l) (f := 101) (Q := fun v e' => ∃ h : Kept K e2 e', v = .tuple #[] ∧ (Fz K e2).tgt ⟨e', h⟩ = ((Fz K e2).s ⟨e', h⟩, .inl ⟨true, 0, ls⟩)) ?_ (ho_of (by conv => lhs; whnf) (by kernel_rfl)) (by rfl) (by decide) rfl Try.func101 (by kernel_rfl) (by rfl) ⟨rfl, rfl, _, Try.func42⟩ (plain_cons hp hl) ?_
    · walk_nrm
      exact w3
    rintro v e3 ⟨hkept, rfl, t3⟩
    have t3' : K.tgt e3 = (K.s e3, .inl ⟨true, 0, ls⟩) := t3
    have hrow3 := row_same hrow (w' := K.w e3) fun b hb => (hkept b (hmine b hb)).2
    have hmine3 : ∀ b, (Value.slice sa j sc).ownBlock = some b → K.mine e3 b := fun b hb => (hkept b (hmine b hb)).1
    have hkk := hk2 (.tuple #[.slice sa j sc, .int .i64 0]) e3 ⟨.slice sa j sc, 0, ls, rfl, ⟨⟨sa, sc, by rw [hj]⟩, by rw [hj]; exact hrow3, hmine3⟩, by rw [hj]; exact h6.1, t3', fun h => absurd rfl h⟩
    clear w3 hk2
    unfold LW at hkk ⊢
    walk_nrm
    repeat (first | refine Walk.cx ?_ | (refine Walk.cReg ?_; simp only [z42]) | (refine Walk.oq ?_; try walk_nrm) | (refine Walk.un ?_; walk_nrm))
    exact Walk.on2 rfl rfl Try.func42 rfl hkk
  · obtain ⟨rfl, t2⟩ := hnz her
    have hb1 : (er == 0) = false := by simp [her]
    have hb2 : (er != 0) = true := by simp [her]
    have hkk := hk2 (.tuple #[.slice none 0 0, .int .i64 er]) e2 ⟨.slice none 0 0, er, [], rfl, GatL.nil K e2, by simp, by rw [hb1]; exact t2, fun _ => ⟨rfl, rfl⟩⟩
    clear hz hnz hk2
    unfold LW at hkk ⊢
    walk_nrm
    repeat (first | refine Walk.cx ?_ | (refine Walk.cReg ?_; simp only [z42]) | (refine Walk.oq ?_; try walk_nrm) | (refine Walk.un ?_; walk_nrm))
    exact Walk.on2 rfl rfl Try.func42 rfl hkk
end
end
end Go.Proofs.Ytcdcnmphjhfbpaa
