/- Part 25. -/
import Derived.Test.YtnnakajldnaldaaJ15
import Derived.Test.YtnnakajldnaldaaJ18
import Derived.Test.YtnnakajldnaldaaJ23
import Derived.Test.YtnnakajldnaldaaJ24
set_option linter.unusedSimpArgs false
set_option linter.unusedVariables false
set_option maxHeartbeats 8000000
set_option maxRecDepth 100000
namespace Go.Proofs.Ytnnakajldnaldaa
open Go.Conc Go.RowKit Go.Relay
open Go.ConcN (upd upd_ne upd_same)
section
section
variable {X : Type} {A : Abs X} {F st : X × List Nat} {sl : List Int} {p rd : Nat}
structure Ahead (A : Abs X) (F : X × List Nat) (sl : List Int) (p rd : Nat) (st : X × List Nat) : Prop where
  run : ∃ f x, x ≤ A.n ∧ rd % A.n = x % A.n ∧ F = restA A f ((List.range' x (A.n - x)).foldl (fun st i => stepA A st (i : Nat)) ((sl.drop p).foldl (stepA A) st)) ∧
    A.most ≤ (((List.range' x (A.n - x)).foldl (fun st i => stepA A st (i : Nat)) ((sl.drop p).foldl (stepA A) st)).2.length + f : Nat)
  le : p ≤ sl.length
  short : (st.2.length : Int) ≤ A.most
theorem over_stay (h : overA A st = true) (z : Int) : stepA A st z = st := by
  unfold stepA
  rw [if_neg]
  rintro ⟨h', _⟩
  rw [h] at h'; cases h'
theorem over_folds (h : overA A st = true) : ∀ l : List Int, l.foldl (stepA A) st = st
  | [] => rfl
  | z :: l => by rw [List.foldl_cons, over_stay h]; exact over_folds h l
theorem over_foldn (h : overA A st = true) : ∀ l : List Nat, l.foldl (fun st i => stepA A st (i : Nat)) st = st
  | [] => rfl
  | z :: l => by rw [List.foldl_cons, over_stay h]; exact over_foldn h l
theorem step_yes (h : overA A st = false) {i : Nat} (hi : i < A.n) (ho : A.out st.1 i = none) : stepA A st (i : Nat) = (A.next st.1 i, st.2 ++ [i]) := by
  unfold stepA
  rw [if_pos ⟨h, by omega, by omega, by simpa using ho⟩]
  simp
theorem step_no {z : Int} (h : ¬ (0 ≤ z ∧ z < A.n ∧ A.out st.1 z.toNat = none)) : stepA A st z = st := by
  unfold stepA
  rw [if_neg]
  rintro ⟨_, h'⟩
  exact h h'
theorem over_len (h : overA A st = false) : (st.2.length : Int) < A.most ∧ ∃ j, j < A.n ∧ A.out st.1 j = none := by
  unfold overA at h
  simp only [Bool.or_eq_false_iff, decide_eq_false_iff_not] at h
  refine ⟨by omega, ?_⟩
  have : 0 < goingA A st.1 := by omega
  obtain ⟨j, hj, ho⟩ := List.countP_pos_iff.1 this
  exact ⟨j, List.mem_range.1 hj, by simpa using ho⟩
theorem step_short (h : (st.2.length : Int) ≤ A.most) (z : Int) : ((stepA A st z).2.length : Int) ≤ A.most := by
  unfold stepA
  split
  · next h' => have := (over_len h'.1).1; simp; omega
  · exact h
theorem Ahead.done (H : Ahead A F sl p rd st) (h : overA A st = true) : F = st := by
  obtain ⟨f, x, _, _, h3, _⟩ := H.run
  rw [h3, over_folds h, over_foldn h]
  cases f with
  | zero => rfl
  | succ f => exact rest_off _ h
theorem Ahead.take (H : Ahead A F sl p rd st) {z : Int} (hz : sl[p]? = some z) : Ahead A F sl (p + 1) rd (stepA A st z) := by
  obtain ⟨f, x, h1, h2, h3, h4⟩ := H.run
  obtain ⟨hl, e⟩ := List.getElem?_eq_some_iff.1 hz
  have ed : sl.drop p = z :: sl.drop (p + 1) := by rw [← e]; exact List.drop_eq_getElem_cons hl
  rw [ed, List.foldl_cons] at h3 h4
  exact ⟨⟨f, x, h1, h2, h3, h4⟩, hl, step_short H.short z⟩
theorem Ahead.here (H : Ahead A F sl sl.length rd st) (h : overA A st = false) : ∃ f x, x < A.n ∧ rd % A.n = x ∧ F = restA A f ((List.range' x (A.n - x)).foldl (fun st i => stepA A st (i : Nat)) st) ∧
    A.most ≤ (((List.range' x (A.n - x)).foldl (fun st i => stepA A st (i : Nat)) st).2.length + f : Nat) := by
  obtain ⟨f, x, h1, h2, h3, h4⟩ := H.run
  have ed : sl.drop sl.length = [] := List.drop_length
  rw [ed] at h3 h4
  simp only [List.foldl_nil] at h3 h4
  obtain ⟨hm, j, hj, _⟩ := over_len h
  by_cases hx : x < A.n
  · exact ⟨f, x, hx, by rw [h2, Nat.mod_eq_of_lt hx], h3, h4⟩
  · have hx : x = A.n := by omega
    subst hx
    rw [Nat.sub_self] at h3 h4
    have h3 : F = restA A f st := h3
    have h4 : A.most ≤ (st.2.length + f : Nat) := h4
    obtain ⟨f', rfl⟩ : ∃ f', f = f' + 1 := ⟨f - 1, by omega⟩
    have e : (List.range' 0 (A.n - 0)).foldl (fun st i => stepA A st (i : Nat)) st = roundA A st := by
      unfold roundA
      rw [Nat.sub_zero, ← List.range_eq_range']
    refine ⟨f', 0, by omega, by rw [h2, Nat.mod_self], ?_, ?_⟩
    · rw [e, h3]; exact rest_on _ h
    · rw [e]
      have := roundA_one A h
      omega
theorem Ahead.turn (H : Ahead A F sl sl.length rd st) (h : overA A st = false) : Ahead A F sl sl.length (rd % A.n + 1) (stepA A st ((rd % A.n : Nat) : Int)) ∧ Ahead A F sl sl.length (rd + 1) (stepA A st ((rd % A.n : Nat) : Int)) := by
  obtain ⟨f, x, h1, h2, h3, h4⟩ := H.here h
  rw [h2]
  have e : List.range' x (A.n - x) = x :: List.range' (x + 1) (A.n - (x + 1)) := by
    obtain ⟨r, hr⟩ : ∃ r, A.n - x = r + 1 := ⟨A.n - x - 1, by omega⟩
    rw [hr, List.range'_succ]
    congr 2
    omega
  rw [e, List.foldl_cons] at h3 h4
  have ed : sl.drop sl.length = [] := List.drop_length
  refine ⟨⟨⟨f, x + 1, by omega, rfl, ?_, ?_⟩, Nat.le_refl _, step_short H.short _⟩, ⟨⟨f, x + 1, by omega, ?_, ?_, ?_⟩, Nat.le_refl _, step_short H.short _⟩⟩
  · rw [ed]; exact h3
  · rw [ed]; exact h4
  · rw [Nat.add_mod, h2, Nat.add_mod x 1, Nat.mod_eq_of_lt h1]
  · rw [ed]; exact h3
  · rw [ed]; exact h4
end
end
section
section
variable {a0 M cg cc tb tc n m : Nat} {ta : Option Addr} {C : Nat → Int} {T : Nat → R5} {main : Bool}
theorem run_end0 (M : Nat) (v sv : Value) (mo : Int) (R N : Nat) (u : Nat → Value) (cs : List Frame) (w : World) :
    Walk Try.prog main (DR (fun _ => none)) (fun g w' => (∃ u, g = G (hdRun1 M sv mo R N (.slice none 0 0) 0 u) cs) ∧ ∃ d, w' = w.at d) (G (hdRun0 M v sv mo R N N u) cs) w := by
  have hj1 : decide ((N : Int) < N) = false := by simp
  have hj3 : decide (N < N) = false := by simp
  conv => arg 5; unfold hdRun0
  repeat (first | refine Walk.cx ?_ | (refine Walk.cReg ?_; simp only [z34]) | (refine Walk.oq ?_; try walk_nrm) | (refine Walk.un ?_; walk_nrm))
  refine Walk.ctl rfl (fun w => stepG_loop) ?_
  refine .stop fun d => ⟨at_slots ?_, d, rfl⟩
  simp only [hdRun1]
  rfl
theorem sched_end (M : Nat) (sa : Option Addr) (ls sc : Nat) (mo : Int) (R N : Nat) (ov : Value) (u : Nat → Value) (cs : List Frame) (w : World) :
    Walk Try.prog main (DR (fun _ => none)) (fun g w' => (∃ u, g = G (hdRun2 M mo R N ov u) cs) ∧ ∃ d, w' = w.at d) (G (hdRun1 M (.slice sa ls sc) mo R N ov ls u) cs) w := by
  have hj1 : decide ((ls : Int) < ls) = false := by simp
  have hj3 : decide (ls < ls) = false := by simp
  conv => arg 5; unfold hdRun1
  repeat (first | refine Walk.cx ?_ | (refine Walk.cReg ?_; simp only [z34]) | (refine Walk.oq ?_; try walk_nrm) | (refine Walk.un ?_; walk_nrm))
  refine Walk.ctl rfl (fun w => stepG_loop) ?_
  refine .stop fun d => ⟨at_slots ?_, d, rfl⟩
  simp only [hdRun2]
  rfl
theorem sched_full (M : Nat) (sa : Option Addr) (ls sc : Nat) (mo : Int) (R N : Nat) (oa : Option Addr) (ln oc k : Nat) (hk : k < ls) (hm : mo ≤ (ln : Int)) (u : Nat → Value) (cs : List Frame) (w : World) :
    Walk Try.prog main (DR (fun _ => none)) (fun g w' => (∃ u, g = G (hdRun2 M mo R N (.slice oa ln oc) u) cs) ∧ ∃ d, w' = w.at d) (G (hdRun1 M (.slice sa ls sc) mo R N (.slice oa ln oc) k u) cs) w := by
  have hj1 : decide ((k : Int) < ls) = true := by simp; omega
  have hj3 : decide (k < ls) = true := by simp; omega
  have hj4 : (k : Int) < ls := by omega
  have hj5 : decide ((ln : Int) < mo) = false := by simp; omega
  have hj6 : ¬ (ln : Int) < mo := by omega
  conv => arg 5; unfold hdRun1
  repeat (first | refine Walk.cx ?_ | (refine Walk.cReg ?_; simp only [z34]) | (refine Walk.oq ?_; try walk_nrm) | (refine Walk.un ?_; walk_nrm))
  refine Walk.ctl rfl (fun w => stepG_loop) ?_
  refine .stop fun d => ⟨at_slots ?_, d, rfl⟩
  simp only [hdRun2]
  rfl
theorem sched_neg (M : Nat) (s so ls sc : Nat) (mo : Int) (R N : Nat) (oa : Option Addr) (ln oc k : Nat) (hk : k < ls) (hls : ls ≤ 17592186044416) (hm : (ln : Int) < mo) (z : Int) (hz : z < 0) (u : Nat → Value) (cs : List Frame) (w : World) (c0 : w.cell? ⟨s, so + k, none⟩ = some (.int .i64 z)) :
    Walk Try.prog main (DR (fun _ => none)) (fun g w' => (∃ u, g = G (hdRun1 M (.slice (some ⟨s, so, none⟩) ls sc) mo R N (.slice oa ln oc) (k + 1) u) cs) ∧ ∃ d, w' = w.at d) (G (hdRun1 M (.slice (some ⟨s, so, none⟩) ls sc) mo R N (.slice oa ln oc) k u) cs) w := by
  have hk0 : (0 : Int) ≤ k := by omega
  have hj1 : decide ((k : Int) < ls) = true := by simp; omega
  have hj3 : decide (k < ls) = true := by simp; omega
  have hj4 : (k : Int) < ls := by omega
  have hj5 : decide ((ln : Int) < mo) = true := by simp; omega
  have hw1 : IntKind.wrap .i64 ((k : Int) + 1) = (k : Int) + 1 := by rw [IntKind.wrap_i64]; omega
  have hcc : ((k + 1 : Nat) : Int) = (k : Int) + 1 := by simp
  have hz1 : decide (0 ≤ z) = false := by simp; omega
  have hz2 : ¬ 0 ≤ z := by omega
  conv => arg 5; unfold hdRun1
  repeat (first | refine Walk.cx ?_ | (refine Walk.cReg ?_; simp only [z34]) | (refine Walk.oq ?_; try walk_nrm) | (refine Walk.un ?_; walk_nrm))
  refine Walk.ctl rfl (fun w => stepG_inLoop) ?_
  refine .stop fun d => ⟨at_slots ?_, d, rfl⟩
  simp only [hdRun1, hcc]
  rfl
theorem sched_far (M : Nat) (s so ls sc : Nat) (mo : Int) (R N : Nat) (oa : Option Addr) (ln oc k : Nat) (hk : k < ls) (hls : ls ≤ 17592186044416) (hm : (ln : Int) < mo) (z : Int) (hz : 0 ≤ z) (hz0 : N ≤ z) (u : Nat → Value) (cs : List Frame) (w : World) (c0 : w.cell? ⟨s, so + k, none⟩ = some (.int .i64 z)) :
    Walk Try.prog main (DR (fun _ => none)) (fun g w' => (∃ u, g = G (hdRun1 M (.slice (some ⟨s, so, none⟩) ls sc) mo R N (.slice oa ln oc) (k + 1) u) cs) ∧ ∃ d, w' = w.at d) (G (hdRun1 M (.slice (some ⟨s, so, none⟩) ls sc) mo R N (.slice oa ln oc) k u) cs) w := by
  have hk0 : (0 : Int) ≤ k := by omega
  have hj1 : decide ((k : Int) < ls) = true := by simp; omega
  have hj3 : decide (k < ls) = true := by simp; omega
  have hj4 : (k : Int) < ls := by omega
  have hj5 : decide ((ln : Int) < mo) = true := by simp; omega
  have hw1 : IntKind.wrap .i64 ((k : Int) + 1) = (k : Int) + 1 := by rw [IntKind.wrap_i64]; omega
  have hcc : ((k + 1 : Nat) : Int) = (k : Int) + 1 := by simp
  have hz1 : decide (0 ≤ z) = true := by simp; omega
  have hz3 : decide (z < N) = false := by simp; omega
  have hz2 : ¬ z < N := by omega
  conv => arg 5; unfold hdRun1
  repeat (first | refine Walk.cx ?_ | (refine Walk.cReg ?_; simp only [z34]) | (refine Walk.oq ?_; try walk_nrm) | (refine Walk.un ?_; walk_nrm))
  refine Walk.ctl rfl (fun w => stepG_inLoop) ?_
  refine .stop fun d => ⟨at_slots ?_, d, rfl⟩
  simp only [hdRun1, hcc]
  rfl
theorem sched_off (M : Nat) (s so ls sc : Nat) (mo : Int) (R : Nat) (oa : Option Addr) (ln oc k : Nat) (hk : k < ls) (hls : ls ≤ 17592186044416) (hm : (ln : Int) < mo) (w : World) {i : Nat} (hi : i < n) (I : M5 a0 M cg cc tb tc n m ta C T w) (hpc : ¬ 0 < (T i).pc) (u : Nat → Value) (cs : List Frame) (c0 : w.cell? ⟨s, so + k, none⟩ = some (.int .i64 i)) :
    Walk Try.prog main (DR (fun _ => none)) (fun g w' => (∃ u, g = G (hdRun1 M (.slice (some ⟨s, so, none⟩) ls sc) mo R n (.slice oa ln oc) (k + 1) u) cs) ∧ ∃ d, w' = w.at d) (G (hdRun1 M (.slice (some ⟨s, so, none⟩) ls sc) mo R n (.slice oa ln oc) k u) cs) w := by
  have hk0 : (0 : Int) ≤ k := by omega
  have hj1 : decide ((k : Int) < ls) = true := by simp; omega
  have hj3 : decide (k < ls) = true := by simp; omega
  have hj4 : (k : Int) < ls := by omega
  have hj5 : decide ((ln : Int) < mo) = true := by simp; omega
  have hw1 : IntKind.wrap .i64 ((k : Int) + 1) = (k : Int) + 1 := by rw [IntKind.wrap_i64]; omega
  have hcc : ((k + 1 : Nat) : Int) = (k : Int) + 1 := by simp
  have hi0 : (0 : Int) ≤ i := by omega
  have hz1 : decide ((0 : Int) ≤ i) = true := by simp
  have hi1 : decide ((i : Int) < n) = true := by simp; omega
  have hi3 : decide (i < n) = true := by simp; omega
  have hi4 : (i : Int) < n := by omega
  have hp1 : decide (0 < (T i).pc) = false := by simp only [decide_eq_false_iff_not]; exact hpc
  have c1 : w.cell? ⟨M, 1, none⟩ = some (.slice (some ⟨tb, 0, none⟩) n tc) := I.cT (by omega)
  have c2 : w.cell? ⟨tb, i * 7 + 4, none⟩ = some (.int .i64 (T i).pc) := I.tcell hi rfl
  generalize (T i).pc = pc at *
  conv => arg 5; unfold hdRun1
  repeat (first | refine Walk.cx ?_ | (refine Walk.cReg ?_; simp only [z34]) | (refine Walk.oq ?_; try walk_nrm) | (refine Walk.un ?_; walk_nrm))
  refine Walk.ctl rfl (fun w => stepG_inLoop) ?_
  refine .stop fun d => ⟨at_slots ?_, d, rfl⟩
  simp only [hdRun1, hcc]
  rfl
end
end
section
noncomputable def reg50_0 := rg Try.f50.body [0]
noncomputable def reg50_1 := rg Try.f50.body [1, 0, 0]
noncomputable def reg50_2 := rg Try.f50.body [1, 0, 1, 0, 0, 0, 0]
noncomputable def reg50_4 := rg Try.f50.body [1, 0, 1, 0, 0, 1, 0, 0, 0]
noncomputable def reg50_5 := rg Try.f50.body [1, 0, 1, 0, 0, 1, 0, 0, 1, 0, 0]
noncomputable def reg50_3 := rg Try.f50.body [1, 0, 1, 0, 0, 1, 1]
noncomputable def reg50_6 := rg Try.f50.body [1, 1, 0]
theorem z50 : List.range reg50_0.size = [0] ∧ List.range reg50_1.size = [0] ∧ List.range reg50_2.size = [0, 1, 2, 3, 4, 5, 6] ∧ List.range reg50_3.size = [0, 1, 2] ∧ List.range reg50_4.size = [0, 1, 2, 3, 4, 5, 6, 7, 8] ∧ List.range reg50_5.size = [0] ∧ List.range reg50_6.size = [0] := by refine ⟨?_, ?_, ?_, ?_, ?_, ?_, ?_⟩ <;> kernel_rfl
theorem code50_is : Try.f50.body = some (.seq (.region 0 reg50_0 false) (.seq (.seq (.region 1 reg50_1 false) (.block 0 (.loop (.seq (.seq (.region 2 reg50_2 false) (.cond (.tmp 10 ) (.skip) (.exit 0))) (.seq (.block 1 (.seq (.region 4 reg50_4 false) (.cond (.tmp 21 ) (.seq (.region 5 reg50_5 false) (.ret)) (.skip)))) (.region 3 reg50_3 false)))))) (.seq (.region 6 reg50_6 false) (.ret)))) := by kernel_rfl
noncomputable def hdLeft (M j : Nat) (u : Nat → Value) : Frame :=
  (base 50).at { tmps := #[.pointer (some ⟨M, 0, none⟩), u 1, .bool false, .int .i64 j, u 4, u 5, u 6, u 7, u 8, u 9, u 10, u 11, u 12, u 13, u 14, u 15, u 16, u 17, u 18, u 19, u 20, u 21], defers := [] } [.code (.seq (.seq (.region 2 reg50_2 false) (.cond (.tmp 10 ) (.skip) (.exit 0))) (.seq (.block 1 (.seq (.region 4 reg50_4 false) (.cond (.tmp 21 ) (.seq (.region 5 reg50_5 false) (.ret)) (.skip)))) (.region 3 reg50_3 false))), .inLoop (.seq (.seq (.region 2 reg50_2 false) (.cond (.tmp 10 ) (.skip) (.exit 0))) (.seq (.block 1 (.seq (.region 4 reg50_4 false) (.cond (.tmp 21 ) (.seq (.region 5 reg50_5 false) (.ret)) (.skip)))) (.region 3 reg50_3 false))), .inBlock 0, .code (.seq (.region 6 reg50_6 false) (.ret))]
def leftB (T : Nat → R5) (j r : Nat) : Bool := (List.range' j r).any fun i => decide (0 < (T i).pc)
section
variable {a0 M cg cc tb tc n m : Nat} {ta : Option Addr} {C : Nat → Int} {T : Nat → R5} {main : Bool} {V : Nat → Option Wait}
theorem left_in (cs : List Frame) (w : World) :
    Walk Try.prog main (DR V) (fun g w' => (∃ u, g = G (hdLeft M 0 u) cs) ∧ ∃ d, w' = w.at d) (G (Frame.enter Try.prog 50 #[.pointer (some ⟨M, 0, none⟩)] .normal) cs) w := by
  rw [enter_at _ Try.func50 code50_is]
  simp only [Try.ntmps50, ez, Nat.reduceAdd, Nat.reduceSub]
  repeat (first | refine Walk.cx ?_ | (refine Walk.cReg ?_; simp only [z50]) | (refine Walk.oq ?_; try walk_nrm) | (refine Walk.un ?_; walk_nrm))
  refine Walk.ctl rfl (fun w => stepG_loop) ?_
  refine .stop fun d => ⟨at_slots ?_, d, rfl⟩
  simp only [hdLeft]
  rfl
theorem left_out (w : World) (I : M5 a0 M cg cc tb tc n m ta C T w) (u : Nat → Value) (fr : Frame) (cs : List Frame) :
    Walk Try.prog main (DR V) (fun g w' => g = G (fr.finish (.bool false)) cs ∧ ∃ d, w' = w.at d) (G (hdLeft M n u) (fr :: cs)) w := by
  have c1 : w.cell? ⟨M, 1, none⟩ = some (.slice ta n tc) := (cell_of I.hd 1).trans rfl
  have hj3 : decide (n < n) = false := by simp
  conv => arg 5; unfold hdLeft
  repeat (first | refine Walk.cx ?_ | (refine Walk.cReg ?_; simp only [z50]) | (refine Walk.oq ?_; try walk_nrm) | (refine Walk.un ?_; walk_nrm))
  exact Walk.on1 rfl rfl Try.func50 rfl (.stop fun d => ⟨rfl, d, rfl⟩)
theorem left_yes {j : Nat} (hj : j < n) (w : World) (I : M5 a0 M cg cc tb tc n m ta C T w) (hn : n ≤ 64) (hpc : 0 < (T j).pc) (u : Nat → Value) (fr : Frame) (cs : List Frame) :
    Walk Try.prog main (DR V) (fun g w' => g = G (fr.finish (.bool true)) cs ∧ ∃ d, w' = w.at d) (G (hdLeft M j u) (fr :: cs)) w := by
  have hj0 : (0 : Int) ≤ j := by omega
  have hj1 : decide ((j : Int) < n) = true := by simp; omega
  have hj3 : decide (j < n) = true := by simp; omega
  have hj4 : (j : Int) < n := by omega
  have hb : decide (0 < (T j).pc) = true := by simp [hpc]
  have c1 : w.cell? ⟨M, 1, none⟩ = some (.slice (some ⟨tb, 0, none⟩) n tc) := I.cT (by omega)
  have c2 : w.cell? ⟨tb, j * 7 + 4, none⟩ = some (.int .i64 (T j).pc) := I.tcell hj rfl
  generalize (T j).pc = pc at *
  conv => arg 5; unfold hdLeft
  repeat (first | refine Walk.cx ?_ | (refine Walk.cReg ?_; simp only [z50]) | (refine Walk.oq ?_; try walk_nrm) | (refine Walk.un ?_; walk_nrm))
  exact Walk.on1 rfl rfl Try.func50 rfl (.stop fun d => ⟨rfl, d, rfl⟩)
theorem left_no {j : Nat} (hj : j < n) (w : World) (I : M5 a0 M cg cc tb tc n m ta C T w) (hn : n ≤ 64) (hpc : ¬ 0 < (T j).pc) (u : Nat → Value) (cs : List Frame) :
    Walk Try.prog main (DR V) (fun g w' => (∃ u, g = G (hdLeft M (j + 1) u) cs) ∧ ∃ d, w' = w.at d) (G (hdLeft M j u) cs) w := by
  have hj0 : (0 : Int) ≤ j := by omega
  have hj1 : decide ((j : Int) < n) = true := by simp; omega
  have hj3 : decide (j < n) = true := by simp; omega
  have hj4 : (j : Int) < n := by omega
  have hw1 : IntKind.wrap .i64 ((j : Int) + 1) = (j : Int) + 1 := by rw [IntKind.wrap_i64]; omega
  have hcc : ((j + 1 : Nat) : Int) = (j : Int) + 1 := by simp
  have hb : decide (0 < (T j).pc) = false := by simp only [decide_eq_false_iff_not]; exact hpc
  have c1 : w.cell? ⟨M, 1, none⟩ = some (.slice (some ⟨tb, 0, none⟩) n tc) := I.cT (by omega)
  have c2 : w.cell? ⟨tb, j * 7 + 4, none⟩ = some (.int .i64 (T j).pc) := I.tcell hj rfl
  generalize (T j).pc = pc at *
  conv => arg 5; unfold hdLeft
  repeat (first | refine Walk.cx ?_ | (refine Walk.cReg ?_; simp only [z50]) | (refine Walk.oq ?_; try walk_nrm) | (refine Walk.un ?_; walk_nrm))
  refine Walk.ctl rfl (fun w => stepG_inLoop) ?_
  refine .stop fun d => ⟨at_slots ?_, d, rfl⟩
  simp only [hdLeft, hcc]
  rfl
theorem left_w (w : World) (I : M5 a0 M cg cc tb tc n m ta C T w) (hn : n ≤ 64) : CallV Try.prog main V 50 #[.pointer (some ⟨M, 0, none⟩)] w (.bool (leftB T 0 n)) w := by
  intro c cs
  have loop : ∀ (r j : Nat) (u : Nat → Value), j + r = n → Walk Try.prog main (DR V) (fun g w' => g = G (c.finish (.bool (leftB T j r))) cs ∧ ∃ d, w' = w.at d) (G (hdLeft M j u) (c :: cs)) w := by
    intro r
    induction r with
    | zero =>
      intro j u hj
      have hj' : j = n := by omega
      subst hj'
      exact left_out w I u c cs
    | succ r ih =>
      intro j u hj
      by_cases hpc : 0 < (T j).pc
      · refine (left_yes (by omega) w I hn hpc u c cs).mono ?_
        rintro g w' ⟨rfl, d, rfl⟩
        refine ⟨?_, d, rfl⟩
        simp [leftB, List.range'_succ, hpc]
      · refine (left_no (by omega) w I hn hpc u (c :: cs)).then ?_
        rintro _ _ ⟨⟨u1, rfl⟩, d, rfl⟩
        refine Walk.back ?_ d
        have := ih (j + 1) u1 (by omega)
        have e : leftB T j (r + 1) = leftB T (j + 1) r := by simp [leftB, List.range'_succ, hpc]
        rw [e]
        exact this
  refine (left_in (c :: cs) w).then ?_
  rintro _ _ ⟨⟨u, rfl⟩, d, rfl⟩
  refine Walk.back ?_ d
  refine (loop n 0 u (by omega)).mono ?_
  rintro g w' ⟨rfl, d, rfl⟩
  exact ⟨_, ⟨rfl, d, rfl⟩, rfl⟩
end
end
section
structure MoreO (a0 : Nat) (w : World) (ov : Value) (ord : List Nat) (i g cap : Nat) (w1 : World) : Prop where
  row : w1.ownsRow a0 3 1 (.slice (some ⟨g, 0, none⟩) (ord.length + 1) cap) (ord.length + 1) (ordRow ord ++ [.int .i64 i])
  old : ∀ b, b < w.heap.size → ov.ownBlock ≠ some b → w1.heap[b]? = w.heap[b]?
  size : w.heap.size ≤ w1.heap.size
  hat : ov.ownBlock = some g ∨ w.heap.size ≤ g
  lt : g < w1.heap.size
section
variable {a0 M cg cc tb tc n m : Nat} {ta : Option Addr} {C : Nat → Int} {T : Nat → R5} {main : Bool}
theorem sched_go (M : Nat) (s so ls sc : Nat) (mo : Int) (R : Nat) (ord : List Nat) (oa : Option Addr) (oc k : Nat) (hk : k < ls) (hls : ls ≤ 17592186044416) (hm : (ord.length : Int) < mo) (hmo : mo ≤ 1048576) (w : World) {i : Nat} (hi : i < n) (I : M5 a0 M cg cc tb tc n m ta C T w) (ha0 : a0 ≤ w.heap.size) (hpc : 0 < (T i).pc) (c0 : w.cell? ⟨s, so + k, none⟩ = some (.int .i64 i)) (hrow : w.ownsRow a0 3 1 (.slice oa ord.length oc) ord.length (ordRow ord)) (P1 P2 : Nat → Nat → World → Prop)
    (hst : ∀ g cap w1, MoreO a0 w (.slice oa ord.length oc) ord i g cap w1 → CallW Try.prog main (fun _ => none) 49 #[.pointer (some ⟨M, 0, none⟩), .int .i64 i] w1 (fun v w2 => v = .tuple #[] ∧ P1 g cap w2))
    (hse : ∀ g cap w2, P1 g cap w2 → CallW Try.prog main (fun _ => none) 48 #[.pointer (some ⟨M, 0, none⟩), .int .i64 i] w2 (fun v w3 => v = .tuple #[] ∧ P2 g cap w3)) (u : Nat → Value) (cs : List Frame) :
    Walk Try.prog main (DR (fun _ => none)) (fun g' w' => ∃ g cap, (∃ u, g' = G (hdRun1 M (.slice (some ⟨s, so, none⟩) ls sc) mo R n (.slice (some ⟨g, 0, none⟩) (ord.length + 1) cap) (k + 1) u) cs) ∧ ∃ w2 d, P2 g cap w2 ∧ w' = w2.at d) (G (hdRun1 M (.slice (some ⟨s, so, none⟩) ls sc) mo R n (.slice oa ord.length oc) k u) cs) w := by
  have hk0 : (0 : Int) ≤ k := by omega
  have hj1 : decide ((k : Int) < ls) = true := by simp; omega
  have hj3 : decide (k < ls) = true := by simp; omega
  have hj4 : (k : Int) < ls := by omega
  have hj5 : decide ((ord.length : Int) < mo) = true := by simp; omega
  have hw1 : IntKind.wrap .i64 ((k : Int) + 1) = (k : Int) + 1 := by rw [IntKind.wrap_i64]; omega
  have hcc : ((k + 1 : Nat) : Int) = (k : Int) + 1 := by simp
  have hi0 : (0 : Int) ≤ i := by omega
  have hz1 : decide ((0 : Int) ≤ i) = true := by simp
  have hi1 : decide ((i : Int) < n) = true := by simp; omega
  have hi3 : decide (i < n) = true := by simp; omega
  have hi4 : (i : Int) < n := by omega
  have hp1 : decide (0 < (T i).pc) = true := by simp only [decide_eq_true_eq]; exact hpc
  have c1 : w.cell? ⟨M, 1, none⟩ = some (.slice (some ⟨tb, 0, none⟩) n tc) := I.cT (by omega)
  have c2 : w.cell? ⟨tb, i * 7 + 4, none⟩ = some (.int .i64 (T i).pc) := I.tcell hi rfl
  have hi3' := Option.some_get (show (Try.prog.info? 3).isSome = true by kernel_rfl)
  generalize (T i).pc = pc at *
  generalize hoL : ord.length = lo at *
  conv => arg 5; unfold hdRun1
  repeat (first | refine Walk.cx ?_ | (refine Walk.cReg ?_; simp only [z34]) | (refine Walk.oq ?_; try walk_nrm) | (refine Walk.un ?_; walk_nrm))
  (refine Walk.oa ?_; try walk_nrm)
  have d1 := heap_alloc_new w (.cells #[.int .i64 i] 3)
  have o1 : ∀ x, x < w.heap.size → (w.alloc (.cells #[.int .i64 i] 3)).heap[x]? = w.heap[x]? := fun x hx => heap_new_lt _ _ hx
  have s1 : (w.alloc (.cells #[.int .i64 i] 3)).heap.size = w.heap.size + 1 := by simp
  have hrow1 : (w.alloc (.cells #[.int .i64 i] 3)).ownsRow a0 3 1 (.slice oa lo oc) lo (ordRow ord) := row_same hrow fun g hg => o1 g (hrow.lt g hg).2
  generalize hS : w.heap.size = S at *
  generalize w.alloc (.cells #[.int .i64 i] 3) = w0 at *
  repeat (first | (refine Walk.oq ?_; try walk_nrm) | (refine Walk.un ?_; walk_nrm))
  refine Walk.append (.tmp 89) (.tmp 91) 24 (ho_of (by conv => lhs; whnf) (by kernel_rfl)) (by rfl) (by decide) rfl a0 3 _ (.int .i64 0) 1 8 (by kernel_rfl) hi3'.symm (by rfl) (by rfl) (by rfl) (by rfl) (by decide) (.slice oa lo oc) lo (ordRow ord) rfl hrow1 ⟨S, 0, none⟩ 1 1 [.int .i64 i] rfl (by rfl) (fun j v hv => ?_) (by simp [Value.oneCell']) (by decide) (by simp [maxLen]; omega) (by omega) (by omega) (fun g _ => ap0 g) (fun g cap w3 hown hg hat hlt => ?_)
  · rw [add_none, Nat.zero_add]
    refine (cell_of d1 j).trans ?_
    simpa using hv
  have hgs := hg.size
  have hA : MoreO a0 w (.slice oa lo oc) ord i g cap w3 := ⟨by rw [hoL]; exact hown, fun b hb hne => (hg.block b (by omega) fun e => hne e.symm).trans (o1 b (by omega)), by omega, hat.imp id fun h => by omega, hlt⟩
  have hst1 := hst g cap w3 hA
  clear hrow1 d1 o1 hown hg hat hst c1 c2 I hrow hA
  walk_nrm
  repeat (first | (refine Walk.oq ?_; try walk_nrm) | (refine Walk.un ?_; walk_nrm))
  try walk_nrm
  repeat (first | refine Walk.cx ?_ | (refine Walk.cReg ?_; simp only [z34]) | (refine Walk.oq ?_; try walk_nrm) | (refine Walk.un ?_; walk_nrm))
  refine Walk.callW (Post := fun v w' => v = .tuple #[] ∧ P1 g cap w') ?_ (ho_of (by conv => lhs; whnf) (by kernel_rfl)) (by rfl) (by decide) rfl Try.func49 (by kernel_rfl) (by rfl) ?_
  · walk_nrm
    exact hst1
  rintro v w4 ⟨rfl, hP1⟩
  have hse1 := hse g cap w4 hP1
  walk_nrm
  repeat (first | refine Walk.cx ?_ | (refine Walk.cReg ?_; simp only [z34]) | (refine Walk.oq ?_; try walk_nrm) | (refine Walk.un ?_; walk_nrm))
  refine Walk.callW (Post := fun v w' => v = .tuple #[] ∧ P2 g cap w') ?_ (ho_of (by conv => lhs; whnf) (by kernel_rfl)) (by rfl) (by decide) rfl Try.func48 (by kernel_rfl) (by rfl) ?_
  · walk_nrm
    exact hse1
  rintro v w5 ⟨rfl, hP2⟩
  walk_nrm
  repeat (first | refine Walk.cx ?_ | (refine Walk.cReg ?_; simp only [z34]) | (refine Walk.oq ?_; try walk_nrm) | (refine Walk.un ?_; walk_nrm))
  refine Walk.ctl rfl (fun w => stepG_inLoop) ?_
  refine .stop fun d => ⟨g, cap, at_slots ?_, w5, d, hP2, rfl⟩
  simp only [hdRun1, hcc]
  rfl
theorem rest_end (M : Nat) (mo : Int) (R n : Nat) (ov : Value) (u : Nat → Value) (cs : List Frame) (w : World) :
    Walk Try.prog main (DR (fun _ => none)) (fun g w' => (∃ u, g = G (hdRun2 M mo R n ov u) cs) ∧ ∃ d, w' = w.at d) (G (hdRun3 M mo R n ov n u) cs) w := by
  have hj1 : decide ((n : Int) < n) = false := by simp
  have hj3 : decide (n < n) = false := by simp
  conv => arg 5; unfold hdRun3
  repeat (first | refine Walk.cx ?_ | (refine Walk.cReg ?_; simp only [z34]) | (refine Walk.oq ?_; try walk_nrm) | (refine Walk.un ?_; walk_nrm))
  refine Walk.ctl rfl (fun w => stepG_inLoop) ?_
  refine .stop fun d => ⟨at_slots ?_, d, rfl⟩
  simp only [hdRun2]
  rfl
theorem rest_full (M : Nat) (mo : Int) (R n : Nat) (oa : Option Addr) (ln oc i : Nat) (hi : i < n) (hm : mo ≤ (ln : Int)) (u : Nat → Value) (cs : List Frame) (w : World) :
    Walk Try.prog main (DR (fun _ => none)) (fun g w' => (∃ u, g = G (hdRun2 M mo R n (.slice oa ln oc) u) cs) ∧ ∃ d, w' = w.at d) (G (hdRun3 M mo R n (.slice oa ln oc) i u) cs) w := by
  have hi0 : (0 : Int) ≤ i := by omega
  have hz1 : decide ((0 : Int) ≤ i) = true := by simp
  have hi1 : decide ((i : Int) < n) = true := by simp; omega
  have hi3 : decide (i < n) = true := by simp; omega
  have hi4 : (i : Int) < n := by omega
  have hj5 : decide ((ln : Int) < mo) = false := by simp; omega
  have hj6 : ¬ (ln : Int) < mo := by omega
  conv => arg 5; unfold hdRun3
  repeat (first | refine Walk.cx ?_ | (refine Walk.cReg ?_; simp only [z34]) | (refine Walk.oq ?_; try walk_nrm) | (refine Walk.un ?_; walk_nrm))
  refine Walk.ctl rfl (fun w => stepG_inLoop) ?_
  refine .stop fun d => ⟨at_slots ?_, d, rfl⟩
  simp only [hdRun2]
  rfl
theorem rest_off' (M : Nat) (mo : Int) (R : Nat) (oa : Option Addr) (ln oc : Nat) (hm : (ln : Int) < mo) (w : World) {i : Nat} (hi : i < n) (hn : n ≤ 64) (I : M5 a0 M cg cc tb tc n m ta C T w) (hpc : ¬ 0 < (T i).pc) (u : Nat → Value) (cs : List Frame) :
    Walk Try.prog main (DR (fun _ => none)) (fun g w' => (∃ u, g = G (hdRun3 M mo R n (.slice oa ln oc) (i + 1) u) cs) ∧ ∃ d, w' = w.at d) (G (hdRun3 M mo R n (.slice oa ln oc) i u) cs) w := by
  have hj5 : decide ((ln : Int) < mo) = true := by simp; omega
  have hw1 : IntKind.wrap .i64 ((i : Int) + 1) = (i : Int) + 1 := by rw [IntKind.wrap_i64]; omega
  have hcc : ((i + 1 : Nat) : Int) = (i : Int) + 1 := by simp
  have hi0 : (0 : Int) ≤ i := by omega
  have hz1 : decide ((0 : Int) ≤ i) = true := by simp
  have hi1 : decide ((i : Int) < n) = true := by simp; omega
  have hi3 : decide (i < n) = true := by simp; omega
  have hi4 : (i : Int) < n := by omega
  have hp1 : decide (0 < (T i).pc) = false := by simp only [decide_eq_false_iff_not]; exact hpc
  have c1 : w.cell? ⟨M, 1, none⟩ = some (.slice (some ⟨tb, 0, none⟩) n tc) := I.cT (by omega)
  have c2 : w.cell? ⟨tb, i * 7 + 4, none⟩ = some (.int .i64 (T i).pc) := I.tcell hi rfl
  generalize (T i).pc = pc at *
  conv => arg 5; unfold hdRun3
  repeat (first | refine Walk.cx ?_ | (refine Walk.cReg ?_; simp only [z34]) | (refine Walk.oq ?_; try walk_nrm) | (refine Walk.un ?_; walk_nrm))
  refine Walk.ctl rfl (fun w => stepG_inLoop) ?_
  refine .stop fun d => ⟨at_slots ?_, d, rfl⟩
  simp only [hdRun3, hcc]
  rfl
theorem rest_go (M : Nat) (mo : Int) (R : Nat) (ord : List Nat) (oa : Option Addr) (oc : Nat) (hm : (ord.length : Int) < mo) (hmo : mo ≤ 1048576) (w : World) {i : Nat} (hi : i < n) (hn : n ≤ 64) (I : M5 a0 M cg cc tb tc n m ta C T w) (ha0 : a0 ≤ w.heap.size) (hpc : 0 < (T i).pc) (hrow : w.ownsRow a0 3 1 (.slice oa ord.length oc) ord.length (ordRow ord)) (P1 P2 : Nat → Nat → World → Prop)
    (hst : ∀ g cap w1, MoreO a0 w (.slice oa ord.length oc) ord i g cap w1 → CallW Try.prog main (fun _ => none) 49 #[.pointer (some ⟨M, 0, none⟩), .int .i64 i] w1 (fun v w2 => v = .tuple #[] ∧ P1 g cap w2))
    (hse : ∀ g cap w2, P1 g cap w2 → CallW Try.prog main (fun _ => none) 48 #[.pointer (some ⟨M, 0, none⟩), .int .i64 i] w2 (fun v w3 => v = .tuple #[] ∧ P2 g cap w3)) (u : Nat → Value) (cs : List Frame) :
    Walk Try.prog main (DR (fun _ => none)) (fun g' w' => ∃ g cap, (∃ u, g' = G (hdRun3 M mo R n (.slice (some ⟨g, 0, none⟩) (ord.length + 1) cap) (i + 1) u) cs) ∧ ∃ w2 d, P2 g cap w2 ∧ w' = w2.at d) (G (hdRun3 M mo R n (.slice oa ord.length oc) i u) cs) w := by
  have hj5 : decide ((ord.length : Int) < mo) = true := by simp; omega
  have hw1 : IntKind.wrap .i64 ((i : Int) + 1) = (i : Int) + 1 := by rw [IntKind.wrap_i64]; omega
  have hcc : ((i + 1 : Nat) : Int) = (i : Int) + 1 := by simp
  have hi0 : (0 : Int) ≤ i := by omega
  have hz1 : decide ((0 : Int) ≤ i) = true := by simp
  have hi1 : decide ((i : Int) < n) = true := by simp; omega
  have hi3 : decide (i < n) = true := by simp; omega
  have hi4 : (i : Int) < n := by omega
  have hp1 : decide (0 < (T i).pc) = true := by simp only [decide_eq_true_eq]; exact hpc
  have c1 : w.cell? ⟨M, 1, none⟩ = some (.slice (some ⟨tb, 0, none⟩) n tc) := I.cT (by omega)
  have c2 : w.cell? ⟨tb, i * 7 + 4, none⟩ = some (.int .i64 (T i).pc) := I.tcell hi rfl
  have hi3' := Option.some_get (show (Try.prog.info? 3).isSome = true by kernel_rfl)
  generalize (T i).pc = pc at *
  generalize hoL : ord.length = lo at *
  conv => arg 5; unfold hdRun3
  repeat (first | refine Walk.cx ?_ | (refine Walk.cReg ?_; simp only [z34]) | (refine Walk.oq ?_; try walk_nrm) | (refine Walk.un ?_; walk_nrm))
  (refine Walk.oa ?_; try walk_nrm)
  have d1 := heap_alloc_new w (.cells #[.int .i64 i] 3)
  have o1 : ∀ x, x < w.heap.size → (w.alloc (.cells #[.int .i64 i] 3)).heap[x]? = w.heap[x]? := fun x hx => heap_new_lt _ _ hx
  have s1 : (w.alloc (.cells #[.int .i64 i] 3)).heap.size = w.heap.size + 1 := by simp
  have hrow1 : (w.alloc (.cells #[.int .i64 i] 3)).ownsRow a0 3 1 (.slice oa lo oc) lo (ordRow ord) := row_same hrow fun g hg => o1 g (hrow.lt g hg).2
  generalize hS : w.heap.size = S at *
  generalize w.alloc (.cells #[.int .i64 i] 3) = w0 at *
  repeat (first | (refine Walk.oq ?_; try walk_nrm) | (refine Walk.un ?_; walk_nrm))
  refine Walk.append (.tmp 127) (.tmp 129) 24 (ho_of (by conv => lhs; whnf) (by kernel_rfl)) (by rfl) (by decide) rfl a0 3 _ (.int .i64 0) 1 8 (by kernel_rfl) hi3'.symm (by rfl) (by rfl) (by rfl) (by rfl) (by decide) (.slice oa lo oc) lo (ordRow ord) rfl hrow1 ⟨S, 0, none⟩ 1 1 [.int .i64 i] rfl (by rfl) (fun j v hv => ?_) (by simp [Value.oneCell']) (by decide) (by simp [maxLen]; omega) (by omega) (by omega) (fun g _ => ap0 g) (fun g cap w3 hown hg hat hlt => ?_)
  · rw [add_none, Nat.zero_add]
    refine (cell_of d1 j).trans ?_
    simpa using hv
  have hgs := hg.size
  have hA : MoreO a0 w (.slice oa lo oc) ord i g cap w3 := ⟨by rw [hoL]; exact hown, fun b hb hne => (hg.block b (by omega) fun e => hne e.symm).trans (o1 b (by omega)), by omega, hat.imp id fun h => by omega, hlt⟩
  have hst1 := hst g cap w3 hA
  clear hrow1 d1 o1 hown hg hat hst c1 c2 I hrow hA
  walk_nrm
  repeat (first | (refine Walk.oq ?_; try walk_nrm) | (refine Walk.un ?_; walk_nrm))
  try walk_nrm
  repeat (first | refine Walk.cx ?_ | (refine Walk.cReg ?_; simp only [z34]) | (refine Walk.oq ?_; try walk_nrm) | (refine Walk.un ?_; walk_nrm))
  refine Walk.callW (Post := fun v w' => v = .tuple #[] ∧ P1 g cap w') ?_ (ho_of (by conv => lhs; whnf) (by kernel_rfl)) (by rfl) (by decide) rfl Try.func49 (by kernel_rfl) (by rfl) ?_
  · walk_nrm
    exact hst1
  rintro v w4 ⟨rfl, hP1⟩
  have hse1 := hse g cap w4 hP1
  walk_nrm
  repeat (first | refine Walk.cx ?_ | (refine Walk.cReg ?_; simp only [z34]) | (refine Walk.oq ?_; try walk_nrm) | (refine Walk.un ?_; walk_nrm))
  refine Walk.callW (Post := fun v w' => v = .tuple #[] ∧ P2 g cap w') ?_ (ho_of (by conv => lhs; whnf) (by kernel_rfl)) (by rfl) (by decide) rfl Try.func48 (by kernel_rfl) (by rfl) ?_
  · walk_nrm
    exact hse1
  rintro v w5 ⟨rfl, hP2⟩
  walk_nrm
  repeat (first | refine Walk.cx ?_ | (refine Walk.cReg ?_; simp only [z34]) | (refine Walk.oq ?_; try walk_nrm) | (refine Walk.un ?_; walk_nrm))
  refine Walk.ctl rfl (fun w => stepG_inLoop) ?_
  refine .stop fun d => ⟨g, cap, at_slots ?_, w5, d, hP2, rfl⟩
  simp only [hdRun3, hcc]
  rfl
end
end
end Go.Proofs.Ytnnakajldnaldaa
