/- Part 11. -/
import Derived.Test.YtdcjgmlgmjjogaaM9
import Derived.Test.YtdcjgmlgmjjogaaM10
set_option linter.unusedSimpArgs false
set_option linter.unusedVariables false
set_option maxHeartbeats 8000000
set_option maxRecDepth 100000
namespace Go.Proofs.Ytdcjgmlgmjjogaa
open Go.Conc Go.RowKit Go.Relay
open Go.ConcN (upd upd_ne upd_same)
section
section
variable {main : Bool}
theorem one_kin (tb toff nT tc T1 m c : Nat) (S V C : Int) (W bb bo bc k nR rc lk ok : Nat) (ra ao : Option Addr) (hk : k < nT) (hn : nT ≤ 64) (hl : nR ≤ lk) (u : Nat → Value) (cs : List Frame) (w : World)
    (ht : w.cell? ⟨tb, toff + k, none⟩ = some (.slice ao lk ok)) (hb : w.cell? ⟨bb, bo + k, none⟩ = some (.slice ra nR rc)) :
    Walk Try.prog main (DR (fun _ => none)) (fun g w' => (∃ u, g = G (hdOi (.slice (some ⟨tb, toff, none⟩) nT tc) T1 m c S V C W (.slice (some ⟨bb, bo, none⟩) nT bc) nT k (.slice ra nR rc) nR 0 u) cs) ∧ ∃ d, w' = w.at d)
      (G (hdOk (.slice (some ⟨tb, toff, none⟩) nT tc) T1 m c S V C W (.slice (some ⟨bb, bo, none⟩) nT bc) nT k u) cs) w := by
  have hi0 : (0 : Int) ≤ k := by omega
  have hi1 : decide ((k : Int) < nT) = true := by simp; omega
  have hi3 : decide (k < nT) = true := by simp; omega
  have hi4 : (k : Int) < nT := by omega
  have hg1 : decide ((lk : Int) < nR) = false := by simp; omega
  have hg2 : decide (lk < nR) = false := by simp; omega
  conv => arg 5; unfold hdOk
  repeat (first | refine Walk.c rfl ?_ | refine Walk.cRet ?_ | refine Walk.cEnd ?_ | (refine Walk.cReg ?_; simp only [size18_0, size18_1, size18_2, size18_3, size18_4, size18_5, size18_6, size18_7, size18_8, size18_9, size18_10, size18_11, size18_12, size18_13, size18_14, size18_15, size18_16, size18_17, size18_18, size18_19, size18_20, size18_21, size18_22, size18_23, size18_24, size18_25, size18_26, size18_27, size18_28, size18_29, size18_30, size18_31, size18_32, List.range, List.range.loop]) | (refine Walk.oq ?_; try walk_nrm) | (refine Walk.un ?_; walk_nrm))
  refine Walk.ctl rfl (fun w => stepG_loop) ?_
  refine .stop fun d => ⟨at_slots ?_, d, rfl⟩
  simp only [hdOi]
  rfl
theorem one_kout (tv : Value) (T1 m c : Nat) (S V C : Int) (W : Nat) (bv : Value) (nA k : Nat) (rv : Value) (nR : Nat) (hk : k < 64) (u : Nat → Value) (cs : List Frame) (w : World) :
    Walk Try.prog main (DR (fun _ => none)) (fun g w' => (∃ u, g = G (hdOk tv T1 m c S V C W bv nA (k + 1) u) cs) ∧ ∃ d, w' = w.at d)
      (G (hdOi tv T1 m c S V C W bv nA k rv nR nR u) cs) w := by
  have hi1 : decide ((nR : Int) < nR) = false := by simp
  have hi3 : decide (nR < nR) = false := by simp
  have hw1 : IntKind.wrap .i64 ((k : Int) + 1) = (k : Int) + 1 := by rw [IntKind.wrap_i64]; omega
  have hcc : ((k + 1 : Nat) : Int) = (k : Int) + 1 := by simp
  conv => arg 5; unfold hdOi
  repeat (first | refine Walk.c rfl ?_ | refine Walk.cRet ?_ | refine Walk.cEnd ?_ | (refine Walk.cReg ?_; simp only [size18_0, size18_1, size18_2, size18_3, size18_4, size18_5, size18_6, size18_7, size18_8, size18_9, size18_10, size18_11, size18_12, size18_13, size18_14, size18_15, size18_16, size18_17, size18_18, size18_19, size18_20, size18_21, size18_22, size18_23, size18_24, size18_25, size18_26, size18_27, size18_28, size18_29, size18_30, size18_31, size18_32, List.range, List.range.loop]) | (refine Walk.oq ?_; try walk_nrm) | (refine Walk.un ?_; walk_nrm))
  refine Walk.ctl rfl (fun w => stepG_inLoop) ?_
  refine .stop fun d => ⟨at_slots ?_, d, rfl⟩
  simp only [hdOk, hcc]
  rfl
theorem one_cin (tv : Value) (T1 m c j0 j1 j2 : Nat) (S V C : Int) (bv ov : Value) (nT bc nS sc sb so : Nat) (ba : Option Addr) (hc : c < m) (hm : m ≤ 64) (h0 : j0 = 3 * c) (h1 : j1 = j0 + 1) (h2 : j2 = j0 + 2) (hS : nS = m * 3) (hb : bv = .slice ba nT bc) (kk : Bool)
    (hs0 : 0 ≤ S) (hs2 : S ≤ 2) (hc0 : 0 ≤ C) (u : Nat → Value) (cs : List Frame) (w : World)
    (hT : w.heap[T1]? = some (.cells (trC bv ov (.slice (some ⟨sb, so, none⟩) nS sc) kk) 29)) (k0 : w.cell? ⟨sb, so + j0, none⟩ = some (.int .i64 S)) (k1 : w.cell? ⟨sb, so + j1, none⟩ = some (.int .i64 V)) (k2 : w.cell? ⟨sb, so + j2, none⟩ = some (.int .i64 C)) :
    Walk Try.prog main (DR (fun _ => none)) (fun g w' => (∃ u, g = G (hdOk tv T1 m c S V C 0 bv nT 0 u) cs) ∧ ∃ d, w' = w.at d)
      (G (hdOc tv T1 m c u) cs) w := by
  have hi1 : decide ((c : Int) < m) = true := by simp; omega
  have hi3 : decide (c < m) = true := by simp; omega
  have hw3 : IntKind.wrap .i64 (3 * (c : Int)) = (j0 : Int) := by rw [IntKind.wrap_i64]; omega
  have hw4 : IntKind.wrap .i64 ((j0 : Int) + 1) = (j1 : Int) := by rw [IntKind.wrap_i64]; omega
  have hw5 : IntKind.wrap .i64 ((j0 : Int) + 2) = (j2 : Int) := by rw [IntKind.wrap_i64]; omega
  have p0 : (0 : Int) ≤ j0 := by omega
  have p1 : (0 : Int) ≤ j1 := by omega
  have p2 : (0 : Int) ≤ j2 := by omega
  have q0 : (j0 : Int) < nS := by omega
  have q1 : (j1 : Int) < nS := by omega
  have q2 : (j2 : Int) < nS := by omega
  have g0 : decide (S < 0) = false := by simp; omega
  have g2 : decide (2 < S) = false := by simp; omega
  have g3 : decide (C < 0) = false := by simp; omega
  have t2 : w.cell? ⟨T1, 2, none⟩ = some (.slice (some ⟨sb, so, none⟩) nS sc) := (cell_of hT 2).trans rfl
  have t0 : w.cell? ⟨T1, 0, none⟩ = some bv := (cell_of hT 0).trans rfl
  clear hT h0 h1 h2 hS
  subst hb
  conv => arg 5; unfold hdOc
  repeat (first | refine Walk.c rfl ?_ | refine Walk.cRet ?_ | refine Walk.cEnd ?_ | (refine Walk.cReg ?_; simp only [size18_0, size18_1, size18_2, size18_3, size18_4, size18_5, size18_6, size18_7, size18_8, size18_9, size18_10, size18_11, size18_12, size18_13, size18_14, size18_15, size18_16, size18_17, size18_18, size18_19, size18_20, size18_21, size18_22, size18_23, size18_24, size18_25, size18_26, size18_27, size18_28, size18_29, size18_30, size18_31, size18_32, List.range, List.range.loop]) | (refine Walk.oq ?_; try walk_nrm) | (refine Walk.un ?_; walk_nrm))
  (refine Walk.drawnCW (by kernel_rfl) size18_6 (by kernel_rfl) (by kernel_rfl) (by decide) ?_; simp only [List.range, List.range.loop]; repeat (first | (refine Cm.opqA (ho_of (by conv => lhs; whnf) (by kernel_rfl)) (by rfl) (fun dd e he => ?_) ?_; (· (simp [go_sem, *] at he; try (subst he; exact evR_read _ _))); apply Exists.intro; apply And.intro; (· (intro dd K hK; go_simp; exact hK))) | (refine Cm.unw (ho_of (by conv => lhs; whnf) (by kernel_rfl)) (by rfl) ?_; walk_nrm)))
  refine Cm.done ?_
  repeat (first | refine Walk.c rfl ?_ | refine Walk.cRet ?_ | refine Walk.cEnd ?_ | (refine Walk.cReg ?_; simp only [size18_0, size18_1, size18_2, size18_3, size18_4, size18_5, size18_6, size18_7, size18_8, size18_9, size18_10, size18_11, size18_12, size18_13, size18_14, size18_15, size18_16, size18_17, size18_18, size18_19, size18_20, size18_21, size18_22, size18_23, size18_24, size18_25, size18_26, size18_27, size18_28, size18_29, size18_30, size18_31, size18_32, List.range, List.range.loop]) | (refine Walk.oq ?_; try walk_nrm) | (refine Walk.un ?_; walk_nrm))
  refine Walk.ctl rfl (fun w => stepG_loop) ?_
  refine .stop fun d => ⟨at_slots ?_, d, rfl⟩
  simp only [hdOk]
  rfl
theorem one_cout0 (tv : Value) (T1 m c : Nat) (S V C : Int) (bv : Value) (nA : Nat) (hc : c < 64) (u : Nat → Value) (cs : List Frame) (w : World) :
    Walk Try.prog main (DR (fun _ => none)) (fun g w' => (∃ u, g = G (hdOc tv T1 m (c + 1) u) cs) ∧ ∃ d, w' = w.at d)
      (G (hdOk tv T1 m c S V C 0 bv nA nA u) cs) w := by
  have hi1 : decide ((nA : Int) < nA) = false := by simp
  have hi3 : decide (nA < nA) = false := by simp
  have hw1 : IntKind.wrap .i64 ((c : Int) + 1) = (c : Int) + 1 := by rw [IntKind.wrap_i64]; omega
  have hcc : ((c + 1 : Nat) : Int) = (c : Int) + 1 := by simp
  conv => arg 5; unfold hdOk
  repeat (first | refine Walk.c rfl ?_ | refine Walk.cRet ?_ | refine Walk.cEnd ?_ | (refine Walk.cReg ?_; simp only [size18_0, size18_1, size18_2, size18_3, size18_4, size18_5, size18_6, size18_7, size18_8, size18_9, size18_10, size18_11, size18_12, size18_13, size18_14, size18_15, size18_16, size18_17, size18_18, size18_19, size18_20, size18_21, size18_22, size18_23, size18_24, size18_25, size18_26, size18_27, size18_28, size18_29, size18_30, size18_31, size18_32, List.range, List.range.loop]) | (refine Walk.oq ?_; try walk_nrm) | (refine Walk.un ?_; walk_nrm))
  refine Walk.ctl rfl (fun w => stepG_inLoop) ?_
  refine .stop fun d => ⟨at_slots ?_, d, rfl⟩
  simp only [hdOc, hcc]
  rfl
theorem one_cout1 (tv : Value) (T1 m c : Nat) (S V C : Int) (bv : Value) (nA : Nat) (hS : S = 2) (hc : c < 64) (u : Nat → Value) (cs : List Frame) (w : World) :
    Walk Try.prog main (DR (fun _ => none)) (fun g w' => (∃ u, g = G (hdOc tv T1 m (c + 1) u) cs) ∧ ∃ d, w' = w.at d)
      (G (hdOk tv T1 m c S V C 1 bv nA nA u) cs) w := by
  have hi1 : decide ((nA : Int) < nA) = false := by simp
  have hi3 : decide (nA < nA) = false := by simp
  have hw1 : IntKind.wrap .i64 ((c : Int) + 1) = (c : Int) + 1 := by rw [IntKind.wrap_i64]; omega
  have hcc : ((c + 1 : Nat) : Int) = (c : Int) + 1 := by simp
  subst hS
  conv => arg 5; unfold hdOk
  repeat (first | refine Walk.c rfl ?_ | refine Walk.cRet ?_ | refine Walk.cEnd ?_ | (refine Walk.cReg ?_; simp only [size18_0, size18_1, size18_2, size18_3, size18_4, size18_5, size18_6, size18_7, size18_8, size18_9, size18_10, size18_11, size18_12, size18_13, size18_14, size18_15, size18_16, size18_17, size18_18, size18_19, size18_20, size18_21, size18_22, size18_23, size18_24, size18_25, size18_26, size18_27, size18_28, size18_29, size18_30, size18_31, size18_32, List.range, List.range.loop]) | (refine Walk.oq ?_; try walk_nrm) | (refine Walk.un ?_; walk_nrm))
  refine Walk.ctl rfl (fun w => stepG_inLoop) ?_
  refine .stop fun d => ⟨at_slots ?_, d, rfl⟩
  simp only [hdOc, hcc]
  rfl
theorem one_cend (tv : Value) (T1 m : Nat) (u : Nat → Value) (fr : Frame) (cs : List Frame) (w : World) :
    Walk Try.prog main (DR (fun _ => none)) (fun g w' => g = G (fr.finish (.bool true)) cs ∧ ∃ d, w' = w.at d) (G (hdOc tv T1 m m u) (fr :: cs)) w := by
  have hi1 : decide ((m : Int) < m) = false := by simp
  have hi3 : decide (m < m) = false := by simp
  conv => arg 5; unfold hdOc
  repeat (first | refine Walk.c rfl ?_ | refine Walk.cRet ?_ | refine Walk.cEnd ?_ | (refine Walk.cReg ?_; simp only [size18_0, size18_1, size18_2, size18_3, size18_4, size18_5, size18_6, size18_7, size18_8, size18_9, size18_10, size18_11, size18_12, size18_13, size18_14, size18_15, size18_16, size18_17, size18_18, size18_19, size18_20, size18_21, size18_22, size18_23, size18_24, size18_25, size18_26, size18_27, size18_28, size18_29, size18_30, size18_31, size18_32, List.range, List.range.loop]) | (refine Walk.oq ?_; try walk_nrm) | (refine Walk.un ?_; walk_nrm))
  exact Walk.on1 rfl rfl Try.func18 rfl (.stop fun d => ⟨rfl, d, rfl⟩)
theorem one_in (ta : Option Addr) (nT tc m : Nat) (ba oa sa : Option Addr) (bc nO oc nS sc : Nat) (kk : Bool) (hm : m ≤ 64) (hn : nT ≤ 64) (hS : nS = m * 3) (cs : List Frame) (w : World) :
    Walk Try.prog main (DR (fun _ => none)) (fun g w' => (∃ u, g = G (hdOc (.slice ta nT tc) w.heap.size m 0 u) cs) ∧ (∀ b, b < w.heap.size → w'.heap[b]? = w.heap[b]?) ∧ w'.heap.size = w.heap.size + 1 ∧ w'.heap[w.heap.size]? = some (.cells (trC (.slice ba nT bc) (.slice oa nO oc) (.slice sa nS sc) kk) 29))
      (G (Frame.enter Try.prog 18 #[.int .i64 m, .slice ta nT tc, .agg (trC (.slice ba nT bc) (.slice oa nO oc) (.slice sa nS sc) kk)] .normal) cs) w := by
  have hw3 : IntKind.wrap .i64 (3 * (m : Int)) = (nS : Int) := by rw [IntKind.wrap_i64]; omega
  have e1 : ((nS : Int) != (nS : Int)) = false := by simp
  have e2 : ((nT : Int) != (nT : Int)) = false := by simp
  clear hS
  unfold trC
  rw [enter_at _ Try.func18 code18_is]
  simp only [Try.ntmps18, List.size_toArray, List.length_cons, List.length_nil, Nat.reduceAdd, Nat.reduceSub, Array.replicate_succ, Array.replicate_zero, List.push_toArray, List.append_toArray, List.nil_append, List.cons_append]
  repeat (first | refine Walk.c rfl ?_ | refine Walk.cRet ?_ | refine Walk.cEnd ?_ | (refine Walk.cReg ?_; simp only [size18_0, size18_1, size18_2, size18_3, size18_4, size18_5, size18_6, size18_7, size18_8, size18_9, size18_10, size18_11, size18_12, size18_13, size18_14, size18_15, size18_16, size18_17, size18_18, size18_19, size18_20, size18_21, size18_22, size18_23, size18_24, size18_25, size18_26, size18_27, size18_28, size18_29, size18_30, size18_31, size18_32, List.range, List.range.loop]) | (refine Walk.oq ?_; try walk_nrm) | (refine Walk.un ?_; walk_nrm))
  (refine Walk.oa ?_; try walk_nrm)
  have d1 := heap_alloc_new w (.cells #[.slice ba nT bc, .slice oa nO oc, .slice sa nS sc, .bool kk] 29)
  have p1 : ∀ b, b < w.heap.size → (w.alloc (.cells #[.slice ba nT bc, .slice oa nO oc, .slice sa nS sc, .bool kk] 29)).heap[b]? = w.heap[b]? := fun b hb => heap_new_lt _ _ hb
  have s1 : (w.alloc (.cells #[.slice ba nT bc, .slice oa nO oc, .slice sa nS sc, .bool kk] 29)).heap.size = w.heap.size + 1 := by simp
  generalize hQ : w.heap.size = Q at *
  generalize w.alloc (.cells #[.slice ba nT bc, .slice oa nO oc, .slice sa nS sc, .bool kk] 29) = w1 at *
  have c0 : w1.cell? ⟨Q, 0, none⟩ = some (.slice ba nT bc) := (cell_of d1 0).trans rfl
  have c2 : w1.cell? ⟨Q, 2, none⟩ = some (.slice sa nS sc) := (cell_of d1 2).trans rfl
  repeat (first | refine Walk.c rfl ?_ | refine Walk.cRet ?_ | refine Walk.cEnd ?_ | (refine Walk.cReg ?_; simp only [size18_0, size18_1, size18_2, size18_3, size18_4, size18_5, size18_6, size18_7, size18_8, size18_9, size18_10, size18_11, size18_12, size18_13, size18_14, size18_15, size18_16, size18_17, size18_18, size18_19, size18_20, size18_21, size18_22, size18_23, size18_24, size18_25, size18_26, size18_27, size18_28, size18_29, size18_30, size18_31, size18_32, List.range, List.range.loop]) | (refine Walk.oq ?_; try walk_nrm) | (refine Walk.un ?_; walk_nrm))
  refine Walk.ctl rfl (fun w => stepG_loop) ?_
  refine .stop fun d => ⟨at_slots ?_, p1, s1, d1⟩
  simp only [hdOc]
  rfl
theorem state_at (s : Oz) : ∀ (m c : Nat), c < m → (ozState s m)[3 * c]? = some (s.st c) ∧ (ozState s m)[3 * c + 1]? = some (s.vl c) ∧ (ozState s m)[3 * c + 2]? = some (s.ct c)
  | 0, c, h => absurd h (Nat.not_lt_zero _)
  | m + 1, c, h => by
    rw [ozState_succ]
    have hl := ozState_len s m
    by_cases e : c = m
    · subst e
      refine ⟨?_, ?_, ?_⟩ <;> rw [List.getElem?_append_right (by omega), hl]
      · have : 3 * c - c * 3 = 0 := by omega
        rw [this]; rfl
      · have : 3 * c + 1 - c * 3 = 1 := by omega
        rw [this]; rfl
      · have : 3 * c + 2 - c * 3 = 2 := by omega
        rw [this]; rfl
    · obtain ⟨h0, h1, h2⟩ := state_at s m c (by omega)
      refine ⟨?_, ?_, ?_⟩ <;> rw [List.getElem?_append_left (by omega)] <;> assumption
section
variable {tb toff nT m : Nat} {oa : Nat → Option Addr} {ln oc : Nat → Nat} {ops : Nat → List OpV} {F : Nat → List Ans} {s : Oz}
theorem one_threads (X : OnF ops nT F s) (hn : nT ≤ 64) (tc T1 m c bb bo bc : Nat) (cs : List Frame) :
    ∀ (r k W : Nat) (u : Nat → Value) (w : World), k + r = nT → OnM tb toff nT oa ln oc ops (some ⟨bb, bo, none⟩) F w → WP ops nT F s c k 0 W →
    Walk Try.prog main (DR (fun _ => none)) (fun g w' => (∃ u W', WP ops nT F s c nT 0 W' ∧ g = G (hdOk (.slice (some ⟨tb, toff, none⟩) nT tc) T1 m c (s.st c) (s.vl c) (s.ct c) W' (.slice (some ⟨bb, bo, none⟩) nT bc) nT nT u) cs) ∧ (∀ b, b < w.heap.size → w'.heap[b]? = w.heap[b]?) ∧ w.heap.size ≤ w'.heap.size)
      (G (hdOk (.slice (some ⟨tb, toff, none⟩) nT tc) T1 m c (s.st c) (s.vl c) (s.ct c) W (.slice (some ⟨bb, bo, none⟩) nT bc) nT k u) cs) w := by
  intro r
  induction r with
  | zero =>
    intro k W u w hk hM hW
    obtain rfl : k = nT := by omega
    exact .stop fun d => ⟨⟨u, W, hW, rfl⟩, fun b hb => rfl, Nat.le_refl _⟩
  | succ r ih =>
    intro k W u w hk hM hW
    have hkn : k < nT := by omega
    obtain ⟨b, o, ta, tc', e, k1, k2⟩ := hM.A k hkn
    cases e
    have hl := X.len k hkn
    have hln := hM.I.len k hkn
    refine (one_kin tb toff nT tc T1 m c (s.st c) (s.vl c) (s.ct c) W bb bo bc k (F k).length tc' (ln k) (oc k) ta (oa k) hkn hn (by omega) u cs w (hM.I.hd k hkn) k1).then ?_
    rintro _ _ ⟨⟨u1, rfl⟩, d1, rfl⟩
    refine Walk.back ?_ d1
    refine (one_answers X hn tc T1 m c _ nT k tc' ta hkn cs (F k).length 0 W u1 w (by omega) hM k2 hW).then ?_
    rintro _ w1 ⟨⟨u2, W1, hW1, rfl⟩, hO, hs⟩
    refine (one_kout (.slice (some ⟨tb, toff, none⟩) nT tc) T1 m c (s.st c) (s.vl c) (s.ct c) W1 (.slice (some ⟨bb, bo, none⟩) nT bc) nT k (.slice ta (F k).length tc') (F k).length (by omega) u2 cs w1).then ?_
    rintro _ _ ⟨⟨u3, rfl⟩, d3, rfl⟩
    refine Walk.back ?_ d3
    refine (ih (k + 1) W1 u3 w1 (by omega) (hM.old hO hs) hW1).mono ?_
    rintro g w2 ⟨hu, h1, h2⟩
    exact ⟨hu, fun b hb => (h1 b (by omega)).trans (hO b hb), by omega⟩
theorem one_cells (X : OnF ops nT F s) (hn : nT ≤ 64) (hm : m ≤ 64) {len : Nat} (hG : goodZ s len) (ta : Option Addr) (hta : 0 < nT → ta = some ⟨tb, toff, none⟩) (tc T1 bc sc : Nat) (ba sa : Option Addr) (hba : 0 < nT → ∃ bb bo, ba = some ⟨bb, bo, none⟩) (ov : Value) (kk : Bool) (fr : Frame) (cs : List Frame) :
    ∀ (r c : Nat) (u : Nat → Value) (w : World), c + r = m → w.heap[T1]? = some (.cells (trC (.slice ba nT bc) ov (.slice sa (ozState s m).length sc) kk) 29) → NumA sa (ozState s m) w → OnM tb toff nT oa ln oc ops ba F w →
    Walk Try.prog main (DR (fun _ => none)) (fun g w' => g = G (fr.finish (.bool true)) cs ∧ (∀ b, b < w.heap.size → w'.heap[b]? = w.heap[b]?) ∧ w.heap.size ≤ w'.heap.size)
      (G (hdOc (.slice ta nT tc) T1 m c u) (fr :: cs)) w := by
  intro r
  induction r with
  | zero =>
    intro c u w hc hT hS hM
    obtain rfl : c = m := by omega
    refine (one_cend (.slice ta nT tc) T1 c u fr cs w).mono ?_
    rintro g w' ⟨rfl, d, rfl⟩
    exact ⟨rfl, fun b hb => rfl, Nat.le_refl _⟩
  | succ r ih =>
    intro c u w hc hT hS hM
    have hcm : c < m := by omega
    obtain ⟨e0, e1, e2⟩ := state_at s m c hcm
    obtain ⟨sb, so, rfl, k0⟩ := hS _ _ e0
    obtain ⟨sb', so', e, k1⟩ := hS _ _ e1
    cases e
    obtain ⟨sb', so', e, k2⟩ := hS _ _ e2
    cases e
    have hg := hG.1 c
    have hg2 := hG.2 c
    have hlen := ozState_len s m
    refine (one_cin (.slice ta nT tc) T1 m c (3 * c) (3 * c + 1) (3 * c + 2) (s.st c) (s.vl c) (s.ct c) (.slice ba nT bc) ov nT bc (ozState s m).length sc sb so ba hcm hm rfl rfl rfl hlen rfl kk (by omega) (by omega) hg2.1 u (fr :: cs) w hT k0 k1 k2).then ?_
    rintro _ _ ⟨⟨u1, rfl⟩, d1, rfl⟩
    refine Walk.back ?_ d1
    have hW0 : WP ops nT F s c 0 0 0 := .inl ⟨rfl, fun k' i' h => by omega⟩
    have key : Walk Try.prog main (DR (fun _ => none)) (fun g w' => (∃ u W', WP ops nT F s c nT 0 W' ∧ g = G (hdOk (.slice ta nT tc) T1 m c (s.st c) (s.vl c) (s.ct c) W' (.slice ba nT bc) nT nT u) (fr :: cs)) ∧ (∀ b, b < w.heap.size → w'.heap[b]? = w.heap[b]?) ∧ w.heap.size ≤ w'.heap.size)
        (G (hdOk (.slice ta nT tc) T1 m c (s.st c) (s.vl c) (s.ct c) 0 (.slice ba nT bc) nT 0 u1) (fr :: cs)) w := by
      by_cases h0 : nT = 0
      · subst h0
        exact .stop fun d => ⟨⟨u1, 0, hW0, rfl⟩, fun b hb => rfl, Nat.le_refl _⟩
      · obtain ⟨bb, bo, rfl⟩ := hba (by omega)
        obtain rfl := hta (by omega)
        exact one_threads X hn tc T1 m c bb bo bc (fr :: cs) nT 0 0 u1 w (by omega) hM hW0
    refine key.then ?_
    rintro _ w1 ⟨⟨u2, W1, hW1, rfl⟩, hO, hs⟩
    have hC : Chg (fun _ => False) w w1 := ⟨hs, fun b hb _ => hO b hb⟩
    have hT1 : w1.heap[T1]? = some (.cells (trC (.slice ba nT bc) ov (.slice (some ⟨sb, so, none⟩) (ozState s m).length sc) kk) 29) := (hO T1 (Array.getElem?_eq_some_iff.1 hT).1).trans hT
    have fin : Walk Try.prog main (DR (fun _ => none)) (fun g w' => (∃ u, g = G (hdOc (.slice ta nT tc) T1 m (c + 1) u) (fr :: cs)) ∧ ∃ d, w' = w1.at d) (G (hdOk (.slice ta nT tc) T1 m c (s.st c) (s.vl c) (s.ct c) W1 (.slice ba nT bc) nT nT u2) (fr :: cs)) w1 := by
      rcases hW1 with ⟨rfl, _⟩ | ⟨rfl, h2, _⟩
      · exact one_cout0 (.slice ta nT tc) T1 m c (s.st c) (s.vl c) (s.ct c) (.slice ba nT bc) nT (by omega) u2 (fr :: cs) w1
      · exact one_cout1 (.slice ta nT tc) T1 m c (s.st c) (s.vl c) (s.ct c) (.slice ba nT bc) nT h2 (by omega) u2 (fr :: cs) w1
    refine fin.then ?_
    rintro _ _ ⟨⟨u3, rfl⟩, d3, rfl⟩
    refine Walk.back ?_ d3
    refine (ih (c + 1) u3 w1 (by omega) hT1 (hS.chg hC) (hM.old hO hs)).mono ?_
    rintro g w2 ⟨rfl, h1, h2⟩
    exact ⟨rfl, fun b hb => (h1 b (by omega)).trans (hO b hb), by omega⟩
theorem one_w (X : OnF ops nT F s) (hn : nT ≤ 64) (hm : m ≤ 64) {len : Nat} (hG : goodZ s len) (ta : Option Addr) (hta : 0 < nT → ta = some ⟨tb, toff, none⟩) (tc : Nat) (cells : Array Value) (ord : List Nat) (kk : Bool) (w : World) (I : OpsIn tb toff nT oa ln oc ops w) (H : TrA cells nT F ord (ozState s m) kk w) :
    CallW Try.prog main (fun _ => none) 18 #[.int .i64 m, .slice ta nT tc, .agg cells] w (fun v w' => v = .bool true ∧ Chg (fun _ => False) w w') := by
  obtain ⟨aa, ac, oa', oc', sa, sc, rfl, n1, n2, n3⟩ := H.all
  intro fr cs
  refine (one_in ta nT tc m aa oa' sa ac ord.length oc' (ozState s m).length sc kk hm hn (ozState_len s m) (fr :: cs) w).then ?_
  rintro _ w1 ⟨⟨u, rfl⟩, hO, hs, hT⟩
  have hC : Chg (fun _ => False) w w1 := ⟨by omega, fun b hb _ => hO b hb⟩
  have hM : OnM tb toff nT oa ln oc ops aa F w := ⟨I, n3⟩
  refine (one_cells X hn hm hG ta hta tc w.heap.size ac sc aa sa (fun h => ?_) (.slice oa' ord.length oc') kk fr cs m 0 u w1 (by omega) hT (n2.chg hC) (hM.old hO (by omega))).mono ?_
  · obtain ⟨b, o, _, _, e, _⟩ := n3 0 h
    exact ⟨b, o, e⟩
  rintro g w2 ⟨rfl, h1, h2⟩
  exact ⟨_, ⟨rfl, ⟨by omega, fun b hb _ => (h1 b (by omega)).trans (hO b hb)⟩⟩, rfl⟩
end
end
end
end Go.Proofs.Ytdcjgmlgmjjogaa
