/- Part 7. -/
import Derived.Test.YtnnakajldnaldaaM1
import Derived.Test.YtnnakajldnaldaaM4
import Derived.Test.YtnnakajldnaldaaM6
set_option linter.unusedSimpArgs false
set_option linter.unusedVariables false
set_option maxHeartbeats 8000000
set_option maxRecDepth 100000
namespace Go.Proofs.Ytnnakajldnaldaa
open Go.Conc Go.RowKit Go.Relay
open Go.ConcN (upd upd_ne upd_same)
structure Closing (f : FuncId) (t : Tmp) (v : Value) (g : Goroutine) : Prop where
  all : ∃ fr, g = G fr [] ∧ fr.mode = .returning ∧ fr.kind = .normal ∧ fr.defers = [] ∧ fr.fn = f ∧ fr.tmps.getD t undef = v
section
section
variable {main : Bool}
theorem bo_fin (m Q tb n thc K Ab ln tg tc mg mc c ev ab ao ac rb ro rc3 oc p0 p1 p2 p3 p4 p5 q1 q2 q3 q4 q5 q6 q7 q8 : Nat) (tot N0 N1 N2 T0 T1 T2 T3 T4 T5 : Int) (b1 : Bool) (oa : Option Addr) (stV : Value) (w : World)
    (dQ : w.heap[Q]? = some (.cells (trC (.slice (some ⟨ab, ao, none⟩) n ac) (.slice oa ln oc) stV false) 31)) (hK : K < n) (hn : n ≤ 64) (x0 : w.cell? ⟨ab, ao + K, none⟩ = some (.slice (some ⟨rb, ro, none⟩) 3 rc3))
    (a0 : w.cell? ⟨rb, ro + 1, none⟩ = some (.int .i64 N0)) (a1 : w.cell? ⟨rb, ro + 3, none⟩ = some (.bool b1)) (a2 : w.cell? ⟨rb, ro + 3 + 1, none⟩ = some (.int .i64 N1)) (a3 : w.cell? ⟨rb, ro + 6 + 1, none⟩ = some (.int .i64 N2))
    (m0 : w.cell? ⟨mg, 0, none⟩ = some (.int .i64 p0)) (m1 : w.cell? ⟨mg, q1, none⟩ = some (.int .i64 p1)) (m2 : w.cell? ⟨mg, q2, none⟩ = some (.int .i64 p2)) (m3 : w.cell? ⟨mg, q3, none⟩ = some (.int .i64 p3)) (m4 : w.cell? ⟨mg, q4, none⟩ = some (.int .i64 p4)) (m5 : w.cell? ⟨mg, q5, none⟩ = some (.int .i64 p5))
    (t0 : w.cell? ⟨tg, p0, none⟩ = some (.int .i64 T0)) (t1 : w.cell? ⟨tg, p1, none⟩ = some (.int .i64 T1)) (t2 : w.cell? ⟨tg, p2, none⟩ = some (.int .i64 T2)) (t3 : w.cell? ⟨tg, p3, none⟩ = some (.int .i64 T3)) (t4 : w.cell? ⟨tg, p4, none⟩ = some (.int .i64 T4)) (t5 : w.cell? ⟨tg, p5, none⟩ = some (.int .i64 T5))
    (g0 : p0 < ln) (g1 : p1 < ln) (g2 : p2 < ln) (g3 : p3 < ln) (g4 : p4 < ln) (g5 : p5 < ln) (hm : 1 ≤ m) (hm8 : m ≤ 8)
    (hc : c = 2 * m + ev) (hev : m + 1 ≤ ev ∧ ev ≤ 2 * m) (hq1 : q1 + 1 = m) (hq2 : q2 = m + ev) (hq3 : q3 + 1 = c) (hq4 : q4 + 1 = 2 * m) (hq5 : q5 = 2 * m) (hq6 : q6 = 3 * m) (hq7 : q7 = 3 * m + 1) (hq8 : q8 = 4 * m)
    (z1 : T0 ≤ N0) (z2 : N0 ≤ T1) (z3 : T2 ≤ N2) (z4 : N2 ≤ T3) (z5 : (b1 = false ∧ N1 = 0) ∨ (b1 = true ∧ ev = 2 * m ∧ N1 = T4 ∧ T4 ≤ T5)) (u : Nat → Value) :
    Walk Try.prog main (DR (fun _ => none)) (fun g w' => Closing 5 6 (.bool true) g ∧ ∃ d, w' = w.at d) (G (hdBo m Q (.slice (some ⟨tb, 0, none⟩) n thc) K (.slice (some ⟨Ab, 0, none⟩) n n) tot (.slice (some ⟨tg, 0, none⟩) ln tc) (.slice (some ⟨mg, 0, none⟩) c mc) ln u) []) w := by
  have e1 : decide ((ln : Int) < ln) = false := by simp
  have e2 : decide (ln < ln) = false := by simp
  have tq0 : w.cell? ⟨Q, 0, none⟩ = some (.slice (some ⟨ab, ao, none⟩) n ac) := (cell_of dQ 0).trans rfl
  have tq : w.cell? ⟨Q, 1, none⟩ = some (.slice oa ln oc) := (cell_of dQ 1).trans rfl
  have hK0 : (0 : Int) ≤ K := by omega
  have hK4 : (K : Int) < n := by omega
  have w1 : IntKind.i64.wrap (3 * (m : Int)) = (q6 : Int) := by rw [IntKind.wrap_i64]; omega
  have w2 : IntKind.i64.wrap ((q6 : Int) + 1) = (q7 : Int) := by rw [IntKind.wrap_i64]; omega
  have w3 : IntKind.i64.wrap (4 * (m : Int)) = (q8 : Int) := by rw [IntKind.wrap_i64]; omega
  have w4 : IntKind.i64.wrap (2 * (m : Int)) = (q5 : Int) := by rw [IntKind.wrap_i64]; omega
  have w5 : IntKind.i64.wrap ((c : Int) - q5) = (ev : Int) := by rw [IntKind.wrap_i64]; omega
  have w6 : IntKind.i64.wrap ((m : Int) - 1) = (q1 : Int) := by rw [IntKind.wrap_i64]; omega
  have w7 : IntKind.i64.wrap ((m : Int) + ev) = (q2 : Int) := by rw [IntKind.wrap_i64]; omega
  have w8 : IntKind.i64.wrap ((c : Int) - 1) = (q3 : Int) := by rw [IntKind.wrap_i64]; omega
  have w9 : IntKind.i64.wrap ((q5 : Int) - 1) = (q4 : Int) := by rw [IntKind.wrap_i64]; omega
  have c1 : decide ((c : Int) < q7) = false := by simp; omega
  have c2 : decide (c < q7) = false := by simp; omega
  have c3 : decide ((q8 : Int) < c) = false := by simp; omega
  have c4 : decide (q8 < c) = false := by simp; omega
  have c5 : decide (N0 < T0) = false := by simp; omega
  have c6 : decide (T1 < N0) = false := by simp; omega
  have c7 : decide (N2 < T2) = false := by simp; omega
  have c8 : decide (T3 < N2) = false := by simp; omega
  have c9 : decide ((c : Int) > q8) = false := by simp; omega
  have d6 : decide (N0 > T1) = false := by simp; omega
  have d8 : decide (N2 > T3) = false := by simp; omega
  have i0 : (0 : Int) < c := by omega
  have i0n : 0 < c := by omega
  have i0c : ¬ c = 0 := by omega
  have i1 : (q1 : Int) < c := by omega
  have i2 : (q2 : Int) < c := by omega
  have i3 : (q3 : Int) < c := by omega
  have i4 : (q4 : Int) < c := by omega
  have i5 : (q5 : Int) < c := by omega
  have n1 : (0 : Int) ≤ q1 := by omega
  have n2 : (0 : Int) ≤ q2 := by omega
  have n3 : (0 : Int) ≤ q3 := by omega
  have n4 : (0 : Int) ≤ q4 := by omega
  have n5 : (0 : Int) ≤ q5 := by omega
  have o0 : (0 : Int) ≤ p0 := by omega
  have o1 : (0 : Int) ≤ p1 := by omega
  have o2 : (0 : Int) ≤ p2 := by omega
  have o3 : (0 : Int) ≤ p3 := by omega
  have o4 : (0 : Int) ≤ p4 := by omega
  have o5 : (0 : Int) ≤ p5 := by omega
  have h0 : (p0 : Int) < ln := by omega
  have h1 : (p1 : Int) < ln := by omega
  have h2 : (p2 : Int) < ln := by omega
  have h3 : (p3 : Int) < ln := by omega
  have h4 : (p4 : Int) < ln := by omega
  have h5 : (p5 : Int) < ln := by omega
  have a0' : w.cell? ⟨rb, ro + 0 + 1, none⟩ = some (.int .i64 N0) := a0
  have a1' : w.cell? ⟨rb, ro + 3 + 0, none⟩ = some (.bool b1) := a1
  have a2' : w.cell? ⟨rb, ro + 4, none⟩ = some (.int .i64 N1) := a2
  have a3' : w.cell? ⟨rb, ro + 7, none⟩ = some (.int .i64 N2) := a3
  have hev2 : ev = 2 * m → (ev : Int) = q5 := fun h => by omega
  have hneq : ev = 2 * m → ((ev : Int) == q5) = true := fun h => by simp; omega
  have hneq2 : ev = 2 * m → (ev == q5) = true := fun h => by simp; omega
  have hs6 : (3 * (m : Int)) = (3 * (m : Int)) := rfl
  have z5' : (b1 = false ∧ N1 = 0) ∨ (b1 = true ∧ ((ev : Int) == q5) = true ∧ (ev == q5) = true ∧ N1 = T4 ∧ decide (T4 ≤ N1) = true ∧ decide (N1 ≤ T5) = true) := by
    rcases z5 with h | ⟨h1, h2, h3, h4⟩
    · exact .inl h
    · exact .inr ⟨h1, hneq h2, hneq2 h2, h3, by simp; omega, by simp; omega⟩
  clear dQ hs6 hneq hneq2 hev2 z5 hc hq1 hq2 hq3 hq4 hq5 hq6 hq7 hq8 z1 z2 z3 z4 hev hm hm8
  conv => arg 5; unfold hdBo
  repeat (first | refine Walk.c rfl ?_ | refine Walk.cRet ?_ | refine Walk.cEnd ?_ | (refine Walk.cReg ?_; simp only [size5_0, size5_1, size5_2, size5_3, size5_4, size5_5, size5_6, size5_7, size5_8, size5_9, size5_10, size5_11, size5_12, size5_13, size5_14, size5_15, size5_17, size5_18, size5_19, size5_20, size5_21, size5_22, size5_23, size5_24, size5_25, size5_26, size5_16, size5_27, size5_28, size5_29, size5_30, size5_31, size5_32, size5_33, size5_34, size5_35, List.range, List.range.loop]) | (refine Walk.oq ?_; try walk_nrm) | (refine Walk.un ?_; walk_nrm))
  (refine Walk.drawnC (by kernel_rfl) size5_31 (by kernel_rfl) (by kernel_rfl) (by decide) ?_; simp only [List.range, List.range.loop]; repeat (first | (refine Cm.opqA (ho_of (by conv => lhs; whnf) (by kernel_rfl)) (by rfl) (fun dd e he => ?_) ?_; (· (simp [go_sem, *] at he; try (subst he; exact evR_read _ _))); apply Exists.intro; apply And.intro; (· (intro dd K hK; go_simp; exact hK))) | (refine Cm.unw (ho_of (by conv => lhs; whnf) (by kernel_rfl)) (by rfl) ?_; walk_nrm)))
  refine Cm.done ?_
  repeat (first | refine Walk.c rfl ?_ | refine Walk.cRet ?_ | refine Walk.cEnd ?_ | (refine Walk.cReg ?_; simp only [size5_0, size5_1, size5_2, size5_3, size5_4, size5_5, size5_6, size5_7, size5_8, size5_9, size5_10, size5_11, size5_12, size5_13, size5_14, size5_15, size5_17, size5_18, size5_19, size5_20, size5_21, size5_22, size5_23, size5_24, size5_25, size5_26, size5_16, size5_27, size5_28, size5_29, size5_30, size5_31, size5_32, size5_33, size5_34, size5_35, List.range, List.range.loop]) | (refine Walk.oq ?_; try walk_nrm) | (refine Walk.un ?_; walk_nrm))
  rcases z5' with ⟨rfl, rfl⟩ | ⟨rfl, y1, y2, rfl, y3, y4⟩
  · repeat (first | refine Walk.c rfl ?_ | refine Walk.cRet ?_ | refine Walk.cEnd ?_ | (refine Walk.cReg ?_; simp only [size5_0, size5_1, size5_2, size5_3, size5_4, size5_5, size5_6, size5_7, size5_8, size5_9, size5_10, size5_11, size5_12, size5_13, size5_14, size5_15, size5_17, size5_18, size5_19, size5_20, size5_21, size5_22, size5_23, size5_24, size5_25, size5_26, size5_16, size5_27, size5_28, size5_29, size5_30, size5_31, size5_32, size5_33, size5_34, size5_35, List.range, List.range.loop]) | (refine Walk.oq ?_; try walk_nrm) | (refine Walk.un ?_; walk_nrm))
    exact .stop fun d => ⟨⟨_, rfl, rfl, rfl, rfl, rfl, rfl⟩, d, rfl⟩
  · repeat (first | refine Walk.c rfl ?_ | refine Walk.cRet ?_ | refine Walk.cEnd ?_ | (refine Walk.cReg ?_; simp only [size5_0, size5_1, size5_2, size5_3, size5_4, size5_5, size5_6, size5_7, size5_8, size5_9, size5_10, size5_11, size5_12, size5_13, size5_14, size5_15, size5_17, size5_18, size5_19, size5_20, size5_21, size5_22, size5_23, size5_24, size5_25, size5_26, size5_16, size5_27, size5_28, size5_29, size5_30, size5_31, size5_32, size5_33, size5_34, size5_35, List.range, List.range.loop]) | (refine Walk.oq ?_; try walk_nrm) | (refine Walk.un ?_; walk_nrm))
    (refine Walk.drawnC (by kernel_rfl) size5_35 (by kernel_rfl) (by kernel_rfl) (by decide) ?_; simp only [List.range, List.range.loop]; repeat (first | (refine Cm.opqA (ho_of (by conv => lhs; whnf) (by kernel_rfl)) (by rfl) (fun dd e he => ?_) ?_; (· (simp [go_sem, *] at he; try (subst he; exact evR_read _ _))); apply Exists.intro; apply And.intro; (· (intro dd K hK; go_simp; exact hK))) | (refine Cm.unw (ho_of (by conv => lhs; whnf) (by kernel_rfl)) (by rfl) ?_; walk_nrm)))
    refine Cm.done ?_
    repeat (first | refine Walk.c rfl ?_ | refine Walk.cRet ?_ | refine Walk.cEnd ?_ | (refine Walk.cReg ?_; simp only [size5_0, size5_1, size5_2, size5_3, size5_4, size5_5, size5_6, size5_7, size5_8, size5_9, size5_10, size5_11, size5_12, size5_13, size5_14, size5_15, size5_17, size5_18, size5_19, size5_20, size5_21, size5_22, size5_23, size5_24, size5_25, size5_26, size5_16, size5_27, size5_28, size5_29, size5_30, size5_31, size5_32, size5_33, size5_34, size5_35, List.range, List.range.loop]) | (refine Walk.oq ?_; try walk_nrm) | (refine Walk.un ?_; walk_nrm))
    exact .stop fun d => ⟨⟨_, rfl, rfl, rfl, rfl, rfl, rfl⟩, d, rfl⟩
end
end
end Go.Proofs.Ytnnakajldnaldaa
