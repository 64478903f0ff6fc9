/- Part 6. -/
import Derived.Test.YtdcjgmlgmjjogaaM4
set_option linter.unusedSimpArgs false
set_option linter.unusedVariables false
set_option maxHeartbeats 8000000
set_option maxRecDepth 100000
namespace Go.Proofs.Ytdcjgmlgmjjogaa
open Go.Conc Go.RowKit Go.Relay
open Go.ConcN (upd upd_ne upd_same)
section
section
variable {main : Bool}
theorem one_t2 (tv : Value) (T1 m c : Nat) (S V C : Int) (W : Nat) (bv : Value) (nA kk : Nat) (rv : Value) (nR i A B : Nat) (ox ob oc : Int) (u : Nat → Value) (cs : List Frame) (w : World) (hnR : nR ≤ 65536) (hi : i < nR) (hc : ox = c) (hS : S = 2) (hW : W = 0)
    (hA : w.heap[A]? = some (.cells #[.bool true, .int .i64 V, .slice none 0 0] 51)) (hB : w.heap[B]? = some (.cells #[.int .i64 2, .int .i64 ox, .int .i64 ob, .int .i64 oc] 34)) :
    Walk Try.prog main (DR (fun _ => none)) (fun g w' => (∃ u, g = G (hdOi tv T1 m c S V C 1 bv nA kk rv nR (i + 1) u) cs) ∧ ∃ d, w' = w.at d) (G (hdOr tv T1 m c S V C W bv nA kk rv nR i A B u) cs) w := by
  have a0 : w.cell? ⟨A, 0, none⟩ = some (.bool true) := (cell_of hA 0).trans rfl
  have a1 : w.cell? ⟨A, 1, none⟩ = some (.int .i64 V) := (cell_of hA 1).trans rfl
  have b0 : w.cell? ⟨B, 0, none⟩ = some (.int .i64 2) := (cell_of hB 0).trans rfl
  have b1 : w.cell? ⟨B, 1, none⟩ = some (.int .i64 ox) := (cell_of hB 1).trans rfl
  clear hA hB
  have hw1 : IntKind.wrap .i64 ((i : Int) + 1) = (i : Int) + 1 := by rw [IntKind.wrap_i64]; omega
  have hcc : ((i + 1 : Nat) : Int) = (i : Int) + 1 := by simp
  subst hc
  have hx : ((c : Int) != (c : Int)) = false := by simp
  subst hS
  have hV : (V != V) = false := by simp
  subst hW
  conv => arg 5; unfold hdOr
  repeat (first | refine Walk.c rfl ?_ | refine Walk.cRet ?_ | refine Walk.cEnd ?_ | (refine Walk.cReg ?_; simp only [size18_0, size18_1, size18_2, size18_3, size18_4, size18_5, size18_6, size18_7, size18_8, size18_9, size18_10, size18_11, size18_12, size18_13, size18_14, size18_15, size18_16, size18_17, size18_18, size18_19, size18_20, size18_21, size18_22, size18_23, size18_24, size18_25, size18_26, size18_27, size18_28, size18_29, size18_30, size18_31, size18_32, List.range, List.range.loop]) | (refine Walk.oq ?_; try walk_nrm) | (refine Walk.un ?_; walk_nrm))
  refine Walk.ctl rfl (fun w => stepG_inLoop) ?_
  refine .stop fun d => ⟨at_slots ?_, d, rfl⟩
  simp only [hdOi, hcc]
  rfl
theorem one_t3 (tv : Value) (T1 m c : Nat) (S V C : Int) (W : Nat) (bv : Value) (nA kk : Nat) (rv : Value) (nR i A B : Nat) (ox ob oc : Int) (u : Nat → Value) (cs : List Frame) (w : World) (hnR : nR ≤ 65536) (hi : i < nR) (hc : ox = c) (hS : S = 2)
    (hA : w.heap[A]? = some (.cells #[.bool true, .int .i64 V, .slice none 0 0] 51)) (hB : w.heap[B]? = some (.cells #[.int .i64 3, .int .i64 ox, .int .i64 ob, .int .i64 oc] 34)) :
    Walk Try.prog main (DR (fun _ => none)) (fun g w' => (∃ u, g = G (hdOi tv T1 m c S V C W bv nA kk rv nR (i + 1) u) cs) ∧ ∃ d, w' = w.at d) (G (hdOr tv T1 m c S V C W bv nA kk rv nR i A B u) cs) w := by
  have a0 : w.cell? ⟨A, 0, none⟩ = some (.bool true) := (cell_of hA 0).trans rfl
  have a1 : w.cell? ⟨A, 1, none⟩ = some (.int .i64 V) := (cell_of hA 1).trans rfl
  have b0 : w.cell? ⟨B, 0, none⟩ = some (.int .i64 3) := (cell_of hB 0).trans rfl
  have b1 : w.cell? ⟨B, 1, none⟩ = some (.int .i64 ox) := (cell_of hB 1).trans rfl
  clear hA hB
  have hw1 : IntKind.wrap .i64 ((i : Int) + 1) = (i : Int) + 1 := by rw [IntKind.wrap_i64]; omega
  have hcc : ((i + 1 : Nat) : Int) = (i : Int) + 1 := by simp
  subst hc
  have hx : ((c : Int) != (c : Int)) = false := by simp
  subst hS
  have hV : (V != V) = false := by simp
  conv => arg 5; unfold hdOr
  repeat (first | refine Walk.c rfl ?_ | refine Walk.cRet ?_ | refine Walk.cEnd ?_ | (refine Walk.cReg ?_; simp only [size18_0, size18_1, size18_2, size18_3, size18_4, size18_5, size18_6, size18_7, size18_8, size18_9, size18_10, size18_11, size18_12, size18_13, size18_14, size18_15, size18_16, size18_17, size18_18, size18_19, size18_20, size18_21, size18_22, size18_23, size18_24, size18_25, size18_26, size18_27, size18_28, size18_29, size18_30, size18_31, size18_32, List.range, List.range.loop]) | (refine Walk.oq ?_; try walk_nrm) | (refine Walk.un ?_; walk_nrm))
  refine Walk.ctl rfl (fun w => stepG_inLoop) ?_
  refine .stop fun d => ⟨at_slots ?_, d, rfl⟩
  simp only [hdOi, hcc]
  rfl
theorem one_t4 (tv : Value) (T1 m c : Nat) (S V C : Int) (W : Nat) (bv : Value) (nA kk : Nat) (rv : Value) (nR i A B : Nat) (ox ob oc : Int) (u : Nat → Value) (cs : List Frame) (w : World) (hnR : nR ≤ 65536) (hi : i < nR) (hc : ox = c) (hS : S = 2)
    (hA : w.heap[A]? = some (.cells #[.bool true, .int .i64 V, .slice none 0 0] 51)) (hB : w.heap[B]? = some (.cells #[.int .i64 4, .int .i64 ox, .int .i64 ob, .int .i64 oc] 34)) :
    Walk Try.prog main (DR (fun _ => none)) (fun g w' => (∃ u, g = G (hdOi tv T1 m c S V C W bv nA kk rv nR (i + 1) u) cs) ∧ ∃ d, w' = w.at d) (G (hdOr tv T1 m c S V C W bv nA kk rv nR i A B u) cs) w := by
  have a0 : w.cell? ⟨A, 0, none⟩ = some (.bool true) := (cell_of hA 0).trans rfl
  have a1 : w.cell? ⟨A, 1, none⟩ = some (.int .i64 V) := (cell_of hA 1).trans rfl
  have b0 : w.cell? ⟨B, 0, none⟩ = some (.int .i64 4) := (cell_of hB 0).trans rfl
  have b1 : w.cell? ⟨B, 1, none⟩ = some (.int .i64 ox) := (cell_of hB 1).trans rfl
  clear hA hB
  have hw1 : IntKind.wrap .i64 ((i : Int) + 1) = (i : Int) + 1 := by rw [IntKind.wrap_i64]; omega
  have hcc : ((i + 1 : Nat) : Int) = (i : Int) + 1 := by simp
  subst hc
  have hx : ((c : Int) != (c : Int)) = false := by simp
  subst hS
  have hV : (V != V) = false := by simp
  conv => arg 5; unfold hdOr
  repeat (first | refine Walk.c rfl ?_ | refine Walk.cRet ?_ | refine Walk.cEnd ?_ | (refine Walk.cReg ?_; simp only [size18_0, size18_1, size18_2, size18_3, size18_4, size18_5, size18_6, size18_7, size18_8, size18_9, size18_10, size18_11, size18_12, size18_13, size18_14, size18_15, size18_16, size18_17, size18_18, size18_19, size18_20, size18_21, size18_22, size18_23, size18_24, size18_25, size18_26, size18_27, size18_28, size18_29, size18_30, size18_31, size18_32, List.range, List.range.loop]) | (refine Walk.oq ?_; try walk_nrm) | (refine Walk.un ?_; walk_nrm))
  refine Walk.ctl rfl (fun w => stepG_inLoop) ?_
  refine .stop fun d => ⟨at_slots ?_, d, rfl⟩
  simp only [hdOi, hcc]
  rfl
end
end
end Go.Proofs.Ytdcjgmlgmjjogaa
