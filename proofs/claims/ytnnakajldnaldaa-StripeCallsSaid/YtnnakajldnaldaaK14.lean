/- Part 14. -/
import Derived.Test.YtnnakajldnaldaaK13
set_option linter.unusedSimpArgs false
set_option linter.unusedVariables false
set_option maxHeartbeats 8000000
set_option maxRecDepth 100000
namespace Go.Proofs.Ytnnakajldnaldaa
open Go.Conc Go.RowKit Go.Relay
open Go.ConcN (upd upd_ne upd_same)
section
section
variable {main : Bool}
def NewR (xs : List Int) (T : Nat → R5) (w : World) (v : Value) (w' : World) : Prop := v = .pointer (some ⟨w.heap.size, 0, none⟩) ∧ ∃ cg cc, M5 w.heap.size w.heap.size cg cc 0 0 0 (stN xs.length) none (spJ xs (min xs.length 64)) T w' ∧ Chg (fun _ => False) w w'
theorem new_end1 (xa : Option Addr) (xs : List Int) (c : Nat) (k M : Nat) (T : Nat → R5) (cv : Value) (hk : k = min xs.length 64) (hk0 : 0 < k) (w0 w : World) (hM : w0.heap.size = M) (I : NwI M xs k cv w0 w) (u : Nat → Value) (fr : Frame) (cs : List Frame) :
    Walk Try.prog main (DR (fun _ => none)) (fun g w' => g = G (fr.finish (.pointer (some ⟨M, 0, none⟩))) cs ∧ ∃ cg cc, M5 M M cg cc 0 0 0 (stN xs.length) none (spJ xs k) T w' ∧ Chg (fun _ => False) w0 w') (G (hdNew5 (.slice xa xs.length c) M k u) (fr :: cs)) w := by
  obtain ⟨q1, q2, q3⟩ := stN_le xs.length
  have hmk : stN xs.length = k := by omega
  rw [hmk]
  obtain ⟨g, cap, cur, rfl, h1, h2, h3, h4, h5, h6⟩ : ∃ g cap cur, cv = .slice (some ⟨g, 0, none⟩) k cap ∧ M + 1 ≤ g ∧ w.heap[g]? = some (.cells cur 2 (0, 0)) ∧ k ≤ cap ∧ cap ≤ maxLen ∧ cur.size = cap * 1 ∧ cur.toList.take (k * 1) = intRow (xs.take k) := by
    rcases I.row.2 with ⟨_, hn⟩ | h
    · omega
    · exact h
  have IM : M5 M M g cap 0 0 0 k none (spJ xs k) T w := by
    refine ⟨I.hd, ⟨cur, h2, fun i hi => ?_⟩, fun h => absurd h (by decide), fun i hi => absurd hi (Nat.not_lt_zero i), fun i hi => absurd hi (Nat.not_lt_zero i), Nat.le_refl _, by omega, by omega, fun h => absurd h (by decide)⟩
    have e : (intRow (xs.take k))[i]? = some (.int .i64 (xs.getD i 0)) := by
      simp only [intRow, List.getElem?_map, List.getElem?_take, if_pos hi]
      rw [List.getD_eq_getElem?_getD, List.getElem?_eq_getElem (by omega)]
      rfl
    rw [← h6, List.getElem?_take, if_pos (by omega)] at e
    rw [show spJ xs k i = xs.getD i 0 from if_pos hi]
    simpa using e
  have hC : Chg (fun _ => False) w0 w := ⟨by have := I.lt; omega, fun b hb _ => I.old b (by omega)⟩
  have c1 : w.cell? ⟨M, 0, none⟩ = some (.slice (some ⟨g, 0, none⟩) k cap) := (cell_of I.hd 0).trans rfl
  have hb0 : ((k : Int) == 0) = false := by simp; omega
  have hb1 : ¬ (k : Int) = 0 := by omega
  have hb2 : ¬ k = 0 := by omega
  generalize xs.length = ln at *
  by_cases hl : ln ≤ 64
  · have hkl : k = ln := by omega
    subst hkl
    have hj3 : decide (k < k) = false := by simp
    clear hk hmk q1 q2 q3 h1 h2 h3 h4 h5 h6 hl
    conv => arg 5; unfold hdNew5
    repeat (first | refine Walk.c rfl ?_ | refine Walk.cRet ?_ | refine Walk.cEnd ?_ | (refine Walk.cReg ?_; simp only [size33_0, size33_1, size33_2, size33_3, size33_5, size33_4, size33_6, size33_7, size33_8, List.range, List.range.loop]) | (refine Walk.oq ?_; try walk_nrm) | (refine Walk.un ?_; walk_nrm))
    exact Walk.on1 rfl rfl Try.func33 rfl (.stop fun d => ⟨rfl, g, cap, IM.same fun _ _ => rfl, hC.at d⟩)
  · have hkl : k = 64 := by omega
    have hj1 : decide ((k : Int) < ln) = true := by simp; omega
    have hj3 : decide (k < ln) = true := by simp; omega
    have hj5 : decide ((k : Int) < 64) = false := by simp; omega
    have hj6 : ¬ (k : Int) < 64 := by omega
    clear hkl hk hmk q1 q2 q3 h1 h2 h3 h4 h5 h6 hl
    conv => arg 5; unfold hdNew5
    repeat (first | refine Walk.c rfl ?_ | refine Walk.cRet ?_ | refine Walk.cEnd ?_ | (refine Walk.cReg ?_; simp only [size33_0, size33_1, size33_2, size33_3, size33_5, size33_4, size33_6, size33_7, size33_8, List.range, List.range.loop]) | (refine Walk.oq ?_; try walk_nrm) | (refine Walk.un ?_; walk_nrm))
    exact Walk.on1 rfl rfl Try.func33 rfl (.stop fun d => ⟨rfl, g, cap, IM.same fun _ _ => rfl, hC.at d⟩)
theorem new_end0 (xa : Option Addr) (c M : Nat) (T : Nat → R5) (w0 w : World) (hM : w0.heap.size = M) (I : NwI M [] 0 (.slice none 0 0) w0 w) (u : Nat → Value) (fr : Frame) (cs : List Frame) :
    Walk Try.prog main (DR (fun _ => none)) (fun g w' => g = G (fr.finish (.pointer (some ⟨M, 0, none⟩))) cs ∧ ∃ cg cc, M5 M M cg cc 0 0 0 1 none (spJ [] 0) T w' ∧ Chg (fun _ => False) w0 w') (G (hdNew5 (.slice xa 0 c) M 0 u) (fr :: cs)) w := by
  have c1 : w.cell? ⟨M, 0, none⟩ = some (.slice none 0 0) := (cell_of I.hd 0).trans rfl
  have hMl := I.lt
  conv => arg 5; unfold hdNew5
  repeat (first | refine Walk.c rfl ?_ | refine Walk.cRet ?_ | refine Walk.cEnd ?_ | (refine Walk.cReg ?_; simp only [size33_0, size33_1, size33_2, size33_3, size33_5, size33_4, size33_6, size33_7, size33_8, List.range, List.range.loop]) | (refine Walk.oq ?_; try walk_nrm) | (refine Walk.un ?_; walk_nrm))
  (refine Walk.oa ?_; try walk_nrm)
  have d1 : (w.alloc (intB 0)).heap[w.heap.size]? = some (.cells #[.int .i64 0] 2) := heap_alloc_new _ _
  have o1 : ∀ b, b < w.heap.size → (w.alloc (intB 0)).heap[b]? = w.heap[b]? := fun b hb => heap_new_lt _ _ hb
  have s1 : (w.alloc (intB 0)).heap.size = w.heap.size + 1 := by simp
  have e1 : w.alloc (.cells #[.int .i64 0] 2) = w.alloc (intB 0) := rfl
  try rw [e1]
  clear e1 c1
  generalize hS : w.heap.size = S at *
  generalize w.alloc (intB 0) = w1 at *
  have hd1 := (o1 M hMl).trans I.hd
  have c1 : w1.cell? ⟨M, 0, none⟩ = some (.slice none 0 0) := (cell_of hd1 0).trans rfl
  have z1 : w1.frozen? ⟨M, 0, none⟩ = false := frozen_of hd1 0
  repeat (first | refine Walk.c rfl ?_ | refine Walk.cRet ?_ | refine Walk.cEnd ?_ | (refine Walk.cReg ?_; simp only [size33_0, size33_1, size33_2, size33_3, size33_5, size33_4, size33_6, size33_7, size33_8, List.range, List.range.loop]) | (refine Walk.oq ?_; try walk_nrm) | (refine Walk.un ?_; walk_nrm))
  (have hfr := fr0 M 0; refine Walk.os hfr c1 ?_; clear hfr; try walk_nrm)
  have IM : M5 M M S 1 0 0 0 1 none (spJ [] 0) T (w1.setCell ⟨M, 0, none⟩ (.slice (some ⟨S, 0, none⟩) 1 1)) := by
    refine ⟨?_, ⟨_, (heap_set_other _ _ _ _ (by show S ≠ M; omega)).trans d1, fun i hi => ?_⟩, fun h => absurd h (by decide), fun i hi => absurd hi (Nat.not_lt_zero i), fun i hi => absurd hi (Nat.not_lt_zero i), Nat.le_refl _, by omega, by omega, fun h => absurd h (by decide)⟩
    · rw [heap_set_self _ _ hd1]
      simp
    · have : i = 0 := by omega
      subst this
      rfl
  have hC : Chg (fun _ => False) w0 (w1.setCell ⟨M, 0, none⟩ (.slice (some ⟨S, 0, none⟩) 1 1)) := ⟨by rw [size_set]; omega, fun b hb _ => (heap_set_other _ _ _ _ (by show b ≠ M; omega)).trans ((o1 b (by omega)).trans (I.old b (by omega)))⟩
  generalize w1.setCell ⟨M, 0, none⟩ (.slice (some ⟨S, 0, none⟩) 1 1) = w2 at *
  try walk_nrm
  repeat (first | refine Walk.c rfl ?_ | refine Walk.cRet ?_ | refine Walk.cEnd ?_ | (refine Walk.cReg ?_; simp only [size33_0, size33_1, size33_2, size33_3, size33_5, size33_4, size33_6, size33_7, size33_8, List.range, List.range.loop]) | (refine Walk.oq ?_; try walk_nrm) | (refine Walk.un ?_; walk_nrm))
  exact Walk.on1 rfl rfl Try.func33 rfl (.stop fun d => ⟨rfl, S, 1, IM.same fun _ _ => rfl, hC.at d⟩)
end
end
end Go.Proofs.Ytnnakajldnaldaa
