/- Part 4. -/
import Derived.Test.YtnnakajldnaldaaZ2
import Derived.Test.YtnnakajldnaldaaZ3
set_option linter.unusedSimpArgs false
set_option linter.unusedVariables false
set_option maxHeartbeats 8000000
set_option maxRecDepth 100000
namespace Go.Proofs.Ytnnakajldnaldaa
open Go.Conc Go.RowKit Go.Relay
open Go.ConcN (upd upd_ne upd_same)
section
def Kp (w w' : World) : Prop := w.heap.size ≤ w'.heap.size ∧ ∀ b, b < w.heap.size → w'.heap[b]? = w.heap[b]?
section
variable {main : Bool} {V : Nat → Option Wait}
theorem cell_backN {F : FuncId} {fn : Func} {w x : World} {fr c : Frame} {cs : List Frame} {R : Nat} {a : Ans} (hR : x.heap[R]? = some (.cells #[.bool false, .int .i64 0, .slice none 0 0] 43))
    (hF : Try.prog.funcs[F]? = some fn) (hres : fn.results = #[.cell 6 43]) (hfr : fr.mode = .returning ∧ fr.kind = .normal ∧ fr.defers = [] ∧ fr.fn = F ∧ fr.tmps.getD 6 undef = .pointer (some ⟨R, 0, none⟩)) (hz : w.heap.size ≤ R) (hx : w.heap.size ≤ x.heap.size) (ho : ∀ b, b < w.heap.size → x.heap[b]? = w.heap[b]?) :
    Walk Try.prog main (DR V) (fun g w' => ∃ v, Kp w w' ∧ g = G (c.finish v) cs) (G fr (c :: cs)) (x.setRow R #[.bool a.1, .int .i64 a.2, .slice none 0 0]) := by
  obtain ⟨h1, h2, h3, h4, h5⟩ := hfr
  have c9 := setRow_self (cells := #[.bool a.1, .int .i64 a.2, .slice none 0 0]) hR
  refine Walk.onCell (T := R) h1 h2 h3 (by rw [h4]; exact hF) hres h5 c9 (by kernel_rfl) (by kernel_rfl) (.stop fun d => ⟨_, ⟨?_, fun b hb => ?_⟩, rfl⟩)
  · show w.heap.size ≤ (x.setRow R #[.bool a.1, .int .i64 a.2, .slice none 0 0]).heap.size
    rw [setRow_size]; exact hx
  · exact (setRow_other _ _ (by omega)).trans (ho b hb)
theorem call_n (hA : ∀ b, Apart V b) (ok oa ob oc : Int) (w : World) : CallW Try.prog main V 18 #[.pointer none, .nilIface, .agg #[.int .i64 ok, .int .i64 oa, .int .i64 ob, .int .i64 oc]] w (fun _ w' => Kp w w') := by
  intro c cs
  rw [enter_at _ Try.func18 code18_is]
  simp only [Try.ntmps18, List.size_toArray, List.length_cons, List.length_nil, Nat.reduceAdd, Nat.reduceSub, Array.replicate_succ, Array.replicate_zero, List.push_toArray, List.append_toArray, List.nil_append, List.cons_append]
  repeat (first | refine Walk.c rfl ?_ | refine Walk.cRet ?_ | refine Walk.cEnd ?_ | (refine Walk.cReg ?_; simp only [size18_0, size18_1, size18_2, size18_4, size18_5, size18_6, size18_7, size18_8, size18_9, size18_10, size18_11, size18_12, size18_13, size18_3, size18_14, List.range, List.range.loop]) | (refine Walk.oq ?_; try walk_nrm) | (refine Walk.un ?_; walk_nrm))
  (refine Walk.oa ?_; try walk_nrm)
  have s0 : (w.alloc (.cells #[.int .i64 ok, .int .i64 oa, .int .i64 ob, .int .i64 oc] 46)).heap.size = w.heap.size + 1 := by simp
  have o0 : ∀ b, b < w.heap.size → (w.alloc (.cells #[.int .i64 ok, .int .i64 oa, .int .i64 ob, .int .i64 oc] 46)).heap[b]? = w.heap[b]? := fun b hb => heap_new_lt _ _ hb
  have d0 := heap_alloc_new w (.cells #[.int .i64 ok, .int .i64 oa, .int .i64 ob, .int .i64 oc] 46)
  generalize hN : w.heap.size = N at *
  generalize w.alloc (.cells #[.int .i64 ok, .int .i64 oa, .int .i64 ob, .int .i64 oc] 46) = x0 at *
  (refine Walk.oa ?_; try walk_nrm)
  have s1 : (x0.alloc (.cells #[.bool false, .int .i64 0, .slice none 0 0] 43)).heap.size = N + 2 := by simp [s0]
  have o1 : ∀ b, b < N + 1 → (x0.alloc (.cells #[.bool false, .int .i64 0, .slice none 0 0] 43)).heap[b]? = x0.heap[b]? := fun b hb => heap_new_lt _ _ (by omega)
  have d1 : (x0.alloc (.cells #[.bool false, .int .i64 0, .slice none 0 0] 43)).heap[N + 1]? = some (.cells #[.bool false, .int .i64 0, .slice none 0 0] 43) := s0 ▸ heap_alloc_new x0 (.cells #[.bool false, .int .i64 0, .slice none 0 0] 43)
  try simp only [s0]
  generalize x0.alloc (.cells #[.bool false, .int .i64 0, .slice none 0 0] 43) = x1 at *
  repeat (first | refine Walk.c rfl ?_ | refine Walk.cRet ?_ | refine Walk.cEnd ?_ | (refine Walk.cReg ?_; simp only [size18_0, size18_1, size18_2, size18_4, size18_5, size18_6, size18_7, size18_8, size18_9, size18_10, size18_11, size18_12, size18_13, size18_3, size18_14, List.range, List.range.loop]) | (refine Walk.oq ?_; try walk_nrm) | (refine Walk.un ?_; walk_nrm))
  (refine Walk.oa ?_; try walk_nrm)
  have s2 : (x1.alloc (.cells #[.bool false, .int .i64 0, .slice none 0 0] 43)).heap.size = N + 3 := by simp [s1]
  have o2 : ∀ b, b < N + 2 → (x1.alloc (.cells #[.bool false, .int .i64 0, .slice none 0 0] 43)).heap[b]? = x1.heap[b]? := fun b hb => heap_new_lt _ _ (by omega)
  have d2 : (x1.alloc (.cells #[.bool false, .int .i64 0, .slice none 0 0] 43)).heap[N + 2]? = some (.cells #[.bool false, .int .i64 0, .slice none 0 0] 43) := s1 ▸ heap_alloc_new x1 (.cells #[.bool false, .int .i64 0, .slice none 0 0] 43)
  try simp only [s1]
  generalize x1.alloc (.cells #[.bool false, .int .i64 0, .slice none 0 0] 43) = x2 at *
  have c1 : x2.heap[N]? = some (.cells #[.int .i64 ok, .int .i64 oa, .int .i64 ob, .int .i64 oc] 46) := (o2 _ (by omega)).trans ((o1 _ (by omega)).trans d0)
  have c2 : x2.heap[N + 1]? = some (.cells #[.bool false, .int .i64 0, .slice none 0 0] 43) := (o2 _ (by omega)).trans d1
  have c3 : x2.heap[N + 2]? = some (.cells #[.bool false, .int .i64 0, .slice none 0 0] 43) := d2
  have low2 : ∀ b, b < N → x2.heap[b]? = w.heap[b]? := fun b hb => (o2 b (by omega)).trans ((o1 b (by omega)).trans (o0 b hb))
  clear d0 d1 d2 s0 s1 o0 o1 o2
  refine Walk.storeS 43 (.tmp 7) (.tmp 8) (ho_of (by conv => lhs; whnf) (by kernel_rfl)) (by rfl) (by decide) rfl (N + 2) #[.bool true, .int .i64 0, .slice none 0 0] _ 43 rfl rfl c3 (by kernel_rfl) (by rfl) (by simp [Value.oneCell']) (hA _) ?_
  have c1' : (x2.setRow (N + 2) #[.bool true, .int .i64 0, .slice none 0 0]).heap[N]? = some (.cells #[.int .i64 ok, .int .i64 oa, .int .i64 ob, .int .i64 oc] 46) := (setRow_other _ _ (by omega)).trans c1
  have c2' : (x2.setRow (N + 2) #[.bool true, .int .i64 0, .slice none 0 0]).heap[N + 1]? = some (.cells #[.bool false, .int .i64 0, .slice none 0 0] 43) := (setRow_other _ _ (by omega)).trans c2
  have c3' := setRow_self (cells := #[.bool true, .int .i64 0, .slice none 0 0]) c3
  have low3 : ∀ b, b < N → (x2.setRow (N + 2) #[.bool true, .int .i64 0, .slice none 0 0]).heap[b]? = w.heap[b]? := fun b hb => (setRow_other _ _ (by omega)).trans (low2 b hb)
  have s3 : (x2.setRow (N + 2) #[.bool true, .int .i64 0, .slice none 0 0]).heap.size = N + 3 := (setRow_size _ _ _).trans s2
  generalize x2.setRow (N + 2) #[.bool true, .int .i64 0, .slice none 0 0] = x3 at *
  clear c1 c2 c3 low2 s2
  obtain ⟨fsA, huA⟩ := structT 43 (by kernel_rfl)
  have d0 := (cell_of c1' 0).trans rfl
  have d1 := (cell_of c1' 1).trans rfl
  have d2 := (cell_of c1' 2).trans rfl
  have d3 := (cell_of c1' 3).trans rfl
  try walk_nrm
  repeat (first | refine Walk.c rfl ?_ | refine Walk.cRet ?_ | refine Walk.cEnd ?_ | (refine Walk.cReg ?_; simp only [size18_0, size18_1, size18_2, size18_4, size18_5, size18_6, size18_7, size18_8, size18_9, size18_10, size18_11, size18_12, size18_13, size18_3, size18_14, List.range, List.range.loop]) | (refine Walk.oq ?_; try walk_nrm) | (refine Walk.un ?_; walk_nrm))
  by_cases h1 : ok = 1
  · subst h1
    repeat (first | refine Walk.c rfl ?_ | refine Walk.cRet ?_ | refine Walk.cEnd ?_ | (refine Walk.cReg ?_; simp only [size18_0, size18_1, size18_2, size18_4, size18_5, size18_6, size18_7, size18_8, size18_9, size18_10, size18_11, size18_12, size18_13, size18_3, size18_14, List.range, List.range.loop]) | (refine Walk.oq ?_; try walk_nrm) | (refine Walk.un ?_; walk_nrm))
    refine Walk.callV (x := .int .i64 0) (W := x3) ?_ (ho_of (by conv => lhs; whnf) (by kernel_rfl)) (by rfl) (by decide) rfl Try.func26 (by kernel_rfl) (by rfl) ?_
    · walk_nrm
      exact add_n (main := main) (V := V) .nilIface oa ob x3
    walk_nrm
    repeat (first | (refine Walk.oq ?_; try walk_nrm) | (refine Walk.un ?_; walk_nrm))
    have g30 : x3.cell? ⟨N + 2, 1, none⟩ = some (.int .i64 0) := (cell_of c3' 1).trans rfl
    have y30 := frozen_of c3' 1
    (have hfr := (hA (N + 2)).1 ⟨N + 2, 1, none⟩ rfl; refine Walk.os hfr g30 ?_; clear hfr; try walk_nrm)
    clear g30 y30
    have b30 : (x3.setCell ⟨N + 2, 1, none⟩ (.int .i64 0)).heap[N + 2]? = some (.cells #[.bool true, .int .i64 0, .slice none 0 0] 43) := by
      rw [heap_set_self _ _ c3']
      simp
    have l30 : ∀ b, b < N → (x3.setCell ⟨N + 2, 1, none⟩ (.int .i64 0)).heap[b]? = w.heap[b]? := fun b hb => (heap_set_other _ _ _ _ (show b ≠ N + 2 by omega)).trans (low3 b hb)
    have z30 : (x3.setCell ⟨N + 2, 1, none⟩ (.int .i64 0)).heap.size = N + 3 := (size_set _ _ _).trans s3
    have e30 : (x3.setCell ⟨N + 2, 1, none⟩ (.int .i64 0)).heap[N + 1]? = some (.cells #[.bool false, .int .i64 0, .slice none 0 0] 43) := (heap_set_other _ _ _ _ (show N + 1 ≠ N + 2 by omega)).trans c2'
    generalize (x3.setCell ⟨N + 2, 1, none⟩ (.int .i64 0)) = x30 at *
    try walk_nrm
    repeat (first | refine Walk.c rfl ?_ | refine Walk.cRet ?_ | refine Walk.cEnd ?_ | (refine Walk.cReg ?_; simp only [size18_0, size18_1, size18_2, size18_4, size18_5, size18_6, size18_7, size18_8, size18_9, size18_10, size18_11, size18_12, size18_13, size18_3, size18_14, List.range, List.range.loop]) | (refine Walk.oq ?_; try walk_nrm) | (refine Walk.un ?_; walk_nrm))
    refine Walk.loadS 43 (.tmp 7) (ho_of (by conv => lhs; whnf) (by kernel_rfl)) (by rfl) (by decide) rfl (N + 2) 0 [.bool true, .int .i64 0, .slice none 0 0] (.struct fsA) rfl (fun j v hj => ?_) huA rfl (by kernel_rfl) ?_
    · rw [Nat.zero_add, cell_of b30]
      simpa using hj
    walk_nrm
    refine Walk.storeS 43 (.tmp 6) (.tmp 55) (ho_of (by conv => lhs; whnf) (by kernel_rfl)) (by rfl) (by decide) rfl (N + 1) #[.bool true, .int .i64 0, .slice none 0 0] _ 43 rfl rfl e30 (by kernel_rfl) (by rfl) (by simp [Value.oneCell']) (hA _) ?_
    walk_nrm
    repeat (first | refine Walk.c rfl ?_ | refine Walk.cRet ?_ | refine Walk.cEnd ?_ | (refine Walk.cReg ?_; simp only [size18_0, size18_1, size18_2, size18_4, size18_5, size18_6, size18_7, size18_8, size18_9, size18_10, size18_11, size18_12, size18_13, size18_3, size18_14, List.range, List.range.loop]) | (refine Walk.oq ?_; try walk_nrm) | (refine Walk.un ?_; walk_nrm))
    exact cell_backN (w := w) (a := (true, 0)) e30 Try.func18 rfl ⟨rfl, rfl, rfl, rfl, rfl⟩ (by omega) (by omega) (fun b hb => l30 b (by omega))
  have hbk1 : (ok == 1) = false := by simp [h1]
  simp only [hbk1]
  repeat (first | refine Walk.c rfl ?_ | refine Walk.cRet ?_ | refine Walk.cEnd ?_ | (refine Walk.cReg ?_; simp only [size18_0, size18_1, size18_2, size18_4, size18_5, size18_6, size18_7, size18_8, size18_9, size18_10, size18_11, size18_12, size18_13, size18_3, size18_14, List.range, List.range.loop]) | (refine Walk.oq ?_; try walk_nrm) | (refine Walk.un ?_; walk_nrm))
  by_cases h2 : ok = 2
  · subst h2
    repeat (first | refine Walk.c rfl ?_ | refine Walk.cRet ?_ | refine Walk.cEnd ?_ | (refine Walk.cReg ?_; simp only [size18_0, size18_1, size18_2, size18_4, size18_5, size18_6, size18_7, size18_8, size18_9, size18_10, size18_11, size18_12, size18_13, size18_3, size18_14, List.range, List.range.loop]) | (refine Walk.oq ?_; try walk_nrm) | (refine Walk.un ?_; walk_nrm))
    refine Walk.callW (Post := Nl x3 (.int .i64 0)) ?_ (ho_of (by conv => lhs; whnf) (by kernel_rfl)) (by rfl) (by decide) rfl Try.func27 (by kernel_rfl) (by rfl) ?_
    · walk_nrm
      exact sum_n (main := main) (V := V) x3
    rintro v x4 ⟨rfl, z4, o4⟩
    have k2 := (o4 (N + 1) (by omega)).trans c2'
    have k3 := (o4 (N + 2) (by omega)).trans c3'
    have low4 : ∀ b, b < N → x4.heap[b]? = w.heap[b]? := fun b hb => (o4 b (by omega)).trans (low3 b hb)
    walk_nrm
    repeat (first | (refine Walk.oq ?_; try walk_nrm) | (refine Walk.un ?_; walk_nrm))
    have g30 : x4.cell? ⟨N + 2, 1, none⟩ = some (.int .i64 0) := (cell_of k3 1).trans rfl
    have y30 := frozen_of k3 1
    (have hfr := (hA (N + 2)).1 ⟨N + 2, 1, none⟩ rfl; refine Walk.os hfr g30 ?_; clear hfr; try walk_nrm)
    clear g30 y30
    have b30 : (x4.setCell ⟨N + 2, 1, none⟩ (.int .i64 0)).heap[N + 2]? = some (.cells #[.bool true, .int .i64 0, .slice none 0 0] 43) := by
      rw [heap_set_self _ _ k3]
      simp
    have l30 : ∀ b, b < N → (x4.setCell ⟨N + 2, 1, none⟩ (.int .i64 0)).heap[b]? = w.heap[b]? := fun b hb => (heap_set_other _ _ _ _ (show b ≠ N + 2 by omega)).trans (low4 b hb)
    have z30 : N + 3 ≤ (x4.setCell ⟨N + 2, 1, none⟩ (.int .i64 0)).heap.size := by rw [size_set]; omega
    have e30 : (x4.setCell ⟨N + 2, 1, none⟩ (.int .i64 0)).heap[N + 1]? = some (.cells #[.bool false, .int .i64 0, .slice none 0 0] 43) := (heap_set_other _ _ _ _ (show N + 1 ≠ N + 2 by omega)).trans k2
    generalize (x4.setCell ⟨N + 2, 1, none⟩ (.int .i64 0)) = x30 at *
    try walk_nrm
    repeat (first | refine Walk.c rfl ?_ | refine Walk.cRet ?_ | refine Walk.cEnd ?_ | (refine Walk.cReg ?_; simp only [size18_0, size18_1, size18_2, size18_4, size18_5, size18_6, size18_7, size18_8, size18_9, size18_10, size18_11, size18_12, size18_13, size18_3, size18_14, List.range, List.range.loop]) | (refine Walk.oq ?_; try walk_nrm) | (refine Walk.un ?_; walk_nrm))
    refine Walk.loadS 43 (.tmp 7) (ho_of (by conv => lhs; whnf) (by kernel_rfl)) (by rfl) (by decide) rfl (N + 2) 0 [.bool true, .int .i64 0, .slice none 0 0] (.struct fsA) rfl (fun j v hj => ?_) huA rfl (by kernel_rfl) ?_
    · rw [Nat.zero_add, cell_of b30]
      simpa using hj
    walk_nrm
    refine Walk.storeS 43 (.tmp 6) (.tmp 55) (ho_of (by conv => lhs; whnf) (by kernel_rfl)) (by rfl) (by decide) rfl (N + 1) #[.bool true, .int .i64 0, .slice none 0 0] _ 43 rfl rfl e30 (by kernel_rfl) (by rfl) (by simp [Value.oneCell']) (hA _) ?_
    walk_nrm
    repeat (first | refine Walk.c rfl ?_ | refine Walk.cRet ?_ | refine Walk.cEnd ?_ | (refine Walk.cReg ?_; simp only [size18_0, size18_1, size18_2, size18_4, size18_5, size18_6, size18_7, size18_8, size18_9, size18_10, size18_11, size18_12, size18_13, size18_3, size18_14, List.range, List.range.loop]) | (refine Walk.oq ?_; try walk_nrm) | (refine Walk.un ?_; walk_nrm))
    exact cell_backN (w := w) (a := (true, 0)) e30 Try.func18 rfl ⟨rfl, rfl, rfl, rfl, rfl⟩ (by omega) (by omega) (fun b hb => l30 b (by omega))
  have hbk2 : (ok == 2) = false := by simp [h2]
  simp only [hbk2]
  repeat (first | refine Walk.c rfl ?_ | refine Walk.cRet ?_ | refine Walk.cEnd ?_ | (refine Walk.cReg ?_; simp only [size18_0, size18_1, size18_2, size18_4, size18_5, size18_6, size18_7, size18_8, size18_9, size18_10, size18_11, size18_12, size18_13, size18_3, size18_14, List.range, List.range.loop]) | (refine Walk.oq ?_; try walk_nrm) | (refine Walk.un ?_; walk_nrm))
  by_cases h3 : ok = 3
  · subst h3
    repeat (first | refine Walk.c rfl ?_ | refine Walk.cRet ?_ | refine Walk.cEnd ?_ | (refine Walk.cReg ?_; simp only [size18_0, size18_1, size18_2, size18_4, size18_5, size18_6, size18_7, size18_8, size18_9, size18_10, size18_11, size18_12, size18_13, size18_3, size18_14, List.range, List.range.loop]) | (refine Walk.oq ?_; try walk_nrm) | (refine Walk.un ?_; walk_nrm))
    refine Walk.callW (Post := Nl x3 (.int .i64 0)) ?_ (ho_of (by conv => lhs; whnf) (by kernel_rfl)) (by rfl) (by decide) rfl Try.func28 (by kernel_rfl) (by rfl) ?_
    · walk_nrm
      exact take_n (main := main) (V := V) x3
    rintro v x4 ⟨rfl, z4, o4⟩
    have k2 := (o4 (N + 1) (by omega)).trans c2'
    have k3 := (o4 (N + 2) (by omega)).trans c3'
    have low4 : ∀ b, b < N → x4.heap[b]? = w.heap[b]? := fun b hb => (o4 b (by omega)).trans (low3 b hb)
    walk_nrm
    repeat (first | (refine Walk.oq ?_; try walk_nrm) | (refine Walk.un ?_; walk_nrm))
    have g30 : x4.cell? ⟨N + 2, 1, none⟩ = some (.int .i64 0) := (cell_of k3 1).trans rfl
    have y30 := frozen_of k3 1
    (have hfr := (hA (N + 2)).1 ⟨N + 2, 1, none⟩ rfl; refine Walk.os hfr g30 ?_; clear hfr; try walk_nrm)
    clear g30 y30
    have b30 : (x4.setCell ⟨N + 2, 1, none⟩ (.int .i64 0)).heap[N + 2]? = some (.cells #[.bool true, .int .i64 0, .slice none 0 0] 43) := by
      rw [heap_set_self _ _ k3]
      simp
    have l30 : ∀ b, b < N → (x4.setCell ⟨N + 2, 1, none⟩ (.int .i64 0)).heap[b]? = w.heap[b]? := fun b hb => (heap_set_other _ _ _ _ (show b ≠ N + 2 by omega)).trans (low4 b hb)
    have z30 : N + 3 ≤ (x4.setCell ⟨N + 2, 1, none⟩ (.int .i64 0)).heap.size := by rw [size_set]; omega
    have e30 : (x4.setCell ⟨N + 2, 1, none⟩ (.int .i64 0)).heap[N + 1]? = some (.cells #[.bool false, .int .i64 0, .slice none 0 0] 43) := (heap_set_other _ _ _ _ (show N + 1 ≠ N + 2 by omega)).trans k2
    generalize (x4.setCell ⟨N + 2, 1, none⟩ (.int .i64 0)) = x30 at *
    try walk_nrm
    repeat (first | refine Walk.c rfl ?_ | refine Walk.cRet ?_ | refine Walk.cEnd ?_ | (refine Walk.cReg ?_; simp only [size18_0, size18_1, size18_2, size18_4, size18_5, size18_6, size18_7, size18_8, size18_9, size18_10, size18_11, size18_12, size18_13, size18_3, size18_14, List.range, List.range.loop]) | (refine Walk.oq ?_; try walk_nrm) | (refine Walk.un ?_; walk_nrm))
    refine Walk.loadS 43 (.tmp 7) (ho_of (by conv => lhs; whnf) (by kernel_rfl)) (by rfl) (by decide) rfl (N + 2) 0 [.bool true, .int .i64 0, .slice none 0 0] (.struct fsA) rfl (fun j v hj => ?_) huA rfl (by kernel_rfl) ?_
    · rw [Nat.zero_add, cell_of b30]
      simpa using hj
    walk_nrm
    refine Walk.storeS 43 (.tmp 6) (.tmp 55) (ho_of (by conv => lhs; whnf) (by kernel_rfl)) (by rfl) (by decide) rfl (N + 1) #[.bool true, .int .i64 0, .slice none 0 0] _ 43 rfl rfl e30 (by kernel_rfl) (by rfl) (by simp [Value.oneCell']) (hA _) ?_
    walk_nrm
    repeat (first | refine Walk.c rfl ?_ | refine Walk.cRet ?_ | refine Walk.cEnd ?_ | (refine Walk.cReg ?_; simp only [size18_0, size18_1, size18_2, size18_4, size18_5, size18_6, size18_7, size18_8, size18_9, size18_10, size18_11, size18_12, size18_13, size18_3, size18_14, List.range, List.range.loop]) | (refine Walk.oq ?_; try walk_nrm) | (refine Walk.un ?_; walk_nrm))
    exact cell_backN (w := w) (a := (true, 0)) e30 Try.func18 rfl ⟨rfl, rfl, rfl, rfl, rfl⟩ (by omega) (by omega) (fun b hb => l30 b (by omega))
  have hbk3 : (ok == 3) = false := by simp [h3]
  simp only [hbk3]
  repeat (first | refine Walk.c rfl ?_ | refine Walk.cRet ?_ | refine Walk.cEnd ?_ | (refine Walk.cReg ?_; simp only [size18_0, size18_1, size18_2, size18_4, size18_5, size18_6, size18_7, size18_8, size18_9, size18_10, size18_11, size18_12, size18_13, size18_3, size18_14, List.range, List.range.loop]) | (refine Walk.oq ?_; try walk_nrm) | (refine Walk.un ?_; walk_nrm))
  by_cases h4 : ok = 4
  · subst h4
    repeat (first | refine Walk.c rfl ?_ | refine Walk.cRet ?_ | refine Walk.cEnd ?_ | (refine Walk.cReg ?_; simp only [size18_0, size18_1, size18_2, size18_4, size18_5, size18_6, size18_7, size18_8, size18_9, size18_10, size18_11, size18_12, size18_13, size18_3, size18_14, List.range, List.range.loop]) | (refine Walk.oq ?_; try walk_nrm) | (refine Walk.un ?_; walk_nrm))
    refine Walk.callV (x := .tuple #[]) (W := x3) ?_ (ho_of (by conv => lhs; whnf) (by kernel_rfl)) (by rfl) (by decide) rfl Try.func35 (by kernel_rfl) (by rfl) ?_
    · walk_nrm
      exact move_n (main := main) (V := V) .nilIface oa ob oc x3
    walk_nrm
    repeat (first | refine Walk.c rfl ?_ | refine Walk.cRet ?_ | refine Walk.cEnd ?_ | (refine Walk.cReg ?_; simp only [size18_0, size18_1, size18_2, size18_4, size18_5, size18_6, size18_7, size18_8, size18_9, size18_10, size18_11, size18_12, size18_13, size18_3, size18_14, List.range, List.range.loop]) | (refine Walk.oq ?_; try walk_nrm) | (refine Walk.un ?_; walk_nrm))
    refine Walk.loadS 43 (.tmp 7) (ho_of (by conv => lhs; whnf) (by kernel_rfl)) (by rfl) (by decide) rfl (N + 2) 0 [.bool true, .int .i64 0, .slice none 0 0] (.struct fsA) rfl (fun j v hj => ?_) huA rfl (by kernel_rfl) ?_
    · rw [Nat.zero_add, cell_of c3']
      simpa using hj
    walk_nrm
    refine Walk.storeS 43 (.tmp 6) (.tmp 55) (ho_of (by conv => lhs; whnf) (by kernel_rfl)) (by rfl) (by decide) rfl (N + 1) #[.bool true, .int .i64 0, .slice none 0 0] _ 43 rfl rfl c2' (by kernel_rfl) (by rfl) (by simp [Value.oneCell']) (hA _) ?_
    walk_nrm
    repeat (first | refine Walk.c rfl ?_ | refine Walk.cRet ?_ | refine Walk.cEnd ?_ | (refine Walk.cReg ?_; simp only [size18_0, size18_1, size18_2, size18_4, size18_5, size18_6, size18_7, size18_8, size18_9, size18_10, size18_11, size18_12, size18_13, size18_3, size18_14, List.range, List.range.loop]) | (refine Walk.oq ?_; try walk_nrm) | (refine Walk.un ?_; walk_nrm))
    exact cell_backN (w := w) (a := (true, 0)) c2' Try.func18 rfl ⟨rfl, rfl, rfl, rfl, rfl⟩ (by omega) (by omega) (fun b hb => low3 b (by omega))
  have hbk4 : (ok == 4) = false := by simp [h4]
  simp only [hbk4]
  repeat (first | refine Walk.c rfl ?_ | refine Walk.cRet ?_ | refine Walk.cEnd ?_ | (refine Walk.cReg ?_; simp only [size18_0, size18_1, size18_2, size18_4, size18_5, size18_6, size18_7, size18_8, size18_9, size18_10, size18_11, size18_12, size18_13, size18_3, size18_14, List.range, List.range.loop]) | (refine Walk.oq ?_; try walk_nrm) | (refine Walk.un ?_; walk_nrm))
  by_cases h5 : ok = 5
  · subst h5
    repeat (first | refine Walk.c rfl ?_ | refine Walk.cRet ?_ | refine Walk.cEnd ?_ | (refine Walk.cReg ?_; simp only [size18_0, size18_1, size18_2, size18_4, size18_5, size18_6, size18_7, size18_8, size18_9, size18_10, size18_11, size18_12, size18_13, size18_3, size18_14, List.range, List.range.loop]) | (refine Walk.oq ?_; try walk_nrm) | (refine Walk.un ?_; walk_nrm))
    refine Walk.callV (x := .tuple #[.int .i64 0, .bool false]) (W := x3) ?_ (ho_of (by conv => lhs; whnf) (by kernel_rfl)) (by rfl) (by decide) rfl Try.func25 (by kernel_rfl) (by rfl) ?_
    · walk_nrm
      exact even_n (main := main) (V := V) .nilIface x3
    walk_nrm
    repeat (first | (refine Walk.oq ?_; try walk_nrm) | (refine Walk.un ?_; walk_nrm))
    have g30 : x3.cell? ⟨N + 2, 1, none⟩ = some (.int .i64 0) := (cell_of c3' 1).trans rfl
    have y30 := frozen_of c3' 1
    (have hfr := (hA (N + 2)).1 ⟨N + 2, 1, none⟩ rfl; refine Walk.os hfr g30 ?_; clear hfr; try walk_nrm)
    clear g30 y30
    have b30 : (x3.setCell ⟨N + 2, 1, none⟩ (.int .i64 0)).heap[N + 2]? = some (.cells #[.bool true, .int .i64 0, .slice none 0 0] 43) := by
      rw [heap_set_self _ _ c3']
      simp
    have l30 : ∀ b, b < N → (x3.setCell ⟨N + 2, 1, none⟩ (.int .i64 0)).heap[b]? = w.heap[b]? := fun b hb => (heap_set_other _ _ _ _ (show b ≠ N + 2 by omega)).trans (low3 b hb)
    have z30 : (x3.setCell ⟨N + 2, 1, none⟩ (.int .i64 0)).heap.size = N + 3 := (size_set _ _ _).trans s3
    have e30 : (x3.setCell ⟨N + 2, 1, none⟩ (.int .i64 0)).heap[N + 1]? = some (.cells #[.bool false, .int .i64 0, .slice none 0 0] 43) := (heap_set_other _ _ _ _ (show N + 1 ≠ N + 2 by omega)).trans c2'
    generalize (x3.setCell ⟨N + 2, 1, none⟩ (.int .i64 0)) = x30 at *
    try walk_nrm
    repeat (first | (refine Walk.oq ?_; try walk_nrm) | (refine Walk.un ?_; walk_nrm))
    have g31 : x30.cell? ⟨N + 2, 0, none⟩ = some (.bool true) := (cell_of b30 0).trans rfl
    have y31 := frozen_of b30 0
    (have hfr := (hA (N + 2)).1 ⟨N + 2, 0, none⟩ rfl; refine Walk.os hfr g31 ?_; clear hfr; try walk_nrm)
    clear g31 y31
    have b31 : (x30.setCell ⟨N + 2, 0, none⟩ (.bool false)).heap[N + 2]? = some (.cells #[.bool false, .int .i64 0, .slice none 0 0] 43) := by
      rw [heap_set_self _ _ b30]
      simp
    have l31 : ∀ b, b < N → (x30.setCell ⟨N + 2, 0, none⟩ (.bool false)).heap[b]? = w.heap[b]? := fun b hb => (heap_set_other _ _ _ _ (show b ≠ N + 2 by omega)).trans (l30 b hb)
    have z31 : (x30.setCell ⟨N + 2, 0, none⟩ (.bool false)).heap.size = N + 3 := (size_set _ _ _).trans z30
    have e31 : (x30.setCell ⟨N + 2, 0, none⟩ (.bool false)).heap[N + 1]? = some (.cells #[.bool false, .int .i64 0, .slice none 0 0] 43) := (heap_set_other _ _ _ _ (show N + 1 ≠ N + 2 by omega)).trans e30
    generalize (x30.setCell ⟨N + 2, 0, none⟩ (.bool false)) = x31 at *
    try walk_nrm
    repeat (first | refine Walk.c rfl ?_ | refine Walk.cRet ?_ | refine Walk.cEnd ?_ | (refine Walk.cReg ?_; simp only [size18_0, size18_1, size18_2, size18_4, size18_5, size18_6, size18_7, size18_8, size18_9, size18_10, size18_11, size18_12, size18_13, size18_3, size18_14, List.range, List.range.loop]) | (refine Walk.oq ?_; try walk_nrm) | (refine Walk.un ?_; walk_nrm))
    refine Walk.loadS 43 (.tmp 7) (ho_of (by conv => lhs; whnf) (by kernel_rfl)) (by rfl) (by decide) rfl (N + 2) 0 [.bool false, .int .i64 0, .slice none 0 0] (.struct fsA) rfl (fun j v hj => ?_) huA rfl (by kernel_rfl) ?_
    · rw [Nat.zero_add, cell_of b31]
      simpa using hj
    walk_nrm
    refine Walk.storeS 43 (.tmp 6) (.tmp 55) (ho_of (by conv => lhs; whnf) (by kernel_rfl)) (by rfl) (by decide) rfl (N + 1) #[.bool false, .int .i64 0, .slice none 0 0] _ 43 rfl rfl e31 (by kernel_rfl) (by rfl) (by simp [Value.oneCell']) (hA _) ?_
    walk_nrm
    repeat (first | refine Walk.c rfl ?_ | refine Walk.cRet ?_ | refine Walk.cEnd ?_ | (refine Walk.cReg ?_; simp only [size18_0, size18_1, size18_2, size18_4, size18_5, size18_6, size18_7, size18_8, size18_9, size18_10, size18_11, size18_12, size18_13, size18_3, size18_14, List.range, List.range.loop]) | (refine Walk.oq ?_; try walk_nrm) | (refine Walk.un ?_; walk_nrm))
    exact cell_backN (w := w) (a := (false, 0)) e31 Try.func18 rfl ⟨rfl, rfl, rfl, rfl, rfl⟩ (by omega) (by omega) (fun b hb => l31 b (by omega))
  have hbk5 : (ok == 5) = false := by simp [h5]
  simp only [hbk5]
  repeat (first | refine Walk.c rfl ?_ | refine Walk.cRet ?_ | refine Walk.cEnd ?_ | (refine Walk.cReg ?_; simp only [size18_0, size18_1, size18_2, size18_4, size18_5, size18_6, size18_7, size18_8, size18_9, size18_10, size18_11, size18_12, size18_13, size18_3, size18_14, List.range, List.range.loop]) | (refine Walk.oq ?_; try walk_nrm) | (refine Walk.un ?_; walk_nrm))
  refine Walk.storeS 43 (.tmp 6) (.tmp 11) (ho_of (by conv => lhs; whnf) (by kernel_rfl)) (by rfl) (by decide) rfl (N + 1) #[.bool false, .int .i64 0, .slice none 0 0] _ 43 rfl rfl c2' (by kernel_rfl) (by rfl) (by simp [Value.oneCell']) (hA _) ?_
  walk_nrm
  repeat (first | refine Walk.c rfl ?_ | refine Walk.cRet ?_ | refine Walk.cEnd ?_ | (refine Walk.cReg ?_; simp only [size18_0, size18_1, size18_2, size18_4, size18_5, size18_6, size18_7, size18_8, size18_9, size18_10, size18_11, size18_12, size18_13, size18_3, size18_14, List.range, List.range.loop]) | (refine Walk.oq ?_; try walk_nrm) | (refine Walk.un ?_; walk_nrm))
  exact cell_backN (w := w) (a := (false, 0)) c2' Try.func18 rfl ⟨rfl, rfl, rfl, rfl, rfl⟩ (by omega) (by omega) (fun b hb => low3 b (by omega))
end
end
end Go.Proofs.Ytnnakajldnaldaa
