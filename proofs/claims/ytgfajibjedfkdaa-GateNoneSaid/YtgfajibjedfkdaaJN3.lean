/- Part 3. -/
import Derived.Test.YtgfajibjedfkdaaJN2
set_option linter.unusedSimpArgs false
set_option linter.unusedVariables false
set_option maxHeartbeats 8000000
set_option maxRecDepth 100000
namespace Go.Proofs.Ytgfajibjedfkdaa
open Go.Conc Go.RowKit Go.Relay
open Go.ConcN (upd upd_ne upd_same)
section
def NilOf (a : Ans) (w : World) (v : Value) (w' : World) : Prop := ∃ sl, v = ansV a sl ∧ (∃ b c, sl = .slice b a.l.length c) ∧ w'.ownsRow w.heap.size 2 1 sl a.l.length (a.l.map fun z => .int .i64 z) ∧ (∀ b, b < w.heap.size → w'.heap[b]? = w.heap[b]?) ∧ w.heap.size ≤ w'.heap.size
section
variable {main : Bool} {V : Nat → Option Wait}
theorem nil_c1 (hA : ∀ b, Apart V b) (oa ob oc : Int) (w : World) : CallW Try.prog main V 30 #[.pointer none, .nilIface, .agg #[.int .i64 1, .int .i64 oa, .int .i64 ob, .int .i64 oc]] w (NilOf ⟨false, nilE oa, []⟩ w) := by
  have hg := fun w => join_nil (main := main) (V := V) .nilIface oa ob w
  have hz := nilE_ne oa
  generalize nilE oa = er at *
  have hans := fun w => told_w (main := main) (V := V) 0 er w fun b _ => hA b
  unfold GansOf at hans
  simp only [if_neg hz, show (er == 0) = false by simp [hz]] at hans
  clear hz
  refine callW_in Try.func30 code30_is fun fr cs => ?_
  simp only [Try.ntmps30, List.size_toArray, List.length_cons, List.length_nil, Nat.reduceAdd, Nat.reduceSub, Array.replicate_succ, Array.replicate_zero, List.push_toArray, List.append_toArray, List.nil_append, List.cons_append]
  repeat (first | refine Walk.c rfl ?_ | refine Walk.cRet ?_ | refine Walk.cEnd ?_ | (refine Walk.cReg ?_; simp only [size30_0, size30_1, size30_2, size30_3, size30_4, size30_5, size30_6, size30_7, size30_8, size30_9, size30_10, size30_11, size30_12, size30_13, size30_14, size30_15, size30_16, size30_17, size30_18, List.range, List.range.loop]) | (refine Walk.oq ?_; try walk_nrm) | (refine Walk.un ?_; walk_nrm))
  (refine Walk.oa ?_; try walk_nrm)
  (refine Walk.oa ?_; try walk_nrm)
  have s1 : (w.alloc (.cells #[.int .i64 1, .int .i64 oa, .int .i64 ob, .int .i64 oc] 84)).heap.size = w.heap.size + 1 := by simp
  have c1 : ((w.alloc (.cells #[.int .i64 1, .int .i64 oa, .int .i64 ob, .int .i64 oc] 84)).alloc (.cells #[.bool false, .int .i64 0, .slice none 0 0] 81)).heap[w.heap.size]? = some (.cells #[.int .i64 1, .int .i64 oa, .int .i64 ob, .int .i64 oc] 84) := by
    rw [heap_new_lt _ _ (by omega)]
    exact heap_alloc_new _ _
  have c2 : ((w.alloc (.cells #[.int .i64 1, .int .i64 oa, .int .i64 ob, .int .i64 oc] 84)).alloc (.cells #[.bool false, .int .i64 0, .slice none 0 0] 81)).heap[w.heap.size + 1]? = some (.cells #[.bool false, .int .i64 0, .slice none 0 0] 81) := by
    have := heap_alloc_new (w.alloc (.cells #[.int .i64 1, .int .i64 oa, .int .i64 ob, .int .i64 oc] 84)) (.cells #[.bool false, .int .i64 0, .slice none 0 0] 81)
    rwa [s1] at this
  have s2 : ((w.alloc (.cells #[.int .i64 1, .int .i64 oa, .int .i64 ob, .int .i64 oc] 84)).alloc (.cells #[.bool false, .int .i64 0, .slice none 0 0] 81)).heap.size = w.heap.size + 2 := by simp
  have o2 : ∀ b, b < w.heap.size → ((w.alloc (.cells #[.int .i64 1, .int .i64 oa, .int .i64 ob, .int .i64 oc] 84)).alloc (.cells #[.bool false, .int .i64 0, .slice none 0 0] 81)).heap[b]? = w.heap[b]? := fun b hb => by
    rw [heap_new_lt _ _ (by omega)]
    exact heap_new_lt _ _ hb
  try simp only [s1]
  clear s1
  generalize (w.alloc (.cells #[.int .i64 1, .int .i64 oa, .int .i64 ob, .int .i64 oc] 84)).alloc (.cells #[.bool false, .int .i64 0, .slice none 0 0] 81) = w2 at *
  obtain ⟨N, hN⟩ : ∃ N, w.heap.size = N := ⟨_, rfl⟩
  rw [hN] at c1 c2 s2 o2
  try simp only [hN]
  have d0 := (cell_of c1 0).trans rfl
  have d1 := (cell_of c1 1).trans rfl
  have d2 := (cell_of c1 2).trans rfl
  clear c1
  have hap := hA (N + 1)
  repeat (first | refine Walk.c rfl ?_ | refine Walk.cRet ?_ | refine Walk.cEnd ?_ | (refine Walk.cReg ?_; simp only [size30_0, size30_1, size30_2, size30_3, size30_4, size30_5, size30_6, size30_7, size30_8, size30_9, size30_10, size30_11, size30_12, size30_13, size30_14, size30_15, size30_16, size30_17, size30_18, List.range, List.range.loop]) | (refine Walk.oq ?_; try walk_nrm) | (refine Walk.un ?_; walk_nrm))
  refine Walk.callV (x := .int .i64 er) (W := w2) ?_ (ho_of (by conv => lhs; whnf) (by kernel_rfl)) (by rfl) (by decide) rfl Try.func60 (by kernel_rfl) (by rfl) ?_
  · walk_nrm
    exact hg w2
  walk_nrm
  repeat (first | refine Walk.c rfl ?_ | refine Walk.cRet ?_ | refine Walk.cEnd ?_ | (refine Walk.cReg ?_; simp only [size30_0, size30_1, size30_2, size30_3, size30_4, size30_5, size30_6, size30_7, size30_8, size30_9, size30_10, size30_11, size30_12, size30_13, size30_14, size30_15, size30_16, size30_17, size30_18, List.range, List.range.loop]) | (refine Walk.oq ?_; try walk_nrm) | (refine Walk.un ?_; walk_nrm))
  refine Walk.callW (Post := fun v w' => v = .agg #[.bool false, .int .i64 er, .slice none 0 0] ∧ (∀ b, b < w2.heap.size → w'.heap[b]? = w2.heap[b]?) ∧ w2.heap.size ≤ w'.heap.size) ?_ (ho_of (by conv => lhs; whnf) (by kernel_rfl)) (by rfl) (by decide) rfl Try.func70 (by kernel_rfl) (by rfl) ?_
  · walk_nrm
    exact hans w2
  rintro v w3 ⟨rfl, o3, z3⟩
  clear hans hg
  have c3 := (o3 (N + 1) (by omega)).trans c2
  walk_nrm
  repeat (first | refine Walk.c rfl ?_ | refine Walk.cRet ?_ | refine Walk.cEnd ?_ | (refine Walk.cReg ?_; simp only [size30_0, size30_1, size30_2, size30_3, size30_4, size30_5, size30_6, size30_7, size30_8, size30_9, size30_10, size30_11, size30_12, size30_13, size30_14, size30_15, size30_16, size30_17, size30_18, List.range, List.range.loop]) | (refine Walk.oq ?_; try walk_nrm) | (refine Walk.un ?_; walk_nrm))
  refine Walk.storeS 81 (.tmp 6) (.tmp 22) (ho_of (by conv => lhs; whnf) (by kernel_rfl)) (by rfl) (by decide) rfl (N + 1) #[.bool false, .int .i64 er, .slice none 0 0] _ 81 rfl rfl c3 (by kernel_rfl) (by rfl) (by simp [Value.oneCell']) hap ?_
  have d9 := setRow_self (cells := #[.bool false, .int .i64 er, .slice none 0 0]) c3
  have o9 : ∀ b, b ≠ N + 1 → (w3.setRow (N + 1) #[.bool false, .int .i64 er, .slice none 0 0]).heap[b]? = w3.heap[b]? := fun b hb => setRow_other _ _ hb
  have s9 := setRow_size w3 (N + 1) #[.bool false, .int .i64 er, .slice none 0 0]
  generalize w3.setRow (N + 1) #[.bool false, .int .i64 er, .slice none 0 0] = w9 at *
  walk_nrm
  repeat (first | refine Walk.c rfl ?_ | refine Walk.cRet ?_ | refine Walk.cEnd ?_ | (refine Walk.cReg ?_; simp only [size30_0, size30_1, size30_2, size30_3, size30_4, size30_5, size30_6, size30_7, size30_8, size30_9, size30_10, size30_11, size30_12, size30_13, size30_14, size30_15, size30_16, size30_17, size30_18, List.range, List.range.loop]) | (refine Walk.oq ?_; try walk_nrm) | (refine Walk.un ?_; walk_nrm))
  refine Walk.onCell (T := N + 1) rfl rfl rfl Try.func30 rfl (by rfl) d9 (by kernel_rfl) (by kernel_rfl) (.stop fun d => ⟨_, ⟨_, rfl, ⟨none, 0, rfl⟩, ⟨by simp, .inl ⟨rfl, by simp⟩⟩, fun b hb => (o9 b (by omega)).trans ((o3 b (by omega)).trans (o2 b (by omega))), by show w.heap.size ≤ w9.heap.size; omega⟩, rfl⟩)
theorem nil_c2 (hA : ∀ b, Apart V b) (oa ob oc : Int) (w : World) : CallW Try.prog main V 30 #[.pointer none, .nilIface, .agg #[.int .i64 2, .int .i64 oa, .int .i64 ob, .int .i64 oc]] w (NilOf ⟨false, nilE oa, []⟩ w) := by
  have hg := fun w => leave_nil (main := main) (V := V) .nilIface oa w
  have hz := nilE_ne oa
  generalize nilE oa = er at *
  have hans := fun w => told_w (main := main) (V := V) 0 er w fun b _ => hA b
  unfold GansOf at hans
  simp only [if_neg hz, show (er == 0) = false by simp [hz]] at hans
  clear hz
  refine callW_in Try.func30 code30_is fun fr cs => ?_
  simp only [Try.ntmps30, List.size_toArray, List.length_cons, List.length_nil, Nat.reduceAdd, Nat.reduceSub, Array.replicate_succ, Array.replicate_zero, List.push_toArray, List.append_toArray, List.nil_append, List.cons_append]
  repeat (first | refine Walk.c rfl ?_ | refine Walk.cRet ?_ | refine Walk.cEnd ?_ | (refine Walk.cReg ?_; simp only [size30_0, size30_1, size30_2, size30_3, size30_4, size30_5, size30_6, size30_7, size30_8, size30_9, size30_10, size30_11, size30_12, size30_13, size30_14, size30_15, size30_16, size30_17, size30_18, List.range, List.range.loop]) | (refine Walk.oq ?_; try walk_nrm) | (refine Walk.un ?_; walk_nrm))
  (refine Walk.oa ?_; try walk_nrm)
  (refine Walk.oa ?_; try walk_nrm)
  have s1 : (w.alloc (.cells #[.int .i64 2, .int .i64 oa, .int .i64 ob, .int .i64 oc] 84)).heap.size = w.heap.size + 1 := by simp
  have c1 : ((w.alloc (.cells #[.int .i64 2, .int .i64 oa, .int .i64 ob, .int .i64 oc] 84)).alloc (.cells #[.bool false, .int .i64 0, .slice none 0 0] 81)).heap[w.heap.size]? = some (.cells #[.int .i64 2, .int .i64 oa, .int .i64 ob, .int .i64 oc] 84) := by
    rw [heap_new_lt _ _ (by omega)]
    exact heap_alloc_new _ _
  have c2 : ((w.alloc (.cells #[.int .i64 2, .int .i64 oa, .int .i64 ob, .int .i64 oc] 84)).alloc (.cells #[.bool false, .int .i64 0, .slice none 0 0] 81)).heap[w.heap.size + 1]? = some (.cells #[.bool false, .int .i64 0, .slice none 0 0] 81) := by
    have := heap_alloc_new (w.alloc (.cells #[.int .i64 2, .int .i64 oa, .int .i64 ob, .int .i64 oc] 84)) (.cells #[.bool false, .int .i64 0, .slice none 0 0] 81)
    rwa [s1] at this
  have s2 : ((w.alloc (.cells #[.int .i64 2, .int .i64 oa, .int .i64 ob, .int .i64 oc] 84)).alloc (.cells #[.bool false, .int .i64 0, .slice none 0 0] 81)).heap.size = w.heap.size + 2 := by simp
  have o2 : ∀ b, b < w.heap.size → ((w.alloc (.cells #[.int .i64 2, .int .i64 oa, .int .i64 ob, .int .i64 oc] 84)).alloc (.cells #[.bool false, .int .i64 0, .slice none 0 0] 81)).heap[b]? = w.heap[b]? := fun b hb => by
    rw [heap_new_lt _ _ (by omega)]
    exact heap_new_lt _ _ hb
  try simp only [s1]
  clear s1
  generalize (w.alloc (.cells #[.int .i64 2, .int .i64 oa, .int .i64 ob, .int .i64 oc] 84)).alloc (.cells #[.bool false, .int .i64 0, .slice none 0 0] 81) = w2 at *
  obtain ⟨N, hN⟩ : ∃ N, w.heap.size = N := ⟨_, rfl⟩
  rw [hN] at c1 c2 s2 o2
  try simp only [hN]
  have d0 := (cell_of c1 0).trans rfl
  have d1 := (cell_of c1 1).trans rfl
  have d2 := (cell_of c1 2).trans rfl
  clear c1
  have hap := hA (N + 1)
  repeat (first | refine Walk.c rfl ?_ | refine Walk.cRet ?_ | refine Walk.cEnd ?_ | (refine Walk.cReg ?_; simp only [size30_0, size30_1, size30_2, size30_3, size30_4, size30_5, size30_6, size30_7, size30_8, size30_9, size30_10, size30_11, size30_12, size30_13, size30_14, size30_15, size30_16, size30_17, size30_18, List.range, List.range.loop]) | (refine Walk.oq ?_; try walk_nrm) | (refine Walk.un ?_; walk_nrm))
  refine Walk.callV (x := .int .i64 er) (W := w2) ?_ (ho_of (by conv => lhs; whnf) (by kernel_rfl)) (by rfl) (by decide) rfl Try.func63 (by kernel_rfl) (by rfl) ?_
  · walk_nrm
    exact hg w2
  walk_nrm
  repeat (first | refine Walk.c rfl ?_ | refine Walk.cRet ?_ | refine Walk.cEnd ?_ | (refine Walk.cReg ?_; simp only [size30_0, size30_1, size30_2, size30_3, size30_4, size30_5, size30_6, size30_7, size30_8, size30_9, size30_10, size30_11, size30_12, size30_13, size30_14, size30_15, size30_16, size30_17, size30_18, List.range, List.range.loop]) | (refine Walk.oq ?_; try walk_nrm) | (refine Walk.un ?_; walk_nrm))
  refine Walk.callW (Post := fun v w' => v = .agg #[.bool false, .int .i64 er, .slice none 0 0] ∧ (∀ b, b < w2.heap.size → w'.heap[b]? = w2.heap[b]?) ∧ w2.heap.size ≤ w'.heap.size) ?_ (ho_of (by conv => lhs; whnf) (by kernel_rfl)) (by rfl) (by decide) rfl Try.func70 (by kernel_rfl) (by rfl) ?_
  · walk_nrm
    exact hans w2
  rintro v w3 ⟨rfl, o3, z3⟩
  clear hans hg
  have c3 := (o3 (N + 1) (by omega)).trans c2
  walk_nrm
  repeat (first | refine Walk.c rfl ?_ | refine Walk.cRet ?_ | refine Walk.cEnd ?_ | (refine Walk.cReg ?_; simp only [size30_0, size30_1, size30_2, size30_3, size30_4, size30_5, size30_6, size30_7, size30_8, size30_9, size30_10, size30_11, size30_12, size30_13, size30_14, size30_15, size30_16, size30_17, size30_18, List.range, List.range.loop]) | (refine Walk.oq ?_; try walk_nrm) | (refine Walk.un ?_; walk_nrm))
  refine Walk.storeS 81 (.tmp 6) (.tmp 30) (ho_of (by conv => lhs; whnf) (by kernel_rfl)) (by rfl) (by decide) rfl (N + 1) #[.bool false, .int .i64 er, .slice none 0 0] _ 81 rfl rfl c3 (by kernel_rfl) (by rfl) (by simp [Value.oneCell']) hap ?_
  have d9 := setRow_self (cells := #[.bool false, .int .i64 er, .slice none 0 0]) c3
  have o9 : ∀ b, b ≠ N + 1 → (w3.setRow (N + 1) #[.bool false, .int .i64 er, .slice none 0 0]).heap[b]? = w3.heap[b]? := fun b hb => setRow_other _ _ hb
  have s9 := setRow_size w3 (N + 1) #[.bool false, .int .i64 er, .slice none 0 0]
  generalize w3.setRow (N + 1) #[.bool false, .int .i64 er, .slice none 0 0] = w9 at *
  walk_nrm
  repeat (first | refine Walk.c rfl ?_ | refine Walk.cRet ?_ | refine Walk.cEnd ?_ | (refine Walk.cReg ?_; simp only [size30_0, size30_1, size30_2, size30_3, size30_4, size30_5, size30_6, size30_7, size30_8, size30_9, size30_10, size30_11, size30_12, size30_13, size30_14, size30_15, size30_16, size30_17, size30_18, List.range, List.range.loop]) | (refine Walk.oq ?_; try walk_nrm) | (refine Walk.un ?_; walk_nrm))
  refine Walk.onCell (T := N + 1) rfl rfl rfl Try.func30 rfl (by rfl) d9 (by kernel_rfl) (by kernel_rfl) (.stop fun d => ⟨_, ⟨_, rfl, ⟨none, 0, rfl⟩, ⟨by simp, .inl ⟨rfl, by simp⟩⟩, fun b hb => (o9 b (by omega)).trans ((o3 b (by omega)).trans (o2 b (by omega))), by show w.heap.size ≤ w9.heap.size; omega⟩, rfl⟩)
theorem nil_c3 (hA : ∀ b, Apart V b) (oa ob oc : Int) (w : World) : CallW Try.prog main V 30 #[.pointer none, .nilIface, .agg #[.int .i64 3, .int .i64 oa, .int .i64 ob, .int .i64 oc]] w (NilOf ⟨false, nilE oa, []⟩ w) := by
  have hg := fun w => set_nil (main := main) (V := V) .nilIface oa ob w
  have hz := nilE_ne oa
  generalize nilE oa = er at *
  have hans := fun w => told_w (main := main) (V := V) 0 er w fun b _ => hA b
  unfold GansOf at hans
  simp only [if_neg hz, show (er == 0) = false by simp [hz]] at hans
  clear hz
  refine callW_in Try.func30 code30_is fun fr cs => ?_
  simp only [Try.ntmps30, List.size_toArray, List.length_cons, List.length_nil, Nat.reduceAdd, Nat.reduceSub, Array.replicate_succ, Array.replicate_zero, List.push_toArray, List.append_toArray, List.nil_append, List.cons_append]
  repeat (first | refine Walk.c rfl ?_ | refine Walk.cRet ?_ | refine Walk.cEnd ?_ | (refine Walk.cReg ?_; simp only [size30_0, size30_1, size30_2, size30_3, size30_4, size30_5, size30_6, size30_7, size30_8, size30_9, size30_10, size30_11, size30_12, size30_13, size30_14, size30_15, size30_16, size30_17, size30_18, List.range, List.range.loop]) | (refine Walk.oq ?_; try walk_nrm) | (refine Walk.un ?_; walk_nrm))
  (refine Walk.oa ?_; try walk_nrm)
  (refine Walk.oa ?_; try walk_nrm)
  have s1 : (w.alloc (.cells #[.int .i64 3, .int .i64 oa, .int .i64 ob, .int .i64 oc] 84)).heap.size = w.heap.size + 1 := by simp
  have c1 : ((w.alloc (.cells #[.int .i64 3, .int .i64 oa, .int .i64 ob, .int .i64 oc] 84)).alloc (.cells #[.bool false, .int .i64 0, .slice none 0 0] 81)).heap[w.heap.size]? = some (.cells #[.int .i64 3, .int .i64 oa, .int .i64 ob, .int .i64 oc] 84) := by
    rw [heap_new_lt _ _ (by omega)]
    exact heap_alloc_new _ _
  have c2 : ((w.alloc (.cells #[.int .i64 3, .int .i64 oa, .int .i64 ob, .int .i64 oc] 84)).alloc (.cells #[.bool false, .int .i64 0, .slice none 0 0] 81)).heap[w.heap.size + 1]? = some (.cells #[.bool false, .int .i64 0, .slice none 0 0] 81) := by
    have := heap_alloc_new (w.alloc (.cells #[.int .i64 3, .int .i64 oa, .int .i64 ob, .int .i64 oc] 84)) (.cells #[.bool false, .int .i64 0, .slice none 0 0] 81)
    rwa [s1] at this
  have s2 : ((w.alloc (.cells #[.int .i64 3, .int .i64 oa, .int .i64 ob, .int .i64 oc] 84)).alloc (.cells #[.bool false, .int .i64 0, .slice none 0 0] 81)).heap.size = w.heap.size + 2 := by simp
  have o2 : ∀ b, b < w.heap.size → ((w.alloc (.cells #[.int .i64 3, .int .i64 oa, .int .i64 ob, .int .i64 oc] 84)).alloc (.cells #[.bool false, .int .i64 0, .slice none 0 0] 81)).heap[b]? = w.heap[b]? := fun b hb => by
    rw [heap_new_lt _ _ (by omega)]
    exact heap_new_lt _ _ hb
  try simp only [s1]
  clear s1
  generalize (w.alloc (.cells #[.int .i64 3, .int .i64 oa, .int .i64 ob, .int .i64 oc] 84)).alloc (.cells #[.bool false, .int .i64 0, .slice none 0 0] 81) = w2 at *
  obtain ⟨N, hN⟩ : ∃ N, w.heap.size = N := ⟨_, rfl⟩
  rw [hN] at c1 c2 s2 o2
  try simp only [hN]
  have d0 := (cell_of c1 0).trans rfl
  have d1 := (cell_of c1 1).trans rfl
  have d2 := (cell_of c1 2).trans rfl
  clear c1
  have hap := hA (N + 1)
  repeat (first | refine Walk.c rfl ?_ | refine Walk.cRet ?_ | refine Walk.cEnd ?_ | (refine Walk.cReg ?_; simp only [size30_0, size30_1, size30_2, size30_3, size30_4, size30_5, size30_6, size30_7, size30_8, size30_9, size30_10, size30_11, size30_12, size30_13, size30_14, size30_15, size30_16, size30_17, size30_18, List.range, List.range.loop]) | (refine Walk.oq ?_; try walk_nrm) | (refine Walk.un ?_; walk_nrm))
  refine Walk.callV (x := .int .i64 er) (W := w2) ?_ (ho_of (by conv => lhs; whnf) (by kernel_rfl)) (by rfl) (by decide) rfl Try.func36 (by kernel_rfl) (by rfl) ?_
  · walk_nrm
    exact hg w2
  walk_nrm
  repeat (first | refine Walk.c rfl ?_ | refine Walk.cRet ?_ | refine Walk.cEnd ?_ | (refine Walk.cReg ?_; simp only [size30_0, size30_1, size30_2, size30_3, size30_4, size30_5, size30_6, size30_7, size30_8, size30_9, size30_10, size30_11, size30_12, size30_13, size30_14, size30_15, size30_16, size30_17, size30_18, List.range, List.range.loop]) | (refine Walk.oq ?_; try walk_nrm) | (refine Walk.un ?_; walk_nrm))
  refine Walk.callW (Post := fun v w' => v = .agg #[.bool false, .int .i64 er, .slice none 0 0] ∧ (∀ b, b < w2.heap.size → w'.heap[b]? = w2.heap[b]?) ∧ w2.heap.size ≤ w'.heap.size) ?_ (ho_of (by conv => lhs; whnf) (by kernel_rfl)) (by rfl) (by decide) rfl Try.func70 (by kernel_rfl) (by rfl) ?_
  · walk_nrm
    exact hans w2
  rintro v w3 ⟨rfl, o3, z3⟩
  clear hans hg
  have c3 := (o3 (N + 1) (by omega)).trans c2
  walk_nrm
  repeat (first | refine Walk.c rfl ?_ | refine Walk.cRet ?_ | refine Walk.cEnd ?_ | (refine Walk.cReg ?_; simp only [size30_0, size30_1, size30_2, size30_3, size30_4, size30_5, size30_6, size30_7, size30_8, size30_9, size30_10, size30_11, size30_12, size30_13, size30_14, size30_15, size30_16, size30_17, size30_18, List.range, List.range.loop]) | (refine Walk.oq ?_; try walk_nrm) | (refine Walk.un ?_; walk_nrm))
  refine Walk.storeS 81 (.tmp 6) (.tmp 40) (ho_of (by conv => lhs; whnf) (by kernel_rfl)) (by rfl) (by decide) rfl (N + 1) #[.bool false, .int .i64 er, .slice none 0 0] _ 81 rfl rfl c3 (by kernel_rfl) (by rfl) (by simp [Value.oneCell']) hap ?_
  have d9 := setRow_self (cells := #[.bool false, .int .i64 er, .slice none 0 0]) c3
  have o9 : ∀ b, b ≠ N + 1 → (w3.setRow (N + 1) #[.bool false, .int .i64 er, .slice none 0 0]).heap[b]? = w3.heap[b]? := fun b hb => setRow_other _ _ hb
  have s9 := setRow_size w3 (N + 1) #[.bool false, .int .i64 er, .slice none 0 0]
  generalize w3.setRow (N + 1) #[.bool false, .int .i64 er, .slice none 0 0] = w9 at *
  walk_nrm
  repeat (first | refine Walk.c rfl ?_ | refine Walk.cRet ?_ | refine Walk.cEnd ?_ | (refine Walk.cReg ?_; simp only [size30_0, size30_1, size30_2, size30_3, size30_4, size30_5, size30_6, size30_7, size30_8, size30_9, size30_10, size30_11, size30_12, size30_13, size30_14, size30_15, size30_16, size30_17, size30_18, List.range, List.range.loop]) | (refine Walk.oq ?_; try walk_nrm) | (refine Walk.un ?_; walk_nrm))
  refine Walk.onCell (T := N + 1) rfl rfl rfl Try.func30 rfl (by rfl) d9 (by kernel_rfl) (by kernel_rfl) (.stop fun d => ⟨_, ⟨_, rfl, ⟨none, 0, rfl⟩, ⟨by simp, .inl ⟨rfl, by simp⟩⟩, fun b hb => (o9 b (by omega)).trans ((o3 b (by omega)).trans (o2 b (by omega))), by show w.heap.size ≤ w9.heap.size; omega⟩, rfl⟩)
theorem nil_c4 (hA : ∀ b, Apart V b) (oa ob oc : Int) (w : World) : CallW Try.prog main V 30 #[.pointer none, .nilIface, .agg #[.int .i64 4, .int .i64 oa, .int .i64 ob, .int .i64 oc]] w (NilOf ⟨false, nilE oa, []⟩ w) := by
  have hg := fun w => get_nil (main := main) (V := V) .nilIface oa w
  have hz := nilE_ne oa
  generalize nilE oa = er at *
  have hans := fun w => told_w (main := main) (V := V) 0 er w fun b _ => hA b
  unfold GansOf at hans
  simp only [if_neg hz, show (er == 0) = false by simp [hz]] at hans
  clear hz
  refine callW_in Try.func30 code30_is fun fr cs => ?_
  simp only [Try.ntmps30, List.size_toArray, List.length_cons, List.length_nil, Nat.reduceAdd, Nat.reduceSub, Array.replicate_succ, Array.replicate_zero, List.push_toArray, List.append_toArray, List.nil_append, List.cons_append]
  repeat (first | refine Walk.c rfl ?_ | refine Walk.cRet ?_ | refine Walk.cEnd ?_ | (refine Walk.cReg ?_; simp only [size30_0, size30_1, size30_2, size30_3, size30_4, size30_5, size30_6, size30_7, size30_8, size30_9, size30_10, size30_11, size30_12, size30_13, size30_14, size30_15, size30_16, size30_17, size30_18, List.range, List.range.loop]) | (refine Walk.oq ?_; try walk_nrm) | (refine Walk.un ?_; walk_nrm))
  (refine Walk.oa ?_; try walk_nrm)
  (refine Walk.oa ?_; try walk_nrm)
  have s1 : (w.alloc (.cells #[.int .i64 4, .int .i64 oa, .int .i64 ob, .int .i64 oc] 84)).heap.size = w.heap.size + 1 := by simp
  have c1 : ((w.alloc (.cells #[.int .i64 4, .int .i64 oa, .int .i64 ob, .int .i64 oc] 84)).alloc (.cells #[.bool false, .int .i64 0, .slice none 0 0] 81)).heap[w.heap.size]? = some (.cells #[.int .i64 4, .int .i64 oa, .int .i64 ob, .int .i64 oc] 84) := by
    rw [heap_new_lt _ _ (by omega)]
    exact heap_alloc_new _ _
  have c2 : ((w.alloc (.cells #[.int .i64 4, .int .i64 oa, .int .i64 ob, .int .i64 oc] 84)).alloc (.cells #[.bool false, .int .i64 0, .slice none 0 0] 81)).heap[w.heap.size + 1]? = some (.cells #[.bool false, .int .i64 0, .slice none 0 0] 81) := by
    have := heap_alloc_new (w.alloc (.cells #[.int .i64 4, .int .i64 oa, .int .i64 ob, .int .i64 oc] 84)) (.cells #[.bool false, .int .i64 0, .slice none 0 0] 81)
    rwa [s1] at this
  have s2 : ((w.alloc (.cells #[.int .i64 4, .int .i64 oa, .int .i64 ob, .int .i64 oc] 84)).alloc (.cells #[.bool false, .int .i64 0, .slice none 0 0] 81)).heap.size = w.heap.size + 2 := by simp
  have o2 : ∀ b, b < w.heap.size → ((w.alloc (.cells #[.int .i64 4, .int .i64 oa, .int .i64 ob, .int .i64 oc] 84)).alloc (.cells #[.bool false, .int .i64 0, .slice none 0 0] 81)).heap[b]? = w.heap[b]? := fun b hb => by
    rw [heap_new_lt _ _ (by omega)]
    exact heap_new_lt _ _ hb
  try simp only [s1]
  clear s1
  generalize (w.alloc (.cells #[.int .i64 4, .int .i64 oa, .int .i64 ob, .int .i64 oc] 84)).alloc (.cells #[.bool false, .int .i64 0, .slice none 0 0] 81) = w2 at *
  obtain ⟨N, hN⟩ : ∃ N, w.heap.size = N := ⟨_, rfl⟩
  rw [hN] at c1 c2 s2 o2
  try simp only [hN]
  have d0 := (cell_of c1 0).trans rfl
  have d1 := (cell_of c1 1).trans rfl
  have d2 := (cell_of c1 2).trans rfl
  clear c1
  have hap := hA (N + 1)
  repeat (first | refine Walk.c rfl ?_ | refine Walk.cRet ?_ | refine Walk.cEnd ?_ | (refine Walk.cReg ?_; simp only [size30_0, size30_1, size30_2, size30_3, size30_4, size30_5, size30_6, size30_7, size30_8, size30_9, size30_10, size30_11, size30_12, size30_13, size30_14, size30_15, size30_16, size30_17, size30_18, List.range, List.range.loop]) | (refine Walk.oq ?_; try walk_nrm) | (refine Walk.un ?_; walk_nrm))
  refine Walk.callV (x := .tuple #[.int .i64 0, .int .i64 er]) (W := w2) ?_ (ho_of (by conv => lhs; whnf) (by kernel_rfl)) (by rfl) (by decide) rfl Try.func71 (by kernel_rfl) (by rfl) ?_
  · walk_nrm
    exact hg w2
  walk_nrm
  repeat (first | refine Walk.c rfl ?_ | refine Walk.cRet ?_ | refine Walk.cEnd ?_ | (refine Walk.cReg ?_; simp only [size30_0, size30_1, size30_2, size30_3, size30_4, size30_5, size30_6, size30_7, size30_8, size30_9, size30_10, size30_11, size30_12, size30_13, size30_14, size30_15, size30_16, size30_17, size30_18, List.range, List.range.loop]) | (refine Walk.oq ?_; try walk_nrm) | (refine Walk.un ?_; walk_nrm))
  refine Walk.callW (Post := fun v w' => v = .agg #[.bool false, .int .i64 er, .slice none 0 0] ∧ (∀ b, b < w2.heap.size → w'.heap[b]? = w2.heap[b]?) ∧ w2.heap.size ≤ w'.heap.size) ?_ (ho_of (by conv => lhs; whnf) (by kernel_rfl)) (by rfl) (by decide) rfl Try.func70 (by kernel_rfl) (by rfl) ?_
  · walk_nrm
    exact hans w2
  rintro v w3 ⟨rfl, o3, z3⟩
  clear hans hg
  have c3 := (o3 (N + 1) (by omega)).trans c2
  walk_nrm
  repeat (first | refine Walk.c rfl ?_ | refine Walk.cRet ?_ | refine Walk.cEnd ?_ | (refine Walk.cReg ?_; simp only [size30_0, size30_1, size30_2, size30_3, size30_4, size30_5, size30_6, size30_7, size30_8, size30_9, size30_10, size30_11, size30_12, size30_13, size30_14, size30_15, size30_16, size30_17, size30_18, List.range, List.range.loop]) | (refine Walk.oq ?_; try walk_nrm) | (refine Walk.un ?_; walk_nrm))
  refine Walk.storeS 81 (.tmp 6) (.tmp 50) (ho_of (by conv => lhs; whnf) (by kernel_rfl)) (by rfl) (by decide) rfl (N + 1) #[.bool false, .int .i64 er, .slice none 0 0] _ 81 rfl rfl c3 (by kernel_rfl) (by rfl) (by simp [Value.oneCell']) hap ?_
  have d9 := setRow_self (cells := #[.bool false, .int .i64 er, .slice none 0 0]) c3
  have o9 : ∀ b, b ≠ N + 1 → (w3.setRow (N + 1) #[.bool false, .int .i64 er, .slice none 0 0]).heap[b]? = w3.heap[b]? := fun b hb => setRow_other _ _ hb
  have s9 := setRow_size w3 (N + 1) #[.bool false, .int .i64 er, .slice none 0 0]
  generalize w3.setRow (N + 1) #[.bool false, .int .i64 er, .slice none 0 0] = w9 at *
  walk_nrm
  repeat (first | refine Walk.c rfl ?_ | refine Walk.cRet ?_ | refine Walk.cEnd ?_ | (refine Walk.cReg ?_; simp only [size30_0, size30_1, size30_2, size30_3, size30_4, size30_5, size30_6, size30_7, size30_8, size30_9, size30_10, size30_11, size30_12, size30_13, size30_14, size30_15, size30_16, size30_17, size30_18, List.range, List.range.loop]) | (refine Walk.oq ?_; try walk_nrm) | (refine Walk.un ?_; walk_nrm))
  refine Walk.onCell (T := N + 1) rfl rfl rfl Try.func30 rfl (by rfl) d9 (by kernel_rfl) (by kernel_rfl) (.stop fun d => ⟨_, ⟨_, rfl, ⟨none, 0, rfl⟩, ⟨by simp, .inl ⟨rfl, by simp⟩⟩, fun b hb => (o9 b (by omega)).trans ((o3 b (by omega)).trans (o2 b (by omega))), by show w.heap.size ≤ w9.heap.size; omega⟩, rfl⟩)
theorem nil_c5 (hA : ∀ b, Apart V b) (oa ob oc : Int) (w : World) : CallW Try.prog main V 30 #[.pointer none, .nilIface, .agg #[.int .i64 5, .int .i64 oa, .int .i64 ob, .int .i64 oc]] w (NilOf ⟨true, 0, []⟩ w) := by
  have hg := fun w => list_nil (main := main) (V := V) .nilIface w
  have hans := fun w => lwide_w (main := main) (V := V) none [] 0 (by decide) w (fun i x hx => by simp at hx) fun b _ => hA b
  refine callW_in Try.func30 code30_is fun fr cs => ?_
  simp only [Try.ntmps30, List.size_toArray, List.length_cons, List.length_nil, Nat.reduceAdd, Nat.reduceSub, Array.replicate_succ, Array.replicate_zero, List.push_toArray, List.append_toArray, List.nil_append, List.cons_append]
  repeat (first | refine Walk.c rfl ?_ | refine Walk.cRet ?_ | refine Walk.cEnd ?_ | (refine Walk.cReg ?_; simp only [size30_0, size30_1, size30_2, size30_3, size30_4, size30_5, size30_6, size30_7, size30_8, size30_9, size30_10, size30_11, size30_12, size30_13, size30_14, size30_15, size30_16, size30_17, size30_18, List.range, List.range.loop]) | (refine Walk.oq ?_; try walk_nrm) | (refine Walk.un ?_; walk_nrm))
  (refine Walk.oa ?_; try walk_nrm)
  (refine Walk.oa ?_; try walk_nrm)
  have s1 : (w.alloc (.cells #[.int .i64 5, .int .i64 oa, .int .i64 ob, .int .i64 oc] 84)).heap.size = w.heap.size + 1 := by simp
  have c1 : ((w.alloc (.cells #[.int .i64 5, .int .i64 oa, .int .i64 ob, .int .i64 oc] 84)).alloc (.cells #[.bool false, .int .i64 0, .slice none 0 0] 81)).heap[w.heap.size]? = some (.cells #[.int .i64 5, .int .i64 oa, .int .i64 ob, .int .i64 oc] 84) := by
    rw [heap_new_lt _ _ (by omega)]
    exact heap_alloc_new _ _
  have c2 : ((w.alloc (.cells #[.int .i64 5, .int .i64 oa, .int .i64 ob, .int .i64 oc] 84)).alloc (.cells #[.bool false, .int .i64 0, .slice none 0 0] 81)).heap[w.heap.size + 1]? = some (.cells #[.bool false, .int .i64 0, .slice none 0 0] 81) := by
    have := heap_alloc_new (w.alloc (.cells #[.int .i64 5, .int .i64 oa, .int .i64 ob, .int .i64 oc] 84)) (.cells #[.bool false, .int .i64 0, .slice none 0 0] 81)
    rwa [s1] at this
  have s2 : ((w.alloc (.cells #[.int .i64 5, .int .i64 oa, .int .i64 ob, .int .i64 oc] 84)).alloc (.cells #[.bool false, .int .i64 0, .slice none 0 0] 81)).heap.size = w.heap.size + 2 := by simp
  have o2 : ∀ b, b < w.heap.size → ((w.alloc (.cells #[.int .i64 5, .int .i64 oa, .int .i64 ob, .int .i64 oc] 84)).alloc (.cells #[.bool false, .int .i64 0, .slice none 0 0] 81)).heap[b]? = w.heap[b]? := fun b hb => by
    rw [heap_new_lt _ _ (by omega)]
    exact heap_new_lt _ _ hb
  try simp only [s1]
  clear s1
  generalize (w.alloc (.cells #[.int .i64 5, .int .i64 oa, .int .i64 ob, .int .i64 oc] 84)).alloc (.cells #[.bool false, .int .i64 0, .slice none 0 0] 81) = w2 at *
  obtain ⟨N, hN⟩ : ∃ N, w.heap.size = N := ⟨_, rfl⟩
  rw [hN] at c1 c2 s2 o2
  try simp only [hN]
  have d0 := (cell_of c1 0).trans rfl
  have d1 := (cell_of c1 1).trans rfl
  have d2 := (cell_of c1 2).trans rfl
  clear c1
  have hap := hA (N + 1)
  repeat (first | refine Walk.c rfl ?_ | refine Walk.cRet ?_ | refine Walk.cEnd ?_ | (refine Walk.cReg ?_; simp only [size30_0, size30_1, size30_2, size30_3, size30_4, size30_5, size30_6, size30_7, size30_8, size30_9, size30_10, size30_11, size30_12, size30_13, size30_14, size30_15, size30_16, size30_17, size30_18, List.range, List.range.loop]) | (refine Walk.oq ?_; try walk_nrm) | (refine Walk.un ?_; walk_nrm))
  refine Walk.callV (x := .slice none 0 0) (W := w2) ?_ (ho_of (by conv => lhs; whnf) (by kernel_rfl)) (by rfl) (by decide) rfl Try.func72 (by kernel_rfl) (by rfl) ?_
  · walk_nrm
    exact hg w2
  walk_nrm
  repeat (first | refine Walk.c rfl ?_ | refine Walk.cRet ?_ | refine Walk.cEnd ?_ | (refine Walk.cReg ?_; simp only [size30_0, size30_1, size30_2, size30_3, size30_4, size30_5, size30_6, size30_7, size30_8, size30_9, size30_10, size30_11, size30_12, size30_13, size30_14, size30_15, size30_16, size30_17, size30_18, List.range, List.range.loop]) | (refine Walk.oq ?_; try walk_nrm) | (refine Walk.un ?_; walk_nrm))
  refine Walk.callW (Post := LwideOf [] w2) ?_ (ho_of (by conv => lhs; whnf) (by kernel_rfl)) (by rfl) (by decide) rfl Try.func33 (by kernel_rfl) (by rfl) ?_
  · walk_nrm
    exact hans w2
  rintro v w3 ⟨ta, tc, rfl, r3, o3, z3⟩
  clear hans hg
  have c3 := (o3 (N + 1) (by omega)).trans c2
  walk_nrm
  repeat (first | refine Walk.c rfl ?_ | refine Walk.cRet ?_ | refine Walk.cEnd ?_ | (refine Walk.cReg ?_; simp only [size30_0, size30_1, size30_2, size30_3, size30_4, size30_5, size30_6, size30_7, size30_8, size30_9, size30_10, size30_11, size30_12, size30_13, size30_14, size30_15, size30_16, size30_17, size30_18, List.range, List.range.loop]) | (refine Walk.oq ?_; try walk_nrm) | (refine Walk.un ?_; walk_nrm))
  refine Walk.storeS 81 (.tmp 6) (.tmp 57) (ho_of (by conv => lhs; whnf) (by kernel_rfl)) (by rfl) (by decide) rfl (N + 1) #[.bool true, .int .i64 0, .slice ta 0 tc] _ 81 rfl rfl c3 (by kernel_rfl) (by rfl) (by simp [Value.oneCell']) hap ?_
  have d9 := setRow_self (cells := #[.bool true, .int .i64 0, .slice ta 0 tc]) c3
  have o9 : ∀ b, b ≠ N + 1 → (w3.setRow (N + 1) #[.bool true, .int .i64 0, .slice ta 0 tc]).heap[b]? = w3.heap[b]? := fun b hb => setRow_other _ _ hb
  have s9 := setRow_size w3 (N + 1) #[.bool true, .int .i64 0, .slice ta 0 tc]
  generalize w3.setRow (N + 1) #[.bool true, .int .i64 0, .slice ta 0 tc] = w9 at *
  walk_nrm
  repeat (first | refine Walk.c rfl ?_ | refine Walk.cRet ?_ | refine Walk.cEnd ?_ | (refine Walk.cReg ?_; simp only [size30_0, size30_1, size30_2, size30_3, size30_4, size30_5, size30_6, size30_7, size30_8, size30_9, size30_10, size30_11, size30_12, size30_13, size30_14, size30_15, size30_16, size30_17, size30_18, List.range, List.range.loop]) | (refine Walk.oq ?_; try walk_nrm) | (refine Walk.un ?_; walk_nrm))
  refine Walk.onCell (T := N + 1) rfl rfl rfl Try.func30 rfl (by rfl) d9 (by kernel_rfl) (by kernel_rfl) (.stop fun d => ⟨_, ⟨_, rfl, ⟨_, _, rfl⟩, row_same (row_raise r3 fun g hg => by have := (r3.lt g hg).1; omega) fun g hg => o9 g (by have := (r3.lt g hg).1; omega), fun b hb => (o9 b (by omega)).trans ((o3 b (by omega)).trans (o2 b (by omega))), by show w.heap.size ≤ w9.heap.size; omega⟩, rfl⟩)
theorem nil_c6 (hA : ∀ b, Apart V b) (oa ob oc : Int) (w : World) : CallW Try.prog main V 30 #[.pointer none, .nilIface, .agg #[.int .i64 6, .int .i64 oa, .int .i64 ob, .int .i64 oc]] w (NilOf ⟨true, oa, [-1]⟩ w) := by
  have hg := fun w => least_nil (main := main) (V := V) .nilIface oa w
  refine callW_in Try.func30 code30_is fun fr cs => ?_
  simp only [Try.ntmps30, List.size_toArray, List.length_cons, List.length_nil, Nat.reduceAdd, Nat.reduceSub, Array.replicate_succ, Array.replicate_zero, List.push_toArray, List.append_toArray, List.nil_append, List.cons_append]
  repeat (first | refine Walk.c rfl ?_ | refine Walk.cRet ?_ | refine Walk.cEnd ?_ | (refine Walk.cReg ?_; simp only [size30_0, size30_1, size30_2, size30_3, size30_4, size30_5, size30_6, size30_7, size30_8, size30_9, size30_10, size30_11, size30_12, size30_13, size30_14, size30_15, size30_16, size30_17, size30_18, List.range, List.range.loop]) | (refine Walk.oq ?_; try walk_nrm) | (refine Walk.un ?_; walk_nrm))
  (refine Walk.oa ?_; try walk_nrm)
  (refine Walk.oa ?_; try walk_nrm)
  have s1 : (w.alloc (.cells #[.int .i64 6, .int .i64 oa, .int .i64 ob, .int .i64 oc] 84)).heap.size = w.heap.size + 1 := by simp
  have c1 : ((w.alloc (.cells #[.int .i64 6, .int .i64 oa, .int .i64 ob, .int .i64 oc] 84)).alloc (.cells #[.bool false, .int .i64 0, .slice none 0 0] 81)).heap[w.heap.size]? = some (.cells #[.int .i64 6, .int .i64 oa, .int .i64 ob, .int .i64 oc] 84) := by
    rw [heap_new_lt _ _ (by omega)]
    exact heap_alloc_new _ _
  have c2 : ((w.alloc (.cells #[.int .i64 6, .int .i64 oa, .int .i64 ob, .int .i64 oc] 84)).alloc (.cells #[.bool false, .int .i64 0, .slice none 0 0] 81)).heap[w.heap.size + 1]? = some (.cells #[.bool false, .int .i64 0, .slice none 0 0] 81) := by
    have := heap_alloc_new (w.alloc (.cells #[.int .i64 6, .int .i64 oa, .int .i64 ob, .int .i64 oc] 84)) (.cells #[.bool false, .int .i64 0, .slice none 0 0] 81)
    rwa [s1] at this
  have s2 : ((w.alloc (.cells #[.int .i64 6, .int .i64 oa, .int .i64 ob, .int .i64 oc] 84)).alloc (.cells #[.bool false, .int .i64 0, .slice none 0 0] 81)).heap.size = w.heap.size + 2 := by simp
  have o2 : ∀ b, b < w.heap.size → ((w.alloc (.cells #[.int .i64 6, .int .i64 oa, .int .i64 ob, .int .i64 oc] 84)).alloc (.cells #[.bool false, .int .i64 0, .slice none 0 0] 81)).heap[b]? = w.heap[b]? := fun b hb => by
    rw [heap_new_lt _ _ (by omega)]
    exact heap_new_lt _ _ hb
  try simp only [s1]
  clear s1
  generalize (w.alloc (.cells #[.int .i64 6, .int .i64 oa, .int .i64 ob, .int .i64 oc] 84)).alloc (.cells #[.bool false, .int .i64 0, .slice none 0 0] 81) = w2 at *
  obtain ⟨N, hN⟩ : ∃ N, w.heap.size = N := ⟨_, rfl⟩
  rw [hN] at c1 c2 s2 o2
  try simp only [hN]
  have d0 := (cell_of c1 0).trans rfl
  have d1 := (cell_of c1 1).trans rfl
  have d2 := (cell_of c1 2).trans rfl
  clear c1
  have hap := hA (N + 1)
  repeat (first | refine Walk.c rfl ?_ | refine Walk.cRet ?_ | refine Walk.cEnd ?_ | (refine Walk.cReg ?_; simp only [size30_0, size30_1, size30_2, size30_3, size30_4, size30_5, size30_6, size30_7, size30_8, size30_9, size30_10, size30_11, size30_12, size30_13, size30_14, size30_15, size30_16, size30_17, size30_18, List.range, List.range.loop]) | (refine Walk.oq ?_; try walk_nrm) | (refine Walk.un ?_; walk_nrm))
  refine Walk.callV (x := .tuple #[.int .i64 oa, .int .i64 (-1)]) (W := w2) ?_ (ho_of (by conv => lhs; whnf) (by kernel_rfl)) (by rfl) (by decide) rfl Try.func61 (by kernel_rfl) (by rfl) ?_
  · walk_nrm
    exact hg w2
  walk_nrm
  repeat (first | refine Walk.c rfl ?_ | refine Walk.cRet ?_ | refine Walk.cEnd ?_ | (refine Walk.cReg ?_; simp only [size30_0, size30_1, size30_2, size30_3, size30_4, size30_5, size30_6, size30_7, size30_8, size30_9, size30_10, size30_11, size30_12, size30_13, size30_14, size30_15, size30_16, size30_17, size30_18, List.range, List.range.loop]) | (refine Walk.oq ?_; try walk_nrm) | (refine Walk.un ?_; walk_nrm))
  (refine Walk.oa ?_; try walk_nrm)
  have o3 : ∀ b, b < w2.heap.size → (w2.alloc (.cells #[.int .i64 (-1)] 2)).heap[b]? = w2.heap[b]? := fun b hb => heap_new_lt _ _ hb
  have z3 : (w2.alloc (.cells #[.int .i64 (-1)] 2)).heap.size = w2.heap.size + 1 := by simp
  have n3 : NumB (w2.alloc (.cells #[.int .i64 (-1)] 2)) w2.heap.size [-1] := heap_alloc_new w2 (.cells #[.int .i64 (-1)] 2)
  generalize w2.alloc (.cells #[.int .i64 (-1)] 2) = w3 at *
  have c3 := (o3 (N + 1) (by omega)).trans c2
  clear hg
  rw [s2] at n3 z3
  try walk_nrm
  repeat (first | refine Walk.c rfl ?_ | refine Walk.cRet ?_ | refine Walk.cEnd ?_ | (refine Walk.cReg ?_; simp only [size30_0, size30_1, size30_2, size30_3, size30_4, size30_5, size30_6, size30_7, size30_8, size30_9, size30_10, size30_11, size30_12, size30_13, size30_14, size30_15, size30_16, size30_17, size30_18, List.range, List.range.loop]) | (refine Walk.oq ?_; try walk_nrm) | (refine Walk.un ?_; walk_nrm))
  refine Walk.storeS 81 (.tmp 6) (.tmp 71) (ho_of (by conv => lhs; whnf) (by kernel_rfl)) (by rfl) (by decide) rfl (N + 1) #[.bool true, .int .i64 oa, .slice (some ⟨N + 2, 0, none⟩) 1 1] _ 81 rfl rfl c3 (by kernel_rfl) (by rfl) (by simp [Value.oneCell']) hap ?_
  have d9 := setRow_self (cells := #[.bool true, .int .i64 oa, .slice (some ⟨N + 2, 0, none⟩) 1 1]) c3
  have o9 : ∀ b, b ≠ N + 1 → (w3.setRow (N + 1) #[.bool true, .int .i64 oa, .slice (some ⟨N + 2, 0, none⟩) 1 1]).heap[b]? = w3.heap[b]? := fun b hb => setRow_other _ _ hb
  have s9 := setRow_size w3 (N + 1) #[.bool true, .int .i64 oa, .slice (some ⟨N + 2, 0, none⟩) 1 1]
  generalize w3.setRow (N + 1) #[.bool true, .int .i64 oa, .slice (some ⟨N + 2, 0, none⟩) 1 1] = w9 at *
  walk_nrm
  repeat (first | refine Walk.c rfl ?_ | refine Walk.cRet ?_ | refine Walk.cEnd ?_ | (refine Walk.cReg ?_; simp only [size30_0, size30_1, size30_2, size30_3, size30_4, size30_5, size30_6, size30_7, size30_8, size30_9, size30_10, size30_11, size30_12, size30_13, size30_14, size30_15, size30_16, size30_17, size30_18, List.range, List.range.loop]) | (refine Walk.oq ?_; try walk_nrm) | (refine Walk.un ?_; walk_nrm))
  refine Walk.onCell (T := N + 1) rfl rfl rfl Try.func30 rfl (by rfl) d9 (by kernel_rfl) (by kernel_rfl) (.stop fun d => ⟨_, ⟨_, rfl, ⟨_, _, rfl⟩, NumB.row (xs := [-1]) (n3.same (o9 (N + 2) (by omega))) (by omega) (by decide), fun b hb => (o9 b (by omega)).trans ((o3 b (by omega)).trans (o2 b (by omega))), by show w.heap.size ≤ w9.heap.size; omega⟩, rfl⟩)
theorem nil_c7 (hA : ∀ b, Apart V b) (oa ob oc : Int) (w : World) : CallW Try.prog main V 30 #[.pointer none, .nilIface, .agg #[.int .i64 7, .int .i64 oa, .int .i64 ob, .int .i64 oc]] w (NilOf ⟨true, -1, []⟩ w) := by
  have hg := fun w => may_nil (main := main) (V := V) .nilIface oa ob w
  refine callW_in Try.func30 code30_is fun fr cs => ?_
  simp only [Try.ntmps30, List.size_toArray, List.length_cons, List.length_nil, Nat.reduceAdd, Nat.reduceSub, Array.replicate_succ, Array.replicate_zero, List.push_toArray, List.append_toArray, List.nil_append, List.cons_append]
  repeat (first | refine Walk.c rfl ?_ | refine Walk.cRet ?_ | refine Walk.cEnd ?_ | (refine Walk.cReg ?_; simp only [size30_0, size30_1, size30_2, size30_3, size30_4, size30_5, size30_6, size30_7, size30_8, size30_9, size30_10, size30_11, size30_12, size30_13, size30_14, size30_15, size30_16, size30_17, size30_18, List.range, List.range.loop]) | (refine Walk.oq ?_; try walk_nrm) | (refine Walk.un ?_; walk_nrm))
  (refine Walk.oa ?_; try walk_nrm)
  (refine Walk.oa ?_; try walk_nrm)
  have s1 : (w.alloc (.cells #[.int .i64 7, .int .i64 oa, .int .i64 ob, .int .i64 oc] 84)).heap.size = w.heap.size + 1 := by simp
  have c1 : ((w.alloc (.cells #[.int .i64 7, .int .i64 oa, .int .i64 ob, .int .i64 oc] 84)).alloc (.cells #[.bool false, .int .i64 0, .slice none 0 0] 81)).heap[w.heap.size]? = some (.cells #[.int .i64 7, .int .i64 oa, .int .i64 ob, .int .i64 oc] 84) := by
    rw [heap_new_lt _ _ (by omega)]
    exact heap_alloc_new _ _
  have c2 : ((w.alloc (.cells #[.int .i64 7, .int .i64 oa, .int .i64 ob, .int .i64 oc] 84)).alloc (.cells #[.bool false, .int .i64 0, .slice none 0 0] 81)).heap[w.heap.size + 1]? = some (.cells #[.bool false, .int .i64 0, .slice none 0 0] 81) := by
    have := heap_alloc_new (w.alloc (.cells #[.int .i64 7, .int .i64 oa, .int .i64 ob, .int .i64 oc] 84)) (.cells #[.bool false, .int .i64 0, .slice none 0 0] 81)
    rwa [s1] at this
  have s2 : ((w.alloc (.cells #[.int .i64 7, .int .i64 oa, .int .i64 ob, .int .i64 oc] 84)).alloc (.cells #[.bool false, .int .i64 0, .slice none 0 0] 81)).heap.size = w.heap.size + 2 := by simp
  have o2 : ∀ b, b < w.heap.size → ((w.alloc (.cells #[.int .i64 7, .int .i64 oa, .int .i64 ob, .int .i64 oc] 84)).alloc (.cells #[.bool false, .int .i64 0, .slice none 0 0] 81)).heap[b]? = w.heap[b]? := fun b hb => by
    rw [heap_new_lt _ _ (by omega)]
    exact heap_new_lt _ _ hb
  try simp only [s1]
  clear s1
  generalize (w.alloc (.cells #[.int .i64 7, .int .i64 oa, .int .i64 ob, .int .i64 oc] 84)).alloc (.cells #[.bool false, .int .i64 0, .slice none 0 0] 81) = w2 at *
  obtain ⟨N, hN⟩ : ∃ N, w.heap.size = N := ⟨_, rfl⟩
  rw [hN] at c1 c2 s2 o2
  try simp only [hN]
  have d0 := (cell_of c1 0).trans rfl
  have d1 := (cell_of c1 1).trans rfl
  have d2 := (cell_of c1 2).trans rfl
  clear c1
  have hap := hA (N + 1)
  repeat (first | refine Walk.c rfl ?_ | refine Walk.cRet ?_ | refine Walk.cEnd ?_ | (refine Walk.cReg ?_; simp only [size30_0, size30_1, size30_2, size30_3, size30_4, size30_5, size30_6, size30_7, size30_8, size30_9, size30_10, size30_11, size30_12, size30_13, size30_14, size30_15, size30_16, size30_17, size30_18, List.range, List.range.loop]) | (refine Walk.oq ?_; try walk_nrm) | (refine Walk.un ?_; walk_nrm))
  refine Walk.callV (x := .tuple #[.bool true, .int .i64 (-1)]) (W := w2) ?_ (ho_of (by conv => lhs; whnf) (by kernel_rfl)) (by rfl) (by decide) rfl Try.func62 (by kernel_rfl) (by rfl) ?_
  · walk_nrm
    exact hg w2
  walk_nrm
  clear hg
  repeat (first | refine Walk.c rfl ?_ | refine Walk.cRet ?_ | refine Walk.cEnd ?_ | (refine Walk.cReg ?_; simp only [size30_0, size30_1, size30_2, size30_3, size30_4, size30_5, size30_6, size30_7, size30_8, size30_9, size30_10, size30_11, size30_12, size30_13, size30_14, size30_15, size30_16, size30_17, size30_18, List.range, List.range.loop]) | (refine Walk.oq ?_; try walk_nrm) | (refine Walk.un ?_; walk_nrm))
  refine Walk.storeS 81 (.tmp 6) (.tmp 86) (ho_of (by conv => lhs; whnf) (by kernel_rfl)) (by rfl) (by decide) rfl (N + 1) #[.bool true, .int .i64 (-1), .slice none 0 0] _ 81 rfl rfl c2 (by kernel_rfl) (by rfl) (by simp [Value.oneCell']) hap ?_
  have d9 := setRow_self (cells := #[.bool true, .int .i64 (-1), .slice none 0 0]) c2
  have o9 : ∀ b, b ≠ N + 1 → (w2.setRow (N + 1) #[.bool true, .int .i64 (-1), .slice none 0 0]).heap[b]? = w2.heap[b]? := fun b hb => setRow_other _ _ hb
  have s9 := setRow_size w2 (N + 1) #[.bool true, .int .i64 (-1), .slice none 0 0]
  generalize w2.setRow (N + 1) #[.bool true, .int .i64 (-1), .slice none 0 0] = w9 at *
  walk_nrm
  repeat (first | refine Walk.c rfl ?_ | refine Walk.cRet ?_ | refine Walk.cEnd ?_ | (refine Walk.cReg ?_; simp only [size30_0, size30_1, size30_2, size30_3, size30_4, size30_5, size30_6, size30_7, size30_8, size30_9, size30_10, size30_11, size30_12, size30_13, size30_14, size30_15, size30_16, size30_17, size30_18, List.range, List.range.loop]) | (refine Walk.oq ?_; try walk_nrm) | (refine Walk.un ?_; walk_nrm))
  refine Walk.onCell (T := N + 1) rfl rfl rfl Try.func30 rfl (by rfl) d9 (by kernel_rfl) (by kernel_rfl) (.stop fun d => ⟨_, ⟨_, rfl, ⟨none, 0, rfl⟩, ⟨by simp, .inl ⟨rfl, by simp⟩⟩, fun b hb => (o9 b (by omega)).trans (o2 b (by omega)), by show w.heap.size ≤ w9.heap.size; omega⟩, rfl⟩)
theorem nil_c0 (hA : ∀ b, Apart V b) (ok oa ob oc : Int) (h1 : ok ≠ 1) (h2 : ok ≠ 2) (h3 : ok ≠ 3) (h4 : ok ≠ 4) (h5 : ok ≠ 5) (h6 : ok ≠ 6) (h7 : ok ≠ 7) (w : World) : CallW Try.prog main V 30 #[.pointer none, .nilIface, .agg #[.int .i64 ok, .int .i64 oa, .int .i64 ob, .int .i64 oc]] w (NilOf ⟨false, 0, []⟩ w) := by
  have k1 : (ok == 1) = false := by simp [h1]
  have k2 : (ok == 2) = false := by simp [h2]
  have k3 : (ok == 3) = false := by simp [h3]
  have k4 : (ok == 4) = false := by simp [h4]
  have k5 : (ok == 5) = false := by simp [h5]
  have k6 : (ok == 6) = false := by simp [h6]
  have k7 : (ok == 7) = false := by simp [h7]
  clear h1 h2 h3 h4 h5 h6 h7
  refine callW_in Try.func30 code30_is fun fr cs => ?_
  simp only [Try.ntmps30, List.size_toArray, List.length_cons, List.length_nil, Nat.reduceAdd, Nat.reduceSub, Array.replicate_succ, Array.replicate_zero, List.push_toArray, List.append_toArray, List.nil_append, List.cons_append]
  repeat (first | refine Walk.c rfl ?_ | refine Walk.cRet ?_ | refine Walk.cEnd ?_ | (refine Walk.cReg ?_; simp only [size30_0, size30_1, size30_2, size30_3, size30_4, size30_5, size30_6, size30_7, size30_8, size30_9, size30_10, size30_11, size30_12, size30_13, size30_14, size30_15, size30_16, size30_17, size30_18, List.range, List.range.loop]) | (refine Walk.oq ?_; try walk_nrm) | (refine Walk.un ?_; walk_nrm))
  (refine Walk.oa ?_; try walk_nrm)
  (refine Walk.oa ?_; try walk_nrm)
  have s1 : (w.alloc (.cells #[.int .i64 ok, .int .i64 oa, .int .i64 ob, .int .i64 oc] 84)).heap.size = w.heap.size + 1 := by simp
  have c1 : ((w.alloc (.cells #[.int .i64 ok, .int .i64 oa, .int .i64 ob, .int .i64 oc] 84)).alloc (.cells #[.bool false, .int .i64 0, .slice none 0 0] 81)).heap[w.heap.size]? = some (.cells #[.int .i64 ok, .int .i64 oa, .int .i64 ob, .int .i64 oc] 84) := by
    rw [heap_new_lt _ _ (by omega)]
    exact heap_alloc_new _ _
  have c2 : ((w.alloc (.cells #[.int .i64 ok, .int .i64 oa, .int .i64 ob, .int .i64 oc] 84)).alloc (.cells #[.bool false, .int .i64 0, .slice none 0 0] 81)).heap[w.heap.size + 1]? = some (.cells #[.bool false, .int .i64 0, .slice none 0 0] 81) := by
    have := heap_alloc_new (w.alloc (.cells #[.int .i64 ok, .int .i64 oa, .int .i64 ob, .int .i64 oc] 84)) (.cells #[.bool false, .int .i64 0, .slice none 0 0] 81)
    rwa [s1] at this
  have s2 : ((w.alloc (.cells #[.int .i64 ok, .int .i64 oa, .int .i64 ob, .int .i64 oc] 84)).alloc (.cells #[.bool false, .int .i64 0, .slice none 0 0] 81)).heap.size = w.heap.size + 2 := by simp
  have o2 : ∀ b, b < w.heap.size → ((w.alloc (.cells #[.int .i64 ok, .int .i64 oa, .int .i64 ob, .int .i64 oc] 84)).alloc (.cells #[.bool false, .int .i64 0, .slice none 0 0] 81)).heap[b]? = w.heap[b]? := fun b hb => by
    rw [heap_new_lt _ _ (by omega)]
    exact heap_new_lt _ _ hb
  try simp only [s1]
  clear s1
  generalize (w.alloc (.cells #[.int .i64 ok, .int .i64 oa, .int .i64 ob, .int .i64 oc] 84)).alloc (.cells #[.bool false, .int .i64 0, .slice none 0 0] 81) = w2 at *
  obtain ⟨N, hN⟩ : ∃ N, w.heap.size = N := ⟨_, rfl⟩
  rw [hN] at c1 c2 s2 o2
  try simp only [hN]
  have d0 := (cell_of c1 0).trans rfl
  have d1 := (cell_of c1 1).trans rfl
  have d2 := (cell_of c1 2).trans rfl
  clear c1
  have hap := hA (N + 1)
  repeat (first | refine Walk.c rfl ?_ | refine Walk.cRet ?_ | refine Walk.cEnd ?_ | (refine Walk.cReg ?_; simp only [size30_0, size30_1, size30_2, size30_3, size30_4, size30_5, size30_6, size30_7, size30_8, size30_9, size30_10, size30_11, size30_12, size30_13, size30_14, size30_15, size30_16, size30_17, size30_18, List.range, List.range.loop]) | (refine Walk.oq ?_; try walk_nrm) | (refine Walk.un ?_; walk_nrm))
  refine Walk.storeS 81 (.tmp 6) (.tmp 87) (ho_of (by conv => lhs; whnf) (by kernel_rfl)) (by rfl) (by decide) rfl (N + 1) #[.bool false, .int .i64 0, .slice none 0 0] _ 81 rfl rfl c2 (by kernel_rfl) (by rfl) (by simp [Value.oneCell']) hap ?_
  have d9 := setRow_self (cells := #[.bool false, .int .i64 0, .slice none 0 0]) c2
  have o9 : ∀ b, b ≠ N + 1 → (w2.setRow (N + 1) #[.bool false, .int .i64 0, .slice none 0 0]).heap[b]? = w2.heap[b]? := fun b hb => setRow_other _ _ hb
  have s9 := setRow_size w2 (N + 1) #[.bool false, .int .i64 0, .slice none 0 0]
  generalize w2.setRow (N + 1) #[.bool false, .int .i64 0, .slice none 0 0] = w9 at *
  walk_nrm
  repeat (first | refine Walk.c rfl ?_ | refine Walk.cRet ?_ | refine Walk.cEnd ?_ | (refine Walk.cReg ?_; simp only [size30_0, size30_1, size30_2, size30_3, size30_4, size30_5, size30_6, size30_7, size30_8, size30_9, size30_10, size30_11, size30_12, size30_13, size30_14, size30_15, size30_16, size30_17, size30_18, List.range, List.range.loop]) | (refine Walk.oq ?_; try walk_nrm) | (refine Walk.un ?_; walk_nrm))
  refine Walk.onCell (T := N + 1) rfl rfl rfl Try.func30 rfl (by rfl) d9 (by kernel_rfl) (by kernel_rfl) (.stop fun d => ⟨_, ⟨_, rfl, ⟨none, 0, rfl⟩, ⟨by simp, .inl ⟨rfl, by simp⟩⟩, fun b hb => (o9 b (by omega)).trans (o2 b (by omega)), by show w.heap.size ≤ w9.heap.size; omega⟩, rfl⟩)
def nilA (o : OpV) : Ans :=
  if o.k = 1 then ⟨false, nilE o.a, []⟩ else if o.k = 2 then ⟨false, nilE o.a, []⟩ else if o.k = 3 then ⟨false, nilE o.a, []⟩ else if o.k = 4 then ⟨false, nilE o.a, []⟩ else
  if o.k = 5 then ⟨true, 0, []⟩ else if o.k = 6 then ⟨true, o.a, [-1]⟩ else if o.k = 7 then ⟨true, -1, []⟩ else ⟨false, 0, []⟩
theorem nil_call (hA : ∀ b, Apart V b) (ok oa ob oc : Int) (w : World) : CallW Try.prog main V 30 #[.pointer none, .nilIface, .agg #[.int .i64 ok, .int .i64 oa, .int .i64 ob, .int .i64 oc]] w (NilOf (nilA ⟨ok, oa, ob, oc⟩) w) := by
  unfold nilA
  show CallW Try.prog main V _ _ w (NilOf (if ok = 1 then _ else if ok = 2 then _ else if ok = 3 then _ else if ok = 4 then _ else if ok = 5 then _ else if ok = 6 then _ else if ok = 7 then _ else _) w)
  by_cases h1 : ok = 1
  · rw [if_pos h1]
    subst h1
    exact nil_c1 hA oa ob oc w
  rw [if_neg h1]
  by_cases h2 : ok = 2
  · rw [if_pos h2]
    subst h2
    exact nil_c2 hA oa ob oc w
  rw [if_neg h2]
  by_cases h3 : ok = 3
  · rw [if_pos h3]
    subst h3
    exact nil_c3 hA oa ob oc w
  rw [if_neg h3]
  by_cases h4 : ok = 4
  · rw [if_pos h4]
    subst h4
    exact nil_c4 hA oa ob oc w
  rw [if_neg h4]
  by_cases h5 : ok = 5
  · rw [if_pos h5]
    subst h5
    exact nil_c5 hA oa ob oc w
  rw [if_neg h5]
  by_cases h6 : ok = 6
  · rw [if_pos h6]
    subst h6
    exact nil_c6 hA oa ob oc w
  rw [if_neg h6]
  by_cases h7 : ok = 7
  · rw [if_pos h7]
    subst h7
    exact nil_c7 hA oa ob oc w
  rw [if_neg h7]
  exact nil_c0 hA ok oa ob oc h1 h2 h3 h4 h5 h6 h7 w
end
end
end Go.Proofs.Ytgfajibjedfkdaa
