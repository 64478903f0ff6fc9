/- Part 19. -/
import Derived.Test.YtnnakajldnaldaaK12
import Derived.Test.YtnnakajldnaldaaK18
set_option linter.unusedSimpArgs false
set_option linter.unusedVariables false
set_option maxHeartbeats 8000000
set_option maxRecDepth 100000
namespace Go.Proofs.Ytnnakajldnaldaa
open Go.Conc Go.RowKit Go.Relay
open Go.ConcN (upd upd_ne upd_same)
section
section
variable {main : Bool} {V : Nat → Option Wait} {cb rb m : Nat} {ra : Option Addr} {rc : Nat}
theorem stripesN_w (s : Sp) (w : World) (I : SpI cb rb m ra rc s w) : CallV Try.prog main V 17 #[.pointer (some ⟨cb, 0, none⟩)] w (.int .i64 (m : Nat)) w := by
  have hm := I.pos
  obtain ⟨k, hk⟩ : ∃ k, m = k + 1 := ⟨m - 1, by omega⟩
  have c1 : w.cell? ⟨cb, 1, none⟩ = some (.slice ra k rc) := by
    have h := (cell_of I.hd 1).trans rfl
    rw [hk, Nat.add_sub_cancel] at h
    exact h
  have hw1 : IntKind.wrap .i64 (1 + (k : Int)) = (k : Int) + 1 := by rw [IntKind.wrap_i64]; omega
  have hcc : ((k + 1 : Nat) : Int) = (k : Int) + 1 := by simp
  have hp1 := fun w => run_eql_ptr (P := Try.prog) 35 undCnt (some ⟨cb, 0, none⟩) w
  have hp2 := fun w es => ev_eql_ptr (P := Try.prog) 35 undCnt (some ⟨cb, 0, none⟩) w es
  simp only [Option.isNone_some] at hp1
  subst hk
  rw [hcc]
  clear I hcc
  refine callW_in Try.func17 code17_is fun fr cs => ?_
  simp only [Try.ntmps17, List.size_toArray, List.length_cons, List.length_nil, Nat.reduceAdd, Nat.reduceSub, Array.replicate_succ, Array.replicate_zero, List.push_toArray, List.append_toArray, List.nil_append, List.cons_append]
  repeat (first | refine Walk.c rfl ?_ | refine Walk.cRet ?_ | refine Walk.cEnd ?_ | (refine Walk.cReg ?_; simp only [size17_0, size17_1, size17_2, size17_3, List.range, List.range.loop]) | (refine Walk.oq ?_; try walk_nrm) | (refine Walk.un ?_; walk_nrm))
  exact Walk.ret1 rfl rfl Try.func17 rfl fun d => ⟨rfl, d, rfl⟩
end
theorem stN_idem (sz : Int) : stN ((stN sz : Nat) : Int) = stN sz := by
  obtain ⟨q1, q2, q3⟩ := stN_le sz
  obtain ⟨p1, p2, p3⟩ := stN_le ((stN sz : Nat) : Int)
  omega
theorem spJ_zero (m k : Nat) : spJ (List.replicate m 0) k = sp0 := by
  funext i
  unfold spJ sp0
  split
  · rw [List.getD_eq_getElem?_getD, List.getElem?_replicate]
    split <;> rfl
  · rfl
theorem zeros_in {Z m : Nat} {w : World} (h : w.heap[Z]? = some (.cells (madeCells #[.int .i64 0] (m * 1)) 2)) : SlIn (some ⟨Z, 0, none⟩) (List.replicate m 0) w := fun j z hz => by
  rw [List.getElem?_replicate] at hz
  split at hz
  · rename_i hj
    cases hz
    exact ⟨by decide, Z, 0, rfl, by rw [Nat.zero_add]; exact (cell_of h j).trans (made1 m j (by omega))⟩
  · cases hz
theorem prS_le (m : Nat) (hm : 0 < m) (l : List OpV) : ∀ i, (prS m l i).2 ≤ i * (m + m + 2)
  | 0 => Nat.zero_le _
  | i + 1 => by
    have ih := prS_le m hm l i
    rw [Nat.add_mul, Nat.one_mul]
    cases ho : l[i]? with
    | none =>
      have e : prS m l (i + 1) = prS m l i := by
        unfold prS
        have hl := List.getElem?_eq_none_iff.1 ho
        rw [List.take_of_length_le hl, List.take_of_length_le (by omega)]
      rw [e]; omega
    | some o =>
      rw [prS_succ l i o ho]
      have : (oneS m (prS m l i).1 o).2.2 ≤ m + m + 2 := by
        unfold oneS
        split
        · show 1 ≤ _; omega
        split
        · show m ≤ _; omega
        split
        · show m ≤ _; omega
        split
        · show 2 ≤ _; omega
        split
        · show m + m ≤ _; omega
        · exact Nat.zero_le _
      show (prS m l i).2 + (oneS m (prS m l i).1 o).2.2 ≤ _
      omega
theorem sc_in (sz : Int) (ov : Value) (w : World) : Walk Try.prog true (DR (fun _ => none)) (fun g w' => ∃ fr, g = G (Frame.enter Try.prog 12 #[] .normal) [fr] ∧ (∃ d, w' = w.at d) ∧ ∀ w1 (oa : Option Addr) (n0 tc : Nat) (Y : Array Value → World → Prop), ov = .slice oa n0 tc →
      (∀ (w2 : World) (T : Nat), (∀ b, b < w1.heap.size → w2.heap[b]? = w1.heap[b]?) → w1.heap.size ≤ w2.heap.size → w1.heap.size ≤ T → w2.heap[T]? = some (.cells (madeCells #[.int .i64 0] (stN sz * 1)) 2) → w2.heap[T + 1]? = some (.cells #[ov] 34) → CallW Try.prog true (fun _ => none) 15 #[.slice (some ⟨T, 0, none⟩) (stN sz) (stN sz), .slice (some ⟨T + 1, 0, none⟩) 1 1, .slice none 0 0, .int .i64 1048576] w2 (fun v w' => ∃ x0 x1 x2 x3, v = .agg #[x0, x1, x2, .bool x3] ∧ (#[x0, x1, x2, .bool x3] : Array Value).all (·.oneCell') = true ∧ Y #[x0, x1, x2, .bool x3] w' ∧ (∀ b, b < w1.heap.size → w'.heap[b]? = w1.heap[b]?) ∧ w1.heap.size ≤ w'.heap.size)) →
      Walk Try.prog true (DR (fun _ => none)) (fun g w' => ∃ x0 x1 x2 x3 w3 Q, Y #[x0, x1, x2, .bool x3] w3 ∧ Q = w3.heap.size ∧ (∀ b, b < w1.heap.size → w3.heap[b]? = w1.heap[b]?) ∧ w1.heap.size ≤ w3.heap.size ∧ w'.heap[Q]? = some (.cells #[x0, x1, x2, .bool x3] 31) ∧ (∀ b, b < Q → w'.heap[b]? = w3.heap[b]?) ∧
        ((x3 = true ∧ Closing 4 4 (.bool true) g) ∨ (x3 = false ∧ (∃ u, g = G (hdCal sz ov (stN sz) Q (Q + 1 + 1) (Q + 1 + 2 + 1) (Q + 1 + 2 + 2) 0 u) []) ∧ CalI (Q + 1 + 1) (Q + 1) (some ⟨Q + 1, 0, none⟩) (stN sz - 1) (Q + 1 + 2 + 1) (Q + 1 + 2) (some ⟨Q + 1 + 2, 0, none⟩) (stN sz - 1) (stN sz) (Q + 1 + 2 + 2) sp0 0 w' w'))) (G (fr.finish (.bool true)) []) w1)
    (G (Frame.enter Try.prog 4 #[.int .i64 sz, ov] .normal) []) w := by
  have hmx := @events_max_ints Try.prog
  have hmn := @events_min_ints Try.prog
  obtain ⟨q1, q2, q3⟩ := stN_le sz
  have hq := q3.symm
  clear q3
  generalize hm : stN sz = m at *
  have hiI := Option.some_get (show (Try.prog.info? 2).isSome = true by kernel_rfl)
  rw [enter_at _ Try.func4 code4_is]
  simp only [Try.ntmps4, List.size_toArray, List.length_cons, List.length_nil, Nat.reduceAdd, Nat.reduceSub, Array.replicate_succ, Array.replicate_zero, List.push_toArray, List.append_toArray, List.nil_append, List.cons_append]
  repeat (first | refine Walk.c rfl ?_ | refine Walk.cRet ?_ | refine Walk.cEnd ?_ | (refine Walk.cReg ?_; simp only [size4_0, size4_1, size4_2, size4_3, size4_4, size4_5, size4_6, size4_7, size4_8, size4_9, size4_11, size4_12, size4_13, size4_10, size4_14, size4_15, size4_16, size4_18, size4_17, size4_19, List.range, List.range.loop]) | (refine Walk.oq ?_; try walk_nrm) | (refine Walk.un ?_; walk_nrm))
  refine Walk.callE (ho_of (by conv => lhs; whnf) (by kernel_rfl)) (by rfl) (by decide) rfl Try.func12 (by kernel_rfl) (by rfl) ?_
  walk_nrm
  refine .stop fun d => ⟨_, rfl, ⟨d, rfl⟩, ?_⟩
  rintro w1 oa n0 tc Y rfl hPlay
  refine Walk.finish (ho_of (by conv => lhs; whnf) (by kernel_rfl)) ?_
  walk_nrm
  repeat (first | refine Walk.c rfl ?_ | refine Walk.cRet ?_ | refine Walk.cEnd ?_ | (refine Walk.cReg ?_; simp only [size4_0, size4_1, size4_2, size4_3, size4_4, size4_5, size4_6, size4_7, size4_8, size4_9, size4_11, size4_12, size4_13, size4_10, size4_14, size4_15, size4_16, size4_18, size4_17, size4_19, List.range, List.range.loop]) | (refine Walk.oq ?_; try walk_nrm) | (refine Walk.un ?_; walk_nrm))
  refine Walk.make 22 (.tmp 20) (.tmp 20) (ho_of (by conv => lhs; whnf) (by kernel_rfl)) (by rfl) (by decide) rfl 2 _ (.int .i64 0) 1 8 (by kernel_rfl) hiI.symm (by rfl) (by rfl) (by rfl) m (by rfl) (by rfl) (by omega) (by omega) ?_
  walk_nrm
  have e1 : w1.alloc (.cells (madeCells (Value.int IntKind.i64 0).cells (m * 1)) 2) = w1.alloc (.cells (madeCells #[.int .i64 0] (m * 1)) 2) := rfl
  try rw [e1]
  clear e1
  have s2 : (w1.alloc (.cells (madeCells #[.int .i64 0] (m * 1)) 2)).heap.size = w1.heap.size + 1 := by simp
  have o2 : ∀ b, b < w1.heap.size → (w1.alloc (.cells (madeCells #[.int .i64 0] (m * 1)) 2)).heap[b]? = w1.heap[b]? := fun b hb => heap_new_lt _ _ hb
  have d2 := heap_alloc_new w1 (.cells (madeCells #[.int .i64 0] (m * 1)) 2)
  generalize hT : w1.heap.size = T at *
  generalize w1.alloc (.cells (madeCells #[.int .i64 0] (m * 1)) 2) = x2 at *
  repeat (first | (refine Walk.oq ?_; try walk_nrm) | (refine Walk.un ?_; walk_nrm))
  (refine Walk.oa ?_; try walk_nrm)
  have s3 : (x2.alloc (.cells #[.slice oa n0 tc] 34)).heap.size = T + 2 := by simp [s2]
  have o3 : ∀ b, b < T + 1 → (x2.alloc (.cells #[.slice oa n0 tc] 34)).heap[b]? = x2.heap[b]? := fun b hb => heap_new_lt _ _ (by omega)
  have d3 : (x2.alloc (.cells #[.slice oa n0 tc] 34)).heap[T + 1]? = some (.cells #[.slice oa n0 tc] 34) := s2 ▸ heap_alloc_new x2 (.cells #[.slice oa n0 tc] 34)
  try simp only [s2]
  generalize x2.alloc (.cells #[.slice oa n0 tc] 34) = x3 at *
  have hP := hPlay x3 T (fun b hb => (o3 b (by omega)).trans (o2 b hb)) (by omega) (Nat.le_refl _) ((o3 T (by omega)).trans d2) d3
  clear hPlay d2 d3 s2 s3 o2 o3
  repeat (first | (refine Walk.oq ?_; try walk_nrm) | (refine Walk.un ?_; walk_nrm))
  refine Walk.callW (Post := fun v w' => ∃ x0 x1 x2 x3, v = .agg #[x0, x1, x2, .bool x3] ∧ (#[x0, x1, x2, .bool x3] : Array Value).all (·.oneCell') = true ∧ Y #[x0, x1, x2, .bool x3] w' ∧ (∀ b, b < T → w'.heap[b]? = w1.heap[b]?) ∧ T ≤ w'.heap.size) ?_ (ho_of (by conv => lhs; whnf) (by kernel_rfl)) (by rfl) (by decide) rfl Try.func15 (by kernel_rfl) (by rfl) ?_
  · walk_nrm
    exact hP
  rintro v w3 ⟨y0, y1, y2, y3, rfl, hone, hY, hO3, hZ3⟩
  clear hP
  walk_nrm
  repeat (first | (refine Walk.oq ?_; try walk_nrm) | (refine Walk.un ?_; walk_nrm))
  (refine Walk.oa ?_; try walk_nrm)
  have e4 : w3.alloc (.cells #[.slice none 0 0, .slice none 0 0, .slice none 0 0, .bool false] 31) = w3.alloc zTr := rfl
  try rw [e4]
  clear e4
  have s4 : (w3.alloc zTr).heap.size = w3.heap.size + 1 := by simp
  have o4 : ∀ b, b < w3.heap.size → (w3.alloc zTr).heap[b]? = w3.heap[b]? := fun b hb => heap_new_lt _ _ hb
  have d4 := heap_alloc_new w3 zTr
  generalize hQ : w3.heap.size = Q at *
  generalize w3.alloc zTr = w4 at *
  unfold zTr at d4
  repeat (first | (refine Walk.oq ?_; try walk_nrm) | (refine Walk.un ?_; walk_nrm))
  refine Walk.storeS 31 (.tmp 6) (.tmp 24) (ho_of (by conv => lhs; whnf) (by kernel_rfl)) (by rfl) (by decide) rfl Q #[y0, y1, y2, .bool y3] _ 31 rfl rfl d4 (by kernel_rfl) (by rfl) hone (ap0 _) ?_
  have d5 := setRow_self (cells := #[y0, y1, y2, .bool y3]) d4
  have o5 : ∀ b, b < Q → (w4.setRow Q #[y0, y1, y2, .bool y3]).heap[b]? = w3.heap[b]? := fun b hb => (setRow_other _ _ (by omega)).trans (o4 b hb)
  have s5 := (setRow_size w4 Q #[y0, y1, y2, .bool y3]).trans s4
  clear d4 o4 s4
  generalize w4.setRow Q #[y0, y1, y2, .bool y3] = w5 at *
  walk_nrm
  repeat (first | refine Walk.c rfl ?_ | refine Walk.cRet ?_ | refine Walk.cEnd ?_ | (refine Walk.cReg ?_; simp only [size4_0, size4_1, size4_2, size4_3, size4_4, size4_5, size4_6, size4_7, size4_8, size4_9, size4_11, size4_12, size4_13, size4_10, size4_14, size4_15, size4_16, size4_18, size4_17, size4_19, List.range, List.range.loop]) | (refine Walk.oq ?_; try walk_nrm) | (refine Walk.un ?_; walk_nrm))
  have hn1 := new_w (main := true) (V := fun _ => none) sz w5
  rw [hm, s5] at hn1
  refine Walk.callW (Post := fun v w' => v = .pointer (some ⟨Q + 1 + 1, 0, none⟩) ∧ SpI (Q + 1 + 1) (Q + 1) m (some ⟨Q + 1, 0, none⟩) (m - 1) sp0 w' ∧ (∀ b, b < Q + 1 → w'.heap[b]? = w5.heap[b]?) ∧ w'.heap.size = Q + 1 + 2) ?_ (ho_of (by conv => lhs; whnf) (by kernel_rfl)) (by rfl) (by decide) rfl Try.func16 (by kernel_rfl) (by rfl) ?_
  · walk_nrm
    exact hn1
  rintro v w6 ⟨rfl, I6, O6, Z6⟩
  clear hn1
  walk_nrm
  repeat (first | (refine Walk.oq ?_; try walk_nrm) | (refine Walk.un ?_; walk_nrm))
  have hn1 := new_w (main := true) (V := fun _ => none) sz w6
  rw [hm, Z6] at hn1
  refine Walk.callW (Post := fun v w' => v = .pointer (some ⟨Q + 1 + 2 + 1, 0, none⟩) ∧ SpI (Q + 1 + 2 + 1) (Q + 1 + 2) m (some ⟨Q + 1 + 2, 0, none⟩) (m - 1) sp0 w' ∧ (∀ b, b < Q + 1 + 2 → w'.heap[b]? = w6.heap[b]?) ∧ w'.heap.size = Q + 1 + 2 + 2) ?_ (ho_of (by conv => lhs; whnf) (by kernel_rfl)) (by rfl) (by decide) rfl Try.func16 (by kernel_rfl) (by rfl) ?_
  · walk_nrm
    exact hn1
  rintro v w7 ⟨rfl, I7, O7, Z7⟩
  clear hn1
  walk_nrm
  repeat (first | (refine Walk.oq ?_; try walk_nrm) | (refine Walk.un ?_; walk_nrm))
  (refine Walk.oa ?_; try walk_nrm)
  have s8 : (w7.alloc (.cells #[.int .i64 0] 39)).heap.size = Q + 1 + 2 + 3 := by simp [Z7]
  have o8 : ∀ b, b < Q + 1 + 2 + 2 → (w7.alloc (.cells #[.int .i64 0] 39)).heap[b]? = w7.heap[b]? := fun b hb => heap_new_lt _ _ (by omega)
  have d8 : (w7.alloc (.cells #[.int .i64 0] 39)).heap[Q + 1 + 2 + 2]? = some (.cells #[.int .i64 0] 39) := Z7 ▸ heap_alloc_new w7 (.cells #[.int .i64 0] 39)
  try simp only [Z7]
  generalize w7.alloc (.cells #[.int .i64 0] 39) = w8 at *
  have I6' : SpI (Q + 1 + 1) (Q + 1) m (some ⟨Q + 1, 0, none⟩) (m - 1) sp0 w8 := I6.old fun b hb => (o8 b (by omega)).trans (O7 b (by omega))
  have I7' : SpI (Q + 1 + 2 + 1) (Q + 1 + 2) m (some ⟨Q + 1 + 2, 0, none⟩) (m - 1) sp0 w8 := I7.old fun b hb => o8 b (by omega)
  have low : ∀ b, b < Q + 1 → w8.heap[b]? = w5.heap[b]? := fun b hb => (o8 b (by omega)).trans ((O7 b (by omega)).trans (O6 b hb))
  have dQ : w8.heap[Q]? = some (.cells #[y0, y1, y2, .bool y3] 31) := (low Q (by omega)).trans d5
  have lowQ : ∀ b, b < Q → w8.heap[b]? = w3.heap[b]? := fun b hb => (low b (by omega)).trans (o5 b hb)
  have hsn := stripesN_w (main := true) (V := fun _ => none) sp0 w8 I6'
  have cal : CalI (Q + 1 + 1) (Q + 1) (some ⟨Q + 1, 0, none⟩) (m - 1) (Q + 1 + 2 + 1) (Q + 1 + 2) (some ⟨Q + 1 + 2, 0, none⟩) (m - 1) m (Q + 1 + 2 + 2) sp0 0 w8 w8 := ⟨I6', I7', d8, fun _ _ _ => rfl, Nat.le_refl _⟩
  have c3 : w8.cell? ⟨Q, 3, none⟩ = some (.bool y3) := (cell_of dQ 3).trans rfl
  have hp1 := fun w => run_eql_ptr (P := Try.prog) 35 undCnt (some ⟨Q + 1 + 1, 0, none⟩) w
  have hp2 := fun w es => ev_eql_ptr (P := Try.prog) 35 undCnt (some ⟨Q + 1 + 1, 0, none⟩) w es
  have hp3 := fun w => run_eql_ptr (P := Try.prog) 35 undCnt (some ⟨Q + 1 + 2 + 1, 0, none⟩) w
  have hp4 := fun w es => ev_eql_ptr (P := Try.prog) 35 undCnt (some ⟨Q + 1 + 2 + 1, 0, none⟩) w es
  simp only [Option.isNone_some] at hp1 hp3
  have hmm : ((m : Int) != m) = false := by simp
  clear I6 I7 O6 O7 o8 d8 I6' I7' low d5 o5 s5 s8 Z6 Z7 hone hmx hmn hq
  try walk_nrm
  repeat (first | refine Walk.c rfl ?_ | refine Walk.cRet ?_ | refine Walk.cEnd ?_ | (refine Walk.cReg ?_; simp only [size4_0, size4_1, size4_2, size4_3, size4_4, size4_5, size4_6, size4_7, size4_8, size4_9, size4_11, size4_12, size4_13, size4_10, size4_14, size4_15, size4_16, size4_18, size4_17, size4_19, List.range, List.range.loop]) | (refine Walk.oq ?_; try walk_nrm) | (refine Walk.un ?_; walk_nrm))
  refine Walk.callV (x := .int .i64 (m : Nat)) (W := w8) ?_ (ho_of (by conv => lhs; whnf) (by kernel_rfl)) (by rfl) (by decide) rfl Try.func17 (by kernel_rfl) (by rfl) ?_
  · walk_nrm
    exact hsn
  clear hsn
  walk_nrm
  cases y3 with
  | true =>
    repeat (first | refine Walk.c rfl ?_ | refine Walk.cRet ?_ | refine Walk.cEnd ?_ | (refine Walk.cReg ?_; simp only [size4_0, size4_1, size4_2, size4_3, size4_4, size4_5, size4_6, size4_7, size4_8, size4_9, size4_11, size4_12, size4_13, size4_10, size4_14, size4_15, size4_16, size4_18, size4_17, size4_19, List.range, List.range.loop]) | (refine Walk.oq ?_; try walk_nrm) | (refine Walk.un ?_; walk_nrm))
    exact .stop fun d => ⟨y0, y1, y2, true, w3, Q, hY, hQ.symm, hO3, by omega, dQ, lowQ, .inl ⟨rfl, ⟨_, rfl, rfl, rfl, rfl, rfl, rfl⟩⟩⟩
  | false =>
    repeat (first | refine Walk.c rfl ?_ | refine Walk.cRet ?_ | refine Walk.cEnd ?_ | (refine Walk.cReg ?_; simp only [size4_0, size4_1, size4_2, size4_3, size4_4, size4_5, size4_6, size4_7, size4_8, size4_9, size4_11, size4_12, size4_13, size4_10, size4_14, size4_15, size4_16, size4_18, size4_17, size4_19, List.range, List.range.loop]) | (refine Walk.oq ?_; try walk_nrm) | (refine Walk.un ?_; walk_nrm))
    refine Walk.ctl rfl (fun w => stepG_loop) ?_
    refine .stop fun d => ⟨y0, y1, y2, false, w3, Q, hY, hQ.symm, hO3, by omega, dQ, lowQ, .inr ⟨rfl, at_slots ?_, cal.at d |> fun h => ⟨h.ik, h.il, h.cn, fun _ _ _ => rfl, Nat.le_refl _⟩⟩⟩
    simp only [hdCal]
    rfl
end
end Go.Proofs.Ytnnakajldnaldaa
