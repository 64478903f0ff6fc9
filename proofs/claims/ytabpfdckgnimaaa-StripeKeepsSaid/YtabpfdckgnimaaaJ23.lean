/- Part 23. -/
import Derived.Test.YtabpfdckgnimaaaJ4
import Derived.Test.YtabpfdckgnimaaaJ14
import Derived.Test.YtabpfdckgnimaaaJ17
import Derived.Test.YtabpfdckgnimaaaJ18
import Derived.Test.YtabpfdckgnimaaaJ22
set_option linter.unusedSimpArgs false
set_option linter.unusedVariables false
set_option linter.unusedVariables false
set_option maxHeartbeats 8000000
set_option maxRecDepth 100000
namespace Go.Proofs.Ytabpfdckgnimaaa
open Go.Conc Go.RowKit Go.Relay
open Go.ConcN (upd upd_ne upd_same)
section
theorem undCnt : Try.prog.underlying 42 = some (.pointer 61) := by kernel_rfl
structure FxT (X b o ac b0 o0 tc0 : Nat) (v1 v2 : Value) (k : Bool) (w : World) : Prop where
  x : w.heap[X]? = some (.cells (trC (.slice (some ⟨b, o, none⟩) 2 ac) v1 v2 k) 31)
  a0 : w.cell? ⟨b, o, none⟩ = some (.slice (some ⟨b0, o0, none⟩) 1 tc0)
  n0 : w.cell? ⟨b0, o0 + 1, none⟩ = some (.int .i64 1)
theorem FxT.old {X b o ac b0 o0 tc0 : Nat} {v1 v2 : Value} {k : Bool} {w w' : World} (H : FxT X b o ac b0 o0 tc0 v1 v2 k w) (h : ∀ b, b < w.heap.size → w'.heap[b]? = w.heap[b]?) : FxT X b o ac b0 o0 tc0 v1 v2 k w' := by
  have hc : ∀ {b j : Nat} {v : Value}, w.cell? ⟨b, j, none⟩ = some v → w'.cell? ⟨b, j, none⟩ = some v := fun {b j v} e => (World.cell?_of_block (a := ⟨b, j, none⟩) (h b (cell_lt' e))).trans e
  exact ⟨(h X (Array.getElem?_eq_some_iff.1 H.x).1).trans H.x, hc H.a0, hc H.n0⟩
noncomputable def reg4_0 := rg Try.f4.body [0]
noncomputable def reg4_1 := rg Try.f4.body [1, 0]
noncomputable def reg4_2 := rg Try.f4.body [1, 1, 0]
noncomputable def reg4_3 := rg Try.f4.body [1, 1, 1, 0]
noncomputable def reg4_4 := rg Try.f4.body [1, 1, 1, 1, 0]
noncomputable def reg4_5 := rg Try.f4.body [1, 1, 1, 1, 1, 0, 0]
noncomputable def reg4_6 := rg Try.f4.body [1, 1, 1, 1, 1, 0, 1, 0, 0]
noncomputable def reg4_7 := rg Try.f4.body [1, 1, 1, 1, 1, 1, 0]
noncomputable def reg4_8 := rg Try.f4.body [1, 1, 1, 1, 1, 1, 1, 0]
theorem z4 : List.range reg4_0.size = [0] ∧ List.range reg4_1.size = [0, 1] ∧ List.range reg4_2.size = [0, 1, 2, 3] ∧ List.range reg4_3.size = [0, 1, 2, 3, 4, 5, 6, 7, 8] ∧ List.range reg4_4.size = [0, 1, 2, 3, 4, 5, 6, 7, 8] ∧ List.range reg4_5.size = [0, 1, 2, 3, 4, 5, 6, 7, 8, 9, 10, 11, 12, 13, 14, 15, 16, 17, 18, 19, 20, 21, 22, 23, 24, 25, 26, 27, 28, 29, 30, 31, 32, 33, 34, 35, 36, 37, 38, 39, 40, 41, 42, 43, 44, 45, 46, 47, 48, 49, 50, 51, 52, 53, 54] ∧ List.range reg4_6.size = [0] ∧ List.range reg4_7.size = [0, 1] ∧ List.range reg4_8.size = [0, 1, 2, 3, 4, 5, 6, 7, 8, 9, 10, 11, 12, 13, 14, 15, 16, 17, 18, 19, 20, 21, 22, 23, 24, 25, 26, 27] := by refine ⟨?_, ?_, ?_, ?_, ?_, ?_, ?_, ?_, ?_⟩ <;> kernel_rfl
theorem code4_is : Try.f4.body = some (.seq (.region 0 reg4_0 false) (.seq (.region 1 reg4_1 false) (.seq (.region 2 reg4_2 false) (.seq (.region 3 reg4_3 false) (.seq (.region 4 reg4_4 false) (.seq (.seq (.region 5 reg4_5 false) (.cond (.tmp 78 ) (.seq (.region 6 reg4_6 false) (.ret)) (.skip))) (.seq (.region 7 reg4_7 false) (.seq (.region 8 reg4_8 false) (.ret))))))))) := by kernel_rfl
def zTr' : Obj := .cells #[.slice none 0 0, .slice none 0 0, .slice none 0 0, .bool false] 31
def FxBack2 (X b o ac b0 o0 tc0 : Nat) (v1 v2 : Value) (k : Bool) (fr c : Frame) (cs : List Frame) : Prop := ∀ (cells : Array Value) (F : Nat → List Ans) (ord : List Nat) (sts : List Int) (k2 : Bool) (w : World), FxT X b o ac b0 o0 tc0 v1 v2 k w → TrA cells 2 F ord sts k2 w → F 0 = [⟨false, 0, []⟩] →
  Walk Try.prog true (DR (fun _ => none)) (fun g w' => g = G (c.finish (.bool true)) cs ∧ (∀ b, b < w.heap.size → w'.heap[b]? = w.heap[b]?) ∧ w.heap.size ≤ w'.heap.size) (G (fr.finish (.agg cells)) (c :: cs)) w
def FxBack1 (T : Nat) (fr c : Frame) (cs : List Frame) : Prop := ∀ (cells : Array Value) (F : Nat → List Ans) (ord : List Nat) (sts : List Int) (k : Bool) (w : World), TrA cells 2 F ord sts k w → F 0 = [⟨true, 1, []⟩] → w.heap[T]? = some (.cells fxZ 2) → w.heap[T + 1]? = some (.cells fxB 34) →
  Walk Try.prog true (DR (fun _ => none)) (fun g w' => ∃ fr2 b o ac b0 o0 tc0 v1 v2, g = G (Frame.enter Try.prog 5 #[.slice (some ⟨T, 0, none⟩) 2 2, .slice (some ⟨w.heap.size + 2, 0, none⟩) 2 2, .slice (some ⟨w.heap.size + 3, 0, none⟩) fySl.length 5, .int .i64 99] .normal) (fr2 :: c :: cs) ∧ (∀ b, b < w.heap.size → w'.heap[b]? = w.heap[b]?) ∧ w.heap.size ≤ w'.heap.size ∧
      FxT w.heap.size b o ac b0 o0 tc0 v1 v2 k w' ∧ w'.heap[T]? = some (.cells fxZ 2) ∧ OpsIn (w.heap.size + 2) 0 2 (fxOa (w.heap.size + 1) (T + 1)) fxL fxL (fkOps 5) w' ∧ (∀ (j : Nat) (z : Int), fySl[j]? = some z → w'.cell? ⟨w.heap.size + 3, 0 + j, none⟩ = some (.int .i64 z)) ∧ FxBack2 w.heap.size b o ac b0 o0 tc0 v1 v2 k fr2 c cs) (G (fr.finish (.agg cells)) (c :: cs)) w
section
variable {c : Frame} {cs : List Frame}
theorem fixed_in (c : Frame) (cs : List Frame) (w : World) :
    Walk Try.prog true (DR (fun _ => none)) (fun g w' => ∃ fr, g = G (Frame.enter Try.prog 5 #[.slice (some ⟨w.heap.size, 0, none⟩) 2 2, .slice (some ⟨w.heap.size + 3, 0, none⟩) 2 2, .slice (some ⟨w.heap.size + 4, 0, none⟩) fxSl.length 4, .int .i64 99] .normal) (fr :: c :: cs) ∧ (∀ b, b < w.heap.size → w'.heap[b]? = w.heap[b]?) ∧ w.heap.size ≤ w'.heap.size ∧
        w'.heap[w.heap.size]? = some (.cells fxZ 2) ∧ w'.heap[w.heap.size + 1]? = some (.cells fxB 34) ∧ OpsIn (w.heap.size + 3) 0 2 (fxOa (w.heap.size + 2) (w.heap.size + 1)) fxL fxL (fkOps 2) w' ∧ (∀ (j : Nat) (z : Int), fxSl[j]? = some z → w'.cell? ⟨w.heap.size + 4, 0 + j, none⟩ = some (.int .i64 z)) ∧ FxBack1 w.heap.size fr c cs)
      (G (Frame.enter Try.prog 4 #[] .normal) (c :: cs)) w := by
  have hA : ∀ b, Apart (fun _ => none) b := fun b => ⟨fun _ _ _ _ h => (by cases h), fun _ _ h => (by cases h)⟩
  rw [enter_at _ Try.func4 code4_is]
  simp only [Try.ntmps4, ez, Nat.reduceAdd, Nat.reduceSub]
  repeat (first | refine Walk.cx ?_ | (refine Walk.cReg ?_; simp only [z4]) | (refine Walk.oq ?_; try walk_nrm) | (refine Walk.un ?_; walk_nrm))
  (refine Walk.oa ?_; try walk_nrm)
  have s1 : (w.alloc (.cells fxZ 2)).heap.size = w.heap.size + 1 := by simp
  have o1 : ∀ b, b < w.heap.size → (w.alloc (.cells fxZ 2)).heap[b]? = w.heap[b]? := fun b hb => heap_new_lt _ _ hb
  have d1 := heap_alloc_new w (.cells fxZ 2)
  generalize hT : w.heap.size = T at *
  change Walk Try.prog true _ _ _ (w.alloc (.cells fxZ 2))
  generalize w.alloc (.cells fxZ 2) = x1 at *
  repeat (first | refine Walk.cx ?_ | (refine Walk.cReg ?_; simp only [z4]) | (refine Walk.oq ?_; try walk_nrm) | (refine Walk.un ?_; walk_nrm))
  (refine Walk.oa ?_; try walk_nrm)
  have s2 : (x1.alloc (.cells fxB 34)).heap.size = T + 2 := by simp [s1]
  have o2 : ∀ b, b < T + 1 → (x1.alloc (.cells fxB 34)).heap[b]? = x1.heap[b]? := fun b hb => heap_new_lt _ _ (by omega)
  have d2 : (x1.alloc (.cells fxB 34)).heap[T + 1]? = some (.cells fxB 34) := s1 ▸ heap_alloc_new x1 (.cells fxB 34)
  try simp only [s1]
  change Walk Try.prog true _ _ _ (x1.alloc (.cells fxB 34))
  generalize x1.alloc (.cells fxB 34) = x2 at *
  repeat (first | refine Walk.cx ?_ | (refine Walk.cReg ?_; simp only [z4]) | (refine Walk.oq ?_; try walk_nrm) | (refine Walk.un ?_; walk_nrm))
  (refine Walk.oa ?_; try walk_nrm)
  have s3 : (x2.alloc (.cells (fxA 2) 34)).heap.size = T + 3 := by simp [s2]
  have o3 : ∀ b, b < T + 2 → (x2.alloc (.cells (fxA 2) 34)).heap[b]? = x2.heap[b]? := fun b hb => heap_new_lt _ _ (by omega)
  have d3 : (x2.alloc (.cells (fxA 2) 34)).heap[T + 2]? = some (.cells (fxA 2) 34) := s2 ▸ heap_alloc_new x2 (.cells (fxA 2) 34)
  try simp only [s2]
  change Walk Try.prog true _ _ _ (x2.alloc (.cells (fxA 2) 34))
  generalize x2.alloc (.cells (fxA 2) 34) = x3 at *
  repeat (first | refine Walk.cx ?_ | (refine Walk.cReg ?_; simp only [z4]) | (refine Walk.oq ?_; try walk_nrm) | (refine Walk.un ?_; walk_nrm))
  (refine Walk.oa ?_; try walk_nrm)
  have s4 : (x3.alloc (.cells (fxH (T + 2) (T + 1)) 28)).heap.size = T + 4 := by simp [s3]
  have o4 : ∀ b, b < T + 3 → (x3.alloc (.cells (fxH (T + 2) (T + 1)) 28)).heap[b]? = x3.heap[b]? := fun b hb => heap_new_lt _ _ (by omega)
  have d4 : (x3.alloc (.cells (fxH (T + 2) (T + 1)) 28)).heap[T + 3]? = some (.cells (fxH (T + 2) (T + 1)) 28) := s3 ▸ heap_alloc_new x3 (.cells (fxH (T + 2) (T + 1)) 28)
  try simp only [s3]
  change Walk Try.prog true _ _ _ (x3.alloc (.cells (fxH (T + 2) (T + 1)) 28))
  generalize x3.alloc (.cells (fxH (T + 2) (T + 1)) 28) = x4 at *
  repeat (first | refine Walk.cx ?_ | (refine Walk.cReg ?_; simp only [z4]) | (refine Walk.oq ?_; try walk_nrm) | (refine Walk.un ?_; walk_nrm))
  (refine Walk.oa ?_; try walk_nrm)
  have s5 : (x4.alloc (.cells #[.int .i64 0, .int .i64 1, .int .i64 1, .int .i64 0] 3)).heap.size = T + 5 := by simp [s4]
  have o5 : ∀ b, b < T + 4 → (x4.alloc (.cells #[.int .i64 0, .int .i64 1, .int .i64 1, .int .i64 0] 3)).heap[b]? = x4.heap[b]? := fun b hb => heap_new_lt _ _ (by omega)
  have d5 : (x4.alloc (.cells #[.int .i64 0, .int .i64 1, .int .i64 1, .int .i64 0] 3)).heap[T + 4]? = some (.cells #[.int .i64 0, .int .i64 1, .int .i64 1, .int .i64 0] 3) := s4 ▸ heap_alloc_new x4 (.cells #[.int .i64 0, .int .i64 1, .int .i64 1, .int .i64 0] 3)
  try simp only [s4]
  generalize x4.alloc (.cells #[.int .i64 0, .int .i64 1, .int .i64 1, .int .i64 0] 3) = x5 at *
  repeat (first | refine Walk.cx ?_ | (refine Walk.cReg ?_; simp only [z4]) | (refine Walk.oq ?_; try walk_nrm) | (refine Walk.un ?_; walk_nrm))
  refine Walk.callE (ho_of (by conv => lhs; whnf) (by kernel_rfl)) (by rfl) (by decide) rfl Try.func5 (by kernel_rfl) (by rfl) ?_
  walk_nrm
  refine .stop fun d => ⟨_, rfl, fun b hb => ?_, ?_, ?_, ?_, fx_ops ?_ ?_ ?_, fun j z hz => ?_, ?_⟩
  · exact (o5 b (by omega)).trans ((o4 b (by omega)).trans ((o3 b (by omega)).trans ((o2 b (by omega)).trans (o1 b (by omega)))))
  · show T ≤ x5.heap.size
    omega
  · exact (o5 T (by omega)).trans ((o4 T (by omega)).trans ((o3 T (by omega)).trans ((o2 T (by omega)).trans d1)))
  · exact (o5 _ (by omega)).trans ((o4 _ (by omega)).trans ((o3 _ (by omega)).trans d2))
  · exact (o5 _ (by omega)).trans ((o4 _ (by omega)).trans d3)
  · exact (o5 _ (by omega)).trans ((o4 _ (by omega)).trans ((o3 _ (by omega)).trans d2))
  · exact (o5 _ (by omega)).trans d4
  · rw [Nat.zero_add]
    refine (cell_of (w := x5) d5 j).trans ?_
    have h : (fxSl.map (Value.int .i64))[j]? = some (.int .i64 z) := by rw [List.getElem?_map, hz]; rfl
    simpa [fxSl] using h
  · clear d1 d2 d3 d4 d5 s1 s2 s3 s4 s5 o1 o2 o3 o4 o5
    intro cells F ord sts k w6 hTr hF0 hz6 hb6
    obtain ⟨aa, ac, oa, oc, sa, sc, rfl, n1, n2, n3⟩ := hTr.all
    obtain ⟨b, o, ta0, tc0, rfl, a0, A0⟩ := n3 0 (by decide)
    rw [hF0] at a0 A0
    obtain ⟨b0, o0, la, lc, rfl, k0, v0, _⟩ := A0 0 _ rfl
    simp only [Nat.zero_mul, Nat.add_zero, List.length_cons, List.length_nil, Nat.zero_add] at a0 k0 v0
    generalize ord.length = ol at *
    generalize sts.length = sl' at *
    simp only [trC]
    refine Walk.finish (ho_of (by conv => lhs; whnf) (by kernel_rfl)) ?_
    walk_nrm
    (refine Walk.oa ?_; try walk_nrm)
    have s7 : (w6.alloc zTr').heap.size = w6.heap.size + 1 := by simp
    have o7 : ∀ b, b < w6.heap.size → (w6.alloc zTr').heap[b]? = w6.heap[b]? := fun b hb => heap_new_lt _ _ hb
    have d7 := heap_alloc_new w6 zTr'
    have e7 : w6.alloc (.cells #[.slice none 0 0, .slice none 0 0, .slice none 0 0, .bool false] 31) = w6.alloc zTr' := rfl
    try rw [e7]
    clear e7
    have l1 := cell_lt' a0
    have l2 := cell_lt' v0
    have l3 := (Array.getElem?_eq_some_iff.1 hz6).1
    have l4 := (Array.getElem?_eq_some_iff.1 hb6).1
    generalize hT1 : w6.heap.size = T1 at *
    generalize w6.alloc zTr' = w7 at *
    unfold zTr' at d7
    refine Walk.storeS 31 (.tmp 3) (.tmp 16) (ho_of (by conv => lhs; whnf) (by kernel_rfl)) (by rfl) (by decide) rfl T1 #[.slice (some ⟨b, o, none⟩) 2 ac, .slice oa ol oc, .slice sa sl' sc, .bool k] _ 31 rfl rfl d7 (by kernel_rfl) (by rfl) (by simp [Value.oneCell']) (hA _) ?_
    have d8 := setRow_self (cells := #[.slice (some ⟨b, o, none⟩) 2 ac, .slice oa ol oc, .slice sa sl' sc, .bool k]) d7
    have o8 : ∀ x, x < T1 → (w7.setRow T1 #[.slice (some ⟨b, o, none⟩) 2 ac, .slice oa ol oc, .slice sa sl' sc, .bool k]).heap[x]? = w6.heap[x]? := fun x hx => (setRow_other _ _ (by omega)).trans (o7 x hx)
    have s8 := setRow_size w7 T1 #[.slice (some ⟨b, o, none⟩) 2 ac, .slice oa ol oc, .slice sa sl' sc, .bool k]
    rw [s7] at s8
    generalize w7.setRow T1 #[.slice (some ⟨b, o, none⟩) 2 ac, .slice oa ol oc, .slice sa sl' sc, .bool k] = w8 at *
    have C8 : FxT T1 b o ac b0 o0 tc0 (.slice oa ol oc) (.slice sa sl' sc) k w8 := ⟨d8, (World.cell?_of_block (a := ⟨b, o, none⟩) (o8 b (by omega))).trans a0, (World.cell?_of_block (a := ⟨b0, o0 + 1, none⟩) (o8 b0 (by omega))).trans v0⟩
    have z8 := (o8 T (by omega)).trans hz6
    have b8 := (o8 (T + 1) (by omega)).trans hb6
    clear n1 n2 n3 A0 a0 k0 v0 d7 d8 hTr s7 o7 hz6 hb6
    try walk_nrm
    repeat (first | refine Walk.cx ?_ | (refine Walk.cReg ?_; simp only [z4]) | (refine Walk.oq ?_; try walk_nrm) | (refine Walk.un ?_; walk_nrm))
    (refine Walk.oa ?_; try walk_nrm)
    have s9 : (w8.alloc (.cells (fxA 5) 34)).heap.size = T1 + 2 := by simp [s8]
    have o9 : ∀ b, b < T1 + 1 → (w8.alloc (.cells (fxA 5) 34)).heap[b]? = w8.heap[b]? := fun b hb => heap_new_lt _ _ (by omega)
    have d9 : (w8.alloc (.cells (fxA 5) 34)).heap[T1 + 1]? = some (.cells (fxA 5) 34) := s8 ▸ heap_alloc_new w8 (.cells (fxA 5) 34)
    try simp only [s8]
    change Walk Try.prog true _ _ _ (w8.alloc (.cells (fxA 5) 34))
    generalize w8.alloc (.cells (fxA 5) 34) = w9 at *
    repeat (first | refine Walk.cx ?_ | (refine Walk.cReg ?_; simp only [z4]) | (refine Walk.oq ?_; try walk_nrm) | (refine Walk.un ?_; walk_nrm))
    (refine Walk.oa ?_; try walk_nrm)
    have s10 : (w9.alloc (.cells (fxH (T1 + 1) (T + 1)) 28)).heap.size = T1 + 3 := by simp [s9]
    have o10 : ∀ b, b < T1 + 2 → (w9.alloc (.cells (fxH (T1 + 1) (T + 1)) 28)).heap[b]? = w9.heap[b]? := fun b hb => heap_new_lt _ _ (by omega)
    have d10 : (w9.alloc (.cells (fxH (T1 + 1) (T + 1)) 28)).heap[T1 + 2]? = some (.cells (fxH (T1 + 1) (T + 1)) 28) := s9 ▸ heap_alloc_new w9 (.cells (fxH (T1 + 1) (T + 1)) 28)
    try simp only [s9]
    change Walk Try.prog true _ _ _ (w9.alloc (.cells (fxH (T1 + 1) (T + 1)) 28))
    generalize w9.alloc (.cells (fxH (T1 + 1) (T + 1)) 28) = w10 at *
    repeat (first | refine Walk.cx ?_ | (refine Walk.cReg ?_; simp only [z4]) | (refine Walk.oq ?_; try walk_nrm) | (refine Walk.un ?_; walk_nrm))
    (refine Walk.oa ?_; try walk_nrm)
    have s11 : (w10.alloc (.cells #[.int .i64 0, .int .i64 1, .int .i64 1, .int .i64 0, .int .i64 0] 3)).heap.size = T1 + 4 := by simp [s10]
    have o11 : ∀ b, b < T1 + 3 → (w10.alloc (.cells #[.int .i64 0, .int .i64 1, .int .i64 1, .int .i64 0, .int .i64 0] 3)).heap[b]? = w10.heap[b]? := fun b hb => heap_new_lt _ _ (by omega)
    have d11 : (w10.alloc (.cells #[.int .i64 0, .int .i64 1, .int .i64 1, .int .i64 0, .int .i64 0] 3)).heap[T1 + 3]? = some (.cells #[.int .i64 0, .int .i64 1, .int .i64 1, .int .i64 0, .int .i64 0] 3) := s10 ▸ heap_alloc_new w10 (.cells #[.int .i64 0, .int .i64 1, .int .i64 1, .int .i64 0, .int .i64 0] 3)
    try simp only [s10]
    generalize w10.alloc (.cells #[.int .i64 0, .int .i64 1, .int .i64 1, .int .i64 0, .int .i64 0] 3) = w11 at *
    repeat (first | refine Walk.cx ?_ | (refine Walk.cReg ?_; simp only [z4]) | (refine Walk.oq ?_; try walk_nrm) | (refine Walk.un ?_; walk_nrm))
    refine Walk.callE (ho_of (by conv => lhs; whnf) (by kernel_rfl)) (by rfl) (by decide) rfl Try.func5 (by kernel_rfl) (by rfl) ?_
    walk_nrm
    have up : ∀ b, b < T1 + 1 → w11.heap[b]? = w8.heap[b]? := fun b hb => (o11 b (by omega)).trans ((o10 b (by omega)).trans (o9 b (by omega)))
    refine .stop fun d => ⟨_, b, o, ac, b0, o0, tc0, .slice oa ol oc, .slice sa sl' sc, rfl, fun b hb => (up b (by omega)).trans (o8 b (by omega)), ?_, C8.old fun b hb => up b (by omega), (up T (by omega)).trans z8, fx_ops ?_ ?_ ?_, fun j z hz => ?_, ?_⟩
    · show T1 ≤ w11.heap.size
      omega
    · exact (o11 _ (by omega)).trans ((o10 _ (by omega)).trans d9)
    · exact (up (T + 1) (by omega)).trans b8
    · exact (o11 _ (by omega)).trans d10
    · rw [Nat.zero_add]
      refine (cell_of (w := w11) d11 j).trans ?_
      have h : (fySl.map (Value.int .i64))[j]? = some (.int .i64 z) := by rw [List.getElem?_map, hz]; rfl
      simpa [fySl] using h
    · clear d9 d10 d11 s8 s9 s10 s11 o8 o9 o10 o11 up C8 z8 b8
      intro cells F ord sts k2 w12 C12 hTr hF0
      obtain ⟨aa, ac', oa', oc', sa', sc', rfl, n1, n2, n3⟩ := hTr.all
      obtain ⟨b', o', ta0, tc0', rfl, a0', A0⟩ := n3 0 (by decide)
      rw [hF0] at a0' A0
      obtain ⟨b0', o0', la', lc', rfl, k0', v0', _⟩ := A0 0 _ rfl
      simp only [Nat.zero_mul, Nat.add_zero, List.length_cons, List.length_nil, Nat.zero_add] at a0' k0' v0'
      generalize ord.length = ol' at *
      generalize sts.length = sl2 at *
      simp only [trC]
      refine Walk.finish (ho_of (by conv => lhs; whnf) (by kernel_rfl)) ?_
      walk_nrm
      (refine Walk.oa ?_; try walk_nrm)
      have s13 : (w12.alloc zTr').heap.size = w12.heap.size + 1 := by simp
      have o13 : ∀ b, b < w12.heap.size → (w12.alloc zTr').heap[b]? = w12.heap[b]? := fun b hb => heap_new_lt _ _ hb
      have d13 := heap_alloc_new w12 zTr'
      have e13 : w12.alloc (.cells #[.slice none 0 0, .slice none 0 0, .slice none 0 0, .bool false] 31) = w12.alloc zTr' := rfl
      try rw [e13]
      clear e13
      have l1' := cell_lt' a0'
      have l2' := cell_lt' v0'
      generalize hT2 : w12.heap.size = T2 at *
      generalize w12.alloc zTr' = w13 at *
      unfold zTr' at d13
      refine Walk.storeS 31 (.tmp 4) (.tmp 23) (ho_of (by conv => lhs; whnf) (by kernel_rfl)) (by rfl) (by decide) rfl T2 #[.slice (some ⟨b', o', none⟩) 2 ac', .slice oa' ol' oc', .slice sa' sl2 sc', .bool k2] _ 31 rfl rfl d13 (by kernel_rfl) (by rfl) (by simp [Value.oneCell']) (hA _) ?_
      have d14 := setRow_self (cells := #[.slice (some ⟨b', o', none⟩) 2 ac', .slice oa' ol' oc', .slice sa' sl2 sc', .bool k2]) d13
      have o14 : ∀ x, x < T2 → (w13.setRow T2 #[.slice (some ⟨b', o', none⟩) 2 ac', .slice oa' ol' oc', .slice sa' sl2 sc', .bool k2]).heap[x]? = w12.heap[x]? := fun x hx => (setRow_other _ _ (by omega)).trans (o13 x hx)
      have s14 := setRow_size w13 T2 #[.slice (some ⟨b', o', none⟩) 2 ac', .slice oa' ol' oc', .slice sa' sl2 sc', .bool k2]
      rw [s13] at s14
      generalize w13.setRow T2 #[.slice (some ⟨b', o', none⟩) 2 ac', .slice oa' ol' oc', .slice sa' sl2 sc', .bool k2] = w14 at *
      have C14 := C12.old (w' := w14) fun b hb => o14 b (by omega)
      have x0 : w14.cell? ⟨T1, 0, none⟩ = some (.slice (some ⟨b, o, none⟩) 2 ac) := (cell_of C14.x 0).trans rfl
      have x1 := C14.a0
      have x2 := C14.n0
      have y0 : w14.cell? ⟨T2, 0, none⟩ = some (.slice (some ⟨b', o', none⟩) 2 ac') := (cell_of d14 0).trans rfl
      have y1 : w14.cell? ⟨b', o', none⟩ = some (.slice (some ⟨b0', o0', none⟩) 1 tc0') := (World.cell?_of_block (a := ⟨b', o', none⟩) (o14 b' (by omega))).trans a0'
      have y2 : w14.cell? ⟨b0', o0', none⟩ = some (.bool false) := (World.cell?_of_block (a := ⟨b0', o0', none⟩) (o14 b0' (by omega))).trans k0'
      have y3 : w14.cell? ⟨b0', o0' + 1, none⟩ = some (.int .i64 0) := (World.cell?_of_block (a := ⟨b0', o0' + 1, none⟩) (o14 b0' (by omega))).trans v0'
      clear n1 n2 n3 A0 a0' k0' v0' d13 d14 hTr s13 o13 C12 C14
      try walk_nrm
      repeat (first | refine Walk.cx ?_ | (refine Walk.cReg ?_; simp only [z4]) | (refine Walk.oq ?_; try walk_nrm) | (refine Walk.un ?_; walk_nrm))
      have hnew := new_w (main := true) (V := fun _ => none) 2 w14
      rw [stN2] at hnew
      refine Walk.callW (Post := fun v w' => v = .pointer (some ⟨w14.heap.size + 1, 0, none⟩) ∧ SpI (w14.heap.size + 1) w14.heap.size 2 (some ⟨w14.heap.size, 0, none⟩) (2 - 1) sp0 w' ∧ (∀ b, b < w14.heap.size → w'.heap[b]? = w14.heap[b]?) ∧ w'.heap.size = w14.heap.size + 2) ?_ (ho_of (by conv => lhs; whnf) (by kernel_rfl)) (by rfl) (by decide) rfl Try.func9 (by kernel_rfl) (by rfl) ?_
      · walk_nrm
        exact hnew
      rintro v w15 ⟨rfl, I15, O15, Z15⟩
      have Z15 := Nat.le_of_eq Z15.symm
      clear hnew x0 x1 x2 y0 y1 y2 y3
      rw [s14] at I15 O15 Z15 ⊢
      have hq1 := fun w => run_neq_ptr (P := Try.prog) 42 undCnt (some ⟨T2 + 1 + 1, 0, none⟩) w
      have hq2 := fun w es => ev_neq_ptr (P := Try.prog) 42 undCnt (some ⟨T2 + 1 + 1, 0, none⟩) w es
      simp only [Option.isNone_some, Bool.not_false] at hq1
      walk_nrm
      repeat (first | refine Walk.cx ?_ | (refine Walk.cReg ?_; simp only [z4]) | (refine Walk.oq ?_; try walk_nrm) | (refine Walk.un ?_; walk_nrm))
      refine Walk.callLone (L := spLa (T2 + 1 + 1) (T2 + 1) 2 (some ⟨T2 + 1, 0, none⟩) (2 - 1)) (R := (spPut sp0 0 5, ⟨true, 5, []⟩)) (Rel := fun v x _ _ => v = .int .i64 x.n) 1 () sp0 (.inr (.a1 (stAt 2 0) 5)) hA I15 (by kernel_rfl) (f := 10) (fun K e ht => ?_) (ho_of (by conv => lhs; whnf) (by kernel_rfl)) (by rfl) (by decide) rfl Try.func10 (by kernel_rfl) (by rfl) ⟨rfl, rfl, _, Try.func4⟩ ?_
      · walk_nrm
        exact fun fr l hp hl hk => sadd_s K 0 5 (.a1 (stAt 2 0) 5) (fun y => .inl ⟨true, y, []⟩) (fun _ => rfl) e ht fr l hp hl fun v e' ⟨y, hv, ht'⟩ => hk v e' ⟨⟨true, y, []⟩, hv, ht'⟩
      rintro v w16 _ rfl H16
      walk_nrm
      repeat (first | (refine Walk.oq ?_; try walk_nrm) | (refine Walk.un ?_; walk_nrm))
      refine Walk.callLone (L := spLa (T2 + 1 + 1) (T2 + 1) 2 (some ⟨T2 + 1, 0, none⟩) (2 - 1)) (R := (spPut (spPut sp0 0 5) 1 7, ⟨true, 7, []⟩)) (Rel := fun v x _ _ => v = .int .i64 x.n) 1 () (spPut sp0 0 5) (.inr (.a1 (stAt 2 3) 7)) hA H16.I (by kernel_rfl) (f := 10) (fun K e ht => ?_) (ho_of (by conv => lhs; whnf) (by kernel_rfl)) (by rfl) (by decide) rfl Try.func10 (by kernel_rfl) (by rfl) ⟨rfl, rfl, _, Try.func4⟩ ?_
      · walk_nrm
        exact fun fr l hp hl hk => sadd_s K 3 7 (.a1 (stAt 2 3) 7) (fun y => .inl ⟨true, y, []⟩) (fun _ => rfl) e ht fr l hp hl fun v e' ⟨y, hv, ht'⟩ => hk v e' ⟨⟨true, y, []⟩, hv, ht'⟩
      rintro v w17 _ rfl H17
      have I17 : SpI (T2 + 1 + 1) (T2 + 1) 2 (some ⟨T2 + 1, 0, none⟩) (2 - 1) (spPut (spPut sp0 0 5) 1 7) w17 := H17.I
      have t17 : sumZ (stL (spPut (spPut sp0 0 5) 1 7) 2) = 12 := by decide
      have hto := total_w (main := true) (V := fun _ => none) hA (spPut (spPut sp0 0 5) 1 7) w17 I17
      rw [t17] at hto
      walk_nrm
      repeat (first | (refine Walk.oq ?_; try walk_nrm) | (refine Walk.un ?_; walk_nrm))
      refine Walk.callW (Post := fun v w' => v = .int .i64 12 ∧ Reads (T2 + 1 + 1) (T2 + 1) 2 (some ⟨T2 + 1, 0, none⟩) (2 - 1) (spPut (spPut sp0 0 5) 1 7) w17 w') ?_ (ho_of (by conv => lhs; whnf) (by kernel_rfl)) (by rfl) (by decide) rfl Try.func11 (by kernel_rfl) (by rfl) ?_
      · walk_nrm
        exact hto
      rintro v w18 ⟨rfl, H18⟩
      clear hto
      walk_nrm
      repeat (first | (refine Walk.oq ?_; try walk_nrm) | (refine Walk.un ?_; walk_nrm))
      have hrt := run_take (cb := T2 + 1 + 1) (rb := T2 + 1) (m := 2) (rc := 2 - 1) (ra := some ⟨T2 + 1, 0, none⟩) (spPut (spPut sp0 0 5) 1 7) 2 0 rfl
      rw [tkS_zero, t17] at hrt
      refine Walk.callLone (L := spLa (T2 + 1 + 1) (T2 + 1) 2 (some ⟨T2 + 1, 0, none⟩) (2 - 1)) (R := (tkS (spPut (spPut sp0 0 5) 1 7) 2, ⟨true, 12, []⟩)) (Rel := fun v x _ _ => v = .int .i64 x.n) 2 () (spPut (spPut sp0 0 5) 1 7) (dT 2 0 []) hA H18.I hrt (f := 12) (fun K e ht => ?_) (ho_of (by conv => lhs; whnf) (by kernel_rfl)) (by rfl) (by decide) rfl Try.func12 (by kernel_rfl) (by rfl) ⟨rfl, rfl, _, Try.func4⟩ ?_
      · walk_nrm
        exact fun fr l hp hl hk => stake_s K e ht fr l hp hl fun v e' ⟨ls, _, hv, ht'⟩ => hk v e' ⟨⟨true, sumZ ls, []⟩, hv, ht'⟩
      rintro v w19 _ rfl H19
      have I19 : SpI (T2 + 1 + 1) (T2 + 1) 2 (some ⟨T2 + 1, 0, none⟩) (2 - 1) (tkS (spPut (spPut sp0 0 5) 1 7) 2) w19 := H19.I
      have t19 : sumZ (stL (tkS (spPut (spPut sp0 0 5) 1 7) 2) 2) = 0 := by decide
      have hto := total_w (main := true) (V := fun _ => none) hA (tkS (spPut (spPut sp0 0 5) 1 7) 2) w19 I19
      rw [t19] at hto
      walk_nrm
      repeat (first | (refine Walk.oq ?_; try walk_nrm) | (refine Walk.un ?_; walk_nrm))
      refine Walk.callW (Post := fun v w' => v = .int .i64 0 ∧ Reads (T2 + 1 + 1) (T2 + 1) 2 (some ⟨T2 + 1, 0, none⟩) (2 - 1) (tkS (spPut (spPut sp0 0 5) 1 7) 2) w19 w') ?_ (ho_of (by conv => lhs; whnf) (by kernel_rfl)) (by rfl) (by decide) rfl Try.func11 (by kernel_rfl) (by rfl) ?_
      · walk_nrm
        exact hto
      rintro v w20 ⟨rfl, H20⟩
      have z16 := H16.size
      have z17 := H17.size
      have z18 := H18.size
      have z19 := H19.size
      have z20 := H20.size
      have O20 : ∀ b, b < T2 → w20.heap[b]? = w12.heap[b]? := fun b hb => (H20.old b (by omega) (by omega)).trans ((H19.old b (by omega) (fun h => by rcases h with h | ⟨_, h⟩ <;> omega)).trans ((H18.old b (by omega) (by omega)).trans ((H17.old b (by omega) (fun h => by rcases h with h | ⟨_, h⟩ <;> omega)).trans ((H16.old b (by omega) (fun h => by rcases h with h | ⟨_, h⟩ <;> omega)).trans ((O15 b (by omega)).trans (o14 b hb))))))
      clear hto H16 H17 H18 H19 H20 I15 I17 I19 hrt t17 t19 hq1 hq2
      walk_nrm
      repeat (first | refine Walk.cx ?_ | (refine Walk.cReg ?_; simp only [z4]) | (refine Walk.oq ?_; try walk_nrm) | (refine Walk.un ?_; walk_nrm))
      exact Walk.on1 rfl rfl Try.func4 rfl (.stop fun d => ⟨rfl, O20, by show T2 ≤ w20.heap.size; omega⟩)
end
end
theorem fx_in {T : Nat} {w : World} (h : w.heap[T]? = some (.cells fxZ 2)) : SlIn (some ⟨T, 0, none⟩) [0, 0] w := fun j z hz => by
  match j, hz with
  | 0, hz => cases hz; exact ⟨T, 0, rfl, (cell_of h _).trans rfl⟩
  | 1, hz => cases hz; exact ⟨T, 0, rfl, (cell_of h _).trans rfl⟩
theorem fixed_run (c : Frame) (cs : List Frame) (w : World) : Runs (fun g w' => g = G (c.finish (.bool true)) cs ∧ (∀ b, b < w.heap.size → w'.heap[b]? = w.heap[b]?) ∧ w.heap.size ≤ w'.heap.size) (G (Frame.enter Try.prog 4 #[] .normal) (c :: cs)) w := by
  have e2 : stN (([0, 0] : List Int).length : Int) = 2 := stN2
  refine Runs.walk (fixed_in c cs w) ?_
  rintro _ w1 ⟨fr, rfl, O1, Z1, hz1, hb1, I1, hs1, hB⟩
  refine Runs.then (splay_any (some ⟨w.heap.size, 0, none⟩) [0, 0] 2 (Nat.le_refl _) (.inr ⟨_, rfl⟩) (by decide) (.slice (some ⟨w.heap.size + 3, 0, none⟩) 2 2) 99 (some ⟨w.heap.size + 3, 0, none⟩) (w.heap.size + 3) 0 2 2 (fun _ => rfl) (by decide) (fxOa (w.heap.size + 2) (w.heap.size + 1)) fxL fxL (fkOps 2) (some ⟨w.heap.size + 4, 0, none⟩) 4 fxSl (by decide) fr (c :: cs) w1 (fx_in hz1) I1 (fun j z hz => ⟨_, _, rfl, hs1 j z hz⟩) fun w' _ => firstOps_some (some ⟨w.heap.size + 3, 0, none⟩) 2 2 w' (Nat.le_refl _) (.inr ⟨_, rfl⟩)) ?_
  rintro _ w2 ⟨cells, H, rfl⟩
  have O2 := H.old
  have Z2 := H.size
  have hT := H.tr.tr
  rw [e2] at hT
  have l1 := (Array.getElem?_eq_some_iff.1 hz1).1
  have l2 := (Array.getElem?_eq_some_iff.1 hb1).1
  refine Runs.walk (hB cells _ _ _ _ w2 hT (fx_run _ _ _ _) ((O2 _ l1).trans hz1) ((O2 _ l2).trans hb1)) ?_
  rintro _ w3 ⟨fr2, b, o, ac, b0, o0, tc0, v1, v2, rfl, O3, Z3, C3, hz3, I3, hs3, hB3⟩
  refine Runs.then (splay_any (some ⟨w.heap.size, 0, none⟩) [0, 0] 2 (Nat.le_refl _) (.inr ⟨_, rfl⟩) (by decide) (.slice (some ⟨w2.heap.size + 2, 0, none⟩) 2 2) 99 (some ⟨w2.heap.size + 2, 0, none⟩) (w2.heap.size + 2) 0 2 2 (fun _ => rfl) (by decide) (fxOa (w2.heap.size + 1) (w.heap.size + 1)) fxL fxL (fkOps 5) (some ⟨w2.heap.size + 3, 0, none⟩) 5 fySl (by decide) fr2 (c :: cs) w3 (fx_in hz3) I3 (fun j z hz => ⟨_, _, rfl, hs3 j z hz⟩) fun w' _ => firstOps_some (some ⟨w2.heap.size + 2, 0, none⟩) 2 2 w' (Nat.le_refl _) (.inr ⟨_, rfl⟩)) ?_
  rintro _ w4 ⟨cells4, H4, rfl⟩
  have O4 := H4.old
  have Z4 := H4.size
  have hT4 := H4.tr.tr
  rw [e2] at hT4
  refine Runs.walk (hB3 cells4 _ _ _ _ w4 (C3.old O4) hT4 (fy_run _ _ _ _)) ?_
  rintro _ w5 ⟨rfl, O5, Z5⟩
  exact .now ⟨rfl, fun b hb => (O5 b (by omega)).trans ((O4 b (by omega)).trans ((O3 b (by omega)).trans ((O2 b (by omega)).trans (O1 b hb)))), by omega⟩
section
def RwR (sl : Value) (n : Nat) (xs : List Value) (w : World) : Prop := ∃ a c, sl = .slice a n c ∧ ∀ (j : Nat) (u : Value), xs[j]? = some u → ∃ b o, a = some ⟨b, o, none⟩ ∧ w.cell? ⟨b, o + j, none⟩ = some u
theorem RwR.old {sl : Value} {n : Nat} {xs : List Value} {w w' : World} (h : RwR sl n xs w) (hb : ∀ b, b < w.heap.size → w'.heap[b]? = w.heap[b]?) : RwR sl n xs w' := by
  obtain ⟨a, c, h1, h4⟩ := h
  refine ⟨a, c, h1, fun j z hj => ?_⟩
  obtain ⟨b, off, e, hc⟩ := h4 j z hj
  exact ⟨b, off, e, (World.cell?_of_block (a := ⟨b, off + j, none⟩) (hb b (cell_lt' hc))).trans hc⟩
section
variable {main : Bool} {V : Nat → Option Wait} {Stop : Goroutine → World → Prop} {w : World} {b : Frame} {a : Act} {k : List Item} {cs : List Frame} {ops : Array Oper} {i : Nat} {rest : List Nat} {o : Oper}
theorem Walk.copiedT (s x : Operand) (t e : TypeId) (ti : TypeInfo) (z : Value) (size bytes : Nat) (ht : Try.prog.underlying t = some (.slice e)) (hi : Try.prog.info? e = some ti) (hz : ti.zero = some z) (hsize : ti.size = size) (hby : ti.bytes = bytes) (hzs : z.cells.size = size) (hsz : 0 < size)
    (ho : ops[i]? = some o) (hw : Region.wanted o (yielded ops a.tmps) = true) (hk : b.kind ≠ .early) (hop : o.op = .call { callee := .builtin .append, args := #[s, x], argTypes := #[t, t] })
    (E : Nat) (hE : w.heap[E]? = some (.cells #[] e)) (hap : Apart V E) (sl : Value) (n : Nat) (xs : List Value) (hls : RwR sl n xs w) (hxl : xs.length = n * size) (hone : ∀ u ∈ xs, u.oneCell' = true) (hn : n ≤ maxLen) (hnb : n * bytes ≤ 140737488355328) (hs : a.eval s = .slice (some ⟨E, 0, none⟩) 0 0) (hx : a.eval x = sl)
    (h : ∀ g cap w', w'.ownsRow E e size (.slice (some ⟨g, 0, none⟩) n cap) n xs → (∀ b, b < w.heap.size → b ≠ E → w'.heap[b]? = w.heap[b]?) → w.heap.size ≤ w'.heap.size → Walk Try.prog main (DR V) Stop (G (b.at (a.put o.dst (.slice (some ⟨g, 0, none⟩) n cap)) (.inRegion ops rest :: k)) cs) w') :
    Walk Try.prog main (DR V) Stop (G (b.at a (.inRegion ops (i :: rest) :: k)) cs) w := by
  obtain ⟨xa, xc, rfl, hcells⟩ := hls
  have hEl := (Array.getElem?_eq_some_iff.1 hE).1
  have hown : w.ownsRow E e size (.slice (some ⟨E, 0, none⟩) 0 0) 0 [] := ⟨by simp, .inr ⟨E, 0, #[], rfl, Nat.le_refl _, hE, Nat.le_refl _, by decide, by simp, by simp⟩⟩
  by_cases h0 : n = 0
  · subst h0
    have hxs : xs = [] := List.eq_nil_of_length_eq_zero (by rw [hxl]; omega)
    subst hxs
    have hz := fun w es => run_app0 ht hi o.type ⟨E, 0, none⟩ xa xc w es
    refine Walk.opq ho hw hk (fun dd e he => ?_) (fun dd K hK => ?_)
    · rw [events_append_op s x _ hop hs hx, (hz (w.at dd) #[]).2] at he
      simp at he
    · exact uponK_append s x _ hop hs hx (hz (w.at dd) #[]).1 (hK _ (h E 0 w hown (fun _ _ _ => rfl) (Nat.le_refl _)))
  · have hpos : 0 < xs.length := by
      rw [hxl]
      exact Nat.mul_pos (by omega) hsz
    obtain ⟨xb, xo, e0, _⟩ := hcells 0 _ (List.getElem?_eq_getElem hpos)
    refine Walk.append s x t ho hw hk hop E e ti z size bytes ht hi hz hsize hby hzs hsz (.slice (some ⟨E, 0, none⟩) 0 0) 0 [] hs hown ⟨xb, xo, none⟩ n xc xs (by rw [hx, e0]) hxl (fun j u hu => ?_) hone (by omega) (by omega) (by rw [Nat.zero_add]; exact hnb) (by omega) (fun g hg => ?_) (fun g cap w' hown' hgr hat hlt => ?_)
    · obtain ⟨b', off', e, h'⟩ := hcells j u hu
      rw [e0] at e
      obtain ⟨rfl, rfl, _⟩ := Addr.mk.inj (Option.some.inj e)
      rw [add_none]; exact h'
    · have hg : E = g := Option.some.inj hg
      rw [← hg]; exact hap
    · rw [Nat.zero_add] at hown' ⊢
      rw [List.nil_append] at hown'
      exact h g cap w' hown' (fun b hb hne => hgr.block b hb fun e => hne (Option.some.inj e)) hgr.size
end
end
section
def May (A0 A1 : Nat) (wz : World) (b : Nat) : Prop := A0 ≤ b ∧ b < A1 ∧ ∃ (cur : Array Value) (t : TypeId), wz.heap[b]? = some (.cells cur t (0, 0)) ∧ (t = 34 ∨ t = 37 ∨ t = 2 ∨ t = 3)
structure KP (A0 A1 : Nat) (wz w : World) : Prop where
  size : wz.heap.size ≤ w.heap.size
  keep : ∀ b, b < wz.heap.size → ¬ May A0 A1 wz b → w.heap[b]? = wz.heap[b]?
  sizes : Sizes wz w
section
variable {A0 A1 : Nat} {wz w w' : World}
theorem KP.refl (A0 A1 : Nat) (wz : World) : KP A0 A1 wz wz := ⟨Nat.le_refl _, fun _ _ _ => rfl, Sizes.refl _⟩
theorem KP.at (H : KP A0 A1 wz w) (d : Nat) : KP A0 A1 wz (w.at d) := ⟨H.size, H.keep, H.sizes⟩
theorem KP.step (H : KP A0 A1 wz w) (hs : w.heap.size ≤ w'.heap.size) (hS : Sizes w w') (hk : ∀ b, b < w.heap.size → w'.heap[b]? = w.heap[b]? ∨ May A0 A1 wz b ∨ wz.heap.size ≤ b) : KP A0 A1 wz w' :=
  ⟨Nat.le_trans H.size hs, fun b hb hm => ((hk b (Nat.lt_of_lt_of_le hb H.size)).resolve_right fun h => h.elim hm fun h => absurd hb (Nat.not_lt.2 h)).trans (H.keep b hb hm), H.sizes.trans hS⟩
theorem Sizes.set (w : World) (g i : Nat) (v : Value) : Sizes w (w.setCell ⟨g, i, none⟩ v) := fun b cur t h => by
  by_cases e : b = g
  · subst e
    exact ⟨_, heap_set_self _ _ h, by simp⟩
  · exact ⟨cur, (heap_set_other _ _ _ _ e).trans h, rfl⟩
theorem KP.set (H : KP A0 A1 wz w) {g i : Nat} {v : Value} (hg : May A0 A1 wz g ∨ wz.heap.size ≤ g) : KP A0 A1 wz (w.setCell ⟨g, i, none⟩ v) :=
  H.step (Nat.le_of_eq (size_set ..).symm) (Sizes.set _ _ _ _) fun b _ => by
    by_cases e : b = g
    · subst e; exact .inr hg
    · exact .inl (heap_set_other _ _ _ _ e)
theorem KP.alloc (H : KP A0 A1 wz w) (o : Obj) : KP A0 A1 wz (w.alloc o) :=
  H.step (by simp) (Sizes.old fun b hb => heap_new_lt _ _ hb) fun b hb => .inl (heap_new_lt _ _ hb)
theorem KP.grown (H : KP A0 A1 wz w) {row : Option Nat} (hg : w.grownBy w' row) (hS : Sizes w w') (hr : ∀ g, row = some g → May A0 A1 wz g ∨ wz.heap.size ≤ g) : KP A0 A1 wz w' :=
  H.step hg.size hS fun b hb => by
    by_cases e : row = some b
    · exact .inr (hr b e)
    · exact .inl (hg.block b hb fun h => e h.symm)
theorem KP.low (H : KP A0 A1 wz w) {b : Nat} (hb : b < wz.heap.size) (h : b < A0 ∨ A1 ≤ b) : w.heap[b]? = wz.heap[b]? := H.keep b hb fun hm => by
  rcases h with h | h
  · have := hm.1; omega
  · have := hm.2.1; omega
theorem KP.typed (H : KP A0 A1 wz w) {b : Nat} {cur : Array Value} {t : TypeId} (h : wz.heap[b]? = some (.cells cur t (0, 0))) (ht : ¬ (t = 34 ∨ t = 37 ∨ t = 2 ∨ t = 3)) : w.heap[b]? = some (.cells cur t (0, 0)) :=
  (H.keep b (Array.getElem?_eq_some_iff.1 h).1 fun ⟨_, _, c, t', h', ht'⟩ => by
    rw [h] at h'
    cases h'
    exact ht ht').trans h
theorem KP.cellLow (H : KP A0 A1 wz w) {b j : Nat} {v : Value} (h : wz.cell? ⟨b, j, none⟩ = some v) (hb : b < A0 ∨ A1 ≤ b) : w.cell? ⟨b, j, none⟩ = some v :=
  (World.cell?_of_block (a := ⟨b, j, none⟩) (H.low (cell_lt' h) hb)).trans h
theorem KP.cellTyped (H : KP A0 A1 wz w) {b j : Nat} {v : Value} {cur : Array Value} {t : TypeId} (h : wz.heap[b]? = some (.cells cur t (0, 0))) (ht : ¬ (t = 34 ∨ t = 37 ∨ t = 2 ∨ t = 3)) (hc : cur[j]? = some v) : w.cell? ⟨b, j, none⟩ = some v :=
  (cell_of (H.typed h ht) j).trans hc
theorem Sizes.row (hS : Sizes w w') {base n size : Nat} {e : TypeId} {v : Value} {xs : List Value} (h : w.ownsRow base e size v n xs) : ∃ ys, ys.length = n * size ∧ w'.ownsRow base e size v n ys := by
  rcases h.2 with ⟨rfl, rfl⟩ | ⟨g, cap, cur, rfl, hb, hg, hnc, hcm, hcs, htake⟩
  · exact ⟨[], by simp, by simp, .inl ⟨rfl, rfl⟩⟩
  · obtain ⟨c', h1, h2⟩ := hS g cur e hg
    have hl : (c'.toList.take (n * size)).length = n * size := by
      rw [List.length_take, Array.length_toList, h2, hcs]
      exact Nat.min_eq_left (Nat.mul_le_mul_right _ hnc)
    exact ⟨_, hl, hl, .inr ⟨g, cap, c', rfl, hb, h1, hnc, hcm, by rw [h2, hcs], rfl⟩⟩
end
end
end Go.Proofs.Ytabpfdckgnimaaa
