/- Part 7. -/
import Derived.Test.YtgfajibjedfkdaaJN4
set_option linter.unusedSimpArgs false
set_option linter.unusedVariables false
set_option maxHeartbeats 8000000
set_option maxRecDepth 100000
namespace Go.Proofs.Ytgfajibjedfkdaa
open Go.Conc Go.RowKit Go.Relay
open Go.ConcN (upd upd_ne upd_same)
section
section
variable {Fr : Nat → Prop} {zb wb : Nat} {s : Gt} {main : Bool}
theorem no_b5 (lv : Value) (i E : Nat) (oa ob oc : Int)  (hX : nilA ⟨5, oa, ob, oc⟩ = ⟨true, 0, []⟩) (W0 w : World) (I : NoI Fr zb wb s W0 w) (hE : w.heap[E]? = some (.cells #[.int .i64 5, .int .i64 oa, .int .i64 ob, .int .i64 oc] 84)) (cs : List Frame) (u : Nat → Value) :
    Walk Try.prog main (DR (fun _ => none)) (fun g w' => ∃ C D, (∃ u, g = G (mdQ lv zb wb i E C D u) cs) ∧ NoP Fr zb wb s ⟨true, 0, []⟩ C D W0 w') (G (mdP lv zb wb i E u) cs) w := by
  obtain ⟨fsO, huO⟩ := structT 84 (by kernel_rfl)
  have hcs : ∀ (y : Nat) (v : Value), ([.int .i64 5, .int .i64 oa, .int .i64 ob, .int .i64 oc] : List Value)[y]? = some v → w.cell? ⟨E, 0 + y, none⟩ = some v := fun y v hv => by
    rw [Nat.zero_add, cell_of hE]
    simpa using hv
  have hnc := nil_call (main := main) (V := fun _ => none) ap0 5 oa ob oc w
  rw [hX] at hnc
  clear hX
  conv => arg 5; unfold mdP
  refine Walk.loadS 84 (.tmp 8) (ho_of (by conv => lhs; whnf) (by kernel_rfl)) (by rfl) (by decide) rfl E 0 [.int .i64 5, .int .i64 oa, .int .i64 ob, .int .i64 oc] (.struct fsO) rfl hcs huO rfl (by kernel_rfl) ?_
  clear hcs
  walk_nrm
  repeat (first | refine Walk.cx ?_ | (refine Walk.cReg ?_; simp only [zB10]) | (refine Walk.oq ?_; try walk_nrm) | (refine Walk.un ?_; walk_nrm))
  refine Walk.callW (Post := NilOf ⟨true, 0, []⟩ w) ?_ (ho_of (by conv => lhs; whnf) (by kernel_rfl)) (by rfl) (by decide) rfl Try.func30 (by kernel_rfl) (by rfl) ?_
  · walk_nrm
    exact hnc
  rintro v w1 ⟨sl, rfl, ⟨ba, bc, rfl⟩, row, o1, z1⟩
  clear hnc
  have row : w1.ownsRow w.heap.size 2 1 (.slice ba 0 bc) 0 (([] : List Int).map fun z => .int .i64 z) := row
  have hlt : ∀ b, Fr b → b < w.heap.size := fun b hb => by
    obtain ⟨_, _, _, _, _, h4⟩ := I.two
    exact (h4 b hb).1
  have eE := (Array.getElem?_eq_some_iff.1 hE).1
  have hE1 := (o1 E eE).trans hE
  have T1 := I.two.on o1 z1 fun b hb => .inl hb
  have k1 : ∀ b, Fr b → w1.heap[b]? = W0.heap[b]? := fun b hb => (o1 b (hlt b hb)).trans (I.old b hb)
  have hs0 := I.size
  have hlt1 : ∀ b, Fr b → b < w1.heap.size := fun b hb => by have := hlt b hb; omega
  have eE1 : E < w1.heap.size := by omega
  have hs1 : W0.heap.size ≤ w1.heap.size := by omega
  clear I hE o1 z1 hlt hs0 eE
  simp only [ansV]
  walk_nrm
  repeat (first | refine Walk.cx ?_ | (refine Walk.cReg ?_; simp only [zB10]) | (refine Walk.oq ?_; try walk_nrm) | (refine Walk.un ?_; walk_nrm))
  (refine Walk.oa ?_; try walk_nrm)
  have s2 : (w1.alloc (.cells #[.bool false, .int .i64 0, .slice none 0 0] 81)).heap.size = w1.heap.size + 1 := by simp
  have o2 : ∀ b, b < w1.heap.size → (w1.alloc (.cells #[.bool false, .int .i64 0, .slice none 0 0] 81)).heap[b]? = w1.heap[b]? := fun b hb => heap_new_lt _ _ hb
  have d2 := heap_alloc_new w1 (.cells #[.bool false, .int .i64 0, .slice none 0 0] 81)
  obtain ⟨C, hC⟩ : ∃ C, w1.heap.size = C := ⟨_, rfl⟩
  rw [hC] at s2 o2 d2 hlt1 eE1 hs1
  try simp only [hC]
  generalize w1.alloc (.cells #[.bool false, .int .i64 0, .slice none 0 0] 81) = w2 at *
  repeat (first | refine Walk.cx ?_ | (refine Walk.cReg ?_; simp only [zB10]) | (refine Walk.oq ?_; try walk_nrm) | (refine Walk.un ?_; walk_nrm))
  refine Walk.storeS 81 (.tmp 11) (.tmp 67) (ho_of (by conv => lhs; whnf) (by kernel_rfl)) (by rfl) (by decide) rfl C #[.bool true, .int .i64 0, .slice ba 0 bc] _ 81 rfl rfl d2 (by kernel_rfl) (by rfl) (by simp [Value.oneCell']) (ap0 _) ?_
  have d3 : (w2.setRow C #[.bool true, .int .i64 0, .slice ba 0 bc]).heap[C]? = some (ansB ⟨true, 0, []⟩ (.slice ba 0 bc)) := setRow_self (cells := #[.bool true, .int .i64 0, .slice ba 0 bc]) d2
  have o3 : ∀ b, b ≠ C → (w2.setRow C #[.bool true, .int .i64 0, .slice ba 0 bc]).heap[b]? = w2.heap[b]? := fun b hb => setRow_other _ _ hb
  have s3 := setRow_size w2 C #[.bool true, .int .i64 0, .slice ba 0 bc]
  generalize w2.setRow C #[.bool true, .int .i64 0, .slice ba 0 bc] = w3 at *
  have up3 : ∀ b, b < C → w3.heap[b]? = w1.heap[b]? := fun b hb => (o3 b (by omega)).trans (o2 b hb)
  have T3 := T1.on (w' := w3) (fun b hb => up3 b (by omega)) (by omega) fun b hb => .inl hb
  have row3 := row_same row fun b hb => up3 b (by have := (row.lt b hb).2; omega)
  have hE3 := (up3 E eE1).trans hE1
  have k3 : ∀ b, Fr b → w3.heap[b]? = W0.heap[b]? := fun b hb => (up3 b (hlt1 b hb)).trans (k1 b hb)
  have hs3 : w3.heap.size = C + 1 := by omega
  have hrb : ∀ b, (Value.slice ba 0 bc).ownBlock = some b → b < C := fun b hb => by have := (row.lt b hb).2; omega
  clear T1 row hE1 k1 up3 o3 o2 s2 s3 d2 hC
  walk_nrm
  repeat (first | refine Walk.cx ?_ | (refine Walk.cReg ?_; simp only [zB10]) | (refine Walk.oq ?_; try walk_nrm) | (refine Walk.un ?_; walk_nrm))
  (refine Walk.oa ?_; try walk_nrm)
  have s4 : (w3.alloc (.cells #[.bool false, .int .i64 0, .slice none 0 0] 81)).heap.size = w3.heap.size + 1 := by simp
  have o4 : ∀ b, b < w3.heap.size → (w3.alloc (.cells #[.bool false, .int .i64 0, .slice none 0 0] 81)).heap[b]? = w3.heap[b]? := fun b hb => heap_new_lt _ _ hb
  have d4 := heap_alloc_new w3 (.cells #[.bool false, .int .i64 0, .slice none 0 0] 81)
  rw [hs3] at s4 o4 d4
  try simp only [hs3]
  have hE4 := (o4 E (by omega)).trans hE3
  generalize w3.alloc (.cells #[.bool false, .int .i64 0, .slice none 0 0] 81) = w4 at *
  clear hE3
  repeat (first | refine Walk.cx ?_ | (refine Walk.cReg ?_; simp only [zB10]) | (refine Walk.oq ?_; try walk_nrm) | (refine Walk.un ?_; walk_nrm))
  refine Walk.storeS 81 (.tmp 12) (.tmp 68) (ho_of (by conv => lhs; whnf) (by kernel_rfl)) (by rfl) (by decide) rfl (C + 1) #[.bool false, .int .i64 0, .slice none 0 0] _ 81 rfl rfl d4 (by kernel_rfl) (by rfl) (by simp [Value.oneCell']) (ap0 _) ?_
  have d5 := setRow_self (cells := #[.bool false, .int .i64 0, .slice none 0 0]) d4
  have o5 : ∀ b, b ≠ C + 1 → (w4.setRow (C + 1) #[.bool false, .int .i64 0, .slice none 0 0]).heap[b]? = w4.heap[b]? := fun b hb => setRow_other _ _ hb
  have s5 := setRow_size w4 (C + 1) #[.bool false, .int .i64 0, .slice none 0 0]
  generalize w4.setRow (C + 1) #[.bool false, .int .i64 0, .slice none 0 0] = w5 at *
  have hE5 := (o5 E (by omega)).trans hE4
  have e0 := (cell_of hE5 0).trans rfl
  have e1 := (cell_of hE5 1).trans rfl
  clear hE4 d4
  have I9 : ∀ w9 : World, (∀ b, b < C + 1 → w9.heap[b]? = w5.heap[b]?) → C + 2 ≤ w9.heap.size → (∃ sl, w9.heap[C + 1]? = some (ansB ⟨true, 0, []⟩ sl) ∧ RowL sl [] w9) → NoP Fr zb wb s ⟨true, 0, []⟩ C (C + 1) W0 w9 := fun w9 h1 h2 h3 => by
    have up : ∀ b, b < C + 1 → w9.heap[b]? = w3.heap[b]? := fun b hb => (h1 b hb).trans ((o5 b (by omega)).trans (o4 b hb))
    exact ⟨⟨_, (up C (by omega)).trans d3, ⟨_, _, rfl, by show 0 ≤ 65536; decide⟩, row_same (row_raise row3 fun _ _ => Nat.zero_le _) fun b hb => up b (by have := hrb b hb; omega)⟩, h3, T3.on (fun b hb => up b (by omega)) (by omega) fun b hb => .inl hb, fun b hb => (up b (by have := hlt1 b hb; omega)).trans (k3 b hb), by omega⟩
  clear T3 k3 row3 hrb d3 o4 o5
  walk_nrm
  repeat (first | refine Walk.cx ?_ | (refine Walk.cReg ?_; simp only [zB10]) | (refine Walk.oq ?_; try walk_nrm) | (refine Walk.un ?_; walk_nrm))
  have g5 : w5.cell? ⟨C + 1, 0, none⟩ = some (.bool false) := (cell_of d5 0).trans rfl
  have y5 := frozen_of d5 0
  (have hfr := (ap0 (C + 1)).1 ⟨C + 1, 0, none⟩ rfl; refine Walk.os hfr g5 ?_; clear hfr; try walk_nrm)
  clear g5 y5
  have d6 : (w5.setCell ⟨C + 1, 0, none⟩ (.bool true)).heap[C + 1]? = some (.cells #[.bool true, .int .i64 0, .slice none 0 0] 81) := by
    rw [heap_set_self _ _ d5]
    simp
  have o6 : ∀ b, b ≠ C + 1 → (w5.setCell ⟨C + 1, 0, none⟩ (.bool true)).heap[b]? = w5.heap[b]? := fun b hb => heap_set_other _ _ _ _ hb
  have s6 : (w5.setCell ⟨C + 1, 0, none⟩ (.bool true)).heap.size = w5.heap.size := size_set _ _ _
  generalize w5.setCell ⟨C + 1, 0, none⟩ (.bool true) = w6 at *
  have I10 := I9 w6 (fun b hb => o6 b (by omega)) (by omega) ⟨.slice none 0 0, d6, ⟨_, _, rfl, by decide⟩, ⟨rfl, .inl ⟨rfl, rfl⟩⟩⟩
  clear I9 o6 s6 d6 d5
  repeat (first | refine Walk.cx ?_ | (refine Walk.cReg ?_; simp only [zB10]) | (refine Walk.oq ?_; try walk_nrm) | (refine Walk.un ?_; walk_nrm))
  generalize hQ : NoP Fr zb wb s ⟨true, 0, []⟩ C (C + 1) W0 = Q at *
  refine .stop fun d => ⟨C, C + 1, at_slots ?_, ?_⟩
  · simp only [mdQ]
    rfl
  · subst hQ
    exact I10.at d
theorem no_b6 (lv : Value) (i E : Nat) (oa ob oc : Int)  (hX : nilA ⟨6, oa, ob, oc⟩ = ⟨true, oa, [-1]⟩) (W0 w : World) (I : NoI Fr zb wb s W0 w) (hE : w.heap[E]? = some (.cells #[.int .i64 6, .int .i64 oa, .int .i64 ob, .int .i64 oc] 84)) (cs : List Frame) (u : Nat → Value) :
    Walk Try.prog main (DR (fun _ => none)) (fun g w' => ∃ C D, (∃ u, g = G (mdQ lv zb wb i E C D u) cs) ∧ NoP Fr zb wb s ⟨true, oa, [-1]⟩ C D W0 w') (G (mdP lv zb wb i E u) cs) w := by
  obtain ⟨fsO, huO⟩ := structT 84 (by kernel_rfl)
  have hcs : ∀ (y : Nat) (v : Value), ([.int .i64 6, .int .i64 oa, .int .i64 ob, .int .i64 oc] : List Value)[y]? = some v → w.cell? ⟨E, 0 + y, none⟩ = some v := fun y v hv => by
    rw [Nat.zero_add, cell_of hE]
    simpa using hv
  have hnc := nil_call (main := main) (V := fun _ => none) ap0 6 oa ob oc w
  rw [hX] at hnc
  clear hX
  conv => arg 5; unfold mdP
  refine Walk.loadS 84 (.tmp 8) (ho_of (by conv => lhs; whnf) (by kernel_rfl)) (by rfl) (by decide) rfl E 0 [.int .i64 6, .int .i64 oa, .int .i64 ob, .int .i64 oc] (.struct fsO) rfl hcs huO rfl (by kernel_rfl) ?_
  clear hcs
  walk_nrm
  repeat (first | refine Walk.cx ?_ | (refine Walk.cReg ?_; simp only [zB10]) | (refine Walk.oq ?_; try walk_nrm) | (refine Walk.un ?_; walk_nrm))
  refine Walk.callW (Post := NilOf ⟨true, oa, [-1]⟩ w) ?_ (ho_of (by conv => lhs; whnf) (by kernel_rfl)) (by rfl) (by decide) rfl Try.func30 (by kernel_rfl) (by rfl) ?_
  · walk_nrm
    exact hnc
  rintro v w1 ⟨sl, rfl, ⟨ba, bc, rfl⟩, row, o1, z1⟩
  clear hnc
  have row : w1.ownsRow w.heap.size 2 1 (.slice ba 1 bc) 1 (([-1] : List Int).map fun z => .int .i64 z) := row
  have hlt : ∀ b, Fr b → b < w.heap.size := fun b hb => by
    obtain ⟨_, _, _, _, _, h4⟩ := I.two
    exact (h4 b hb).1
  have eE := (Array.getElem?_eq_some_iff.1 hE).1
  have hE1 := (o1 E eE).trans hE
  have T1 := I.two.on o1 z1 fun b hb => .inl hb
  have k1 : ∀ b, Fr b → w1.heap[b]? = W0.heap[b]? := fun b hb => (o1 b (hlt b hb)).trans (I.old b hb)
  have hs0 := I.size
  have hlt1 : ∀ b, Fr b → b < w1.heap.size := fun b hb => by have := hlt b hb; omega
  have eE1 : E < w1.heap.size := by omega
  have hs1 : W0.heap.size ≤ w1.heap.size := by omega
  clear I hE o1 z1 hlt hs0 eE
  simp only [ansV]
  walk_nrm
  repeat (first | refine Walk.cx ?_ | (refine Walk.cReg ?_; simp only [zB10]) | (refine Walk.oq ?_; try walk_nrm) | (refine Walk.un ?_; walk_nrm))
  (refine Walk.oa ?_; try walk_nrm)
  have s2 : (w1.alloc (.cells #[.bool false, .int .i64 0, .slice none 0 0] 81)).heap.size = w1.heap.size + 1 := by simp
  have o2 : ∀ b, b < w1.heap.size → (w1.alloc (.cells #[.bool false, .int .i64 0, .slice none 0 0] 81)).heap[b]? = w1.heap[b]? := fun b hb => heap_new_lt _ _ hb
  have d2 := heap_alloc_new w1 (.cells #[.bool false, .int .i64 0, .slice none 0 0] 81)
  obtain ⟨C, hC⟩ : ∃ C, w1.heap.size = C := ⟨_, rfl⟩
  rw [hC] at s2 o2 d2 hlt1 eE1 hs1
  try simp only [hC]
  generalize w1.alloc (.cells #[.bool false, .int .i64 0, .slice none 0 0] 81) = w2 at *
  repeat (first | refine Walk.cx ?_ | (refine Walk.cReg ?_; simp only [zB10]) | (refine Walk.oq ?_; try walk_nrm) | (refine Walk.un ?_; walk_nrm))
  refine Walk.storeS 81 (.tmp 11) (.tmp 67) (ho_of (by conv => lhs; whnf) (by kernel_rfl)) (by rfl) (by decide) rfl C #[.bool true, .int .i64 oa, .slice ba 1 bc] _ 81 rfl rfl d2 (by kernel_rfl) (by rfl) (by simp [Value.oneCell']) (ap0 _) ?_
  have d3 : (w2.setRow C #[.bool true, .int .i64 oa, .slice ba 1 bc]).heap[C]? = some (ansB ⟨true, oa, [-1]⟩ (.slice ba 1 bc)) := setRow_self (cells := #[.bool true, .int .i64 oa, .slice ba 1 bc]) d2
  have o3 : ∀ b, b ≠ C → (w2.setRow C #[.bool true, .int .i64 oa, .slice ba 1 bc]).heap[b]? = w2.heap[b]? := fun b hb => setRow_other _ _ hb
  have s3 := setRow_size w2 C #[.bool true, .int .i64 oa, .slice ba 1 bc]
  generalize w2.setRow C #[.bool true, .int .i64 oa, .slice ba 1 bc] = w3 at *
  have up3 : ∀ b, b < C → w3.heap[b]? = w1.heap[b]? := fun b hb => (o3 b (by omega)).trans (o2 b hb)
  have T3 := T1.on (w' := w3) (fun b hb => up3 b (by omega)) (by omega) fun b hb => .inl hb
  have row3 := row_same row fun b hb => up3 b (by have := (row.lt b hb).2; omega)
  have hE3 := (up3 E eE1).trans hE1
  have k3 : ∀ b, Fr b → w3.heap[b]? = W0.heap[b]? := fun b hb => (up3 b (hlt1 b hb)).trans (k1 b hb)
  have hs3 : w3.heap.size = C + 1 := by omega
  have hrb : ∀ b, (Value.slice ba 1 bc).ownBlock = some b → b < C := fun b hb => by have := (row.lt b hb).2; omega
  clear T1 row hE1 k1 up3 o3 o2 s2 s3 d2 hC
  walk_nrm
  repeat (first | refine Walk.cx ?_ | (refine Walk.cReg ?_; simp only [zB10]) | (refine Walk.oq ?_; try walk_nrm) | (refine Walk.un ?_; walk_nrm))
  (refine Walk.oa ?_; try walk_nrm)
  have s4 : (w3.alloc (.cells #[.bool false, .int .i64 0, .slice none 0 0] 81)).heap.size = w3.heap.size + 1 := by simp
  have o4 : ∀ b, b < w3.heap.size → (w3.alloc (.cells #[.bool false, .int .i64 0, .slice none 0 0] 81)).heap[b]? = w3.heap[b]? := fun b hb => heap_new_lt _ _ hb
  have d4 := heap_alloc_new w3 (.cells #[.bool false, .int .i64 0, .slice none 0 0] 81)
  rw [hs3] at s4 o4 d4
  try simp only [hs3]
  have hE4 := (o4 E (by omega)).trans hE3
  generalize w3.alloc (.cells #[.bool false, .int .i64 0, .slice none 0 0] 81) = w4 at *
  clear hE3
  repeat (first | refine Walk.cx ?_ | (refine Walk.cReg ?_; simp only [zB10]) | (refine Walk.oq ?_; try walk_nrm) | (refine Walk.un ?_; walk_nrm))
  refine Walk.storeS 81 (.tmp 12) (.tmp 68) (ho_of (by conv => lhs; whnf) (by kernel_rfl)) (by rfl) (by decide) rfl (C + 1) #[.bool false, .int .i64 0, .slice none 0 0] _ 81 rfl rfl d4 (by kernel_rfl) (by rfl) (by simp [Value.oneCell']) (ap0 _) ?_
  have d5 := setRow_self (cells := #[.bool false, .int .i64 0, .slice none 0 0]) d4
  have o5 : ∀ b, b ≠ C + 1 → (w4.setRow (C + 1) #[.bool false, .int .i64 0, .slice none 0 0]).heap[b]? = w4.heap[b]? := fun b hb => setRow_other _ _ hb
  have s5 := setRow_size w4 (C + 1) #[.bool false, .int .i64 0, .slice none 0 0]
  generalize w4.setRow (C + 1) #[.bool false, .int .i64 0, .slice none 0 0] = w5 at *
  have hE5 := (o5 E (by omega)).trans hE4
  have e0 := (cell_of hE5 0).trans rfl
  have e1 := (cell_of hE5 1).trans rfl
  clear hE4 d4
  have I9 : ∀ w9 : World, (∀ b, b < C + 1 → w9.heap[b]? = w5.heap[b]?) → C + 2 ≤ w9.heap.size → (∃ sl, w9.heap[C + 1]? = some (ansB ⟨true, oa, [-1]⟩ sl) ∧ RowL sl [-1] w9) → NoP Fr zb wb s ⟨true, oa, [-1]⟩ C (C + 1) W0 w9 := fun w9 h1 h2 h3 => by
    have up : ∀ b, b < C + 1 → w9.heap[b]? = w3.heap[b]? := fun b hb => (h1 b hb).trans ((o5 b (by omega)).trans (o4 b hb))
    exact ⟨⟨_, (up C (by omega)).trans d3, ⟨_, _, rfl, by show 1 ≤ 65536; decide⟩, row_same (row_raise row3 fun _ _ => Nat.zero_le _) fun b hb => up b (by have := hrb b hb; omega)⟩, h3, T3.on (fun b hb => up b (by omega)) (by omega) fun b hb => .inl hb, fun b hb => (up b (by have := hlt1 b hb; omega)).trans (k3 b hb), by omega⟩
  clear T3 k3 row3 hrb d3 o4 o5
  walk_nrm
  repeat (first | refine Walk.cx ?_ | (refine Walk.cReg ?_; simp only [zB10]) | (refine Walk.oq ?_; try walk_nrm) | (refine Walk.un ?_; walk_nrm))
  (refine Walk.oa ?_; try walk_nrm)
  have hs5 : w5.heap.size = C + 2 := by omega
  have o6 : ∀ b, b < w5.heap.size → (w5.alloc (.cells #[.int .i64 (-1)] 2)).heap[b]? = w5.heap[b]? := fun b hb => heap_new_lt _ _ hb
  have s6 : (w5.alloc (.cells #[.int .i64 (-1)] 2)).heap.size = w5.heap.size + 1 := by simp
  have n6 : NumB (w5.alloc (.cells #[.int .i64 (-1)] 2)) w5.heap.size [-1] := heap_alloc_new w5 (.cells #[.int .i64 (-1)] 2)
  rw [hs5] at o6 s6 n6
  try simp only [hs5]
  generalize w5.alloc (.cells #[.int .i64 (-1)] 2) = w6 at *
  have d6 := (o6 (C + 1) (by omega)).trans d5
  clear d5 s4 s5
  repeat (first | refine Walk.cx ?_ | (refine Walk.cReg ?_; simp only [zB10]) | (refine Walk.oq ?_; try walk_nrm) | (refine Walk.un ?_; walk_nrm))
  refine Walk.storeS 81 (.tmp 12) (.tmp 111) (ho_of (by conv => lhs; whnf) (by kernel_rfl)) (by rfl) (by decide) rfl (C + 1) #[.bool true, .int .i64 oa, .slice (some ⟨C + 2, 0, none⟩) 1 1] _ 81 rfl rfl d6 (by kernel_rfl) (by rfl) (by simp [Value.oneCell']) (ap0 _) ?_
  have d7 := setRow_self (cells := #[.bool true, .int .i64 oa, .slice (some ⟨C + 2, 0, none⟩) 1 1]) d6
  have o7 : ∀ b, b ≠ C + 1 → (w6.setRow (C + 1) #[.bool true, .int .i64 oa, .slice (some ⟨C + 2, 0, none⟩) 1 1]).heap[b]? = w6.heap[b]? := fun b hb => setRow_other _ _ hb
  have s7 := setRow_size w6 (C + 1) #[.bool true, .int .i64 oa, .slice (some ⟨C + 2, 0, none⟩) 1 1]
  generalize w6.setRow (C + 1) #[.bool true, .int .i64 oa, .slice (some ⟨C + 2, 0, none⟩) 1 1] = w7 at *
  have n7 := n6.same (o7 (C + 2) (by omega))
  have I10 := I9 w7 (fun b hb => (o7 b (by omega)).trans (o6 b (by omega))) (by omega) ⟨.slice (some ⟨C + 2, 0, none⟩) 1 1, d7, ⟨_, _, rfl, by decide⟩, NumB.row (xs := [-1]) n7 (Nat.zero_le _) (by decide)⟩
  clear I9 o6 o7 s6 s7 d6 d7 n6 n7 hs5
  walk_nrm
  repeat (first | refine Walk.cx ?_ | (refine Walk.cReg ?_; simp only [zB10]) | (refine Walk.oq ?_; try walk_nrm) | (refine Walk.un ?_; walk_nrm))
  generalize hQ : NoP Fr zb wb s ⟨true, oa, [-1]⟩ C (C + 1) W0 = Q at *
  refine .stop fun d => ⟨C, C + 1, at_slots ?_, ?_⟩
  · simp only [mdQ]
    rfl
  · subst hQ
    exact I10.at d
end
end
end Go.Proofs.Ytgfajibjedfkdaa
