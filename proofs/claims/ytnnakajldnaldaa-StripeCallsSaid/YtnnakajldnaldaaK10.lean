/- Part 10. -/
import Derived.Test.YtnnakajldnaldaaK8
import Derived.Test.YtnnakajldnaldaaK9
set_option linter.unusedSimpArgs false
set_option linter.unusedVariables false
set_option maxHeartbeats 8000000
set_option maxRecDepth 100000
namespace Go.Proofs.Ytnnakajldnaldaa
open Go.Conc Go.RowKit Go.Relay
open Go.ConcN (upd upd_ne upd_same)
noncomputable def tmJ (sz : Int) (tb toff n0 tc m Q kb lb p i A B : Nat) (u : Nat → Value) : Array Value := #[.int .i64 sz, .slice (some ⟨tb, toff, none⟩) n0 tc, u 2, u 3, .bool false, .int .i64 m, .pointer (some ⟨Q, 0, none⟩), .pointer (some ⟨kb, 0, none⟩), .pointer (some ⟨lb, 0, none⟩), .pointer (some ⟨p, 0, none⟩), .int .i64 i, .pointer (some ⟨A, 0, none⟩), .pointer (some ⟨B, 0, none⟩), u 13, u 14, u 15, u 16, u 17, u 18, u 19, u 20, u 21, u 22, u 23, u 24, u 25, u 26, u 27, u 28, u 29, u 30, u 31, u 32, u 33, u 34, u 35, u 36, u 37, u 38, u 39, u 40, u 41, u 42, u 43, u 44, u 45, u 46, u 47, u 48, u 49, u 50, u 51, u 52, u 53, u 54, u 55, u 56, u 57, u 58, u 59, u 60, u 61, u 62, u 63, u 64, u 65, u 66, u 67, u 68, u 69, u 70, u 71, u 72, u 73, u 74, u 75, u 76, u 77, u 78, u 79, u 80, u 81, u 82, u 83, u 84, u 85, u 86, u 87, u 88, u 89, u 90, u 91, u 92, u 93, u 94, u 95, u 96, u 97, u 98, u 99, u 100, u 101, u 102, u 103, u 104, u 105, u 106, u 107, u 108, u 109, u 110, u 111, u 112, u 113, u 114, u 115, u 116, u 117, u 118, u 119, u 120, u 121, u 122, u 123, u 124, u 125, u 126, u 127, u 128, u 129, u 130, u 131, u 132, u 133]
def dsJ : List Nat := [72, 73, 74, 75, 76, 77, 78, 79, 80, 81, 82, 83, 84, 85, 86, 87, 88, 89, 90, 91]
def vsJ (Q ab ao ac b1 o1 ln tc1 i : Nat) (a : Ans) (X Y : Nat) : List Value := [ansVal a, ansVal a, .slice (some ⟨X, 0, none⟩) 2 2, .pointer (some ⟨Q, 0, none⟩), .slice (some ⟨ab, ao, none⟩) 1 ac, .pointer (some ⟨ab, ao, none⟩), .slice (some ⟨b1, o1, none⟩) ln tc1, .int .i64 i, .pointer (some ⟨b1, o1 + i * 3, none⟩), ansVal a, .pointer (some ⟨Q, 0, none⟩), .slice (some ⟨ab, ao, none⟩) 1 ac, .pointer (some ⟨ab, ao, none⟩), .slice (some ⟨b1, o1, none⟩) ln tc1, .int .i64 i, .pointer (some ⟨b1, o1 + i * 3, none⟩), ansVal a, .slice (some ⟨Y, 0, none⟩) 2 2, .bool true, .bool false]
def twoA (a : Ans) : Obj := (.cells #[.bool a.1, .int .i64 a.2, .slice none 0 0, .bool a.1, .int .i64 a.2, .slice none 0 0] 43)
theorem twoA_at {w : World} {X : Nat} {a : Ans} (h : w.heap[X]? = some (twoA a)) : AnsA (some ⟨X, 0, none⟩) [a, a] w := fun i x hx => by
  match i, hx with
  | 0, hx => cases hx; exact ⟨X, 0, rfl, (cell_of h _).trans rfl, (cell_of h _).trans rfl, (cell_of h _).trans rfl⟩
  | 1, hx => cases hx; exact ⟨X, 0, rfl, (cell_of h _).trans rfl, (cell_of h _).trans rfl, (cell_of h _).trans rfl⟩
structure SamJ (a : Ans) (W : World) (f : Nat → Bool) (X Y : Nat) (w : World) : Prop where
  x1 : f 2 = true → W.heap.size ≤ X ∧ w.heap[X]? = some (twoA a)
  y1 : f 17 = true → W.heap.size ≤ Y ∧ w.heap[Y]? = some (twoA a)
  old : ∀ b, b < W.heap.size → w.heap[b]? = W.heap[b]?
  size : W.heap.size ≤ w.heap.size
theorem SamJ.at {a : Ans} {W : World} {f : Nat → Bool} {X Y : Nat} {w : World} (h : SamJ a W f X Y w) (d : Nat) : SamJ a W f X Y (w.at d) := ⟨h.x1, h.y1, h.old, h.size⟩
theorem SamJ.quiet {a : Ans} {W : World} {f : Nat → Bool} {X Y : Nat} {w : World} (h : SamJ a W f X Y w) {i : Nat} (h2 : i ≠ 2) (h17 : i ≠ 17) : SamJ a W (upd f i true) X Y w := by
  refine ⟨?_, ?_, h.old, h.size⟩
  · rw [upd_ne _ _ (Ne.symm h2)]; exact h.x1
  · rw [upd_ne _ _ (Ne.symm h17)]; exact h.y1
section
theorem same_do {main : Bool} (sz : Int) (tb toff n0 tc m Q kb lb p i A B ab ao ac b1 o1 ln tc1 : Nat) (a : Ans) (hi : i < ln) (hln : ln ≤ 65536) (W : World)
    (x0 : W.cell? ⟨Q, 0, none⟩ = some (.slice (some ⟨ab, ao, none⟩) 1 ac)) (x1 : W.cell? ⟨ab, ao, none⟩ = some (.slice (some ⟨b1, o1, none⟩) ln tc1))
    (hA : W.heap[A]? = some (.cells #[.bool a.1, .int .i64 a.2, .slice none 0 0] 43)) (hB : W.heap[B]? = some (.cells #[.bool a.1, .int .i64 a.2, .slice none 0 0] 43))
    (w0 : W.cell? ⟨b1, o1 + i * 3, none⟩ = some (.bool a.1)) (w1 : W.cell? ⟨b1, o1 + i * 3 + 1, none⟩ = some (.int .i64 a.2)) (w2 : W.cell? ⟨b1, o1 + i * 3 + 2, none⟩ = some (.slice none 0 0))
    (k : List Item) (cs : List Frame) (u0 : Nat → Value) {Stop : Goroutine → World → Prop}
    (hend : ∀ (u : Nat → Value) (w : World), u 91 = .bool false → (∀ b, b < W.heap.size → w.heap[b]? = W.heap[b]?) → W.heap.size ≤ w.heap.size → Walk Try.prog main (DR (fun _ => none)) Stop (G ((base 4).at ⟨tmJ sz tb toff n0 tc m Q kb lb p i A B u, []⟩ (.inRegion reg4_12 [] :: k)) cs) w) :
    Walk Try.prog main (DR (fun _ => none)) Stop (G ((base 4).at ⟨tmJ sz tb toff n0 tc m Q kb lb p i A B u0, []⟩ (.code (.region 12 reg4_12 true) :: k)) cs) W := by
  obtain ⟨fsA, huA⟩ := structT 43 (by kernel_rfl)
  have hi0 : (0 : Int) ≤ i := by omega
  have hi3 : decide (i < ln) = true := by simp; omega
  have hi1 : decide ((i : Int) < ln) = true := by simp; omega
  have hi4 : (i : Int) < ln := by omega
  refine Walk.drawnJ (Inv := fun f ac' w => ∃ u X Y, ac' = ⟨tmJ sz tb toff n0 tc m Q kb lb p i A B u, []⟩ ∧ Facts dsJ (vsJ Q ab ao ac b1 o1 ln tc1 i a X Y) f u ∧ SamJ a W f X Y w) (by kernel_rfl) (by kernel_rfl) (fun d => ⟨u0, 0, 0, rfl, Facts.none _ _ _, SamJ.at ⟨fun h => (by cases h), fun h => (by cases h), fun _ _ => rfl, Nat.le_refl _⟩ d⟩) ?_ ?_
  · rintro f j op act w ⟨u, X, Y, rfl, F0, S⟩ hC hfj ho hdeps rest hr
    have hj : j < 20 := by have := (Array.getElem?_eq_some_iff.1 ho).1; rw [size4_12] at this; exact this
    have hcell : ∀ {x y : Nat} {v : Value}, W.cell? ⟨x, y, none⟩ = some v → w.cell? ⟨x, y, none⟩ = some v := fun {x y v} h => (World.cell?_of_block (a := ⟨x, y, none⟩) (S.old x (cell_lt' h))).trans h
    have hSs := S.size
    have z0 := hcell x0
    have z1 := hcell x1
    have hC' := hC
    match j, hj with
    | 0, _ =>
      have hcs : ∀ (y : Nat) (v : Value), ([.bool a.1, .int .i64 a.2, .slice none 0 0] : List Value)[y]? = some v → w.cell? ⟨A, 0 + y, none⟩ = some v := fun y v hv => by
        rw [Nat.zero_add, cell_of ((S.old A (Array.getElem?_eq_some_iff.1 hA).1).trans hA)]
        simpa using hv
      clear hdeps hC hC' hend x0 x1
      simp only [tmJ] at hr ⊢
      refine Walk.loadS 43 (.tmp 11) (ho_of (by conv => lhs; whnf) (by kernel_rfl)) (by rfl) (by decide) rfl A (0) [.bool a.1, .int .i64 a.2, .slice none 0 0] (.struct fsA) rfl hcs huA rfl (by kernel_rfl) ?_
      walk_nrm
      refine hr _ _ ⟨upd u 72 (ansVal a), X, Y, ?_, F0.set (by decide) rfl rfl, S.quiet (by decide) (by decide)⟩
      simp [tmJ, upd, ansVal]
    | 1, _ =>
      have hcs : ∀ (y : Nat) (v : Value), ([.bool a.1, .int .i64 a.2, .slice none 0 0] : List Value)[y]? = some v → w.cell? ⟨B, 0 + y, none⟩ = some v := fun y v hv => by
        rw [Nat.zero_add, cell_of ((S.old B (Array.getElem?_eq_some_iff.1 hB).1).trans hB)]
        simpa using hv
      clear hdeps hC hC' hend x0 x1
      simp only [tmJ] at hr ⊢
      refine Walk.loadS 43 (.tmp 12) (ho_of (by conv => lhs; whnf) (by kernel_rfl)) (by rfl) (by decide) rfl B (0) [.bool a.1, .int .i64 a.2, .slice none 0 0] (.struct fsA) rfl hcs huA rfl (by kernel_rfl) ?_
      walk_nrm
      refine hr _ _ ⟨upd u 73 (ansVal a), X, Y, ?_, F0.set (by decide) rfl rfl, S.quiet (by decide) (by decide)⟩
      simp [tmJ, upd, ansVal]
    | 2, _ =>
      have hd := deps_of (l := [0, 1]) (by kernel_rfl) ho hdeps
      have e72 := F0 0 72 _ (hd 0 (by simp)) rfl rfl
      have e73 := F0 1 73 _ (hd 1 (by simp)) rfl rfl
      have hN := heap_alloc_new w (twoA a)
      have hO : ∀ b, b < w.heap.size → (w.alloc (twoA a)).heap[b]? = w.heap[b]? := fun b hb => heap_new_lt _ _ hb
      have hZ : (w.alloc (twoA a)).heap.size = w.heap.size + 1 := by simp
      clear hdeps hC hC' hend x0 x1
      simp only [tmJ] at hr ⊢
      simp only [e72, e73, ansVal]
      (refine Walk.oa ?_; try walk_nrm)
      refine hr _ (w.alloc (twoA a)) ⟨upd u 74 (.slice (some ⟨w.heap.size, 0, none⟩) 2 2), w.heap.size, Y, ?_, Facts.set (facts_vals F0 fun j v hf hv => ?_) (by decide) rfl rfl, ⟨fun h => ?_, fun h => ?_, fun b hb => (hO b (by omega)).trans (S.old b hb), by omega⟩⟩
      · simp [tmJ, upd, e72, e73, ansVal]
      · exact match j, hf, hv with
          | 0, _, hv => hv
          | 1, _, hv => hv
          | 2, hf, hv => by rw [hfj] at hf; cases hf
          | 3, _, hv => hv
          | 4, _, hv => hv
          | 5, _, hv => hv
          | 6, _, hv => hv
          | 7, _, hv => hv
          | 8, _, hv => hv
          | 9, _, hv => hv
          | 10, _, hv => hv
          | 11, _, hv => hv
          | 12, _, hv => hv
          | 13, _, hv => hv
          | 14, _, hv => hv
          | 15, _, hv => hv
          | 16, _, hv => hv
          | 17, _, hv => hv
          | 18, _, hv => hv
          | 19, _, hv => hv
          | j + 20, _, hv => hv
      · exact ⟨hSs, hN⟩
      · rw [upd_ne _ _ (by decide)] at h
        obtain ⟨y1, y2⟩ := S.y1 h
        exact ⟨y1, (hO _ (Array.getElem?_eq_some_iff.1 y2).1).trans y2⟩
    | 3, _ =>
      clear hdeps hC hC' hend x0 x1
      simp only [tmJ] at hr ⊢
      (refine Walk.oq ?_; try walk_nrm)
      refine hr _ _ ⟨upd u 75 (.pointer (some ⟨Q, 0, none⟩)), X, Y, ?_, F0.set (by decide) rfl rfl, S.quiet (by decide) (by decide)⟩
      simp [tmJ, upd]
    | 4, _ =>
      have hd := deps_of (l := [3]) (by kernel_rfl) ho hdeps
      have e75 := F0 3 75 _ (hd 3 (by simp)) rfl rfl
      clear hdeps hC hC' hend x0 x1
      simp only [tmJ] at hr ⊢
      simp only [e75]
      (refine Walk.oq ?_; try walk_nrm)
      refine hr _ _ ⟨upd u 76 (.slice (some ⟨ab, ao, none⟩) 1 ac), X, Y, ?_, F0.set (by decide) rfl rfl, S.quiet (by decide) (by decide)⟩
      simp [tmJ, upd, e75]
    | 5, _ =>
      have hd := deps_of (l := [4]) (by kernel_rfl) ho hdeps
      have e76 := F0 4 76 _ (hd 4 (by simp)) rfl rfl
      clear hdeps hC hC' hend x0 x1
      simp only [tmJ] at hr ⊢
      simp only [e76]
      (refine Walk.oq ?_; try walk_nrm)
      refine hr _ _ ⟨upd u 77 (.pointer (some ⟨ab, ao, none⟩)), X, Y, ?_, F0.set (by decide) rfl rfl, S.quiet (by decide) (by decide)⟩
      simp [tmJ, upd, e76]
    | 6, _ =>
      have hd := deps_of (l := [5]) (by kernel_rfl) ho hdeps
      have e77 := F0 5 77 _ (hd 5 (by simp)) rfl rfl
      clear hdeps hC hC' hend x0 x1
      simp only [tmJ] at hr ⊢
      simp only [e77]
      (refine Walk.oq ?_; try walk_nrm)
      refine hr _ _ ⟨upd u 78 (.slice (some ⟨b1, o1, none⟩) ln tc1), X, Y, ?_, F0.set (by decide) rfl rfl, S.quiet (by decide) (by decide)⟩
      simp [tmJ, upd, e77]
    | 7, _ =>
      clear hdeps hC hC' hend x0 x1
      simp only [tmJ] at hr ⊢
      (refine Walk.oq ?_; try walk_nrm)
      refine hr _ _ ⟨upd u 79 (.int .i64 i), X, Y, ?_, F0.set (by decide) rfl rfl, S.quiet (by decide) (by decide)⟩
      simp [tmJ, upd]
    | 8, _ =>
      have hd := deps_of (l := [6, 7]) (by kernel_rfl) ho hdeps
      have e78 := F0 6 78 _ (hd 6 (by simp)) rfl rfl
      have e79 := F0 7 79 _ (hd 7 (by simp)) rfl rfl
      clear hdeps hC hC' hend x0 x1
      simp only [tmJ] at hr ⊢
      simp only [e78, e79]
      (refine Walk.oq ?_; try walk_nrm)
      refine hr _ _ ⟨upd u 80 (.pointer (some ⟨b1, o1 + i * 3, none⟩)), X, Y, ?_, F0.set (by decide) rfl rfl, S.quiet (by decide) (by decide)⟩
      simp [tmJ, upd, e78, e79]
    | 9, _ =>
      have hd := deps_of (l := [8]) (by kernel_rfl) ho hdeps
      have e80 := F0 8 80 _ (hd 8 (by simp)) rfl rfl
      have hcs : ∀ (y : Nat) (v : Value), ([.bool a.1, .int .i64 a.2, .slice none 0 0] : List Value)[y]? = some v → w.cell? ⟨b1, o1 + i * 3 + y, none⟩ = some v := fun y v hv => by
        match y, hv with
        | 0, hv => cases hv; exact hcell w0
        | 1, hv => cases hv; exact hcell w1
        | 2, hv => cases hv; exact hcell w2
      clear hdeps hC hC' hend x0 x1
      simp only [tmJ] at hr ⊢
      simp only [e80]
      refine Walk.loadS 43 (.tmp 80) (ho_of (by conv => lhs; whnf) (by kernel_rfl)) (by rfl) (by decide) rfl b1 (o1 + i * 3) [.bool a.1, .int .i64 a.2, .slice none 0 0] (.struct fsA) rfl hcs huA rfl (by kernel_rfl) ?_
      walk_nrm
      refine hr _ _ ⟨upd u 81 (ansVal a), X, Y, ?_, F0.set (by decide) rfl rfl, S.quiet (by decide) (by decide)⟩
      simp [tmJ, upd, ansVal, e80]
    | 10, _ =>
      clear hdeps hC hC' hend x0 x1
      simp only [tmJ] at hr ⊢
      (refine Walk.oq ?_; try walk_nrm)
      refine hr _ _ ⟨upd u 82 (.pointer (some ⟨Q, 0, none⟩)), X, Y, ?_, F0.set (by decide) rfl rfl, S.quiet (by decide) (by decide)⟩
      simp [tmJ, upd]
    | 11, _ =>
      have hd := deps_of (l := [10]) (by kernel_rfl) ho hdeps
      have e82 := F0 10 82 _ (hd 10 (by simp)) rfl rfl
      clear hdeps hC hC' hend x0 x1
      simp only [tmJ] at hr ⊢
      simp only [e82]
      (refine Walk.oq ?_; try walk_nrm)
      refine hr _ _ ⟨upd u 83 (.slice (some ⟨ab, ao, none⟩) 1 ac), X, Y, ?_, F0.set (by decide) rfl rfl, S.quiet (by decide) (by decide)⟩
      simp [tmJ, upd, e82]
    | 12, _ =>
      have hd := deps_of (l := [11]) (by kernel_rfl) ho hdeps
      have e83 := F0 11 83 _ (hd 11 (by simp)) rfl rfl
      clear hdeps hC hC' hend x0 x1
      simp only [tmJ] at hr ⊢
      simp only [e83]
      (refine Walk.oq ?_; try walk_nrm)
      refine hr _ _ ⟨upd u 84 (.pointer (some ⟨ab, ao, none⟩)), X, Y, ?_, F0.set (by decide) rfl rfl, S.quiet (by decide) (by decide)⟩
      simp [tmJ, upd, e83]
    | 13, _ =>
      have hd := deps_of (l := [12]) (by kernel_rfl) ho hdeps
      have e84 := F0 12 84 _ (hd 12 (by simp)) rfl rfl
      clear hdeps hC hC' hend x0 x1
      simp only [tmJ] at hr ⊢
      simp only [e84]
      (refine Walk.oq ?_; try walk_nrm)
      refine hr _ _ ⟨upd u 85 (.slice (some ⟨b1, o1, none⟩) ln tc1), X, Y, ?_, F0.set (by decide) rfl rfl, S.quiet (by decide) (by decide)⟩
      simp [tmJ, upd, e84]
    | 14, _ =>
      clear hdeps hC hC' hend x0 x1
      simp only [tmJ] at hr ⊢
      (refine Walk.oq ?_; try walk_nrm)
      refine hr _ _ ⟨upd u 86 (.int .i64 i), X, Y, ?_, F0.set (by decide) rfl rfl, S.quiet (by decide) (by decide)⟩
      simp [tmJ, upd]
    | 15, _ =>
      have hd := deps_of (l := [13, 14]) (by kernel_rfl) ho hdeps
      have e85 := F0 13 85 _ (hd 13 (by simp)) rfl rfl
      have e86 := F0 14 86 _ (hd 14 (by simp)) rfl rfl
      clear hdeps hC hC' hend x0 x1
      simp only [tmJ] at hr ⊢
      simp only [e85, e86]
      (refine Walk.oq ?_; try walk_nrm)
      refine hr _ _ ⟨upd u 87 (.pointer (some ⟨b1, o1 + i * 3, none⟩)), X, Y, ?_, F0.set (by decide) rfl rfl, S.quiet (by decide) (by decide)⟩
      simp [tmJ, upd, e85, e86]
    | 16, _ =>
      have hd := deps_of (l := [15]) (by kernel_rfl) ho hdeps
      have e87 := F0 15 87 _ (hd 15 (by simp)) rfl rfl
      have hcs : ∀ (y : Nat) (v : Value), ([.bool a.1, .int .i64 a.2, .slice none 0 0] : List Value)[y]? = some v → w.cell? ⟨b1, o1 + i * 3 + y, none⟩ = some v := fun y v hv => by
        match y, hv with
        | 0, hv => cases hv; exact hcell w0
        | 1, hv => cases hv; exact hcell w1
        | 2, hv => cases hv; exact hcell w2
      clear hdeps hC hC' hend x0 x1
      simp only [tmJ] at hr ⊢
      simp only [e87]
      refine Walk.loadS 43 (.tmp 87) (ho_of (by conv => lhs; whnf) (by kernel_rfl)) (by rfl) (by decide) rfl b1 (o1 + i * 3) [.bool a.1, .int .i64 a.2, .slice none 0 0] (.struct fsA) rfl hcs huA rfl (by kernel_rfl) ?_
      walk_nrm
      refine hr _ _ ⟨upd u 88 (ansVal a), X, Y, ?_, F0.set (by decide) rfl rfl, S.quiet (by decide) (by decide)⟩
      simp [tmJ, upd, ansVal, e87]
    | 17, _ =>
      have hd := deps_of (l := [9, 16]) (by kernel_rfl) ho hdeps
      have e81 := F0 9 81 _ (hd 9 (by simp)) rfl rfl
      have e88 := F0 16 88 _ (hd 16 (by simp)) rfl rfl
      have hN := heap_alloc_new w (twoA a)
      have hO : ∀ b, b < w.heap.size → (w.alloc (twoA a)).heap[b]? = w.heap[b]? := fun b hb => heap_new_lt _ _ hb
      have hZ : (w.alloc (twoA a)).heap.size = w.heap.size + 1 := by simp
      clear hdeps hC hC' hend x0 x1
      simp only [tmJ] at hr ⊢
      simp only [e81, e88, ansVal]
      (refine Walk.oa ?_; try walk_nrm)
      refine hr _ (w.alloc (twoA a)) ⟨upd u 89 (.slice (some ⟨w.heap.size, 0, none⟩) 2 2), X, w.heap.size, ?_, Facts.set (facts_vals F0 fun j v hf hv => ?_) (by decide) rfl rfl, ⟨fun h => ?_, fun h => ?_, fun b hb => (hO b (by omega)).trans (S.old b hb), by omega⟩⟩
      · simp [tmJ, upd, e81, e88, ansVal]
      · exact match j, hf, hv with
          | 0, _, hv => hv
          | 1, _, hv => hv
          | 2, _, hv => hv
          | 3, _, hv => hv
          | 4, _, hv => hv
          | 5, _, hv => hv
          | 6, _, hv => hv
          | 7, _, hv => hv
          | 8, _, hv => hv
          | 9, _, hv => hv
          | 10, _, hv => hv
          | 11, _, hv => hv
          | 12, _, hv => hv
          | 13, _, hv => hv
          | 14, _, hv => hv
          | 15, _, hv => hv
          | 16, _, hv => hv
          | 17, hf, hv => by rw [hfj] at hf; cases hf
          | 18, _, hv => hv
          | 19, _, hv => hv
          | j + 20, _, hv => hv
      · rw [upd_ne _ _ (by decide)] at h
        obtain ⟨y1, y2⟩ := S.x1 h
        exact ⟨y1, (hO _ (Array.getElem?_eq_some_iff.1 y2).1).trans y2⟩
      · exact ⟨hSs, hN⟩
    | 18, _ =>
      have hd := deps_of (l := [2, 17]) (by kernel_rfl) ho hdeps
      have e74 := F0 2 74 _ (hd 2 (by simp)) rfl rfl
      have e89 := F0 17 89 _ (hd 17 (by simp)) rfl rfl
      have hX := (S.x1 (hd 2 (by simp))).2
      have hY := (S.y1 (hd 17 (by simp))).2
      have hsa := sa_w (main := main) (V := fun _ => none) (some ⟨X, 0, none⟩) (some ⟨Y, 0, none⟩) [a, a] 2 2 (by show 2 ≤ 17592186044416; decide) w (twoA_at hX) (twoA_at hY)
      clear hdeps hC hC' hend x0 x1
      simp only [tmJ] at hr ⊢
      simp only [e74, e89]
      refine Walk.callV (x := .bool true) (W := w) ?_ (ho_of (by conv => lhs; whnf) (by kernel_rfl)) (by rfl) (by decide) rfl Try.func19 (by kernel_rfl) (by rfl) ?_
      · walk_nrm
        exact hsa
      walk_nrm
      refine hr _ _ ⟨upd u 90 (.bool true), X, Y, ?_, F0.set (by decide) rfl rfl, S.quiet (by decide) (by decide)⟩
      simp [tmJ, upd, e74, e89]
    | 19, _ =>
      have hd := deps_of (l := [18]) (by kernel_rfl) ho hdeps
      have e90 := F0 18 90 _ (hd 18 (by simp)) rfl rfl
      clear hdeps hC hC' hend x0 x1
      simp only [tmJ] at hr ⊢
      simp only [e90]
      (refine Walk.oq ?_; try walk_nrm)
      refine hr _ _ ⟨upd u 91 (.bool false), X, Y, ?_, F0.set (by decide) rfl rfl, S.quiet (by decide) (by decide)⟩
      simp [tmJ, upd, e90]
  · rintro f act w ⟨u, X, Y, rfl, F0, S⟩ hall
    exact hend u w (F0 19 91 _ (hall 19 (by rw [size4_12]; decide)) rfl rfl) S.old S.size
end
end Go.Proofs.Ytnnakajldnaldaa
