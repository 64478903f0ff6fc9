/- Part 30. -/
import Derived.Test.YtflcclneedldoaaJ3
import Derived.Test.YtflcclneedldoaaJ9
import Derived.Test.YtflcclneedldoaaJ29
set_option linter.unusedSimpArgs false
set_option linter.unusedVariables false
set_option maxHeartbeats 8000000
set_option maxRecDepth 100000
namespace Go.Proofs.Ytflcclneedldoaa
noncomputable section
open Go.Conc Go.RowKit Go.Relay Try
open Go.ConcN (upd upd_ne upd_same)
def Fd (tb toff n0 tc Q kb lb p n i A B : Nat) (u : Nat -> Value) : Array Value := #[.int .i64 n, .slice (some ⟨tb, toff, none⟩) n0 tc, u 2, u 3, .bool false, .pointer (some ⟨kb, 0, none⟩), u 6, .pointer (some ⟨lb, 0, none⟩), u 8, .pointer (some ⟨Q, 0, none⟩), .pointer (some ⟨p, 0, none⟩), .int .i64 i, .pointer (some ⟨A, 0, none⟩), .pointer (some ⟨B, 0, none⟩), u 14, u 15, u 16, u 17, u 18, u 19, u 20, u 21, u 22, u 23, u 24, u 25, u 26, u 27, u 28, u 29, u 30, u 31, u 32, u 33, u 34, u 35, u 36, u 37, u 38, u 39, u 40, u 41, u 42, u 43, u 44, u 45, u 46, u 47, u 48, u 49, u 50, u 51, u 52, u 53, u 54, u 55, u 56, u 57, u 58, u 59, u 60, u 61, u 62, u 63, u 64, u 65, u 66, u 67, u 68, u 69, u 70, u 71, u 72, u 73, u 74, u 75, u 76, u 77, u 78, u 79, u 80, u 81, u 82, u 83, u 84, u 85, u 86, u 87, u 88, u 89, u 90, u 91, u 92, u 93, u 94, u 95, u 96, u 97, u 98, u 99, u 100, u 101, u 102, u 103, u 104, u 105, u 106, u 107, u 108, u 109, u 110, u 111, u 112, u 113, u 114, u 115, u 116, u 117, u 118, u 119, u 120, u 121, u 122, u 123, u 124, u 125, u 126, u 127, u 128, u 129, u 130, u 131, u 132, u 133, u 134, u 135, u 136, u 137, u 138, u 139, u 140, u 141, u 142, u 143, u 144, u 145, u 146, u 147, u 148, u 149, u 150, u 151, u 152, u 153, u 154, u 155, u 156, u 157, u 158, u 159, u 160, u 161, u 162, u 163, u 164, u 165, u 166, u 167, u 168, u 169, u 170, u 171, u 172, u 173, u 174, u 175, u 176, u 177, u 178, u 179, u 180, u 181, u 182, u 183, u 184, u 185, u 186, u 187, u 188, u 189, u 190, u 191, u 192, u 193, u 194, u 195]
def dsJ : List Nat := [101, 102, 103, 104, 105, 106, 107, 108, 109, 110, 111, 112, 113, 114, 115, 116, 117, 118, 119, 120]
def vsJ (Q ab ao ac b1 o1 ln tc1 i : Nat) (a : Ans) (sa sb wl : Value) (X Y : Nat) : List Value := [Bo a sa, Bo a sb, .slice (some ⟨X, 0, none⟩) 2 2, .pointer (some ⟨Q, 0, none⟩), .slice (some ⟨ab, ao, none⟩) 1 ac, .pointer (some ⟨ab, ao, none⟩), .slice (some ⟨b1, o1, none⟩) ln tc1, .int .i64 i, .pointer (some ⟨b1, o1 + i * 3, none⟩), Bo a wl, .pointer (some ⟨Q, 0, none⟩), .slice (some ⟨ab, ao, none⟩) 1 ac, .pointer (some ⟨ab, ao, none⟩), .slice (some ⟨b1, o1, none⟩) ln tc1, .int .i64 i, .pointer (some ⟨b1, o1 + i * 3, none⟩), Bo a wl, .slice (some ⟨Y, 0, none⟩) 2 2, .bool true, .bool false]
def LsS (sl : Value) (ls : List Int) (w : World) : Prop := ∃ la lc, sl = .slice la ls.length lc /\ NumA la ls w
theorem LsN.lsS {base : Nat} {sl : Value} {ls : List Int} {w : World} (h : LsN base sl ls w) : LsS sl ls w := by
 obtain ⟨a, c, rfl⟩ := h.is
 exact ⟨a, c, rfl, Ix h.row⟩
theorem LsS.old {sl : Value} {ls : List Int} {w w' : World} (h : LsS sl ls w) (hO : ∀ b, b < w.heap.size -> w'.heap[b]? = w.heap[b]?) : LsS sl ls w' := by
 obtain ⟨la, lc, e, h⟩ := h
 exact ⟨la, lc, e, fun j z hj => by
  obtain ⟨b, o, e, hc⟩ := h j z hj
  exact ⟨b, o, e, (cBk (a := ⟨b, o + j, none⟩) (hO b (Al hc))).trans hc⟩⟩
def Nf (a : Ans) (x y : Value) : Obj := .cells #[.bool a.ok, .int .i64 a.n, x, .bool a.ok, .int .i64 a.n, y] 42
theorem twoA_at {w : World} {X : Nat} {a : Ans} {x y : Value} (h : w.heap[X]? = some (Nf a x y)) (hx : LsS x a.l w) (hy : LsS y a.l w) (hl : a.l.length <= 1048576) : AnsA (some ⟨X, 0, none⟩) [a, a] w := fun i z hz => by
 obtain ⟨la, lc, rfl, h1⟩ := hx
 obtain ⟨ma, mc, rfl, h2⟩ := hy
 match i, hz with
 | 0, hz => cases hz; exact ⟨X, 0, la, lc, rfl, (Ab h _).trans rfl, (Ab h _).trans rfl, (Ab h _).trans rfl, h1, hl⟩
 | 1, hz => cases hz; exact ⟨X, 0, ma, mc, rfl, (Ab h _).trans rfl, (Ab h _).trans rfl, (Ab h _).trans rfl, h2, hl⟩
structure SamJ (a : Ans) (sa sb wl : Value) (W : World) (f : Nat -> Bool) (X Y : Nat) (w : World) : Prop where
 x1 : f 2 = true -> W.heap.size <= X /\ w.heap[X]? = some (Nf a sa sb)
 y1 : f 17 = true -> W.heap.size <= Y /\ w.heap[Y]? = some (Nf a wl wl)
 old : ∀ b, b < W.heap.size -> w.heap[b]? = W.heap[b]?
 size : W.heap.size <= w.heap.size
section
variable {a : Ans} {sa sb wl : Value} {W : World} {f : Nat -> Bool} {X Y : Nat} {w : World}
theorem SamJ.at (h : SamJ a sa sb wl W f X Y w) (d : Nat) : SamJ a sa sb wl W f X Y (w.at d) := ⟨h.x1, h.y1, h.old, h.size⟩
theorem SamJ.quiet (h : SamJ a sa sb wl W f X Y w) {i : Nat} (h2 : i ≠ 2 := by decide) (h17 : i ≠ 17 := by decide) : SamJ a sa sb wl W (upd f i true) X Y w := by
 refine ⟨?_, ?_, h.old, h.size⟩
 ·rw [upd_ne _ _ (Ne.symm h2)]; exact h.x1
 ·rw [upd_ne _ _ (Ne.symm h17)]; exact h.y1
end
theorem same_do {main : Bool} (tb toff n0 tc Q kb lb p n i A B ab ao ac b1 o1 ln tc1 : Nat) (a : Ans) (sx : Option Addr) (sz : Nat) (tx : Option Addr) (tz : Nat) (wx : Option Addr) (wz : Nat) (hi : i < ln) (hln : ln <= 65536) (hal : a.l.length <= 1048576) (W : World)
  (x0 : W.cell? ⟨Q, 0, none⟩ = some (.slice (some ⟨ab, ao, none⟩) 1 ac)) (x1 : W.cell? ⟨ab, ao, none⟩ = some (.slice (some ⟨b1, o1, none⟩) ln tc1))
  (hA : W.heap[A]? = some (ansB a (.slice sx a.l.length sz))) (hB : W.heap[B]? = some (ansB a (.slice tx a.l.length tz))) (nA : NumA sx a.l W) (nB : NumA tx a.l W) (nW : NumA wx a.l W)
  (w0 : W.cell? ⟨b1, o1 + i * 3, none⟩ = some (.bool a.ok)) (w1 : W.cell? ⟨b1, o1 + i * 3 + 1, none⟩ = some (.int .i64 a.n)) (w2 : W.cell? ⟨b1, o1 + i * 3 + 2, none⟩ = some (.slice wx a.l.length wz))
  (kx : List Item) (cs : List Frame) (u0 : Nat -> Value) {Stop : Goroutine -> World -> Prop}
  (hend : ∀ (u : Nat -> Value) (w : World), u 120 = .bool false -> (∀ b, b < W.heap.size -> w.heap[b]? = W.heap[b]?) -> W.heap.size <= w.heap.size -> Walk prog main (DR (fun _ => none)) Stop (G ((base 3).at ⟨Fd tb toff n0 tc Q kb lb p n i A B u, []⟩ (.inRegion reg3_15 [] :: kx)) cs) w) :
  Walk prog main (DR (fun _ => none)) Stop (G ((base 3).at ⟨Fd tb toff n0 tc Q kb lb p n i A B u0, []⟩ (.code (.region 15 reg3_15 true) :: kx)) cs) W := by
 obtain ⟨fsA, huA⟩ := Ci 42 (by kernel_rfl)
 have hi0 : (0 : Int) <= i := by omega
 have hi3 : decide (i < ln) = true := by simp; omega
 have hi1 : decide ((i : Int) < ln) = true := by simp; omega
 have hi4 : (i : Int) < ln := by omega
 have mA : LsS (.slice sx a.l.length sz) a.l W := ⟨_, _, rfl, nA⟩
 have mB : LsS (.slice tx a.l.length tz) a.l W := ⟨_, _, rfl, nB⟩
 have mW : LsS (.slice wx a.l.length wz) a.l W := ⟨_, _, rfl, nW⟩
 clear nA nB nW
 generalize hal' : a.l.length = al at *
 generalize hsa : Value.slice sx al sz = sa at *
 generalize hsb : Value.slice tx al tz = sb at *
 generalize hwl : Value.slice wx al wz = wl at *
 refine Cv (Inv := fun f ac' w => ∃ u X Y, ac' = ⟨Fd tb toff n0 tc Q kb lb p n i A B u, []⟩ /\ Facts dsJ (vsJ Q ab ao ac b1 o1 ln tc1 i a sa sb wl X Y) f u /\ SamJ a sa sb wl W f X Y w) (by kernel_rfl) (by kernel_rfl) (fun d => ⟨u0, 0, 0, rfl, Facts.none _ _ _, SamJ.at ⟨fun h => (by cases h), fun h => (by cases h), fun _ _ => rfl, Nat.le_refl _⟩ d⟩) ?_ ?_
 ·rintro f j op act w ⟨u, X, Y, rfl, F0, S⟩ hC hfj ho hdeps rest hr
  have hj : j < 20 := by have := (aEs ho).1; rw [size3_15] at this; exact this
  have hcell : ∀ {x y : Nat} {v : Value}, W.cell? ⟨x, y, none⟩ = some v -> w.cell? ⟨x, y, none⟩ = some v := fun {x y v} h => (cBk (a := ⟨x, y, none⟩) (S.old x (Al h))).trans h
  have hSs := S.size
  have z0 := hcell x0
  have z1 := hcell x1
  have hC' := hC
  simp only [Fd] at hr ⊢
  match j, hj with
  | 0, _ =>
   have hcs : ∀ (y : Nat) (v : Value), ([.bool a.ok, .int .i64 a.n, sa] : List Value)[y]? = some v -> w.cell? ⟨A, 0 + y, none⟩ = some v := fun y v hv => by
    rw [Nat.zero_add, Ab ((S.old A (aEs hA).1).trans hA)]
    simpa using hv
   clear hdeps hC hC' hend x0 x1
   subst hsa
   refine Walk.loadS 42 (.tmp 12) Ah (by rfl) (by decide) rfl A (0) [.bool a.ok, .int .i64 a.n, .slice sx al sz] (.struct fsA) rfl hcs huA rfl (by kernel_rfl) ?_
   walk_nrm
   refine hr _ _ ⟨upd u 101 (Bo a (.slice sx al sz)), X, Y, ?_, F0.set, S.quiet⟩
   simp [Fd, upd, Bo]
  | 1, _ =>
   have hcs : ∀ (y : Nat) (v : Value), ([.bool a.ok, .int .i64 a.n, sb] : List Value)[y]? = some v -> w.cell? ⟨B, 0 + y, none⟩ = some v := fun y v hv => by
    rw [Nat.zero_add, Ab ((S.old B (aEs hB).1).trans hB)]
    simpa using hv
   clear hdeps hC hC' hend x0 x1
   subst hsb
   refine Walk.loadS 42 (.tmp 13) Ah (by rfl) (by decide) rfl B (0) [.bool a.ok, .int .i64 a.n, .slice tx al tz] (.struct fsA) rfl hcs huA rfl (by kernel_rfl) ?_
   walk_nrm
   refine hr _ _ ⟨upd u 102 (Bo a (.slice tx al tz)), X, Y, ?_, F0.set, S.quiet⟩
   simp [Fd, upd, Bo]
  | 2, _ =>
   have hd := qD [0, 1] ho hdeps
   have e101 := F0.g hd 0
   have e102 := F0.g hd 1
   have hN := hAw w (Nf a sa sb)
   have hO : ∀ b, b < w.heap.size -> (w.alloc (Nf a sa sb)).heap[b]? = w.heap[b]? := fun b hb => Ad _ _ hb
   have hZ : (w.alloc (Nf a sa sb)).heap.size = w.heap.size + 1 := by simp
   clear hdeps hC hC' hend x0 x1
   simp only [e101, e102, Bo]
   subst hsa hsb hwl
   (refine Wa ?_; try walk_nrm)
   refine hr _ (w.alloc (Nf a (.slice sx al sz) (.slice tx al tz))) ⟨upd u 103 (.slice (some ⟨w.heap.size, 0, none⟩) 2 2), w.heap.size, Y, ?_, Facts.set (Dk F0 hfj rfl), ⟨fun h => ?_, fun h => ?_, fun b hb => (hO b (by omega)).trans (S.old b hb), by omega⟩⟩
   ·simp [Fd, upd, e101, e102, Bo]
   ·exact ⟨hSs, hN⟩
   ·rw [upd_ne _ _ (by decide)] at h
    obtain ⟨y1, y2⟩ := S.y1 h
    exact ⟨y1, (hO _ (aEs y2).1).trans y2⟩
  | 3, _ =>
   clear hdeps hC hC' hend x0 x1
   (refine Wq ?_; try walk_nrm)
   refine hr _ _ ⟨upd u 104 (.pointer (some ⟨Q, 0, none⟩)), X, Y, ?_, F0.set, S.quiet⟩
   simp [Fd, upd]
  | 4, _ =>
   have hd := qD [3] ho hdeps
   have e104 := F0.g hd 3
   clear hdeps hC hC' hend x0 x1
   simp only [e104]
   (refine Wq ?_; try walk_nrm)
   refine hr _ _ ⟨upd u 105 (.slice (some ⟨ab, ao, none⟩) 1 ac), X, Y, ?_, F0.set, S.quiet⟩
   simp [Fd, upd, e104]
  | 5, _ =>
   have hd := qD [4] ho hdeps
   have e105 := F0.g hd 4
   clear hdeps hC hC' hend x0 x1
   simp only [e105]
   (refine Wq ?_; try walk_nrm)
   refine hr _ _ ⟨upd u 106 (.pointer (some ⟨ab, ao, none⟩)), X, Y, ?_, F0.set, S.quiet⟩
   simp [Fd, upd, e105]
  | 6, _ =>
   have hd := qD [5] ho hdeps
   have e106 := F0.g hd 5
   clear hdeps hC hC' hend x0 x1
   simp only [e106]
   (refine Wq ?_; try walk_nrm)
   refine hr _ _ ⟨upd u 107 (.slice (some ⟨b1, o1, none⟩) ln tc1), X, Y, ?_, F0.set, S.quiet⟩
   simp [Fd, upd, e106]
  | 7, _ =>
   clear hdeps hC hC' hend x0 x1
   (refine Wq ?_; try walk_nrm)
   refine hr _ _ ⟨upd u 108 (.int .i64 i), X, Y, ?_, F0.set, S.quiet⟩
   simp [Fd, upd]
  | 8, _ =>
   have hd := qD [6, 7] ho hdeps
   have e107 := F0.g hd 6
   have e108 := F0.g hd 7
   clear hdeps hC hC' hend x0 x1
   simp only [e107, e108]
   (refine Wq ?_; try walk_nrm)
   refine hr _ _ ⟨upd u 109 (.pointer (some ⟨b1, o1 + i * 3, none⟩)), X, Y, ?_, F0.set, S.quiet⟩
   simp [Fd, upd, e107, e108]
  | 9, _ =>
   have hd := qD [8] ho hdeps
   have e109 := F0.g hd 8
   have hcs : ∀ (y : Nat) (v : Value), ([.bool a.ok, .int .i64 a.n, wl] : List Value)[y]? = some v -> w.cell? ⟨b1, o1 + i * 3 + y, none⟩ = some v := fun y v hv => by
    match y, hv with
    | 0, hv => cases hv; exact hcell w0
    | 1, hv => cases hv; exact hcell w1
    | 2, hv => cases hv; exact hcell w2
   clear hdeps hC hC' hend x0 x1
   simp only [e109]
   subst hwl
   refine Walk.loadS 42 (.tmp 109) Ah (by rfl) (by decide) rfl b1 (o1 + i * 3) [.bool a.ok, .int .i64 a.n, .slice wx al wz] (.struct fsA) rfl hcs huA rfl (by kernel_rfl) ?_
   walk_nrm
   refine hr _ _ ⟨upd u 110 (Bo a (.slice wx al wz)), X, Y, ?_, F0.set, S.quiet⟩
   simp [Fd, upd, Bo, e109]
  | 10, _ =>
   clear hdeps hC hC' hend x0 x1
   (refine Wq ?_; try walk_nrm)
   refine hr _ _ ⟨upd u 111 (.pointer (some ⟨Q, 0, none⟩)), X, Y, ?_, F0.set, S.quiet⟩
   simp [Fd, upd]
  | 11, _ =>
   have hd := qD [10] ho hdeps
   have e111 := F0.g hd 10
   clear hdeps hC hC' hend x0 x1
   simp only [e111]
   (refine Wq ?_; try walk_nrm)
   refine hr _ _ ⟨upd u 112 (.slice (some ⟨ab, ao, none⟩) 1 ac), X, Y, ?_, F0.set, S.quiet⟩
   simp [Fd, upd, e111]
  | 12, _ =>
   have hd := qD [11] ho hdeps
   have e112 := F0.g hd 11
   clear hdeps hC hC' hend x0 x1
   simp only [e112]
   (refine Wq ?_; try walk_nrm)
   refine hr _ _ ⟨upd u 113 (.pointer (some ⟨ab, ao, none⟩)), X, Y, ?_, F0.set, S.quiet⟩
   simp [Fd, upd, e112]
  | 13, _ =>
   have hd := qD [12] ho hdeps
   have e113 := F0.g hd 12
   clear hdeps hC hC' hend x0 x1
   simp only [e113]
   (refine Wq ?_; try walk_nrm)
   refine hr _ _ ⟨upd u 114 (.slice (some ⟨b1, o1, none⟩) ln tc1), X, Y, ?_, F0.set, S.quiet⟩
   simp [Fd, upd, e113]
  | 14, _ =>
   clear hdeps hC hC' hend x0 x1
   (refine Wq ?_; try walk_nrm)
   refine hr _ _ ⟨upd u 115 (.int .i64 i), X, Y, ?_, F0.set, S.quiet⟩
   simp [Fd, upd]
  | 15, _ =>
   have hd := qD [13, 14] ho hdeps
   have e114 := F0.g hd 13
   have e115 := F0.g hd 14
   clear hdeps hC hC' hend x0 x1
   simp only [e114, e115]
   (refine Wq ?_; try walk_nrm)
   refine hr _ _ ⟨upd u 116 (.pointer (some ⟨b1, o1 + i * 3, none⟩)), X, Y, ?_, F0.set, S.quiet⟩
   simp [Fd, upd, e114, e115]
  | 16, _ =>
   have hd := qD [15] ho hdeps
   have e116 := F0.g hd 15
   have hcs : ∀ (y : Nat) (v : Value), ([.bool a.ok, .int .i64 a.n, wl] : List Value)[y]? = some v -> w.cell? ⟨b1, o1 + i * 3 + y, none⟩ = some v := fun y v hv => by
    match y, hv with
    | 0, hv => cases hv; exact hcell w0
    | 1, hv => cases hv; exact hcell w1
    | 2, hv => cases hv; exact hcell w2
   clear hdeps hC hC' hend x0 x1
   simp only [e116]
   subst hwl
   refine Walk.loadS 42 (.tmp 116) Ah (by rfl) (by decide) rfl b1 (o1 + i * 3) [.bool a.ok, .int .i64 a.n, .slice wx al wz] (.struct fsA) rfl hcs huA rfl (by kernel_rfl) ?_
   walk_nrm
   refine hr _ _ ⟨upd u 117 (Bo a (.slice wx al wz)), X, Y, ?_, F0.set, S.quiet⟩
   simp [Fd, upd, Bo, e116]
  | 17, _ =>
   have hd := qD [9, 16] ho hdeps
   have e110 := F0.g hd 9
   have e117 := F0.g hd 16
   have hN := hAw w (Nf a wl wl)
   have hO : ∀ b, b < w.heap.size -> (w.alloc (Nf a wl wl)).heap[b]? = w.heap[b]? := fun b hb => Ad _ _ hb
   have hZ : (w.alloc (Nf a wl wl)).heap.size = w.heap.size + 1 := by simp
   clear hdeps hC hC' hend x0 x1
   simp only [e110, e117, Bo]
   subst hsa hsb hwl
   (refine Wa ?_; try walk_nrm)
   refine hr _ (w.alloc (Nf a (.slice wx al wz) (.slice wx al wz))) ⟨upd u 118 (.slice (some ⟨w.heap.size, 0, none⟩) 2 2), X, w.heap.size, ?_, Facts.set (Dk F0 hfj rfl), ⟨fun h => ?_, fun h => ?_, fun b hb => (hO b (by omega)).trans (S.old b hb), by omega⟩⟩
   ·simp [Fd, upd, e110, e117, Bo]
   ·rw [upd_ne _ _ (by decide)] at h
    obtain ⟨y1, y2⟩ := S.x1 h
    exact ⟨y1, (hO _ (aEs y2).1).trans y2⟩
   ·exact ⟨hSs, hN⟩
  | 18, _ =>
   have hd := qD [2, 17] ho hdeps
   have e103 := F0.g hd 2
   have e118 := F0.g hd 17
   have hX := (S.x1 (hd 2 (by simp))).2
   have hY := (S.y1 (hd 17 (by simp))).2
   have hsa := sa_w (main := main) (V := fun _ => none) (some ⟨X, 0, none⟩) (some ⟨Y, 0, none⟩) [a, a] 2 2 (by show 2 <= 17592186044416; decide) w (twoA_at hX (mA.old S.old) (mB.old S.old) (by omega)) (twoA_at hY (mW.old S.old) (mW.old S.old) (by omega))
   clear hdeps hC hC' hend x0 x1
   simp only [e103, e118]
   refine qV (x := .bool true) (W := w) func19 ?_ ?_
   ·walk_nrm
    exact hsa
   walk_nrm
   refine hr _ _ ⟨upd u 119 (.bool true), X, Y, ?_, F0.set, S.quiet⟩
   simp [Fd, upd, e103, e118]
  | 19, _ =>
   have hd := qD [18] ho hdeps
   have e119 := F0.g hd 18
   clear hdeps hC hC' hend x0 x1
   simp only [e119]
   (refine Wq ?_; try walk_nrm)
   refine hr _ _ ⟨upd u 120 (.bool false), X, Y, ?_, F0.set, S.quiet⟩
   simp [Fd, upd, e119]
 ·rintro f act w ⟨u, X, Y, rfl, F0, S⟩ hall
  exact hend u w (F0 19 120 _ (hall 19 (by rw [size3_15]; decide)) rfl rfl) S.old S.size
section
variable {main : Bool} {V : Nat -> Option Wait} {rb sb n : Nat} {s : Rg}
theorem slot_no (rv : Value) (w : World) (q : Int) (hq : ¬ good q) : Aw prog main V 21 #[rv, .int .i64 q] w (.int .i64 0) w := by
 have hh := Fq (main := main) (V := V) rv w q hq
 refine Aq func21 code21_is fun fr cs => ?_
 simp only [ntmps21, ez, Nat.reduceAdd, Nat.reduceSub]
 refine Aa z21 ?_
 refine qV (x := .bool false) (W := w) func62 ?_ ?_
 ·walk_nrm
  exact hh
 walk_nrm
 refine Aa z21 ?_
 exact Ar rfl rfl func21 rfl fun d => ⟨rfl, d, rfl⟩
theorem lap_no (rv : Value) (w : World) (q : Int) (hq : ¬ good q) : Aw prog main V 22 #[rv, .int .i64 q] w (.int .i64 (-1)) w := by
 have hh := Qd (main := main) (V := V) q w
 have e : decide (good q) = false := by simp [hq]
 rw [e] at hh
 refine Aq func22 code22_is fun fr cs => ?_
 simp only [ntmps22, ez, Nat.reduceAdd, Nat.reduceSub]
 refine Aa z22 ?_
 refine qV (x := .bool false) (W := w) func63 ?_ ?_
 ·walk_nrm
  exact hh
 walk_nrm
 refine Aa z22 ?_
 exact Ar rfl rfl func22 rfl fun d => ⟨rfl, d, rfl⟩
theorem rgood_w (q : Int) (w : World) : Aw prog main V 20 #[.int .i64 q] w (.bool (decide (good q))) w := by
 by_cases h : 0 <= q
 ·have e : decide (good q) = decide (q < 4611686018427387904) := by
   by_cases h2 : q < 4611686018427387904
   ·rw [decide_eq_true h2, decide_eq_true (show good q from ⟨h, h2⟩)]
   ·rw [decide_eq_false h2, decide_eq_false fun g : good q => h2 g.2]
  rw [e]
  exact good_1 q h w
 ·rw [decide_eq_false fun g : good q => h g.1]
  exact good_2 q h w
end
def Jg (ov : Value) (Q kb lb p n i : Nat) (u : Nat -> Value) : Frame :=
 (base 3).at { tmps := #[.int .i64 n, ov, u 2, u 3, .bool false, .pointer (some ⟨kb, 0, none⟩), u 6, .pointer (some ⟨lb, 0, none⟩), u 8, .pointer (some ⟨Q, 0, none⟩), .pointer (some ⟨p, 0, none⟩), .int .i64 i, u 12, u 13, u 14, u 15, u 16, u 17, u 18, u 19, u 20, u 21, u 22, u 23, u 24, u 25, u 26, u 27, u 28, u 29, u 30, u 31, u 32, u 33, u 34, u 35, u 36, u 37, u 38, u 39, u 40, u 41, u 42, u 43, u 44, u 45, u 46, u 47, u 48, u 49, u 50, u 51, u 52, u 53, u 54, u 55, u 56, u 57, u 58, u 59, u 60, u 61, u 62, u 63, u 64, u 65, u 66, u 67, u 68, u 69, u 70, u 71, u 72, u 73, u 74, u 75, u 76, u 77, u 78, u 79, u 80, u 81, u 82, u 83, u 84, u 85, u 86, u 87, u 88, u 89, u 90, u 91, u 92, u 93, u 94, u 95, u 96, u 97, u 98, u 99, u 100, u 101, u 102, u 103, u 104, u 105, u 106, u 107, u 108, u 109, u 110, u 111, u 112, u 113, u 114, u 115, u 116, u 117, u 118, u 119, u 120, u 121, u 122, u 123, u 124, u 125, u 126, u 127, u 128, u 129, u 130, u 131, u 132, u 133, u 134, u 135, u 136, u 137, u 138, u 139, u 140, u 141, u 142, u 143, u 144, u 145, u 146, u 147, u 148, u 149, u 150, u 151, u 152, u 153, u 154, u 155, u 156, u 157, u 158, u 159, u 160, u 161, u 162, u 163, u 164, u 165, u 166, u 167, u 168, u 169, u 170, u 171, u 172, u 173, u 174, u 175, u 176, u 177, u 178, u 179, u 180, u 181, u 182, u 183, u 184, u 185, u 186, u 187, u 188, u 189, u 190, u 191, u 192, u 193, u 194, u 195], defers := [] } [.code (.seq (.seq (.region 12 reg3_12 false) (.cond (.tmp 84 ) (.skip) (.exit 0))) (.seq (.block 1 (.seq (.region 14 reg3_14 true) (.seq (.seq (.region 15 reg3_15 true) (.cond (.tmp 120 ) (.seq (.region 16 reg3_16 false) (.ret)) (.skip))) (.seq (.region 17 reg3_17 false) (.seq (.seq (.region 18 reg3_18 false) (.cond (.tmp 126 ) (.region 19 reg3_19 true) (.skip))) (.seq (.region 20 reg3_20 false) (.cond (.tmp 160 ) (.seq (.region 21 reg3_21 false) (.ret)) (.skip)))))))) (.region 13 reg3_13 false))), .inLoop (.seq (.seq (.region 12 reg3_12 false) (.cond (.tmp 84 ) (.skip) (.exit 0))) (.seq (.block 1 (.seq (.region 14 reg3_14 true) (.seq (.seq (.region 15 reg3_15 true) (.cond (.tmp 120 ) (.seq (.region 16 reg3_16 false) (.ret)) (.skip))) (.seq (.region 17 reg3_17 false) (.seq (.seq (.region 18 reg3_18 false) (.cond (.tmp 126 ) (.region 19 reg3_19 true) (.skip))) (.seq (.region 20 reg3_20 false) (.cond (.tmp 160 ) (.seq (.region 21 reg3_21 false) (.ret)) (.skip)))))))) (.region 13 reg3_13 false))), .inBlock 0, .code (.seq (.region 22 reg3_22 true) (.ret))]
def mdT (Q kb lb p n : Nat) (u : Nat -> Value) : Frame :=
 (base 3).at { tmps := #[.int .i64 n, u 1, u 2, u 3, u 4, .pointer (some ⟨kb, 0, none⟩), u 6, .pointer (some ⟨lb, 0, none⟩), u 8, .pointer (some ⟨Q, 0, none⟩), .pointer (some ⟨p, 0, none⟩), u 11, u 12, u 13, u 14, u 15, u 16, u 17, u 18, u 19, u 20, u 21, u 22, u 23, u 24, u 25, u 26, u 27, u 28, u 29, u 30, u 31, u 32, u 33, u 34, u 35, u 36, u 37, u 38, u 39, u 40, u 41, u 42, u 43, u 44, u 45, u 46, u 47, u 48, u 49, u 50, u 51, u 52, u 53, u 54, u 55, u 56, u 57, u 58, u 59, u 60, u 61, u 62, u 63, u 64, u 65, u 66, u 67, u 68, u 69, u 70, u 71, u 72, u 73, u 74, u 75, u 76, u 77, u 78, u 79, u 80, u 81, u 82, u 83, u 84, u 85, u 86, u 87, u 88, u 89, u 90, u 91, u 92, u 93, u 94, u 95, u 96, u 97, u 98, u 99, u 100, u 101, u 102, u 103, u 104, u 105, u 106, u 107, u 108, u 109, u 110, u 111, u 112, u 113, u 114, u 115, u 116, u 117, u 118, u 119, u 120, u 121, u 122, u 123, u 124, u 125, u 126, u 127, u 128, u 129, u 130, u 131, u 132, u 133, u 134, u 135, u 136, u 137, u 138, u 139, u 140, u 141, u 142, u 143, u 144, u 145, u 146, u 147, u 148, u 149, u 150, u 151, u 152, u 153, u 154, u 155, u 156, u 157, u 158, u 159, u 160, u 161, u 162, u 163, u 164, u 165, u 166, u 167, u 168, u 169, u 170, u 171, u 172, u 173, u 174, u 175, u 176, u 177, u 178, u 179, u 180, u 181, u 182, u 183, u 184, u 185, u 186, u 187, u 188, u 189, u 190, u 191, u 192, u 193, u 194, u 195], defers := [] } [.code (.region 22 reg3_22 true), .code (.ret)]
structure CalQ (kb ks lb ls n p : Nat) (S : Rg) (c : Nat) (W w : World) : Prop where
 ik : RgI kb ks n S w
 il : RgI lb ls n S w
 cn : w.heap[p]? = some (.cells #[.int .i64 (c : Nat)] 38)
 old : ∀ b, b < W.heap.size -> Ez kb ks lb ls p b -> w.heap[b]? = W.heap[b]?
 size : W.heap.size <= w.heap.size
theorem CalQ.at {kb ks lb ls n p : Nat} {S : Rg} {c : Nat} {W w : World} (h : CalQ kb ks lb ls n p S c W w) (d : Nat) : CalQ kb ks lb ls n p S c W (w.at d) := ⟨h.ik.old rfl rfl, h.il.old rfl rfl, h.cn, h.old, h.size⟩
theorem Lt {A : Array Value} {T : (Nat -> Value) -> Array Value} (h : A = T (fun k => A.getD k undef)) : ∃ u, (⟨A, []⟩ : Act) = ⟨T u, []⟩ := ⟨_, congrArg (fun x => (⟨x, []⟩ : Act)) h⟩
section
variable {P : Program} {main : Bool} {V : Nat -> Option Wait} {Stop : Goroutine -> World -> Prop} {b : Frame} {k : List Item} {cs : List Frame} {ops : Array Oper}
theorem Walk.drawnJW {id : Nat} {a : Act} {w : World} {Inv : (Nat -> Bool) -> Act -> World -> Prop} (hm : P.follows .mixedOrders = true) (hlow : lowW ops = true) (h0 : ∀ d, Inv (fun _ => false) a (w.at d))
  (hop : ∀ f i o a w, Inv f a w -> Closed ops f -> f i = false -> ops[i]? = some o -> (∀ e ∈ o.after, Region.binds .any e = true -> f e.on = true) -> OpW P main V Stop b k cs ops i (fun a' w' => Inv (upd f i true) a' w') a w)
  (hend : ∀ f a w, Inv f a w -> (∀ i, i < ops.size -> f i = true) -> Walk P main (DR V) Stop (G (b.at a (.inRegion ops [] :: k)) cs) w) : Walk P main (DR V) Stop (G (b.at a (.code (.region id ops true) :: k)) cs) w := by
 exact Ip (E := World) (V := fun _ => V) (Stop := fun _ => Stop) (cs := fun _ => cs) (w := fun w => w) (Inv := Inv) w hm hlow (h0 w.drawn) (fun f i o a w h1 h2 h3 h4 h5 rest hr => hop f i o a w h1 h2 h3 h4 h5 rest hr) hend
end
def dsK : List Nat := [127, 128, 129, 130, 131, 132, 133, 134, 135, 136, 137, 138, 139, 140, 14, 15]
def vsK (tb toff n0 tc n i : Nat) (q : Int) (X : Nat) (Y : Int) : List Value := [.slice (some ⟨tb, toff, none⟩) n0 tc, .int .i64 i, .pointer (some ⟨tb, toff + i * 4, none⟩), .pointer (some ⟨tb, toff + i * 4 + 1, none⟩), .int .i64 q, .int .i64 n, .int .i64 X, .slice (some ⟨tb, toff, none⟩) n0 tc, .int .i64 i, .pointer (some ⟨tb, toff + i * 4, none⟩), .pointer (some ⟨tb, toff + i * 4 + 1, none⟩), .int .i64 q, .int .i64 n, .int .i64 Y, .int .i64 X, .int .i64 Y]
theorem mod_do {main : Bool} (tb toff n0 tc Q kb lb p n i : Nat) (q : Int) (X : Nat) (Y : Int) (hi : i < n0) (hm : q.tmod n = X) (hwl : IntKind.wrap .i64 (q.tdiv n) = Y) (hn1 : ¬ ((n : Int) = 0)) (hn2 : ¬ (n = 0)) (W : World) (o1 : W.cell? ⟨tb, toff + i * 4 + 1, none⟩ = some (.int .i64 q))
  (kx : List Item) (cs : List Frame) (u0 : Nat -> Value) {Stop : Goroutine -> World -> Prop}
  (hend : ∀ (u : Nat -> Value) (d : Nat), u 14 = .int .i64 (X : Nat) -> u 15 = .int .i64 Y -> Walk prog main (DR (fun _ => none)) Stop (G ((base 3).at ⟨tmI tb toff n0 tc Q kb lb p n i u, []⟩ (.inRegion reg3_19 [] :: kx)) cs) (W.at d)) :
  Walk prog main (DR (fun _ => none)) Stop (G ((base 3).at ⟨tmI tb toff n0 tc Q kb lb p n i u0, []⟩ (.code (.region 19 reg3_19 true) :: kx)) cs) W := by
 have hi0 : (0 : Int) <= i := by omega
 have hi3 : decide (i < n0) = true := by simp; omega
 have hi1 : decide ((i : Int) < n0) = true := by simp; omega
 have hi4 : (i : Int) < n0 := by omega
 refine Walk.drawnJW (Inv := fun f ac' w => ∃ u, ac' = ⟨tmI tb toff n0 tc Q kb lb p n i u, []⟩ /\ Facts dsK (vsK tb toff n0 tc n i q X Y) f u /\ ∃ d, w = W.at d) (by kernel_rfl) (by kernel_rfl) (fun d => ⟨u0, rfl, Facts.none _ _ _, d, rfl⟩) ?_ ?_
 ·rintro f j op act w ⟨u, rfl, F0, d0, rfl⟩ hC hfj ho hdeps rest hr
  have hj : j < 16 := by have := (aEs ho).1; rw [size3_19] at this; exact this
  have oa : (W.at d0).cell? ⟨tb, toff + i * 4 + 1, none⟩ = some (.int .i64 q) := o1
  have hat : ∃ d, W.at d0 = W.at d := ⟨d0, rfl⟩
  generalize W.at d0 = w at *
  simp only [tmI] at hr ⊢
  match j, hj with
  | 0, _ =>
   clear hdeps hC hend o1
   (refine Wq ?_; try walk_nrm)
   refine hr _ _ ⟨upd u 127 (.slice (some ⟨tb, toff, none⟩) n0 tc), ?_, F0.set, hat⟩
   simp [tmI, upd]
  | 1, _ =>
   clear hdeps hC hend o1
   (refine Wq ?_; try walk_nrm)
   refine hr _ _ ⟨upd u 128 (.int .i64 i), ?_, F0.set, hat⟩
   simp [tmI, upd]
  | 2, _ =>
   have hd := qD [0, 1] ho hdeps
   have e127 := F0.g hd 0
   have e128 := F0.g hd 1
   clear hdeps hC hend o1
   simp only [e127, e128]
   (refine Wq ?_; try walk_nrm)
   refine hr _ _ ⟨upd u 129 (.pointer (some ⟨tb, toff + i * 4, none⟩)), ?_, F0.set, hat⟩
   simp [tmI, upd, e127, e128]
  | 3, _ =>
   have hd := qD [2] ho hdeps
   have e129 := F0.g hd 2
   clear hdeps hC hend o1
   simp only [e129]
   (refine Wq ?_; try walk_nrm)
   refine hr _ _ ⟨upd u 130 (.pointer (some ⟨tb, toff + i * 4 + 1, none⟩)), ?_, F0.set, hat⟩
   simp [tmI, upd, e129]
  | 4, _ =>
   have hd := qD [3] ho hdeps
   have e130 := F0.g hd 3
   clear hdeps hC hend o1
   simp only [e130]
   (refine Wq ?_; try walk_nrm)
   refine hr _ _ ⟨upd u 131 (.int .i64 q), ?_, F0.set, hat⟩
   simp [tmI, upd, e130]
  | 5, _ =>
   clear hdeps hC hend o1
   (refine Wq ?_; try walk_nrm)
   refine hr _ _ ⟨upd u 132 (.int .i64 n), ?_, F0.set, hat⟩
   simp [tmI, upd]
  | 6, _ =>
   have hd := qD [4, 5] ho hdeps
   have e131 := F0.g hd 4
   have e132 := F0.g hd 5
   clear hdeps hC hend o1
   simp only [e131, e132]
   (refine Wq ?_; try walk_nrm)
   try simp only [hm]
   refine hr _ _ ⟨upd u 133 (.int .i64 X), ?_, F0.set, hat⟩
   simp [tmI, upd, e131, e132]
  | 7, _ =>
   clear hdeps hC hend o1
   (refine Wq ?_; try walk_nrm)
   refine hr _ _ ⟨upd u 134 (.slice (some ⟨tb, toff, none⟩) n0 tc), ?_, F0.set, hat⟩
   simp [tmI, upd]
  | 8, _ =>
   clear hdeps hC hend o1
   (refine Wq ?_; try walk_nrm)
   refine hr _ _ ⟨upd u 135 (.int .i64 i), ?_, F0.set, hat⟩
   simp [tmI, upd]
  | 9, _ =>
   have hd := qD [7, 8] ho hdeps
   have e134 := F0.g hd 7
   have e135 := F0.g hd 8
   clear hdeps hC hend o1
   simp only [e134, e135]
   (refine Wq ?_; try walk_nrm)
   refine hr _ _ ⟨upd u 136 (.pointer (some ⟨tb, toff + i * 4, none⟩)), ?_, F0.set, hat⟩
   simp [tmI, upd, e134, e135]
  | 10, _ =>
   have hd := qD [9] ho hdeps
   have e136 := F0.g hd 9
   clear hdeps hC hend o1
   simp only [e136]
   (refine Wq ?_; try walk_nrm)
   refine hr _ _ ⟨upd u 137 (.pointer (some ⟨tb, toff + i * 4 + 1, none⟩)), ?_, F0.set, hat⟩
   simp [tmI, upd, e136]
  | 11, _ =>
   have hd := qD [10] ho hdeps
   have e137 := F0.g hd 10
   clear hdeps hC hend o1
   simp only [e137]
   (refine Wq ?_; try walk_nrm)
   refine hr _ _ ⟨upd u 138 (.int .i64 q), ?_, F0.set, hat⟩
   simp [tmI, upd, e137]
  | 12, _ =>
   clear hdeps hC hend o1
   (refine Wq ?_; try walk_nrm)
   refine hr _ _ ⟨upd u 139 (.int .i64 n), ?_, F0.set, hat⟩
   simp [tmI, upd]
  | 13, _ =>
   have hd := qD [11, 12] ho hdeps
   have e138 := F0.g hd 11
   have e139 := F0.g hd 12
   clear hdeps hC hend o1
   simp only [e138, e139]
   (refine Wq ?_; try walk_nrm)
   try simp only [hwl]
   refine hr _ _ ⟨upd u 140 (.int .i64 Y), ?_, F0.set, hat⟩
   simp [tmI, upd, e138, e139]
  | 14, _ =>
   have hd := qD [6] ho hdeps
   have e133 := F0.g hd 6
   clear hdeps hC hend o1
   simp only [e133]
   (refine Wq ?_; try walk_nrm)
   refine hr _ _ ⟨upd u 14 (.int .i64 X), ?_, F0.set, hat⟩
   simp [tmI, upd, e133]
  | 15, _ =>
   have hd := qD [13] ho hdeps
   have e140 := F0.g hd 13
   clear hdeps hC hend o1
   simp only [e140]
   (refine Wq ?_; try walk_nrm)
   refine hr _ _ ⟨upd u 15 (.int .i64 Y), ?_, F0.set, hat⟩
   simp [tmI, upd, e140]
 ·rintro f act w ⟨u, rfl, F0, d, rfl⟩ hall
  exact hend u d (F0 14 14 _ (hall 14 (by rw [size3_19]; decide)) rfl rfl) (F0 15 15 _ (hall 15 (by rw [size3_19]; decide)) rfl rfl)
theorem mod_do_at {main : Bool} {tb toff n0 tc Q kb lb p n i X : Nat} {Y : Int} {W : World} {Stop : Goroutine -> World -> Prop} {kx : List Item} {cs : List Frame} {act : Act}
  (h : ∀ (kx : List Item) (cs : List Frame) (u0 : Nat -> Value) {Stop : Goroutine -> World -> Prop}, (∀ (u : Nat -> Value) (d : Nat), u 14 = .int .i64 (X : Nat) -> u 15 = .int .i64 Y -> Walk prog main (DR (fun _ => none)) Stop (G ((base 3).at ⟨tmI tb toff n0 tc Q kb lb p n i u, []⟩ (.inRegion reg3_19 [] :: kx)) cs) (W.at d)) -> Walk prog main (DR (fun _ => none)) Stop (G ((base 3).at ⟨tmI tb toff n0 tc Q kb lb p n i u0, []⟩ (.code (.region 19 reg3_19 true) :: kx)) cs) W)
  (he : ∃ u, act = ⟨tmI tb toff n0 tc Q kb lb p n i u, []⟩)
  (hend : ∀ (u : Nat -> Value) (d : Nat), u 14 = .int .i64 (X : Nat) -> u 15 = .int .i64 Y -> Walk prog main (DR (fun _ => none)) Stop (G ((base 3).at ⟨tmI tb toff n0 tc Q kb lb p n i u, []⟩ (.inRegion reg3_19 [] :: kx)) cs) (W.at d)) :
  Walk prog main (DR (fun _ => none)) Stop (G ((base 3).at act (.code (.region 19 reg3_19 true) :: kx)) cs) W := by
 obtain ⟨u, rfl⟩ := he
 exact h kx cs u hend
section
variable {kb ks lb ls n p : Nat} {main : Bool}
theorem calls_do_at {tb toff n0 tc Q i : Nat} {W : World} {R : Nat -> Nat -> Value -> Value -> World -> Prop} {Stop : Goroutine -> World -> Prop} {kx : List Item} {cs : List Frame} {act : Act}
  (h : ∀ (kx : List Item) (cs : List Frame) (u0 : Nat -> Value) {Stop : Goroutine -> World -> Prop}, (∀ (u : Nat -> Value) (A B : Nat) (sa sb : Value) (w : World), u 12 = .pointer (some ⟨A, 0, none⟩) -> u 13 = .pointer (some ⟨B, 0, none⟩) -> R A B sa sb w -> Walk prog main (DR (fun _ => none)) Stop (G ((base 3).at ⟨tmI tb toff n0 tc Q kb lb p n i u, []⟩ (.inRegion reg3_14 [] :: kx)) cs) w) -> Walk prog main (DR (fun _ => none)) Stop (G ((base 3).at ⟨tmI tb toff n0 tc Q kb lb p n i u0, []⟩ (.code (.region 14 reg3_14 true) :: kx)) cs) W)
  (he : ∃ u, act = ⟨tmI tb toff n0 tc Q kb lb p n i u, []⟩)
  (hend : ∀ (u : Nat -> Value) (A B : Nat) (sa sb : Value) (w : World), u 12 = .pointer (some ⟨A, 0, none⟩) -> u 13 = .pointer (some ⟨B, 0, none⟩) -> R A B sa sb w -> Walk prog main (DR (fun _ => none)) Stop (G ((base 3).at ⟨tmI tb toff n0 tc Q kb lb p n i u, []⟩ (.inRegion reg3_14 [] :: kx)) cs) w) :
  Walk prog main (DR (fun _ => none)) Stop (G ((base 3).at act (.code (.region 14 reg3_14 true) :: kx)) cs) W := by
 obtain ⟨u, rfl⟩ := he
 exact h kx cs u hend
theorem same_do_at {tb toff n0 tc Q i A B : Nat} {W : World} {R : World -> Prop} {Stop : Goroutine -> World -> Prop} {kx : List Item} {cs : List Frame} {act : Act}
  (h : ∀ (kx : List Item) (cs : List Frame) (u0 : Nat -> Value) {Stop : Goroutine -> World -> Prop}, (∀ (u : Nat -> Value) (w : World), u 120 = .bool false -> R w -> Walk prog main (DR (fun _ => none)) Stop (G ((base 3).at ⟨Fd tb toff n0 tc Q kb lb p n i A B u, []⟩ (.inRegion reg3_15 [] :: kx)) cs) w) -> Walk prog main (DR (fun _ => none)) Stop (G ((base 3).at ⟨Fd tb toff n0 tc Q kb lb p n i A B u0, []⟩ (.code (.region 15 reg3_15 true) :: kx)) cs) W)
  (he : ∃ u, act = ⟨Fd tb toff n0 tc Q kb lb p n i A B u, []⟩)
  (hend : ∀ (u : Nat -> Value) (w : World), u 120 = .bool false -> R w -> Walk prog main (DR (fun _ => none)) Stop (G ((base 3).at ⟨Fd tb toff n0 tc Q kb lb p n i A B u, []⟩ (.inRegion reg3_15 [] :: kx)) cs) w) :
  Walk prog main (DR (fun _ => none)) Stop (G ((base 3).at act (.code (.region 15 reg3_15 true) :: kx)) cs) W := by
 obtain ⟨u, rfl⟩ := he
 exact h kx cs u hend
theorem cal_round (tb toff n0 tc Q i ab ao ac b1 o1 ln tc1 : Nat) (S : Rg) (c : Nat) (o : OpV) (hi : i < n0) (hn0 : n0 <= 17592186044416) (hil : i < ln) (hln : ln <= 65536) (W0 W : World) (I : CalQ kb ks lb ls n p S c W0 W) (hfew : c <= 9223372036854) (t5 : Five kb ks lb ls p)
  (off : ∀ b, b = tb ∨ b = Q ∨ b = ab ∨ b = b1 -> Ez kb ks lb ls p b) (wx : Option Addr) (wz : Nat) (offw : ∀ b x, wx = some ⟨b, x, none⟩ -> (rgOne n S o).2.l ≠ [] -> Ez kb ks lb ls p b) (hal : (rgOne n S o).2.l.length <= 1048576)
  (x0 : W.cell? ⟨Q, 0, none⟩ = some (.slice (some ⟨ab, ao, none⟩) 1 ac)) (x1 : W.cell? ⟨ab, ao, none⟩ = some (.slice (some ⟨b1, o1, none⟩) ln tc1))
  (w0 : W.cell? ⟨b1, o1 + i * 3, none⟩ = some (.bool (rgOne n S o).2.ok)) (w1 : W.cell? ⟨b1, o1 + i * 3 + 1, none⟩ = some (.int .i64 (rgOne n S o).2.n)) (w2 : W.cell? ⟨b1, o1 + i * 3 + 2, none⟩ = some (.slice wx (rgOne n S o).2.l.length wz)) (nW : NumA wx (rgOne n S o).2.l W)
  (o0 : W.cell? ⟨tb, toff + i * 4, none⟩ = some (.int .i64 o.k)) (o1' : W.cell? ⟨tb, toff + i * 4 + 1, none⟩ = some (.int .i64 o.a)) (o2 : W.cell? ⟨tb, toff + i * 4 + 2, none⟩ = some (.int .i64 o.b)) (o3 : W.cell? ⟨tb, toff + i * 4 + 3, none⟩ = some (.int .i64 o.c)) (cs : List Frame) (u : Nat -> Value) :
  Walk prog main (DR (fun _ => none)) (fun g w => (∃ u, g = G (Jg (.slice (some ⟨tb, toff, none⟩) n0 tc) Q kb lb p n (i + 1) u) cs) /\ CalQ kb ks lb ls n p (rgOne n S o).1 (c + Lq n S o) W0 w) (G (Jg (.slice (some ⟨tb, toff, none⟩) n0 tc) Q kb lb p n i u) cs) W := by
 obtain ⟨hi0, hi1, hi3, hi4⟩ := hIx i ln
 have hw1 := wI ((i : Int) + 1)
 have hcc : ((i + 1 : Nat) : Int) = (i : Int) + 1 := by simp
 have ftb := off tb (.inl rfl)
 have hdo := calls_do (main := main) tb toff n0 tc Q i o hi hn0 W I.ik I.il I.cn hfew t5 ftb o0 o1' o2 o3
 have l1 := I.ik.lt.1
 have l2 := I.ik.lt.2
 have l3 := I.il.lt.1
 have l4 := I.il.lt.2
 have l5 := (aEs I.cn).1
 have hps := I.ik.pos
 have hW := I.old
 have hS := I.size
 generalize hX : rgOne n S o = X at *
 generalize hY : c + Lq n S o = c' at *
 obtain ⟨S', a⟩ := X
 dsimp only at hdo w0 w1 w2 nW offw hal ⊢
 clear hX hY
 conv => arg 5; unfold Jg
 have lQ := Al x0
 have lab := Al x1
 have lb1 := Al w0
 have ltb := Al o1'
 refine Aa z3 ?_
 clear I o0 o2 o3
 refine calls_do_at (R := fun A B sa sb w => AloQ kb ks lb ls n p S S' c c' a W (fun _ => true) A B sa sb w) hdo ?eq fun u A B sa sb w h11 h12 AQ => ?main
 case eq => exact Lt (by simp only [tmI]; rfl)
 case main =>
  clear hdo
  have qa := (AQ.a1 rfl)
  have qb := (AQ.b1 rfl)
  have r1 := AQ.ik
  have r2 := AQ.il
  have r3 := AQ.cn
  have r4 := AQ.old
  have r5 := AQ.size
  obtain ⟨sx, sz, rfl, nA⟩ := (AQ.la rfl).lsS
  obtain ⟨tx, tz, rfl, nB⟩ := (AQ.lc rfl).lsS
  simp only [if_true] at r1 r2 r3 qa qb
  have hcell : ∀ {x y : Nat} {v : Value}, Ez kb ks lb ls p x -> W.cell? ⟨x, y, none⟩ = some v -> w.cell? ⟨x, y, none⟩ = some v := fun {x y v} e h => (cBk (a := ⟨x, y, none⟩) (r4 x (Al h) e)).trans h
  have nW' : NumA wx a.l w := fun j z hz => by
   obtain ⟨b, o, e, hc⟩ := nW j z hz
   exact ⟨b, o, e, hcell (offw b o e (fun hn => by rw [hn] at hz; simp at hz)) hc⟩
  have fQ := off Q (.inr (.inl rfl))
  have fab := off ab (.inr (.inr (.inl rfl)))
  have fb1 := off b1 (.inr (.inr (.inr rfl)))
  have hsd := same_do (main := main) tb toff n0 tc Q kb lb p n i A B ab ao ac b1 o1 ln tc1 a sx sz tx tz wx wz hil hln hal w (hcell fQ x0) (hcell fab x1) qa.2 qb.2 nA nB nW' (hcell fb1 w0) (hcell fb1 w1) (hcell fb1 w2)
  have oa := hcell ftb o1'
  have lA := (aEs qa.2).1
  clear AQ hcell fQ fab fb1 nW nW' nA nB off offw x0 x1 w0 w1 w2 o1' ftb hal
  simp only [tmI, h11, h12]
  refine Aa z3 ?_
  refine same_do_at (R := fun w' => (∀ b, b < w.heap.size -> w'.heap[b]? = w.heap[b]?) /\ w.heap.size <= w'.heap.size) (fun kx cs u0 Stop hh => hsd kx cs u0 fun u w' h1 h2 h3 => hh u w' h1 ⟨h2, h3⟩) ?eq fun u w' h91 hR => ?main
  case eq => exact Lt (by simp only [Fd]; rfl)
  case main =>
   obtain ⟨hR1, hR2⟩ := hR
   clear hsd
   have oa' := (cBk (a := ⟨tb, toff + i * 4 + 1, none⟩) (hR1 tb (by omega))).trans oa
   have I' : CalQ kb ks lb ls n p S' c' W0 w' := ⟨r1.old (hR1 kb (by omega)) (hR1 ks (by omega)), r2.old (hR1 lb (by omega)) (hR1 ls (by omega)), (hR1 p (by omega)).trans r3, fun b hb g => (hR1 b (by omega)).trans ((r4 b (by omega) g).trans (hW b hb g)), by omega⟩
   clear r1 r2 r3 r4 r5 hR1 hR2 hW hS oa qa qb lA l1 l2 l3 l4 l5 lQ lab lb1 ltb
   have hi5 : decide (i < n0) = true := by simp; omega
   have hi6 : decide ((i : Int) < n0) = true := by simp; omega
   have hi7 : (i : Int) < n0 := by omega
   have hG := rgood_w (main := main) (V := fun _ => none) o.a w'
   simp only [Fd, h91]
   refine Aa z3 ?_
   by_cases hg : good o.a
   ·have hsl := fun w I => slot_w (main := main) (V := fun _ => none) (rb := kb) (sb := ks) (n := n) (s := S') w I o.a hg
    have hla := fun w I => lap_w (main := main) (V := fun _ => none) (rb := kb) (sb := ks) (n := n) (s := S') w I o.a hg
    have hm := ixR_tmod hps.1 hg.1
    have hl := laR_tdiv (n := n) hg.1
    have hn1 : ¬ ((n : Int) = 0) := by omega
    have hn2 : ¬ (n = 0) := by omega
    have hlt := Ll hps.1 o.a
    have hwm : IntKind.wrap .i64 (o.a.tmod n) = ((Bl n o.a : Nat) : Int) := by rw [hm, IntKind.wrap_i64]; omega
    have hb : 0 <= o.a / (n : Int) /\ o.a / (n : Int) <= o.a := ⟨Int.ediv_nonneg hg.1 (by omega), Int.ediv_le_self _ hg.1⟩
    have hq2 := hg.2
    have hwl : IntKind.wrap .i64 (o.a.tdiv n) = o.a / n := by rw [hl, IntKind.wrap_i64]; omega
    rw [decide_eq_true hg] at hG
    generalize hx : Bl n o.a = X at *
    generalize hy : o.a / (n : Int) = Y at *
    clear hl hb hq2 hx hy hlt
    refine qV (x := .bool true) (W := w') func20 ?_ ?_
    ·walk_nrm
     exact hG
    clear hG
    walk_nrm
    refine Aa z3 ?_
    refine mod_do_at (mod_do tb toff n0 tc Q kb lb p n i o.a X Y hi hm hwl hn1 hn2 w' oa') ?eq2 fun u d h14 h15 => ?main2
    case eq2 => exact Lt (by simp only [tmI]; rfl)
    case main2 =>
    have oa2 : (w'.at d).cell? ⟨tb, toff + i * 4 + 1, none⟩ = some (.int .i64 o.a) := oa'
    have hsl := hsl (w'.at d) (I'.at d).ik
    have hla := hla (w'.at d) (I'.at d).ik
    have I2 := I'.at d
    clear I' oa'
    generalize w'.at d = w' at *
    simp only [tmI, h14, h15]
    refine Aa z3 ?_
    refine qV (x := .int .i64 (X : Nat)) (W := w') func21 ?_ ?_
    ·walk_nrm
     exact hsl
    have hbx : ((X : Int) != X) = false := by simp
    walk_nrm
    refine Aa z3 ?_
    refine qV (x := .int .i64 Y) (W := w') func22 ?_ ?_
    ·walk_nrm
     exact hla
    have hby : (Y != Y) = false := by simp
    walk_nrm
    refine Aa z3 ?_
    refine cIL ?_
    refine .stop fun d => ⟨Ak ?_, I2.at d⟩
    simp only [Jg, hcc]
    rfl
   ·have hsl := slot_no (main := main) (V := fun _ => none) (.pointer (some ⟨kb, 0, none⟩)) w' o.a hg
    have hla := lap_no (main := main) (V := fun _ => none) (.pointer (some ⟨kb, 0, none⟩)) w' o.a hg
    rw [decide_eq_false hg] at hG
    refine qV (x := .bool false) (W := w') func20 ?_ ?_
    ·walk_nrm
     exact hG
    clear hG
    walk_nrm
    refine Aa z3 ?_
    refine qV (x := .int .i64 0) (W := w') func21 ?_ ?_
    ·walk_nrm
     exact hsl
    walk_nrm
    refine Aa z3 ?_
    refine qV (x := .int .i64 (-1)) (W := w') func22 ?_ ?_
    ·walk_nrm
     exact hla
    walk_nrm
    refine Aa z3 ?_
    refine cIL ?_
    refine .stop fun d => ⟨Ak ?_, I'.at d⟩
    simp only [Jg, hcc]
    rfl
theorem cal_end (ov : Value) (Q ab ao ac ln tc1 : Nat) (ta : Option Addr) (W : World) (x0 : W.cell? ⟨Q, 0, none⟩ = some (.slice (some ⟨ab, ao, none⟩) 1 ac)) (x1 : W.cell? ⟨ab, ao, none⟩ = some (.slice ta ln tc1)) (cs : List Frame) (u : Nat -> Value) :
  Walk prog main (DR (fun _ => none)) (fun g w => (∃ u, g = G (mdT Q kb lb p n u) cs) /\ ∃ d, w = W.at d) (G (Jg ov Q kb lb p n ln u) cs) W := by
 have hj1 : decide ((ln : Int) < ln) = false := by simp
 have hj3 : decide (ln < ln) = false := by simp
 conv => arg 5; unfold Jg
 refine Aa z3 ?_
 refine .stop fun d => ⟨Ak ?_, d, rfl⟩
 simp only [mdT]
 rfl
end
end
end Go.Proofs.Ytflcclneedldoaa
