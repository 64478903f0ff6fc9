/- Part 21. -/
import Derived.Test.YtjenoiekfkhafaaJ15
import Derived.Test.YtjenoiekfkhafaaJ18
import Derived.Test.YtjenoiekfkhafaaJ20
set_option linter.unusedSimpArgs false
set_option linter.unusedVariables false
set_option linter.unusedVariables false
set_option maxHeartbeats 8000000
set_option maxRecDepth 100000
namespace Go.Proofs.Ytjenoiekfkhafaa
noncomputable section
open Go.Conc Go.RowKit Go.Relay
open Go.ConcN (upd upd_ne upd_same)
section
def Fk (xv iv : Value) (tb toff n0 tc Q kb lb p n i A B : Nat) (u : Nat -> Value) : Array Value := #[xv, .slice (some ⟨tb, toff, none⟩) n0 tc, u 2, u 3, .bool false, .pointer (some ⟨Q, 0, none⟩), iv, .pointer (some ⟨kb, 0, none⟩), .pointer (some ⟨lb, 0, none⟩), .pointer (some ⟨p, 0, none⟩), .int .i64 n, .int .i64 i, .pointer (some ⟨A, 0, none⟩), .pointer (some ⟨B, 0, none⟩), u 14, u 15, u 16, u 17, u 18, u 19, u 20, u 21, u 22, u 23, u 24, u 25, u 26, u 27, u 28, u 29, u 30, u 31, u 32, u 33, u 34, u 35, u 36, u 37, u 38, u 39, u 40, u 41, u 42, u 43, u 44, u 45, u 46, u 47, u 48, u 49, u 50, u 51, u 52, u 53, u 54, u 55, u 56, u 57, u 58, u 59, u 60, u 61, u 62, u 63, u 64, u 65, u 66, u 67, u 68, u 69, u 70, u 71, u 72, u 73, u 74, u 75, u 76, u 77, u 78, u 79, u 80, u 81, u 82, u 83, u 84, u 85, u 86, u 87, u 88, u 89, u 90, u 91, u 92, u 93, u 94, u 95, u 96, u 97, u 98, u 99, u 100, u 101, u 102, u 103, u 104, u 105, u 106, u 107, u 108, u 109, u 110, u 111, u 112, u 113, u 114, u 115, u 116, u 117, u 118, u 119, u 120, u 121, u 122, u 123, u 124, u 125, u 126, u 127, u 128, u 129, u 130, u 131, u 132, u 133, u 134, u 135, u 136, u 137, u 138, u 139, u 140, u 141, u 142, u 143, u 144]
def dsJ : List Nat := [92, 93, 94, 95, 96, 97, 98, 99, 100, 101, 102, 103, 104, 105, 106, 107, 108, 109, 110, 111]
def vsJ (Q ab ao ac b1 o1 ln tc1 i : Nat) (a : Ans) (sa sb wl : Value) (X Y : Nat) : List Value := [Bw a sa, Bw a sb, .slice (some ⟨X, 0, none⟩) 2 2, .pointer (some ⟨Q, 0, none⟩), .slice (some ⟨ab, ao, none⟩) 1 ac, .pointer (some ⟨ab, ao, none⟩), .slice (some ⟨b1, o1, none⟩) ln tc1, .int .i64 i, .pointer (some ⟨b1, o1 + i * 3, none⟩), Bw a wl, .pointer (some ⟨Q, 0, none⟩), .slice (some ⟨ab, ao, none⟩) 1 ac, .pointer (some ⟨ab, ao, none⟩), .slice (some ⟨b1, o1, none⟩) ln tc1, .int .i64 i, .pointer (some ⟨b1, o1 + i * 3, none⟩), Bw a wl, .slice (some ⟨Y, 0, none⟩) 2 2, .bool true, .bool false]
def LsS (sl : Value) (ls : List Int) (w : World) : Prop := ∃ la lc, sl = .slice la ls.length lc /\ NumA la ls w
theorem LsN.lsS {base : Nat} {sl : Value} {ls : List Int} {w : World} (h : LsN base sl ls w) : LsS sl ls w := by
 rcases h with ⟨rfl, rfl⟩ | ⟨B, rfl, _, h3⟩
 ·exact ⟨none, 0, rfl, fun j z hj => (by simp at hj)⟩
 ·exact ⟨_, _, rfl, fun j z hj => ⟨B, 0, rfl, by rw [Nat.zero_add]; exact h3.cell hj⟩⟩
theorem LsS.old {sl : Value} {ls : List Int} {w w' : World} (h : LsS sl ls w) (hO : ∀ b, b < w.heap.size -> w'.heap[b]? = w.heap[b]?) : LsS sl ls w' := by
 obtain ⟨la, lc, e, h⟩ := h
 exact ⟨la, lc, e, fun j z hj => by
  obtain ⟨b, o, e, hc⟩ := h j z hj
  exact ⟨b, o, e, (World.cell?_of_block (a := ⟨b, o + j, none⟩) (hO b (Al hc))).trans hc⟩⟩
def Ml (a : Ans) (x y : Value) : Obj := .cells #[.bool a.ok, .int .i64 a.n, x, .bool a.ok, .int .i64 a.n, y] 44
theorem twoA_at {w : World} {X : Nat} {a : Ans} {x y : Value} (h : w.heap[X]? = some (Ml a x y)) (hx : LsS x a.l w) (hy : LsS y a.l w) (hl : a.l.length <= 1048576) : Qa (some ⟨X, 0, none⟩) [a, a] w := fun i z hz => by
 obtain ⟨la, lc, rfl, h1⟩ := hx
 obtain ⟨ma, mc, rfl, h2⟩ := hy
 match i, hz with
 | 0, hz => cases hz; exact ⟨X, 0, la, lc, rfl, (Ad h _).trans rfl, (Ad h _).trans rfl, (Ad h _).trans rfl, h1, hl⟩
 | 1, hz => cases hz; exact ⟨X, 0, ma, mc, rfl, (Ad h _).trans rfl, (Ad h _).trans rfl, (Ad h _).trans rfl, h2, hl⟩
structure SamJ (a : Ans) (sa sb wl : Value) (W : World) (f : Nat -> Bool) (X Y : Nat) (w : World) : Prop where
 x1 : f 2 = true -> W.heap.size <= X /\ w.heap[X]? = some (Ml a sa sb)
 y1 : f 17 = true -> W.heap.size <= Y /\ w.heap[Y]? = some (Ml a wl wl)
 old : ∀ b, b < W.heap.size -> w.heap[b]? = W.heap[b]?
 size : W.heap.size <= w.heap.size
section
variable {a : Ans} {sa sb wl : Value} {W : World} {f : Nat -> Bool} {X Y : Nat} {w : World}
theorem SamJ.at (h : SamJ a sa sb wl W f X Y w) (d : Nat) : SamJ a sa sb wl W f X Y (w.at d) := ⟨h.x1, h.y1, h.old, h.size⟩
theorem SamJ.quiet (h : SamJ a sa sb wl W f X Y w) {i : Nat} (h2 : i ≠ 2) (h17 : i ≠ 17) : SamJ a sa sb wl W (upd f i true) X Y w := by
 refine ⟨?_, ?_, h.old, h.size⟩
 ·rw [upd_ne _ _ (Ne.symm h2)]; exact h.x1
 ·rw [upd_ne _ _ (Ne.symm h17)]; exact h.y1
end
theorem same_do {main : Bool} (xv iv : Value) (tb toff n0 tc Q kb lb p n i A B ab ao ac b1 o1 ln tc1 : Nat) (a : Ans) (sx : Option Addr) (sz : Nat) (tx : Option Addr) (tz : Nat) (wx : Option Addr) (wz : Nat) (hi : i < ln) (hln : ln <= 65536) (hal : a.l.length <= 1048576) (W : World)
  (x0 : W.cell? ⟨Q, 0, none⟩ = some (.slice (some ⟨ab, ao, none⟩) 1 ac)) (x1 : W.cell? ⟨ab, ao, none⟩ = some (.slice (some ⟨b1, o1, none⟩) ln tc1))
  (hA : W.heap[A]? = some (ansB a (.slice sx a.l.length sz))) (hB : W.heap[B]? = some (ansB a (.slice tx a.l.length tz))) (nA : NumA sx a.l W) (nB : NumA tx a.l W) (nW : NumA wx a.l W)
  (w0 : W.cell? ⟨b1, o1 + i * 3, none⟩ = some (.bool a.ok)) (w1 : W.cell? ⟨b1, o1 + i * 3 + 1, none⟩ = some (.int .i64 a.n)) (w2 : W.cell? ⟨b1, o1 + i * 3 + 2, none⟩ = some (.slice wx a.l.length wz))
  (kx : List Item) (cs : List Frame) (u0 : Nat -> Value) {Stop : Goroutine -> World -> Prop}
  (hend : ∀ (u : Nat -> Value) (w : World), u 111 = .bool false -> (∀ b, b < W.heap.size -> w.heap[b]? = W.heap[b]?) -> W.heap.size <= w.heap.size -> Walk Try.prog main (DR (fun _ => none)) Stop (G ((base 4).at ⟨Fk xv iv tb toff n0 tc Q kb lb p n i A B u, []⟩ (.inRegion reg4_15 [] :: kx)) cs) w) :
  Walk Try.prog main (DR (fun _ => none)) Stop (G ((base 4).at ⟨Fk xv iv tb toff n0 tc Q kb lb p n i A B u0, []⟩ (.code (.region 15 reg4_15 true) :: kx)) cs) W := by
 obtain ⟨fsA, huA⟩ := Cf 44 (by kernel_rfl)
 have hi0 : (0 : Int) <= i := by omega
 have hi3 : decide (i < ln) = true := by simp; omega
 have hi1 : decide ((i : Int) < ln) = true := by simp; omega
 have hi4 : (i : Int) < ln := by omega
 have mA : LsS (.slice sx a.l.length sz) a.l W := ⟨_, _, rfl, nA⟩
 have mB : LsS (.slice tx a.l.length tz) a.l W := ⟨_, _, rfl, nB⟩
 have mW : LsS (.slice wx a.l.length wz) a.l W := ⟨_, _, rfl, nW⟩
 clear nA nB nW
 generalize hal' : a.l.length = al at *
 generalize hsa : Value.slice sx al sz = sa at *
 generalize hsb : Value.slice tx al tz = sb at *
 generalize hwl : Value.slice wx al wz = wl at *
 refine Cu (Inv := fun f ac' w => ∃ u X Y, ac' = ⟨Fk xv iv tb toff n0 tc Q kb lb p n i A B u, []⟩ /\ Facts dsJ (vsJ Q ab ao ac b1 o1 ln tc1 i a sa sb wl X Y) f u /\ SamJ a sa sb wl W f X Y w) (by kernel_rfl) (by kernel_rfl) (fun d => ⟨u0, 0, 0, rfl, Cx _ _ _, SamJ.at ⟨fun h => (by cases h), fun h => (by cases h), fun _ _ => rfl, Nat.le_refl _⟩ d⟩) ?_ ?_
 ·rintro f j op act w ⟨u, X, Y, rfl, F0, S⟩ hC hfj ho hdeps rest hr
  have hj : j < 20 := by have := (Array.getElem?_eq_some_iff.1 ho).1; rw [size4_15] at this; exact this
  have hcell : ∀ {x y : Nat} {v : Value}, W.cell? ⟨x, y, none⟩ = some v -> w.cell? ⟨x, y, none⟩ = some v := fun {x y v} h => (World.cell?_of_block (a := ⟨x, y, none⟩) (S.old x (Al h))).trans h
  have hSs := S.size
  have z0 := hcell x0
  have z1 := hcell x1
  have hC' := hC
  match j, hj with
  | 0, _ =>
   have hcs : ∀ (y : Nat) (v : Value), ([.bool a.ok, .int .i64 a.n, sa] : List Value)[y]? = some v -> w.cell? ⟨A, 0 + y, none⟩ = some v := fun y v hv => by
    rw [Nat.zero_add, Ad ((S.old A (Array.getElem?_eq_some_iff.1 hA).1).trans hA)]
    simpa using hv
   clear hdeps hC hC' hend x0 x1
   simp only [Fk] at hr ⊢
   subst hsa
   refine Walk.loadS 44 (.tmp 12) Ao (by rfl) (by decide) rfl A (0) [.bool a.ok, .int .i64 a.n, .slice sx al sz] (.struct fsA) rfl hcs huA rfl (by kernel_rfl) ?_
   walk_nrm
   refine hr _ _ ⟨upd u 92 (Bw a (.slice sx al sz)), X, Y, ?_, F0.set (by decide) rfl rfl, S.quiet (by decide) (by decide)⟩
   simp [Fk, upd, Bw]
  | 1, _ =>
   have hcs : ∀ (y : Nat) (v : Value), ([.bool a.ok, .int .i64 a.n, sb] : List Value)[y]? = some v -> w.cell? ⟨B, 0 + y, none⟩ = some v := fun y v hv => by
    rw [Nat.zero_add, Ad ((S.old B (Array.getElem?_eq_some_iff.1 hB).1).trans hB)]
    simpa using hv
   clear hdeps hC hC' hend x0 x1
   simp only [Fk] at hr ⊢
   subst hsb
   refine Walk.loadS 44 (.tmp 13) Ao (by rfl) (by decide) rfl B (0) [.bool a.ok, .int .i64 a.n, .slice tx al tz] (.struct fsA) rfl hcs huA rfl (by kernel_rfl) ?_
   walk_nrm
   refine hr _ _ ⟨upd u 93 (Bw a (.slice tx al tz)), X, Y, ?_, F0.set (by decide) rfl rfl, S.quiet (by decide) (by decide)⟩
   simp [Fk, upd, Bw]
  | 2, _ =>
   have hd := Af (l := [0, 1]) (by kernel_rfl) ho hdeps
   have e92 := F0 0 92 _ (hd 0 (by simp)) rfl rfl
   have e93 := F0 1 93 _ (hd 1 (by simp)) rfl rfl
   have hN := heap_alloc_new w (Ml a sa sb)
   have hO : ∀ b, b < w.heap.size -> (w.alloc (Ml a sa sb)).heap[b]? = w.heap[b]? := fun b hb => Ab _ _ hb
   have hZ : (w.alloc (Ml a sa sb)).heap.size = w.heap.size + 1 := by simp
   clear hdeps hC hC' hend x0 x1
   simp only [Fk] at hr ⊢
   simp only [e92, e93, Bw]
   subst hsa hsb hwl
   (refine Walk.oa ?_; try walk_nrm)
   refine hr _ (w.alloc (Ml a (.slice sx al sz) (.slice tx al tz))) ⟨upd u 94 (.slice (some ⟨w.heap.size, 0, none⟩) 2 2), w.heap.size, Y, ?_, Facts.set (Dn F0 fun j v hf hv => ?_) (by decide) rfl rfl, ⟨fun h => ?_, fun h => ?_, fun b hb => (hO b (by omega)).trans (S.old b hb), by omega⟩⟩
   ·simp [Fk, upd, e92, e93, Bw]
   ·exact match j, hf, hv with
     | 0, _, hv => hv
     | 1, _, hv => hv
     | 2, hf, hv => by rw [hfj] at hf; cases hf
     | 3, _, hv => hv
     | 4, _, hv => hv
     | 5, _, hv => hv
     | 6, _, hv => hv
     | 7, _, hv => hv
     | 8, _, hv => hv
     | 9, _, hv => hv
     | 10, _, hv => hv
     | 11, _, hv => hv
     | 12, _, hv => hv
     | 13, _, hv => hv
     | 14, _, hv => hv
     | 15, _, hv => hv
     | 16, _, hv => hv
     | 17, _, hv => hv
     | 18, _, hv => hv
     | 19, _, hv => hv
     | j + 20, _, hv => hv
   ·exact ⟨hSs, hN⟩
   ·rw [upd_ne _ _ (by decide)] at h
    obtain ⟨y1, y2⟩ := S.y1 h
    exact ⟨y1, (hO _ (Array.getElem?_eq_some_iff.1 y2).1).trans y2⟩
  | 3, _ =>
   clear hdeps hC hC' hend x0 x1
   simp only [Fk] at hr ⊢
   (refine Walk.oq ?_; try walk_nrm)
   refine hr _ _ ⟨upd u 95 (.pointer (some ⟨Q, 0, none⟩)), X, Y, ?_, F0.set (by decide) rfl rfl, S.quiet (by decide) (by decide)⟩
   simp [Fk, upd]
  | 4, _ =>
   have hd := Af (l := [3]) (by kernel_rfl) ho hdeps
   have e95 := F0 3 95 _ (hd 3 (by simp)) rfl rfl
   clear hdeps hC hC' hend x0 x1
   simp only [Fk] at hr ⊢
   simp only [e95]
   (refine Walk.oq ?_; try walk_nrm)
   refine hr _ _ ⟨upd u 96 (.slice (some ⟨ab, ao, none⟩) 1 ac), X, Y, ?_, F0.set (by decide) rfl rfl, S.quiet (by decide) (by decide)⟩
   simp [Fk, upd, e95]
  | 5, _ =>
   have hd := Af (l := [4]) (by kernel_rfl) ho hdeps
   have e96 := F0 4 96 _ (hd 4 (by simp)) rfl rfl
   clear hdeps hC hC' hend x0 x1
   simp only [Fk] at hr ⊢
   simp only [e96]
   (refine Walk.oq ?_; try walk_nrm)
   refine hr _ _ ⟨upd u 97 (.pointer (some ⟨ab, ao, none⟩)), X, Y, ?_, F0.set (by decide) rfl rfl, S.quiet (by decide) (by decide)⟩
   simp [Fk, upd, e96]
  | 6, _ =>
   have hd := Af (l := [5]) (by kernel_rfl) ho hdeps
   have e97 := F0 5 97 _ (hd 5 (by simp)) rfl rfl
   clear hdeps hC hC' hend x0 x1
   simp only [Fk] at hr ⊢
   simp only [e97]
   (refine Walk.oq ?_; try walk_nrm)
   refine hr _ _ ⟨upd u 98 (.slice (some ⟨b1, o1, none⟩) ln tc1), X, Y, ?_, F0.set (by decide) rfl rfl, S.quiet (by decide) (by decide)⟩
   simp [Fk, upd, e97]
  | 7, _ =>
   clear hdeps hC hC' hend x0 x1
   simp only [Fk] at hr ⊢
   (refine Walk.oq ?_; try walk_nrm)
   refine hr _ _ ⟨upd u 99 (.int .i64 i), X, Y, ?_, F0.set (by decide) rfl rfl, S.quiet (by decide) (by decide)⟩
   simp [Fk, upd]
  | 8, _ =>
   have hd := Af (l := [6, 7]) (by kernel_rfl) ho hdeps
   have e98 := F0 6 98 _ (hd 6 (by simp)) rfl rfl
   have e99 := F0 7 99 _ (hd 7 (by simp)) rfl rfl
   clear hdeps hC hC' hend x0 x1
   simp only [Fk] at hr ⊢
   simp only [e98, e99]
   (refine Walk.oq ?_; try walk_nrm)
   refine hr _ _ ⟨upd u 100 (.pointer (some ⟨b1, o1 + i * 3, none⟩)), X, Y, ?_, F0.set (by decide) rfl rfl, S.quiet (by decide) (by decide)⟩
   simp [Fk, upd, e98, e99]
  | 9, _ =>
   have hd := Af (l := [8]) (by kernel_rfl) ho hdeps
   have e100 := F0 8 100 _ (hd 8 (by simp)) rfl rfl
   have hcs : ∀ (y : Nat) (v : Value), ([.bool a.ok, .int .i64 a.n, wl] : List Value)[y]? = some v -> w.cell? ⟨b1, o1 + i * 3 + y, none⟩ = some v := fun y v hv => by
    match y, hv with
    | 0, hv => cases hv; exact hcell w0
    | 1, hv => cases hv; exact hcell w1
    | 2, hv => cases hv; exact hcell w2
   clear hdeps hC hC' hend x0 x1
   simp only [Fk] at hr ⊢
   simp only [e100]
   subst hwl
   refine Walk.loadS 44 (.tmp 100) Ao (by rfl) (by decide) rfl b1 (o1 + i * 3) [.bool a.ok, .int .i64 a.n, .slice wx al wz] (.struct fsA) rfl hcs huA rfl (by kernel_rfl) ?_
   walk_nrm
   refine hr _ _ ⟨upd u 101 (Bw a (.slice wx al wz)), X, Y, ?_, F0.set (by decide) rfl rfl, S.quiet (by decide) (by decide)⟩
   simp [Fk, upd, Bw, e100]
  | 10, _ =>
   clear hdeps hC hC' hend x0 x1
   simp only [Fk] at hr ⊢
   (refine Walk.oq ?_; try walk_nrm)
   refine hr _ _ ⟨upd u 102 (.pointer (some ⟨Q, 0, none⟩)), X, Y, ?_, F0.set (by decide) rfl rfl, S.quiet (by decide) (by decide)⟩
   simp [Fk, upd]
  | 11, _ =>
   have hd := Af (l := [10]) (by kernel_rfl) ho hdeps
   have e102 := F0 10 102 _ (hd 10 (by simp)) rfl rfl
   clear hdeps hC hC' hend x0 x1
   simp only [Fk] at hr ⊢
   simp only [e102]
   (refine Walk.oq ?_; try walk_nrm)
   refine hr _ _ ⟨upd u 103 (.slice (some ⟨ab, ao, none⟩) 1 ac), X, Y, ?_, F0.set (by decide) rfl rfl, S.quiet (by decide) (by decide)⟩
   simp [Fk, upd, e102]
  | 12, _ =>
   have hd := Af (l := [11]) (by kernel_rfl) ho hdeps
   have e103 := F0 11 103 _ (hd 11 (by simp)) rfl rfl
   clear hdeps hC hC' hend x0 x1
   simp only [Fk] at hr ⊢
   simp only [e103]
   (refine Walk.oq ?_; try walk_nrm)
   refine hr _ _ ⟨upd u 104 (.pointer (some ⟨ab, ao, none⟩)), X, Y, ?_, F0.set (by decide) rfl rfl, S.quiet (by decide) (by decide)⟩
   simp [Fk, upd, e103]
  | 13, _ =>
   have hd := Af (l := [12]) (by kernel_rfl) ho hdeps
   have e104 := F0 12 104 _ (hd 12 (by simp)) rfl rfl
   clear hdeps hC hC' hend x0 x1
   simp only [Fk] at hr ⊢
   simp only [e104]
   (refine Walk.oq ?_; try walk_nrm)
   refine hr _ _ ⟨upd u 105 (.slice (some ⟨b1, o1, none⟩) ln tc1), X, Y, ?_, F0.set (by decide) rfl rfl, S.quiet (by decide) (by decide)⟩
   simp [Fk, upd, e104]
  | 14, _ =>
   clear hdeps hC hC' hend x0 x1
   simp only [Fk] at hr ⊢
   (refine Walk.oq ?_; try walk_nrm)
   refine hr _ _ ⟨upd u 106 (.int .i64 i), X, Y, ?_, F0.set (by decide) rfl rfl, S.quiet (by decide) (by decide)⟩
   simp [Fk, upd]
  | 15, _ =>
   have hd := Af (l := [13, 14]) (by kernel_rfl) ho hdeps
   have e105 := F0 13 105 _ (hd 13 (by simp)) rfl rfl
   have e106 := F0 14 106 _ (hd 14 (by simp)) rfl rfl
   clear hdeps hC hC' hend x0 x1
   simp only [Fk] at hr ⊢
   simp only [e105, e106]
   (refine Walk.oq ?_; try walk_nrm)
   refine hr _ _ ⟨upd u 107 (.pointer (some ⟨b1, o1 + i * 3, none⟩)), X, Y, ?_, F0.set (by decide) rfl rfl, S.quiet (by decide) (by decide)⟩
   simp [Fk, upd, e105, e106]
  | 16, _ =>
   have hd := Af (l := [15]) (by kernel_rfl) ho hdeps
   have e107 := F0 15 107 _ (hd 15 (by simp)) rfl rfl
   have hcs : ∀ (y : Nat) (v : Value), ([.bool a.ok, .int .i64 a.n, wl] : List Value)[y]? = some v -> w.cell? ⟨b1, o1 + i * 3 + y, none⟩ = some v := fun y v hv => by
    match y, hv with
    | 0, hv => cases hv; exact hcell w0
    | 1, hv => cases hv; exact hcell w1
    | 2, hv => cases hv; exact hcell w2
   clear hdeps hC hC' hend x0 x1
   simp only [Fk] at hr ⊢
   simp only [e107]
   subst hwl
   refine Walk.loadS 44 (.tmp 107) Ao (by rfl) (by decide) rfl b1 (o1 + i * 3) [.bool a.ok, .int .i64 a.n, .slice wx al wz] (.struct fsA) rfl hcs huA rfl (by kernel_rfl) ?_
   walk_nrm
   refine hr _ _ ⟨upd u 108 (Bw a (.slice wx al wz)), X, Y, ?_, F0.set (by decide) rfl rfl, S.quiet (by decide) (by decide)⟩
   simp [Fk, upd, Bw, e107]
  | 17, _ =>
   have hd := Af (l := [9, 16]) (by kernel_rfl) ho hdeps
   have e101 := F0 9 101 _ (hd 9 (by simp)) rfl rfl
   have e108 := F0 16 108 _ (hd 16 (by simp)) rfl rfl
   have hN := heap_alloc_new w (Ml a wl wl)
   have hO : ∀ b, b < w.heap.size -> (w.alloc (Ml a wl wl)).heap[b]? = w.heap[b]? := fun b hb => Ab _ _ hb
   have hZ : (w.alloc (Ml a wl wl)).heap.size = w.heap.size + 1 := by simp
   clear hdeps hC hC' hend x0 x1
   simp only [Fk] at hr ⊢
   simp only [e101, e108, Bw]
   subst hsa hsb hwl
   (refine Walk.oa ?_; try walk_nrm)
   refine hr _ (w.alloc (Ml a (.slice wx al wz) (.slice wx al wz))) ⟨upd u 109 (.slice (some ⟨w.heap.size, 0, none⟩) 2 2), X, w.heap.size, ?_, Facts.set (Dn F0 fun j v hf hv => ?_) (by decide) rfl rfl, ⟨fun h => ?_, fun h => ?_, fun b hb => (hO b (by omega)).trans (S.old b hb), by omega⟩⟩
   ·simp [Fk, upd, e101, e108, Bw]
   ·exact match j, hf, hv with
     | 0, _, hv => hv
     | 1, _, hv => hv
     | 2, _, hv => hv
     | 3, _, hv => hv
     | 4, _, hv => hv
     | 5, _, hv => hv
     | 6, _, hv => hv
     | 7, _, hv => hv
     | 8, _, hv => hv
     | 9, _, hv => hv
     | 10, _, hv => hv
     | 11, _, hv => hv
     | 12, _, hv => hv
     | 13, _, hv => hv
     | 14, _, hv => hv
     | 15, _, hv => hv
     | 16, _, hv => hv
     | 17, hf, hv => by rw [hfj] at hf; cases hf
     | 18, _, hv => hv
     | 19, _, hv => hv
     | j + 20, _, hv => hv
   ·rw [upd_ne _ _ (by decide)] at h
    obtain ⟨y1, y2⟩ := S.x1 h
    exact ⟨y1, (hO _ (Array.getElem?_eq_some_iff.1 y2).1).trans y2⟩
   ·exact ⟨hSs, hN⟩
  | 18, _ =>
   have hd := Af (l := [2, 17]) (by kernel_rfl) ho hdeps
   have e94 := F0 2 94 _ (hd 2 (by simp)) rfl rfl
   have e109 := F0 17 109 _ (hd 17 (by simp)) rfl rfl
   have hX := (S.x1 (hd 2 (by simp))).2
   have hY := (S.y1 (hd 17 (by simp))).2
   have hsa := sa_w (main := main) (V := fun _ => none) (some ⟨X, 0, none⟩) (some ⟨Y, 0, none⟩) [a, a] 2 2 (by show 2 <= 17592186044416; decide) w (twoA_at hX (mA.old S.old) (mB.old S.old) (by omega)) (twoA_at hY (mW.old S.old) (mW.old S.old) (by omega))
   clear hdeps hC hC' hend x0 x1
   simp only [Fk] at hr ⊢
   simp only [e94, e109]
   refine Walk.callV (x := .bool true) (W := w) ?_ Ao (by rfl) (by decide) rfl Try.func20 (by kernel_rfl) (by rfl) ?_
   ·walk_nrm
    exact hsa
   walk_nrm
   refine hr _ _ ⟨upd u 110 (.bool true), X, Y, ?_, F0.set (by decide) rfl rfl, S.quiet (by decide) (by decide)⟩
   simp [Fk, upd, e94, e109]
  | 19, _ =>
   have hd := Af (l := [18]) (by kernel_rfl) ho hdeps
   have e110 := F0 18 110 _ (hd 18 (by simp)) rfl rfl
   clear hdeps hC hC' hend x0 x1
   simp only [Fk] at hr ⊢
   simp only [e110]
   (refine Walk.oq ?_; try walk_nrm)
   refine hr _ _ ⟨upd u 111 (.bool false), X, Y, ?_, F0.set (by decide) rfl rfl, S.quiet (by decide) (by decide)⟩
   simp [Fk, upd, e110]
 ·rintro f act w ⟨u, X, Y, rfl, F0, S⟩ hall
  exact hend u w (F0 19 111 _ (hall 19 (by rw [size4_15]; decide)) rfl rfl) S.old S.size
end
section
def Kh (xv iv ov : Value) (Q kb lb p n i : Nat) (u : Nat -> Value) : Frame :=
 (base 4).at { tmps := #[xv, ov, u 2, u 3, .bool false, .pointer (some ⟨Q, 0, none⟩), iv, .pointer (some ⟨kb, 0, none⟩), .pointer (some ⟨lb, 0, none⟩), .pointer (some ⟨p, 0, none⟩), .int .i64 n, .int .i64 i, u 12, u 13, u 14, u 15, u 16, u 17, u 18, u 19, u 20, u 21, u 22, u 23, u 24, u 25, u 26, u 27, u 28, u 29, u 30, u 31, u 32, u 33, u 34, u 35, u 36, u 37, u 38, u 39, u 40, u 41, u 42, u 43, u 44, u 45, u 46, u 47, u 48, u 49, u 50, u 51, u 52, u 53, u 54, u 55, u 56, u 57, u 58, u 59, u 60, u 61, u 62, u 63, u 64, u 65, u 66, u 67, u 68, u 69, u 70, u 71, u 72, u 73, u 74, u 75, u 76, u 77, u 78, u 79, u 80, u 81, u 82, u 83, u 84, u 85, u 86, u 87, u 88, u 89, u 90, u 91, u 92, u 93, u 94, u 95, u 96, u 97, u 98, u 99, u 100, u 101, u 102, u 103, u 104, u 105, u 106, u 107, u 108, u 109, u 110, u 111, u 112, u 113, u 114, u 115, u 116, u 117, u 118, u 119, u 120, u 121, u 122, u 123, u 124, u 125, u 126, u 127, u 128, u 129, u 130, u 131, u 132, u 133, u 134, u 135, u 136, u 137, u 138, u 139, u 140, u 141, u 142, u 143, u 144], defers := [] } [.code (.seq (.seq (.region 12 reg4_12 false) (.cond (.tmp 73 ) (.skip) (.exit 0))) (.seq (.block 1 (.seq (.region 14 reg4_14 true) (.seq (.region 15 reg4_15 true) (.cond (.tmp 111 ) (.seq (.region 16 reg4_16 false) (.ret)) (.skip))))) (.region 13 reg4_13 false))), .inLoop (.seq (.seq (.region 12 reg4_12 false) (.cond (.tmp 73 ) (.skip) (.exit 0))) (.seq (.block 1 (.seq (.region 14 reg4_14 true) (.seq (.region 15 reg4_15 true) (.cond (.tmp 111 ) (.seq (.region 16 reg4_16 false) (.ret)) (.skip))))) (.region 13 reg4_13 false))), .inBlock 0, .code (.seq (.region 17 reg4_17 true) (.ret))]
def mdT (Q kb lb p : Nat) (u : Nat -> Value) : Frame :=
 (base 4).at { tmps := #[u 0, u 1, u 2, u 3, u 4, .pointer (some ⟨Q, 0, none⟩), u 6, .pointer (some ⟨kb, 0, none⟩), .pointer (some ⟨lb, 0, none⟩), .pointer (some ⟨p, 0, none⟩), u 10, u 11, u 12, u 13, u 14, u 15, u 16, u 17, u 18, u 19, u 20, u 21, u 22, u 23, u 24, u 25, u 26, u 27, u 28, u 29, u 30, u 31, u 32, u 33, u 34, u 35, u 36, u 37, u 38, u 39, u 40, u 41, u 42, u 43, u 44, u 45, u 46, u 47, u 48, u 49, u 50, u 51, u 52, u 53, u 54, u 55, u 56, u 57, u 58, u 59, u 60, u 61, u 62, u 63, u 64, u 65, u 66, u 67, u 68, u 69, u 70, u 71, u 72, u 73, u 74, u 75, u 76, u 77, u 78, u 79, u 80, u 81, u 82, u 83, u 84, u 85, u 86, u 87, u 88, u 89, u 90, u 91, u 92, u 93, u 94, u 95, u 96, u 97, u 98, u 99, u 100, u 101, u 102, u 103, u 104, u 105, u 106, u 107, u 108, u 109, u 110, u 111, u 112, u 113, u 114, u 115, u 116, u 117, u 118, u 119, u 120, u 121, u 122, u 123, u 124, u 125, u 126, u 127, u 128, u 129, u 130, u 131, u 132, u 133, u 134, u 135, u 136, u 137, u 138, u 139, u 140, u 141, u 142, u 143, u 144], defers := [] } [.code (.region 17 reg4_17 true), .code (.ret)]
structure CalQ (kb lb k p : Nat) (S : Sq) (c : Nat) (W w : World) : Prop where
 ik : SqI kb k S w
 il : SqI lb k S w
 cn : w.heap[p]? = some (.cells #[.int .i64 (c : Nat)] 39)
 old : ∀ b, b < W.heap.size -> b ≠ kb -> b ≠ lb -> b ≠ p -> w.heap[b]? = W.heap[b]?
 size : W.heap.size <= w.heap.size
theorem CalQ.at {kb lb k p : Nat} {S : Sq} {c : Nat} {W w : World} (h : CalQ kb lb k p S c W w) (d : Nat) : CalQ kb lb k p S c W (w.at d) := ⟨h.ik.old rfl, h.il.old rfl, h.cn, h.old, h.size⟩
theorem act_slots {A : Array Value} {T : (Nat -> Value) -> Array Value} (h : A = T (fun k => A.getD k undef)) : ∃ u, (⟨A, []⟩ : Act) = ⟨T u, []⟩ := ⟨_, congrArg (fun x => (⟨x, []⟩ : Act)) h⟩
section
variable {kb lb k p : Nat} {main : Bool}
theorem calls_do_at {xv iv : Value} {tb toff n0 tc Q n i : Nat} {W : World} {R : Nat -> Nat -> Value -> Value -> World -> Prop} {Stop : Goroutine -> World -> Prop} {kx : List Item} {cs : List Frame} {act : Act}
  (h : ∀ (kx : List Item) (cs : List Frame) (u0 : Nat -> Value) {Stop : Goroutine -> World -> Prop}, (∀ (u : Nat -> Value) (A B : Nat) (sa sb : Value) (w : World), u 12 = .pointer (some ⟨A, 0, none⟩) -> u 13 = .pointer (some ⟨B, 0, none⟩) -> R A B sa sb w -> Walk Try.prog main (DR (fun _ => none)) Stop (G ((base 4).at ⟨tmI xv iv tb toff n0 tc Q kb lb p n i u, []⟩ (.inRegion reg4_14 [] :: kx)) cs) w) -> Walk Try.prog main (DR (fun _ => none)) Stop (G ((base 4).at ⟨tmI xv iv tb toff n0 tc Q kb lb p n i u0, []⟩ (.code (.region 14 reg4_14 true) :: kx)) cs) W)
  (he : ∃ u, act = ⟨tmI xv iv tb toff n0 tc Q kb lb p n i u, []⟩)
  (hend : ∀ (u : Nat -> Value) (A B : Nat) (sa sb : Value) (w : World), u 12 = .pointer (some ⟨A, 0, none⟩) -> u 13 = .pointer (some ⟨B, 0, none⟩) -> R A B sa sb w -> Walk Try.prog main (DR (fun _ => none)) Stop (G ((base 4).at ⟨tmI xv iv tb toff n0 tc Q kb lb p n i u, []⟩ (.inRegion reg4_14 [] :: kx)) cs) w) :
  Walk Try.prog main (DR (fun _ => none)) Stop (G ((base 4).at act (.code (.region 14 reg4_14 true) :: kx)) cs) W := by
 obtain ⟨u, rfl⟩ := he
 exact h kx cs u hend
theorem same_do_at {xv iv : Value} {tb toff n0 tc Q n i A B : Nat} {W : World} {R : World -> Prop} {Stop : Goroutine -> World -> Prop} {kx : List Item} {cs : List Frame} {act : Act}
  (h : ∀ (kx : List Item) (cs : List Frame) (u0 : Nat -> Value) {Stop : Goroutine -> World -> Prop}, (∀ (u : Nat -> Value) (w : World), u 111 = .bool false -> R w -> Walk Try.prog main (DR (fun _ => none)) Stop (G ((base 4).at ⟨Fk xv iv tb toff n0 tc Q kb lb p n i A B u, []⟩ (.inRegion reg4_15 [] :: kx)) cs) w) -> Walk Try.prog main (DR (fun _ => none)) Stop (G ((base 4).at ⟨Fk xv iv tb toff n0 tc Q kb lb p n i A B u0, []⟩ (.code (.region 15 reg4_15 true) :: kx)) cs) W)
  (he : ∃ u, act = ⟨Fk xv iv tb toff n0 tc Q kb lb p n i A B u, []⟩)
  (hend : ∀ (u : Nat -> Value) (w : World), u 111 = .bool false -> R w -> Walk Try.prog main (DR (fun _ => none)) Stop (G ((base 4).at ⟨Fk xv iv tb toff n0 tc Q kb lb p n i A B u, []⟩ (.inRegion reg4_15 [] :: kx)) cs) w) :
  Walk Try.prog main (DR (fun _ => none)) Stop (G ((base 4).at act (.code (.region 15 reg4_15 true) :: kx)) cs) W := by
 obtain ⟨u, rfl⟩ := he
 exact h kx cs u hend
theorem cal_round (xv iv : Value) (tb toff n0 tc Q n i ab ao ac b1 o1 ln tc1 : Nat) (S : Sq) (hev : ¬ Ba S.v) (c : Nat) (o : OpV) (hi : i < n0) (hn0 : n0 <= 17592186044416) (hn1 : n <= k + 1) (hn2 : k + 1 <= n) (hil : i < ln) (hln : ln <= 65536) (W0 W : World) (I : CalQ kb lb k p S c W0 W) (hfew : c <= 9223372036854) (t1 : kb ≠ lb) (t2 : kb ≠ p) (t3 : lb ≠ p)
  (off : ∀ b, b = tb ∨ b = Q ∨ b = ab ∨ b = b1 -> b ≠ kb /\ b ≠ lb /\ b ≠ p) (wx : Option Addr) (wz : Nat) (offw : ∀ b x, wx = some ⟨b, x, none⟩ -> (Cj k S o).2.l ≠ [] -> b ≠ kb /\ b ≠ lb /\ b ≠ p) (hal : (Cj k S o).2.l.length <= 1048576)
  (x0 : W.cell? ⟨Q, 0, none⟩ = some (.slice (some ⟨ab, ao, none⟩) 1 ac)) (x1 : W.cell? ⟨ab, ao, none⟩ = some (.slice (some ⟨b1, o1, none⟩) ln tc1))
  (w0 : W.cell? ⟨b1, o1 + i * 3, none⟩ = some (.bool (Cj k S o).2.ok)) (w1 : W.cell? ⟨b1, o1 + i * 3 + 1, none⟩ = some (.int .i64 (Cj k S o).2.n)) (w2 : W.cell? ⟨b1, o1 + i * 3 + 2, none⟩ = some (.slice wx (Cj k S o).2.l.length wz)) (nW : NumA wx (Cj k S o).2.l W)
  (o0 : W.cell? ⟨tb, toff + i * 4, none⟩ = some (.int .i64 o.k)) (o1' : W.cell? ⟨tb, toff + i * 4 + 1, none⟩ = some (.int .i64 o.a)) (o2 : W.cell? ⟨tb, toff + i * 4 + 2, none⟩ = some (.int .i64 o.b)) (o3 : W.cell? ⟨tb, toff + i * 4 + 3, none⟩ = some (.int .i64 o.c)) (cs : List Frame) (u : Nat -> Value) :
  Walk Try.prog main (DR (fun _ => none)) (fun g w => (∃ u, g = G (Kh xv iv (.slice (some ⟨tb, toff, none⟩) n0 tc) Q kb lb p n (i + 1) u) cs) /\ CalQ kb lb k p (Cj k S o).1 (c + Ob k S o) W0 w) (G (Kh xv iv (.slice (some ⟨tb, toff, none⟩) n0 tc) Q kb lb p n i u) cs) W := by
 have hi0 : (0 : Int) <= i := by omega
 have hi1 : decide ((i : Int) < ln) = true := by simp; omega
 have hi3 : decide (i < ln) = true := by simp; omega
 have hi4 : (i : Int) < ln := by omega
 have hw1 : IntKind.wrap .i64 ((i : Int) + 1) = (i : Int) + 1 := by rw [IntKind.wrap_i64]; omega
 have hcc : ((i + 1 : Nat) : Int) = (i : Int) + 1 := by simp
 obtain ⟨f1, f2, f3⟩ := off tb (.inl rfl)
 have hdo := calls_do (main := main) xv iv tb toff n0 tc Q n i o hi hn0 hn1 hn2 W I.ik I.il hev I.cn hfew t1 t2 t3 f1 f2 f3 o0 o1' o2 o3
 clear f1 f2 f3 hn1 hn2
 have l1 := I.ik.lt
 have l3 := I.il.lt
 have l5 := (Array.getElem?_eq_some_iff.1 I.cn).1
 have lQ := Al x0
 have lab := Al x1
 have lb1 := Al w0
 have hW := I.old
 have hS := I.size
 generalize hX : Cj k S o = X at *
 generalize hY : c + Ob k S o = c' at *
 obtain ⟨S', a⟩ := X
 dsimp only at hdo w0 w1 w2 nW offw hal ⊢
 clear hX hY
 conv => arg 5; unfold Kh
 refine Aa z4 ?_
 clear I o0 o1' o2 o3
 refine calls_do_at (R := fun A B sa sb w => AloQ kb lb k p S S' c c' a W (fun _ => true) A B sa sb w) hdo ?eq fun u A B sa sb w h11 h12 AQ => ?main
 case eq => exact act_slots (by simp only [tmI]; rfl)
 case main =>
  clear hdo
  have qa := (AQ.a1 rfl)
  have qb := (AQ.b1 rfl)
  have r1 := AQ.ik
  have r2 := AQ.il
  have r3 := AQ.cn
  have r4 := AQ.old
  have r5 := AQ.size
  obtain ⟨sx, sz, rfl, nA⟩ := (AQ.la rfl).lsS
  obtain ⟨tx, tz, rfl, nB⟩ := (AQ.lc rfl).lsS
  simp only [if_true] at r1 r2 r3 qa qb
  have hcell : ∀ {x y : Nat} {v : Value}, (x ≠ kb /\ x ≠ lb /\ x ≠ p) -> W.cell? ⟨x, y, none⟩ = some v -> w.cell? ⟨x, y, none⟩ = some v := fun {x y v} e h => (World.cell?_of_block (a := ⟨x, y, none⟩) (r4 x (Al h) e.1 e.2.1 e.2.2)).trans h
  have nW' : NumA wx a.l w := fun j z hz => by
   obtain ⟨b, o, e, hc⟩ := nW j z hz
   exact ⟨b, o, e, hcell (offw b o e (fun hn => by rw [hn] at hz; simp at hz)) hc⟩
  have fQ := off Q (.inr (.inl rfl))
  have fab := off ab (.inr (.inr (.inl rfl)))
  have fb1 := off b1 (.inr (.inr (.inr rfl)))
  have hsd := same_do (main := main) xv iv tb toff n0 tc Q kb lb p n i A B ab ao ac b1 o1 ln tc1 a sx sz tx tz wx wz hil hln hal w (hcell fQ x0) (hcell fab x1) qa.2 qb.2 nA nB nW' (hcell fb1 w0) (hcell fb1 w1) (hcell fb1 w2)
  have lA := (Array.getElem?_eq_some_iff.1 qa.2).1
  clear AQ hcell fQ fab fb1 nW nW' nA nB off offw
  simp only [tmI, h11, h12]
  refine Aa z4 ?_
  refine same_do_at (R := fun w' => (∀ b, b < w.heap.size -> w'.heap[b]? = w.heap[b]?) /\ w.heap.size <= w'.heap.size) (fun kx cs u0 Stop hh => hsd kx cs u0 fun u w' h1 h2 h3 => hh u w' h1 ⟨h2, h3⟩) ?eq fun u w' h91 hR => ?main
  case eq => exact act_slots (by simp only [Fk]; rfl)
  case main =>
   obtain ⟨hR1, hR2⟩ := hR
   clear hsd
   simp only [Fk, h91]
   refine Aa z4 ?_
   refine Walk.ctl rfl (fun w => stepG_inLoop) ?_
   refine .stop fun d => ⟨Am ?_, CalQ.at ⟨r1.old (hR1 kb r1.lt), r2.old (hR1 lb r2.lt), (hR1 p (by omega)).trans r3, fun b hb g1 g2 g3 => (hR1 b (by omega)).trans ((r4 b (by omega) g1 g2 g3).trans (hW b hb g1 g2 g3)), by omega⟩ d⟩
   simp only [Kh, hcc]
   rfl
theorem cal_end (xv iv ov : Value) (Q n ab ao ac ln tc1 : Nat) (ta : Option Addr) (W : World) (x0 : W.cell? ⟨Q, 0, none⟩ = some (.slice (some ⟨ab, ao, none⟩) 1 ac)) (x1 : W.cell? ⟨ab, ao, none⟩ = some (.slice ta ln tc1)) (cs : List Frame) (u : Nat -> Value) :
  Walk Try.prog main (DR (fun _ => none)) (fun g w => (∃ u, g = G (mdT Q kb lb p u) cs) /\ ∃ d, w = W.at d) (G (Kh xv iv ov Q kb lb p n ln u) cs) W := by
 have hj1 : decide ((ln : Int) < ln) = false := by simp
 have hj3 : decide (ln < ln) = false := by simp
 conv => arg 5; unfold Kh
 refine Aa z4 ?_
 refine .stop fun d => ⟨Am ?_, d, rfl⟩
 simp only [mdT]
 rfl
end
end
section
section
variable {P : Program} {t e : TypeId} {ti : TypeInfo}
theorem run_sl1 (hu : P.underlying t = some (.slice e)) (hi : P.info? e = some ti) (hz : ti.size = 1) (b o ln cap y : Nat) (h1 : ln <= y + 1) (h2 : y + 1 <= ln) (hy : 1 <= y) (hc : ln <= cap) (w : World) (es : Array Event) : (Instr.sliceAt t (.slice (some ⟨b, o, none⟩) ln cap) (some (.int .i64 1)) none none).run P w = .ok (.slice (some ⟨b, o + 1, none⟩) y (cap - 1)) w /\
  (Instr.sliceAt t (.slice (some ⟨b, o, none⟩) ln cap) (some (.int .i64 1)) none none).events P w es = es := by
 obtain rfl : ln = y + 1 := by omega
 have g1 : (1 : Int) <= ((y + 1 : Nat) : Int) := by omega
 have g2 : ¬ cap = 1 := by omega
 have g3 : (1 : Int) <= (y : Int) + 1 := by omega
 have g4 : ¬ ((y : Int) + 1 < 1) := by omega
 constructor <;> simp [Instr.sliceAt, Instr.slice, run_underlying hu, Instr.sliceBounds, Instr.sliceBound, asIntOf, sizeOf, typeInfo, hi, hz, g1, g2, g3, g4, Addr.add]
end
theorem huInts : Try.prog.underlying 22 = some (.slice 2) := by kernel_rfl
theorem huInt : ∃ ti, Try.prog.info? 2 = some ti /\ ti.size = 1 := by
 have h : (Try.prog.info? 2).map (·.size) = some 1 := by kernel_rfl
 cases he : Try.prog.info? 2 with
 | none => rw [he] at h; cases h
 | some ti => rw [he] at h; exact ⟨ti, rfl, by simpa using h⟩
def Dd (Q kb lb p : Nat) (u : Nat -> Value) : Array Value := #[u 0, u 1, u 2, u 3, u 4, .pointer (some ⟨Q, 0, none⟩), u 6, .pointer (some ⟨kb, 0, none⟩), .pointer (some ⟨lb, 0, none⟩), .pointer (some ⟨p, 0, none⟩), u 10, u 11, u 12, u 13, u 14, u 15, u 16, u 17, u 18, u 19, u 20, u 21, u 22, u 23, u 24, u 25, u 26, u 27, u 28, u 29, u 30, u 31, u 32, u 33, u 34, u 35, u 36, u 37, u 38, u 39, u 40, u 41, u 42, u 43, u 44, u 45, u 46, u 47, u 48, u 49, u 50, u 51, u 52, u 53, u 54, u 55, u 56, u 57, u 58, u 59, u 60, u 61, u 62, u 63, u 64, u 65, u 66, u 67, u 68, u 69, u 70, u 71, u 72, u 73, u 74, u 75, u 76, u 77, u 78, u 79, u 80, u 81, u 82, u 83, u 84, u 85, u 86, u 87, u 88, u 89, u 90, u 91, u 92, u 93, u 94, u 95, u 96, u 97, u 98, u 99, u 100, u 101, u 102, u 103, u 104, u 105, u 106, u 107, u 108, u 109, u 110, u 111, u 112, u 113, u 114, u 115, u 116, u 117, u 118, u 119, u 120, u 121, u 122, u 123, u 124, u 125, u 126, u 127, u 128, u 129, u 130, u 131, u 132, u 133, u 134, u 135, u 136, u 137, u 138, u 139, u 140, u 141, u 142, u 143, u 144]
def dsT : List Nat := [112, 113, 114, 115, 116, 117, 118, 119, 120, 121, 122, 123, 124, 125, 126, 127, 128, 129, 130, 131, 132, 133, 134, 135, 136, 137, 138, 139, 140, 141, 142, 143, 144, 4]
def vsT (Q kb lb p sn y sb so sc c oc : Nat) (oa : Option Addr) (v0 : Int) (B1 B2 : Nat) : List Value := [.pointer (some ⟨kb, 0, none⟩), .int .i64 v0, .pointer (some ⟨Q, 2, none⟩), .slice (some ⟨sb, so, none⟩) sn sc, .pointer (some ⟨sb, so, none⟩), .int .i64 v0, .bool true, .bool true, .pointer (some ⟨kb, 0, none⟩), .slice (some ⟨B1, 0, none⟩) y y, .pointer (some ⟨Q, 2, none⟩), .slice (some ⟨sb, so, none⟩) sn sc, .slice (some ⟨sb, so + 1, none⟩) y (sc - 1), .bool true, .bool true, .bool true, .pointer (some ⟨lb, 0, none⟩), .slice (some ⟨B2, 0, none⟩) y y, .pointer (some ⟨Q, 2, none⟩), .slice (some ⟨sb, so, none⟩) sn sc, .slice (some ⟨sb, so + 1, none⟩) y (sc - 1), .bool true, .bool true, .bool true, .pointer (some ⟨p, 0, none⟩), .pointer (some ⟨p, 0, none⟩), .pointer (some ⟨p, 0, none⟩), .int .i64 c, .pointer (some ⟨Q, 1, none⟩), .slice oa c oc, .int .i64 c, .bool true, .bool true, .bool true]
structure LasT (kb lb k p : Nat) (S : Sq) (c : Nat) (W : World) (f : Nat -> Bool) (B1 B2 : Nat) (w : World) : Prop where
 I : CalQ kb lb k p S c W w
 t1 : f 9 = true -> W.heap.size <= B1 /\ NumB w B1 (Je k S)
 t2 : f 17 = true -> W.heap.size <= B2 /\ NumB w B2 (Je k S)
section
variable {kb lb k p : Nat} {S : Sq} {c : Nat} {W : World} {main : Bool}
theorem numB_numA {w : World} {B : Nat} {l : List Int} (h : NumB w B l) : NumA (some ⟨B, 0, none⟩) l w := fun j x hx => ⟨B, 0, rfl, by rw [Nat.zero_add]; exact h.cell hx⟩
theorem LasT.at {f : Nat -> Bool} {B1 B2 : Nat} {w : World} (h : LasT kb lb k p S c W f B1 B2 w) (d : Nat) : LasT kb lb k p S c W f B1 B2 (w.at d) := ⟨h.I.at d, h.t1, h.t2⟩
theorem LasT.quiet {f : Nat -> Bool} {B1 B2 : Nat} {w : World} (h : LasT kb lb k p S c W f B1 B2 w) {i : Nat} (h9 : i ≠ 9) (h17 : i ≠ 17) : LasT kb lb k p S c W (upd f i true) B1 B2 w :=
 ⟨h.I, by rw [upd_ne _ _ (Ne.symm h9)]; exact h.t1, by rw [upd_ne _ _ (Ne.symm h17)]; exact h.t2⟩
theorem calls_last (Q sn y sb so sc oc : Nat) (oa : Option Addr) (v0 : Int) (hv0 : S.v = v0) (hy1 : k + 1 <= y) (hy2 : y <= k + 1) (hs1 : sn <= y + 1) (hs2 : y + 1 <= sn) (hsc : sn <= sc) (q1 : kb ≠ lb) (q2 : kb ≠ p) (q3 : lb ≠ p) (W0 : World) (I0 : CalQ kb lb k p S c W0 W) (hc : c <= 9223372036854)
  (x1 : W.cell? ⟨Q, 1, none⟩ = some (.slice oa c oc)) (x2 : W.cell? ⟨Q, 2, none⟩ = some (.slice (some ⟨sb, so, none⟩) sn sc)) (x3 : W.cell? ⟨sb, so, none⟩ = some (.int .i64 v0)) (hQ : Q ≠ kb /\ Q ≠ lb /\ Q ≠ p) (hsb : sb ≠ kb /\ sb ≠ lb /\ sb ≠ p) (hst : NumA (some ⟨sb, so + 1, none⟩) (Je k S) W)
  (kx : List Item) (cs : List Frame) (u0 : Nat -> Value) {Stop : Goroutine -> World -> Prop}
  (hend : ∀ (u : Nat -> Value) (w : World), u 4 = .bool true -> (∀ b, b < W.heap.size -> b ≠ kb -> b ≠ lb -> b ≠ p -> w.heap[b]? = W.heap[b]?) -> W.heap.size <= w.heap.size -> Walk Try.prog main (DR (fun _ => none)) Stop (G ((base 4).at ⟨Dd Q kb lb p u, []⟩ (.inRegion reg4_17 [] :: kx)) cs) w) :
  Walk Try.prog main (DR (fun _ => none)) Stop (G ((base 4).at ⟨Dd Q kb lb p u0, []⟩ (.code (.region 17 reg4_17 true) :: kx)) cs) W := by
 have hA : ∀ b, Ay (fun _ => none) b := Oi
 have hsl : (Je k S).length = y := by simp [Je]; omega
 have hk15 := I0.ik.pos
 have hy20 : y <= 20 := by omega
 obtain ⟨ti, hti, htz⟩ := huInt
 have hs := fun w => (run_sl1 huInts hti htz sb so sn sc y hs1 hs2 (by omega) hsc w #[]).1
 have hse := fun w es => (run_sl1 huInts hti htz sb so sn sc y hs1 hs2 (by omega) hsc w es).2
 have hvv : ∀ (L : Nat) (w : World), SqI L k S w -> CallW Try.prog main (fun _ => none) 18 #[.pointer (some ⟨L, 0, none⟩)] w (fun v w' => v = .int .i64 v0 /\ Calm L k S w w') := fun L w I => hv0 ▸ In (main := main) hA w I
 have hva : ∀ (L : Nat) (w : World), SqI L k S w -> CallW Try.prog main (fun _ => none) 22 #[.pointer (some ⟨L, 0, none⟩)] w (fun v w' => ∃ B, v = .slice (some ⟨B, 0, none⟩) y y /\ NumB w' B (Je k S) /\ w.heap.size <= B /\ Calm L k S w w') := fun L w I => by
  have e : k + 1 = y := by omega
  have h := lvalues_w (main := main) hA w I
  unfold Ps at h
  rw [e] at h
  exact h
 have hi0 : (0 : Int) <= 0 := by omega
 have hi3 : decide (0 < sn) = true := by simp; omega
 have hi1 : decide ((0 : Int) < sn) = true := by simp; omega
 have hi4 : (0 : Int) < sn := by omega
 have hi5 : 0 < sn := by omega
 clear hy1 hy2 hs1 hs2 hv0
 refine Cu (Inv := fun f ac' w => ∃ u B1 B2, ac' = ⟨Dd Q kb lb p u, []⟩ /\ Facts dsT (vsT Q kb lb p sn y sb so sc c oc oa v0 B1 B2) f u /\ LasT kb lb k p S c W f B1 B2 w) (by kernel_rfl) (by kernel_rfl) (fun d => ⟨u0, 0, 0, rfl, Cx _ _ _, LasT.at ⟨⟨I0.ik, I0.il, I0.cn, fun _ _ _ _ _ => rfl, Nat.le_refl _⟩, fun h => (by cases h), fun h => (by cases h)⟩ d⟩) ?_ ?_
 ·rintro f j op act w ⟨u, B1, B2, rfl, F0, L⟩ hC hfj ho hdeps rest hr
  have hj : j < 34 := by have := (Array.getElem?_eq_some_iff.1 ho).1; rw [size4_17] at this; exact this
  have I := L.I
  have hcell : ∀ {x y : Nat} {v : Value}, (x ≠ kb /\ x ≠ lb /\ x ≠ p) -> W.cell? ⟨x, y, none⟩ = some v -> w.cell? ⟨x, y, none⟩ = some v := fun {x y v} e h => (World.cell?_of_block (a := ⟨x, y, none⟩) (I.old x (Al h) e.1 e.2.1 e.2.2)).trans h
  have l1 := I.ik.lt
  have l3 := I.il.lt
  have l5 := (Array.getElem?_eq_some_iff.1 I.cn).1
  have hIs := I.size
  have k1 := I0.ik.lt
  have k3 := I0.il.lt
  have k5 := (Array.getElem?_eq_some_iff.1 I0.cn).1
  match j, hj with
  | 0, _ =>
   clear hdeps hC hend hvv hva
   simp only [Dd] at hr ⊢
   (refine Walk.oq ?_; try walk_nrm)
   refine hr _ _ ⟨upd u 112 (.pointer (some ⟨kb, 0, none⟩)), B1, B2, ?_, F0.set (by decide) rfl rfl, L.quiet (by decide) (by decide)⟩
   simp [Dd, upd]
  | 1, _ =>
   have hd := Af (l := [0]) (by kernel_rfl) ho hdeps
   have e112 := F0 0 112 _ (hd 0 (by simp)) rfl rfl
   have hto := hvv kb w I.ik
   clear hdeps hC hend hvv hva
   simp only [Dd] at hr ⊢
   simp only [e112]
   refine Ah (Post := fun v w' => v = .int .i64 v0 /\ Calm kb k S w w') ?_ Ao (by rfl) (by decide) rfl Try.func18 (by kernel_rfl) (by rfl) ?_
   ·walk_nrm
    exact hto
   rintro v w1 ⟨rfl, hI, hO, hZ⟩
   walk_nrm
   refine hr _ w1 ⟨upd u 113 (.int .i64 v0), B1, B2, ?_, F0.set (by decide) rfl rfl, ⟨⟨hI, I.il.old (hO lb (by omega) (Ne.symm q1)), (hO p (by omega) (Ne.symm q2)).trans I.cn, fun b hb g1 g2 g3 => (hO b (by omega) g1).trans (I.old b hb g1 g2 g3), by omega⟩, fun h => ?_, fun h => ?_⟩⟩
   ·simp [Dd, upd, e112]
   ·rw [upd_ne _ _ (by decide)] at h
    obtain ⟨z1, z2⟩ := L.t1 h
    exact ⟨z1, z2.same (hO B1 z2.lt (by omega))⟩
   ·rw [upd_ne _ _ (by decide)] at h
    obtain ⟨z1, z2⟩ := L.t2 h
    exact ⟨z1, z2.same (hO B2 z2.lt (by omega))⟩
  | 2, _ =>
   clear hdeps hC hend hvv hva
   simp only [Dd] at hr ⊢
   (refine Walk.oq ?_; try walk_nrm)
   refine hr _ _ ⟨upd u 114 (.pointer (some ⟨Q, 2, none⟩)), B1, B2, ?_, F0.set (by decide) rfl rfl, L.quiet (by decide) (by decide)⟩
   simp [Dd, upd]
  | 3, _ =>
   have hd := Af (l := [2]) (by kernel_rfl) ho hdeps
   have e114 := F0 2 114 _ (hd 2 (by simp)) rfl rfl
   have y2 := hcell hQ x2
   clear hdeps hC hend hvv hva
   simp only [Dd] at hr ⊢
   simp only [e114]
   (refine Walk.oq ?_; try walk_nrm)
   refine hr _ _ ⟨upd u 115 (.slice (some ⟨sb, so, none⟩) sn sc), B1, B2, ?_, F0.set (by decide) rfl rfl, L.quiet (by decide) (by decide)⟩
   simp [Dd, upd, e114]
  | 4, _ =>
   have hd := Af (l := [3]) (by kernel_rfl) ho hdeps
   have e115 := F0 3 115 _ (hd 3 (by simp)) rfl rfl
   clear hdeps hC hend hvv hva
   simp only [Dd] at hr ⊢
   simp only [e115]
   (refine Walk.oq ?_; try walk_nrm)
   refine hr _ _ ⟨upd u 116 (.pointer (some ⟨sb, so, none⟩)), B1, B2, ?_, F0.set (by decide) rfl rfl, L.quiet (by decide) (by decide)⟩
   simp [Dd, upd, e115]
  | 5, _ =>
   have hd := Af (l := [4]) (by kernel_rfl) ho hdeps
   have e116 := F0 4 116 _ (hd 4 (by simp)) rfl rfl
   have y4 := hcell hsb x3
   clear hdeps hC hend hvv hva
   simp only [Dd] at hr ⊢
   simp only [e116]
   (refine Walk.oq ?_; try walk_nrm)
   refine hr _ _ ⟨upd u 117 (.int .i64 v0), B1, B2, ?_, F0.set (by decide) rfl rfl, L.quiet (by decide) (by decide)⟩
   simp [Dd, upd, e116]
  | 6, _ =>
   have hd := Af (l := [1, 5]) (by kernel_rfl) ho hdeps
   have e113 := F0 1 113 _ (hd 1 (by simp)) rfl rfl
   have e117 := F0 5 117 _ (hd 5 (by simp)) rfl rfl
   have hbe : (v0 == v0) = true := by simp
   clear hdeps hC hend hvv hva
   simp only [Dd] at hr ⊢
   simp only [e113, e117]
   (refine Walk.oq ?_; try walk_nrm)
   refine hr _ _ ⟨upd u 118 (.bool true), B1, B2, ?_, F0.set (by decide) rfl rfl, L.quiet (by decide) (by decide)⟩
   simp [Dd, upd, e113, e117]
  | 7, _ =>
   have hd := Af (l := [6]) (by kernel_rfl) ho hdeps
   have e118 := F0 6 118 _ (hd 6 (by simp)) rfl rfl
   clear hdeps hC hend hvv hva
   simp only [Dd] at hr ⊢
   simp only [e118]
   (refine Walk.oq ?_; try walk_nrm)
   refine hr _ _ ⟨upd u 119 (.bool true), B1, B2, ?_, F0.set (by decide) rfl rfl, L.quiet (by decide) (by decide)⟩
   simp [Dd, upd, e118]
  | 8, _ =>
   have hd := Af (l := [7]) (by kernel_rfl) ho hdeps
   have e119 := F0 7 119 _ (hd 7 (by simp)) rfl rfl
   clear hdeps hC hend hvv hva
   simp only [Dd] at hr ⊢
   simp only [e119]
   (refine Walk.oq ?_; try walk_nrm)
   refine hr _ _ ⟨upd u 120 (.pointer (some ⟨kb, 0, none⟩)), B1, B2, ?_, F0.set (by decide) rfl rfl, L.quiet (by decide) (by decide)⟩
   simp [Dd, upd, e119]
  | 9, _ =>
   have hd := Af (l := [8, 7]) (by kernel_rfl) ho hdeps
   have e120 := F0 8 120 _ (hd 8 (by simp)) rfl rfl
   have e119 := F0 7 119 _ (hd 7 (by simp)) rfl rfl
   have hto := hva kb w I.ik
   clear hdeps hC hend hvv hva
   simp only [Dd] at hr ⊢
   simp only [e120, e119]
   refine Ah (Post := fun v w' => ∃ B, v = .slice (some ⟨B, 0, none⟩) y y /\ NumB w' B (Je k S) /\ w.heap.size <= B /\ Calm kb k S w w') ?_ Ao (by rfl) (by decide) rfl Try.func22 (by kernel_rfl) (by rfl) ?_
   ·walk_nrm
    exact hto
   rintro v w1 ⟨BB, rfl, hN, hBB, hI, hO, hZ⟩
   walk_nrm
   refine hr _ w1 ⟨upd u 121 (.slice (some ⟨BB, 0, none⟩) y y), BB, B2, ?_, Facts.set (Dn F0 fun j v hf hv => ?_) (by decide) rfl rfl, ⟨⟨?_, ?_, (hO p (by omega) (by omega)).trans I.cn, fun b hb g1 g2 g3 => (hO b (by omega) g1).trans (I.old b hb g1 g2 g3), by omega⟩, fun h => ?_, fun h => ?_⟩⟩
   ·simp [Dd, upd, e120, e119]
   ·exact match j, hf, hv with
     | 0, _, hv => hv
     | 1, _, hv => hv
     | 2, _, hv => hv
     | 3, _, hv => hv
     | 4, _, hv => hv
     | 5, _, hv => hv
     | 6, _, hv => hv
     | 7, _, hv => hv
     | 8, _, hv => hv
     | 9, hf, hv => by rw [hfj] at hf; cases hf
     | 10, _, hv => hv
     | 11, _, hv => hv
     | 12, _, hv => hv
     | 13, _, hv => hv
     | 14, _, hv => hv
     | 15, _, hv => hv
     | 16, _, hv => hv
     | 17, _, hv => hv
     | 18, _, hv => hv
     | 19, _, hv => hv
     | 20, _, hv => hv
     | 21, _, hv => hv
     | 22, _, hv => hv
     | 23, _, hv => hv
     | 24, _, hv => hv
     | 25, _, hv => hv
     | 26, _, hv => hv
     | 27, _, hv => hv
     | 28, _, hv => hv
     | 29, _, hv => hv
     | 30, _, hv => hv
     | 31, _, hv => hv
     | 32, _, hv => hv
     | 33, _, hv => hv
     | j + 34, _, hv => hv
   ·exact hI
   ·exact I.il.old (hO lb (by omega) (Ne.symm q1))
   ·exact ⟨by omega, hN⟩
   ·rw [upd_ne _ _ (by decide)] at h
    obtain ⟨z1, z2⟩ := L.t2 h
    exact ⟨z1, z2.same (hO _ z2.lt (by omega))⟩
  | 10, _ =>
   have hd := Af (l := [7]) (by kernel_rfl) ho hdeps
   have e119 := F0 7 119 _ (hd 7 (by simp)) rfl rfl
   clear hdeps hC hend hvv hva
   simp only [Dd] at hr ⊢
   simp only [e119]
   (refine Walk.oq ?_; try walk_nrm)
   refine hr _ _ ⟨upd u 122 (.pointer (some ⟨Q, 2, none⟩)), B1, B2, ?_, F0.set (by decide) rfl rfl, L.quiet (by decide) (by decide)⟩
   simp [Dd, upd, e119]
  | 11, _ =>
   have hd := Af (l := [10, 7]) (by kernel_rfl) ho hdeps
   have e122 := F0 10 122 _ (hd 10 (by simp)) rfl rfl
   have e119 := F0 7 119 _ (hd 7 (by simp)) rfl rfl
   have y2 := hcell hQ x2
   clear hdeps hC hend hvv hva
   simp only [Dd] at hr ⊢
   simp only [e122, e119]
   (refine Walk.oq ?_; try walk_nrm)
   refine hr _ _ ⟨upd u 123 (.slice (some ⟨sb, so, none⟩) sn sc), B1, B2, ?_, F0.set (by decide) rfl rfl, L.quiet (by decide) (by decide)⟩
   simp [Dd, upd, e122, e119]
  | 12, _ =>
   have hd := Af (l := [11, 7]) (by kernel_rfl) ho hdeps
   have e123 := F0 11 123 _ (hd 11 (by simp)) rfl rfl
   have e119 := F0 7 119 _ (hd 7 (by simp)) rfl rfl
   clear hdeps hC hend hvv hva
   simp only [Dd] at hr ⊢
   simp only [e123, e119]
   (refine Walk.oq ?_; try walk_nrm)
   refine hr _ _ ⟨upd u 124 (.slice (some ⟨sb, so + 1, none⟩) y (sc - 1)), B1, B2, ?_, F0.set (by decide) rfl rfl, L.quiet (by decide) (by decide)⟩
   simp [Dd, upd, e123, e119]
  | 13, _ =>
   have hd := Af (l := [9, 12, 7]) (by kernel_rfl) ho hdeps
   have e121 := F0 9 121 _ (hd 9 (by simp)) rfl rfl
   have e124 := F0 12 124 _ (hd 12 (by simp)) rfl rfl
   have e119 := F0 7 119 _ (hd 7 (by simp)) rfl rfl
   have hT := (L.t1 (hd 9 (by simp))).2
   have hsn := sn_w (main := main) (V := fun _ => none) (some ⟨B1, 0, none⟩) (some ⟨sb, so + 1, none⟩) (Je k S) y (sc - 1) (by rw [hsl]; omega) w (numB_numA hT) (fun j x hx => by
    obtain ⟨b', o', e, h⟩ := hst j x hx
    cases e
    exact ⟨sb, so + 1, rfl, hcell hsb h⟩)
   rw [hsl] at hsn
   clear hdeps hC hend hvv hva
   simp only [Dd] at hr ⊢
   simp only [e121, e124, e119]
   refine Walk.callV (x := .bool true) (W := w) ?_ Ao (by rfl) (by decide) rfl Try.func21 (by kernel_rfl) (by rfl) ?_
   ·walk_nrm
    exact hsn
   walk_nrm
   refine hr _ _ ⟨upd u 125 (.bool true), B1, B2, ?_, F0.set (by decide) rfl rfl, L.quiet (by decide) (by decide)⟩
   simp [Dd, upd, e121, e124, e119]
  | 14, _ =>
   have hd := Af (l := [7, 13]) (by kernel_rfl) ho hdeps
   have e119 := F0 7 119 _ (hd 7 (by simp)) rfl rfl
   have e125 := F0 13 125 _ (hd 13 (by simp)) rfl rfl
   clear hdeps hC hend hvv hva
   simp only [Dd] at hr ⊢
   simp only [e119, e125]
   (refine Walk.oq ?_; try walk_nrm)
   refine hr _ _ ⟨upd u 126 (.bool true), B1, B2, ?_, F0.set (by decide) rfl rfl, L.quiet (by decide) (by decide)⟩
   simp [Dd, upd, e119, e125]
  | 15, _ =>
   have hd := Af (l := [14]) (by kernel_rfl) ho hdeps
   have e126 := F0 14 126 _ (hd 14 (by simp)) rfl rfl
   clear hdeps hC hend hvv hva
   simp only [Dd] at hr ⊢
   simp only [e126]
   (refine Walk.oq ?_; try walk_nrm)
   refine hr _ _ ⟨upd u 127 (.bool true), B1, B2, ?_, F0.set (by decide) rfl rfl, L.quiet (by decide) (by decide)⟩
   simp [Dd, upd, e126]
  | 16, _ =>
   have hd := Af (l := [15]) (by kernel_rfl) ho hdeps
   have e127 := F0 15 127 _ (hd 15 (by simp)) rfl rfl
   clear hdeps hC hend hvv hva
   simp only [Dd] at hr ⊢
   simp only [e127]
   (refine Walk.oq ?_; try walk_nrm)
   refine hr _ _ ⟨upd u 128 (.pointer (some ⟨lb, 0, none⟩)), B1, B2, ?_, F0.set (by decide) rfl rfl, L.quiet (by decide) (by decide)⟩
   simp [Dd, upd, e127]
  | 17, _ =>
   have hd := Af (l := [16, 15]) (by kernel_rfl) ho hdeps
   have e128 := F0 16 128 _ (hd 16 (by simp)) rfl rfl
   have e127 := F0 15 127 _ (hd 15 (by simp)) rfl rfl
   have hto := hva lb w I.il
   clear hdeps hC hend hvv hva
   simp only [Dd] at hr ⊢
   simp only [e128, e127]
   refine Ah (Post := fun v w' => ∃ B, v = .slice (some ⟨B, 0, none⟩) y y /\ NumB w' B (Je k S) /\ w.heap.size <= B /\ Calm lb k S w w') ?_ Ao (by rfl) (by decide) rfl Try.func22 (by kernel_rfl) (by rfl) ?_
   ·walk_nrm
    exact hto
   rintro v w1 ⟨BB, rfl, hN, hBB, hI, hO, hZ⟩
   walk_nrm
   refine hr _ w1 ⟨upd u 129 (.slice (some ⟨BB, 0, none⟩) y y), B1, BB, ?_, Facts.set (Dn F0 fun j v hf hv => ?_) (by decide) rfl rfl, ⟨⟨?_, ?_, (hO p (by omega) (by omega)).trans I.cn, fun b hb g1 g2 g3 => (hO b (by omega) g2).trans (I.old b hb g1 g2 g3), by omega⟩, fun h => ?_, fun h => ?_⟩⟩
   ·simp [Dd, upd, e128, e127]
   ·exact match j, hf, hv with
     | 0, _, hv => hv
     | 1, _, hv => hv
     | 2, _, hv => hv
     | 3, _, hv => hv
     | 4, _, hv => hv
     | 5, _, hv => hv
     | 6, _, hv => hv
     | 7, _, hv => hv
     | 8, _, hv => hv
     | 9, _, hv => hv
     | 10, _, hv => hv
     | 11, _, hv => hv
     | 12, _, hv => hv
     | 13, _, hv => hv
     | 14, _, hv => hv
     | 15, _, hv => hv
     | 16, _, hv => hv
     | 17, hf, hv => by rw [hfj] at hf; cases hf
     | 18, _, hv => hv
     | 19, _, hv => hv
     | 20, _, hv => hv
     | 21, _, hv => hv
     | 22, _, hv => hv
     | 23, _, hv => hv
     | 24, _, hv => hv
     | 25, _, hv => hv
     | 26, _, hv => hv
     | 27, _, hv => hv
     | 28, _, hv => hv
     | 29, _, hv => hv
     | 30, _, hv => hv
     | 31, _, hv => hv
     | 32, _, hv => hv
     | 33, _, hv => hv
     | j + 34, _, hv => hv
   ·exact I.ik.old (hO kb (by omega) q1)
   ·exact hI
   ·rw [upd_ne _ _ (by decide)] at h
    obtain ⟨z1, z2⟩ := L.t1 h
    exact ⟨z1, z2.same (hO _ z2.lt (by omega))⟩
   ·exact ⟨by omega, hN⟩
  | 18, _ =>
   have hd := Af (l := [15]) (by kernel_rfl) ho hdeps
   have e127 := F0 15 127 _ (hd 15 (by simp)) rfl rfl
   clear hdeps hC hend hvv hva
   simp only [Dd] at hr ⊢
   simp only [e127]
   (refine Walk.oq ?_; try walk_nrm)
   refine hr _ _ ⟨upd u 130 (.pointer (some ⟨Q, 2, none⟩)), B1, B2, ?_, F0.set (by decide) rfl rfl, L.quiet (by decide) (by decide)⟩
   simp [Dd, upd, e127]
  | 19, _ =>
   have hd := Af (l := [18, 15]) (by kernel_rfl) ho hdeps
   have e130 := F0 18 130 _ (hd 18 (by simp)) rfl rfl
   have e127 := F0 15 127 _ (hd 15 (by simp)) rfl rfl
   have y2 := hcell hQ x2
   clear hdeps hC hend hvv hva
   simp only [Dd] at hr ⊢
   simp only [e130, e127]
   (refine Walk.oq ?_; try walk_nrm)
   refine hr _ _ ⟨upd u 131 (.slice (some ⟨sb, so, none⟩) sn sc), B1, B2, ?_, F0.set (by decide) rfl rfl, L.quiet (by decide) (by decide)⟩
   simp [Dd, upd, e130, e127]
  | 20, _ =>
   have hd := Af (l := [19, 15]) (by kernel_rfl) ho hdeps
   have e131 := F0 19 131 _ (hd 19 (by simp)) rfl rfl
   have e127 := F0 15 127 _ (hd 15 (by simp)) rfl rfl
   clear hdeps hC hend hvv hva
   simp only [Dd] at hr ⊢
   simp only [e131, e127]
   (refine Walk.oq ?_; try walk_nrm)
   refine hr _ _ ⟨upd u 132 (.slice (some ⟨sb, so + 1, none⟩) y (sc - 1)), B1, B2, ?_, F0.set (by decide) rfl rfl, L.quiet (by decide) (by decide)⟩
   simp [Dd, upd, e131, e127]
  | 21, _ =>
   have hd := Af (l := [17, 20, 15]) (by kernel_rfl) ho hdeps
   have e129 := F0 17 129 _ (hd 17 (by simp)) rfl rfl
   have e132 := F0 20 132 _ (hd 20 (by simp)) rfl rfl
   have e127 := F0 15 127 _ (hd 15 (by simp)) rfl rfl
   have hT := (L.t2 (hd 17 (by simp))).2
   have hsn := sn_w (main := main) (V := fun _ => none) (some ⟨B2, 0, none⟩) (some ⟨sb, so + 1, none⟩) (Je k S) y (sc - 1) (by rw [hsl]; omega) w (numB_numA hT) (fun j x hx => by
    obtain ⟨b', o', e, h⟩ := hst j x hx
    cases e
    exact ⟨sb, so + 1, rfl, hcell hsb h⟩)
   rw [hsl] at hsn
   clear hdeps hC hend hvv hva
   simp only [Dd] at hr ⊢
   simp only [e129, e132, e127]
   refine Walk.callV (x := .bool true) (W := w) ?_ Ao (by rfl) (by decide) rfl Try.func21 (by kernel_rfl) (by rfl) ?_
   ·walk_nrm
    exact hsn
   walk_nrm
   refine hr _ _ ⟨upd u 133 (.bool true), B1, B2, ?_, F0.set (by decide) rfl rfl, L.quiet (by decide) (by decide)⟩
   simp [Dd, upd, e129, e132, e127]
  | 22, _ =>
   have hd := Af (l := [15, 21]) (by kernel_rfl) ho hdeps
   have e127 := F0 15 127 _ (hd 15 (by simp)) rfl rfl
   have e133 := F0 21 133 _ (hd 21 (by simp)) rfl rfl
   clear hdeps hC hend hvv hva
   simp only [Dd] at hr ⊢
   simp only [e127, e133]
   (refine Walk.oq ?_; try walk_nrm)
   refine hr _ _ ⟨upd u 134 (.bool true), B1, B2, ?_, F0.set (by decide) rfl rfl, L.quiet (by decide) (by decide)⟩
   simp [Dd, upd, e127, e133]
  | 23, _ =>
   have hd := Af (l := [22]) (by kernel_rfl) ho hdeps
   have e134 := F0 22 134 _ (hd 22 (by simp)) rfl rfl
   clear hdeps hC hend hvv hva
   simp only [Dd] at hr ⊢
   simp only [e134]
   (refine Walk.oq ?_; try walk_nrm)
   refine hr _ _ ⟨upd u 135 (.bool true), B1, B2, ?_, F0.set (by decide) rfl rfl, L.quiet (by decide) (by decide)⟩
   simp [Dd, upd, e134]
  | 24, _ =>
   have hd := Af (l := [23]) (by kernel_rfl) ho hdeps
   have e135 := F0 23 135 _ (hd 23 (by simp)) rfl rfl
   clear hdeps hC hend hvv hva
   simp only [Dd] at hr ⊢
   simp only [e135]
   (refine Walk.oq ?_; try walk_nrm)
   refine hr _ _ ⟨upd u 136 (.pointer (some ⟨p, 0, none⟩)), B1, B2, ?_, F0.set (by decide) rfl rfl, L.quiet (by decide) (by decide)⟩
   simp [Dd, upd, e135]
  | 25, _ =>
   have hd := Af (l := [24, 23]) (by kernel_rfl) ho hdeps
   have e136 := F0 24 136 _ (hd 24 (by simp)) rfl rfl
   have e135 := F0 23 135 _ (hd 23 (by simp)) rfl rfl
   clear hdeps hC hend hvv hva
   simp only [Dd] at hr ⊢
   simp only [e136, e135]
   (refine Walk.oq ?_; try walk_nrm)
   refine hr _ _ ⟨upd u 137 (.pointer (some ⟨p, 0, none⟩)), B1, B2, ?_, F0.set (by decide) rfl rfl, L.quiet (by decide) (by decide)⟩
   simp [Dd, upd, e136, e135]
  | 26, _ =>
   have hd := Af (l := [25, 23]) (by kernel_rfl) ho hdeps
   have e137 := F0 25 137 _ (hd 25 (by simp)) rfl rfl
   have e135 := F0 23 135 _ (hd 23 (by simp)) rfl rfl
   clear hdeps hC hend hvv hva
   simp only [Dd] at hr ⊢
   simp only [e137, e135]
   (refine Walk.oq ?_; try walk_nrm)
   refine hr _ _ ⟨upd u 138 (.pointer (some ⟨p, 0, none⟩)), B1, B2, ?_, F0.set (by decide) rfl rfl, L.quiet (by decide) (by decide)⟩
   simp [Dd, upd, e137, e135]
  | 27, _ =>
   have hd := Af (l := [26, 23]) (by kernel_rfl) ho hdeps
   have e138 := F0 26 138 _ (hd 26 (by simp)) rfl rfl
   have e135 := F0 23 135 _ (hd 23 (by simp)) rfl rfl
   have y3 : w.cell? ⟨p, 0, none⟩ = some (.int .i64 c) := (Ad I.cn 0).trans rfl
   clear hdeps hC hend hvv hva
   simp only [Dd] at hr ⊢
   simp only [e138, e135]
   (refine Walk.oq ?_; try walk_nrm)
   refine hr _ _ ⟨upd u 139 (.int .i64 c), B1, B2, ?_, F0.set (by decide) rfl rfl, L.quiet (by decide) (by decide)⟩
   simp [Dd, upd, e138, e135]
  | 28, _ =>
   have hd := Af (l := [23]) (by kernel_rfl) ho hdeps
   have e135 := F0 23 135 _ (hd 23 (by simp)) rfl rfl
   clear hdeps hC hend hvv hva
   simp only [Dd] at hr ⊢
   simp only [e135]
   (refine Walk.oq ?_; try walk_nrm)
   refine hr _ _ ⟨upd u 140 (.pointer (some ⟨Q, 1, none⟩)), B1, B2, ?_, F0.set (by decide) rfl rfl, L.quiet (by decide) (by decide)⟩
   simp [Dd, upd, e135]
  | 29, _ =>
   have hd := Af (l := [28, 23]) (by kernel_rfl) ho hdeps
   have e140 := F0 28 140 _ (hd 28 (by simp)) rfl rfl
   have e135 := F0 23 135 _ (hd 23 (by simp)) rfl rfl
   have y1 := hcell hQ x1
   clear hdeps hC hend hvv hva
   simp only [Dd] at hr ⊢
   simp only [e140, e135]
   (refine Walk.oq ?_; try walk_nrm)
   refine hr _ _ ⟨upd u 141 (.slice oa c oc), B1, B2, ?_, F0.set (by decide) rfl rfl, L.quiet (by decide) (by decide)⟩
   simp [Dd, upd, e140, e135]
  | 30, _ =>
   have hd := Af (l := [29, 23]) (by kernel_rfl) ho hdeps
   have e141 := F0 29 141 _ (hd 29 (by simp)) rfl rfl
   have e135 := F0 23 135 _ (hd 23 (by simp)) rfl rfl
   clear hdeps hC hend hvv hva
   simp only [Dd] at hr ⊢
   simp only [e141, e135]
   (refine Walk.oq ?_; try walk_nrm)
   refine hr _ _ ⟨upd u 142 (.int .i64 c), B1, B2, ?_, F0.set (by decide) rfl rfl, L.quiet (by decide) (by decide)⟩
   simp [Dd, upd, e141, e135]
  | 31, _ =>
   have hd := Af (l := [27, 30, 23]) (by kernel_rfl) ho hdeps
   have e139 := F0 27 139 _ (hd 27 (by simp)) rfl rfl
   have e142 := F0 30 142 _ (hd 30 (by simp)) rfl rfl
   have e135 := F0 23 135 _ (hd 23 (by simp)) rfl rfl
   have hbe : ((c : Int) == c) = true := by simp
   clear hdeps hC hend hvv hva
   simp only [Dd] at hr ⊢
   simp only [e139, e142, e135]
   (refine Walk.oq ?_; try walk_nrm)
   refine hr _ _ ⟨upd u 143 (.bool true), B1, B2, ?_, F0.set (by decide) rfl rfl, L.quiet (by decide) (by decide)⟩
   simp [Dd, upd, e139, e142, e135]
  | 32, _ =>
   have hd := Af (l := [23, 31]) (by kernel_rfl) ho hdeps
   have e135 := F0 23 135 _ (hd 23 (by simp)) rfl rfl
   have e143 := F0 31 143 _ (hd 31 (by simp)) rfl rfl
   clear hdeps hC hend hvv hva
   simp only [Dd] at hr ⊢
   simp only [e135, e143]
   (refine Walk.oq ?_; try walk_nrm)
   refine hr _ _ ⟨upd u 144 (.bool true), B1, B2, ?_, F0.set (by decide) rfl rfl, L.quiet (by decide) (by decide)⟩
   simp [Dd, upd, e135, e143]
  | 33, _ =>
   have hd := Af (l := [32]) (by kernel_rfl) ho hdeps
   have e144 := F0 32 144 _ (hd 32 (by simp)) rfl rfl
   clear hdeps hC hend hvv hva
   simp only [Dd] at hr ⊢
   simp only [e144]
   (refine Walk.oq ?_; try walk_nrm)
   refine hr _ _ ⟨upd u 4 (.bool true), B1, B2, ?_, F0.set (by decide) rfl rfl, L.quiet (by decide) (by decide)⟩
   simp [Dd, upd, e144]
 ·rintro f act w ⟨u, B1, B2, rfl, F0, L⟩ hall
  exact hend u w (F0 33 4 _ (hall 33 (by rw [size4_17]; decide)) rfl rfl) L.I.old L.I.size
end
end
end
end Go.Proofs.Ytjenoiekfkhafaa
