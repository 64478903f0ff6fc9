/- Part 29. -/
import Derived.Test.YtgfajibjedfkdaaJK25
import Derived.Test.YtgfajibjedfkdaaJK26
import Derived.Test.YtgfajibjedfkdaaJK28
import Derived.Laws.StructEq
set_option linter.unusedSimpArgs false
set_option linter.unusedVariables false
set_option linter.unusedVariables false
set_option maxHeartbeats 8000000
set_option maxRecDepth 100000
namespace Go.Proofs.Ytgfajibjedfkdaa
open Go.Conc Go.RowKit Go.Relay
open Go.ConcN (upd upd_ne upd_same)
def ds57 : List Nat := [260, 261, 262, 263, 264, 265, 266, 267, 268, 269, 270, 271, 272, 273, 274, 275, 276, 277, 278, 279, 280, 281, 282, 283, 284, 285, 286, 287, 288, 289, 290, 291, 292, 293, 294, 295, 296, 297, 298, 299, 300, 4]
def vs57 (k1 k2 xl sl c1 c2 X xc sc' : Nat) (xa sa : Option Addr) (x0 x1 x2 x3 y0 y1 y2 y3 : Value) : List Value := [.agg #[x0, x1, x2, x3], .agg #[y0, y1, y2, y3], .bool true, .bool true, .slice (some ⟨k1, 0, none⟩) (xl + 1) c1, .pointer (some ⟨X, 0, none⟩), (.slice xa xl xc : Value), .int .i64 xl, .pointer (some ⟨k1, xl, none⟩), .int .i64 77, .bool true, .bool true, .bool true, .slice (some ⟨k2, 0, none⟩) (sl + 1) c2, .pointer (some ⟨X, 2, none⟩), (.slice sa sl sc' : Value), .int .i64 sl, .pointer (some ⟨k2, sl, none⟩), .int .i64 88, .bool true, .bool true, .bool true, .slice (some ⟨k1, 0, none⟩) (xl + 1) c1, .pointer (some ⟨X, 0, none⟩), (.slice xa xl xc : Value), .int .i64 xl, .slice (some ⟨k1, 0, none⟩) xl c1, .pointer (some ⟨X, 0, none⟩), (.slice xa xl xc : Value), .bool true, .bool true, .bool true, .slice (some ⟨k2, 0, none⟩) (sl + 1) c2, .pointer (some ⟨X, 2, none⟩), (.slice sa sl sc' : Value), .int .i64 sl, .slice (some ⟨k2, 0, none⟩) sl c2, .pointer (some ⟨X, 2, none⟩), (.slice sa sl sc' : Value), .bool true, .bool true, .bool true]
theorem kr57 (k1 k2 c1 c2 X B C xc sc' n : Nat) (xa sa : Option Addr) (p1 p3 : Value) (x0 x1 x2 x3 y0 y1 y2 y3 : Value) (xs ss : List Int) (Fa : Nat → List Ans) (ord : List Nat) (sts : List Int) (kk : Bool) (W : World) (hX : W.heap[X]? = some (.cells #[.slice xa xs.length xc, p1, .slice sa ss.length sc', p3] 71)) (hc1 : xs.length ≤ c1) (hc2 : ss.length ≤ c2)
    (hB : W.heap[B]? = some (.cells #[x0, x1, x2, x3] 63)) (hC : W.heap[C]? = some (.cells #[y0, y1, y2, y3] 63)) (hn : n ≤ 64) (hord : ord.length ≤ 1048576) (hst : sts.length ≤ 1048576) (hF : ∀ i, i < n → (Fa i).length ≤ 65536) (hT1 : TrA #[x0, x1, x2, x3] n Fa ord sts kk W) (hT2 : TrA #[y0, y1, y2, y3] n Fa ord sts kk W)
    (h77 : W.cell? ⟨k1, xs.length, none⟩ = some (.int .i64 77)) (h88 : W.cell? ⟨k2, ss.length, none⟩ = some (.int .i64 88)) (hx1 : NumA (some ⟨k1, 0, none⟩) xs W) (hx2 : NumA xa xs W) (hs1 : NumA (some ⟨k2, 0, none⟩) ss W) (hs2 : NumA sa ss W) (hxl : xs.length ≤ 17592186044415) (hsl : ss.length ≤ 17592186044415) (hxc1 : xs.length < c1) (hsc2 : ss.length < c2)
    (u0 : Nat → Value) (kx : List Item) {Stop : Goroutine → World → Prop}
    (hend : ∀ (u : Nat → Value) (w : World), u 4 = .bool true → OldK W w → Walk Try.prog true (DR (fun _ => none)) Stop (G ((base 11).at ⟨tm57 (.slice (some ⟨k1, 0, none⟩) (xs.length + 1) c1) (.slice (some ⟨k2, 0, none⟩) (ss.length + 1) c2) X B C u, []⟩ (.inRegion reg11_57 [] :: kx)) []) w) :
    Walk Try.prog true (DR (fun _ => none)) Stop (G ((base 11).at ⟨tm57 (.slice (some ⟨k1, 0, none⟩) (xs.length + 1) c1) (.slice (some ⟨k2, 0, none⟩) (ss.length + 1) c2) X B C u0, []⟩ (.code (.region 57 reg11_57 true) :: kx)) []) W := by
  obtain ⟨fsT, huT⟩ := structT 63 (by kernel_rfl)
  have hu64 : Try.prog.underlying 28 = some (.slice 2) := by kernel_rfl
  have huin : Try.prog.underlying 57 = some (.slice 3) := by kernel_rfl
  have hi64 := Option.some_get (show (Try.prog.info? 2).isSome = true by kernel_rfl)
  have hiin := Option.some_get (show (Try.prog.info? 3).isSome = true by kernel_rfl)
  have hsn := fun (w : World) (h1 : NumA (some ⟨k1, 0, none⟩) xs w) (h2 : NumA xa xs w) => sn_w (main := true) (V := fun _ => none) (some ⟨k1, 0, none⟩) xa xs c1 xc (by omega) w h1 h2
  have hsi := fun (w : World) (h1 : NumA (some ⟨k2, 0, none⟩) ss w) (h2 : NumA sa ss w) => si_w (main := true) (V := fun _ => none) (some ⟨k2, 0, none⟩) sa ss c2 sc' (by omega) w h1 h2
  have hXl := (Array.getElem?_eq_some_iff.1 hX).1
  have hBl := (Array.getElem?_eq_some_iff.1 hB).1
  have hCl := (Array.getElem?_eq_some_iff.1 hC).1
  generalize hxe : xs.length = xl at *
  generalize hse : ss.length = sl at *
  have ha := fun w => (run_slx hu64 hi64.symm (some ⟨k1, 0, none⟩) (xl + 1) c1 xl hc1 (.inr ⟨_, rfl⟩) w #[]).1
  have hae := fun w es => (run_slx hu64 hi64.symm (some ⟨k1, 0, none⟩) (xl + 1) c1 xl hc1 (.inr ⟨_, rfl⟩) w es).2
  have hb := fun w => (run_slx huin hiin.symm (some ⟨k2, 0, none⟩) (sl + 1) c2 sl hc2 (.inr ⟨_, rfl⟩) w #[]).1
  have hbe := fun w es => (run_slx huin hiin.symm (some ⟨k2, 0, none⟩) (sl + 1) c2 sl hc2 (.inr ⟨_, rfl⟩) w es).2
  have i1 : (xl : Int) < (xl : Int) + 1 := by omega
  have i2 : xl < xl + 1 := by omega
  have i3 : (sl : Int) < (sl : Int) + 1 := by omega
  have i4 : sl < sl + 1 := by omega
  refine Walk.drawnJ (Inv := fun f ac' w => ∃ u, ac' = ⟨tm57 (.slice (some ⟨k1, 0, none⟩) (xl + 1) c1) (.slice (some ⟨k2, 0, none⟩) (sl + 1) c2) X B C u, []⟩ ∧ Facts ds57 (vs57 k1 k2 xl sl c1 c2 X xc sc' xa sa x0 x1 x2 x3 y0 y1 y2 y3) f u ∧ OldK W w) (by kernel_rfl) (by kernel_rfl) (fun d => ⟨u0, rfl, Facts.none _ _ _, (OldK.refl W).at d⟩) ?_ ?_
  · rintro f j op act w ⟨u, rfl, F0, L⟩ hCl' hfj ho hdeps rest hr
    have hj : j < 42 := by have := (Array.getElem?_eq_some_iff.1 ho).1; rw [size11_57] at this; exact this
    have hXw := (L.2 X hXl).trans hX
    have hcell : ∀ {x y : Nat} {v : Value}, W.cell? ⟨x, y, none⟩ = some v → w.cell? ⟨x, y, none⟩ = some v := fun {x y v} h => (World.cell?_of_block (a := ⟨x, y, none⟩) (L.2 x (cell_lt' h))).trans h
    have hnum : ∀ {a : Option Addr} {l : List Int}, NumA a l W → NumA a l w := fun {a l} h i x hx => by
      obtain ⟨b, o, e, hc⟩ := h i x hx
      exact ⟨b, o, e, hcell hc⟩
    have z0 : w.cell? ⟨X, 0, none⟩ = some (.slice xa xl xc) := (cell_of hXw 0).trans rfl
    have z2 : w.cell? ⟨X, 2, none⟩ = some (.slice sa sl sc') := (cell_of hXw 2).trans rfl
    have y77 := hcell h77
    have y88 := hcell h88
    match j, hj with
    | 0, _ =>
      have hbw := (L.2 B hBl).trans hB
      clear hdeps hCl' ho hend hsn hsi hT1 hT2 hnum hcell hXw hX hB hC hx1 hx2 hs1 hs2
      simp only [tm57] at hr ⊢
      refine Walk.loadS 63 (.tmp 10) (ho_of (by conv => lhs; whnf) (by kernel_rfl)) (by rfl) (by decide) rfl B 0 [x0, x1, x2, x3] (.struct fsT) rfl (fun j v hj => ?_) huT rfl (by kernel_rfl) ?_
      · rw [Nat.zero_add]
        refine (cell_of hbw j).trans ?_
        simpa using hj
      walk_nrm
      refine hr _ _ ⟨upd u 260 (.agg #[x0, x1, x2, x3]), ?_, F0.set (by decide) rfl rfl, L⟩
      simp [upd]
    | 1, _ =>
      have hbw := (L.2 C hCl).trans hC
      clear hdeps hCl' ho hend hsn hsi hT1 hT2 hnum hcell hXw hX hB hC hx1 hx2 hs1 hs2
      simp only [tm57] at hr ⊢
      refine Walk.loadS 63 (.tmp 23) (ho_of (by conv => lhs; whnf) (by kernel_rfl)) (by rfl) (by decide) rfl C 0 [y0, y1, y2, y3] (.struct fsT) rfl (fun j v hj => ?_) huT rfl (by kernel_rfl) ?_
      · rw [Nat.zero_add]
        refine (cell_of hbw j).trans ?_
        simpa using hj
      walk_nrm
      refine hr _ _ ⟨upd u 261 (.agg #[y0, y1, y2, y3]), ?_, F0.set (by decide) rfl rfl, L⟩
      simp [upd]
    | 2, _ =>
      have hd := deps_of (l := [0, 1]) (by kernel_rfl) ho hdeps
      have e260 := F0 0 260 _ (hd 0 (by simp)) rfl rfl
      have e261 := F0 1 261 _ (hd 1 (by simp)) rfl rfl
      have hS := sm_w (main := true) #[x0, x1, x2, x3] #[y0, y1, y2, y3] n Fa ord sts kk w hn hord hst hF (hT1.chg ⟨L.1, fun b hb _ => L.2 b hb⟩) (hT2.chg ⟨L.1, fun b hb _ => L.2 b hb⟩)
      clear hdeps hCl' ho hend hsn hsi hT1 hT2 hnum hcell hXw hX hB hC hx1 hx2 hs1 hs2
      simp only [tm57] at hr ⊢
      simp only [e260, e261]
      refine Walk.callW (Post := fun v w2 => v = .bool true ∧ Chg (fun _ => False) w w2) ?_ (ho_of (by conv => lhs; whnf) (by kernel_rfl)) (by rfl) (by decide) rfl Try.func26 (by kernel_rfl) (by rfl) ?_
      · walk_nrm
        exact hS
      rintro v w2 ⟨rfl, O2⟩
      walk_nrm
      refine hr _ _ ⟨upd u 262 (.bool true), ?_, F0.set (by decide) rfl rfl, L.trans ⟨O2.size, fun b hb => O2.same b hb id⟩⟩
      simp [upd, e260, e261]
    | 3, _ =>
      have hd := deps_of (l := [2]) (by kernel_rfl) ho hdeps
      have e262 := F0 2 262 _ (hd 2 (by simp)) rfl rfl
      clear hdeps hCl' ho hend hsn hsi hT1 hT2 hnum hcell hXw hX hB hC hx1 hx2 hs1 hs2
      simp only [tm57] at hr ⊢
      simp only [e262]
      (refine Walk.oq ?_; try walk_nrm)
      refine hr _ _ ⟨upd u 263 (.bool true), ?_, F0.set (by decide) rfl rfl, L⟩
      simp [upd, e262]
    | 4, _ =>
      have hd := deps_of (l := [3]) (by kernel_rfl) ho hdeps
      have e263 := F0 3 263 _ (hd 3 (by simp)) rfl rfl
      clear hdeps hCl' ho hend hsn hsi hT1 hT2 hnum hcell hXw hX hB hC hx1 hx2 hs1 hs2
      simp only [tm57] at hr ⊢
      simp only [e263]
      (refine Walk.oq ?_; try walk_nrm)
      refine hr _ _ ⟨upd u 264 (.slice (some ⟨k1, 0, none⟩) (xl + 1) c1), ?_, F0.set (by decide) rfl rfl, L⟩
      simp [upd, e263]
    | 5, _ =>
      have hd := deps_of (l := [3]) (by kernel_rfl) ho hdeps
      have e263 := F0 3 263 _ (hd 3 (by simp)) rfl rfl
      clear hdeps hCl' ho hend hsn hsi hT1 hT2 hnum hcell hXw hX hB hC hx1 hx2 hs1 hs2
      simp only [tm57] at hr ⊢
      simp only [e263]
      (refine Walk.oq ?_; try walk_nrm)
      refine hr _ _ ⟨upd u 265 (.pointer (some ⟨X, 0, none⟩)), ?_, F0.set (by decide) rfl rfl, L⟩
      simp [upd, e263]
    | 6, _ =>
      have hd := deps_of (l := [5, 3]) (by kernel_rfl) ho hdeps
      have e265 := F0 5 265 _ (hd 5 (by simp)) rfl rfl
      have e263 := F0 3 263 _ (hd 3 (by simp)) rfl rfl
      clear hdeps hCl' ho hend hsn hsi hT1 hT2 hnum hcell hXw hX hB hC hx1 hx2 hs1 hs2
      simp only [tm57] at hr ⊢
      simp only [e265, e263]
      (refine Walk.oq ?_; try walk_nrm)
      refine hr _ _ ⟨upd u 266 ((.slice xa xl xc : Value)), ?_, F0.set (by decide) rfl rfl, L⟩
      simp [upd, e265, e263]
    | 7, _ =>
      have hd := deps_of (l := [6, 3]) (by kernel_rfl) ho hdeps
      have e266 := F0 6 266 _ (hd 6 (by simp)) rfl rfl
      have e263 := F0 3 263 _ (hd 3 (by simp)) rfl rfl
      clear hdeps hCl' ho hend hsn hsi hT1 hT2 hnum hcell hXw hX hB hC hx1 hx2 hs1 hs2
      simp only [tm57] at hr ⊢
      simp only [e266, e263]
      (refine Walk.oq ?_; try walk_nrm)
      refine hr _ _ ⟨upd u 267 (.int .i64 xl), ?_, F0.set (by decide) rfl rfl, L⟩
      simp [upd, e266, e263]
    | 8, _ =>
      have hd := deps_of (l := [4, 7, 3]) (by kernel_rfl) ho hdeps
      have e264 := F0 4 264 _ (hd 4 (by simp)) rfl rfl
      have e267 := F0 7 267 _ (hd 7 (by simp)) rfl rfl
      have e263 := F0 3 263 _ (hd 3 (by simp)) rfl rfl
      clear hdeps hCl' ho hend hsn hsi hT1 hT2 hnum hcell hXw hX hB hC hx1 hx2 hs1 hs2
      simp only [tm57] at hr ⊢
      simp only [e264, e267, e263]
      (refine Walk.oq ?_; try walk_nrm)
      refine hr _ _ ⟨upd u 268 (.pointer (some ⟨k1, xl, none⟩)), ?_, F0.set (by decide) rfl rfl, L⟩
      simp [upd, e264, e267, e263]
    | 9, _ =>
      have hd := deps_of (l := [8, 3]) (by kernel_rfl) ho hdeps
      have e268 := F0 8 268 _ (hd 8 (by simp)) rfl rfl
      have e263 := F0 3 263 _ (hd 3 (by simp)) rfl rfl
      clear hdeps hCl' ho hend hsn hsi hT1 hT2 hnum hcell hXw hX hB hC hx1 hx2 hs1 hs2
      simp only [tm57] at hr ⊢
      simp only [e268, e263]
      (refine Walk.oq ?_; try walk_nrm)
      refine hr _ _ ⟨upd u 269 (.int .i64 77), ?_, F0.set (by decide) rfl rfl, L⟩
      simp [upd, e268, e263]
    | 10, _ =>
      have hd := deps_of (l := [9, 3]) (by kernel_rfl) ho hdeps
      have e269 := F0 9 269 _ (hd 9 (by simp)) rfl rfl
      have e263 := F0 3 263 _ (hd 3 (by simp)) rfl rfl
      clear hdeps hCl' ho hend hsn hsi hT1 hT2 hnum hcell hXw hX hB hC hx1 hx2 hs1 hs2
      simp only [tm57] at hr ⊢
      simp only [e269, e263]
      (refine Walk.oq ?_; try walk_nrm)
      refine hr _ _ ⟨upd u 270 (.bool true), ?_, F0.set (by decide) rfl rfl, L⟩
      simp [upd, e269, e263]
    | 11, _ =>
      have hd := deps_of (l := [3, 10]) (by kernel_rfl) ho hdeps
      have e263 := F0 3 263 _ (hd 3 (by simp)) rfl rfl
      have e270 := F0 10 270 _ (hd 10 (by simp)) rfl rfl
      clear hdeps hCl' ho hend hsn hsi hT1 hT2 hnum hcell hXw hX hB hC hx1 hx2 hs1 hs2
      simp only [tm57] at hr ⊢
      simp only [e263, e270]
      (refine Walk.oq ?_; try walk_nrm)
      refine hr _ _ ⟨upd u 271 (.bool true), ?_, F0.set (by decide) rfl rfl, L⟩
      simp [upd, e263, e270]
    | 12, _ =>
      have hd := deps_of (l := [11]) (by kernel_rfl) ho hdeps
      have e271 := F0 11 271 _ (hd 11 (by simp)) rfl rfl
      clear hdeps hCl' ho hend hsn hsi hT1 hT2 hnum hcell hXw hX hB hC hx1 hx2 hs1 hs2
      simp only [tm57] at hr ⊢
      simp only [e271]
      (refine Walk.oq ?_; try walk_nrm)
      refine hr _ _ ⟨upd u 272 (.bool true), ?_, F0.set (by decide) rfl rfl, L⟩
      simp [upd, e271]
    | 13, _ =>
      have hd := deps_of (l := [12]) (by kernel_rfl) ho hdeps
      have e272 := F0 12 272 _ (hd 12 (by simp)) rfl rfl
      clear hdeps hCl' ho hend hsn hsi hT1 hT2 hnum hcell hXw hX hB hC hx1 hx2 hs1 hs2
      simp only [tm57] at hr ⊢
      simp only [e272]
      (refine Walk.oq ?_; try walk_nrm)
      refine hr _ _ ⟨upd u 273 (.slice (some ⟨k2, 0, none⟩) (sl + 1) c2), ?_, F0.set (by decide) rfl rfl, L⟩
      simp [upd, e272]
    | 14, _ =>
      have hd := deps_of (l := [12]) (by kernel_rfl) ho hdeps
      have e272 := F0 12 272 _ (hd 12 (by simp)) rfl rfl
      clear hdeps hCl' ho hend hsn hsi hT1 hT2 hnum hcell hXw hX hB hC hx1 hx2 hs1 hs2
      simp only [tm57] at hr ⊢
      simp only [e272]
      (refine Walk.oq ?_; try walk_nrm)
      refine hr _ _ ⟨upd u 274 (.pointer (some ⟨X, 2, none⟩)), ?_, F0.set (by decide) rfl rfl, L⟩
      simp [upd, e272]
    | 15, _ =>
      have hd := deps_of (l := [14, 12]) (by kernel_rfl) ho hdeps
      have e274 := F0 14 274 _ (hd 14 (by simp)) rfl rfl
      have e272 := F0 12 272 _ (hd 12 (by simp)) rfl rfl
      clear hdeps hCl' ho hend hsn hsi hT1 hT2 hnum hcell hXw hX hB hC hx1 hx2 hs1 hs2
      simp only [tm57] at hr ⊢
      simp only [e274, e272]
      (refine Walk.oq ?_; try walk_nrm)
      refine hr _ _ ⟨upd u 275 ((.slice sa sl sc' : Value)), ?_, F0.set (by decide) rfl rfl, L⟩
      simp [upd, e274, e272]
    | 16, _ =>
      have hd := deps_of (l := [15, 12]) (by kernel_rfl) ho hdeps
      have e275 := F0 15 275 _ (hd 15 (by simp)) rfl rfl
      have e272 := F0 12 272 _ (hd 12 (by simp)) rfl rfl
      clear hdeps hCl' ho hend hsn hsi hT1 hT2 hnum hcell hXw hX hB hC hx1 hx2 hs1 hs2
      simp only [tm57] at hr ⊢
      simp only [e275, e272]
      (refine Walk.oq ?_; try walk_nrm)
      refine hr _ _ ⟨upd u 276 (.int .i64 sl), ?_, F0.set (by decide) rfl rfl, L⟩
      simp [upd, e275, e272]
    | 17, _ =>
      have hd := deps_of (l := [13, 16, 12]) (by kernel_rfl) ho hdeps
      have e273 := F0 13 273 _ (hd 13 (by simp)) rfl rfl
      have e276 := F0 16 276 _ (hd 16 (by simp)) rfl rfl
      have e272 := F0 12 272 _ (hd 12 (by simp)) rfl rfl
      clear hdeps hCl' ho hend hsn hsi hT1 hT2 hnum hcell hXw hX hB hC hx1 hx2 hs1 hs2
      simp only [tm57] at hr ⊢
      simp only [e273, e276, e272]
      (refine Walk.oq ?_; try walk_nrm)
      refine hr _ _ ⟨upd u 277 (.pointer (some ⟨k2, sl, none⟩)), ?_, F0.set (by decide) rfl rfl, L⟩
      simp [upd, e273, e276, e272]
    | 18, _ =>
      have hd := deps_of (l := [17, 12]) (by kernel_rfl) ho hdeps
      have e277 := F0 17 277 _ (hd 17 (by simp)) rfl rfl
      have e272 := F0 12 272 _ (hd 12 (by simp)) rfl rfl
      clear hdeps hCl' ho hend hsn hsi hT1 hT2 hnum hcell hXw hX hB hC hx1 hx2 hs1 hs2
      simp only [tm57] at hr ⊢
      simp only [e277, e272]
      (refine Walk.oq ?_; try walk_nrm)
      refine hr _ _ ⟨upd u 278 (.int .i64 88), ?_, F0.set (by decide) rfl rfl, L⟩
      simp [upd, e277, e272]
    | 19, _ =>
      have hd := deps_of (l := [18, 12]) (by kernel_rfl) ho hdeps
      have e278 := F0 18 278 _ (hd 18 (by simp)) rfl rfl
      have e272 := F0 12 272 _ (hd 12 (by simp)) rfl rfl
      clear hdeps hCl' ho hend hsn hsi hT1 hT2 hnum hcell hXw hX hB hC hx1 hx2 hs1 hs2
      simp only [tm57] at hr ⊢
      simp only [e278, e272]
      (refine Walk.oq ?_; try walk_nrm)
      refine hr _ _ ⟨upd u 279 (.bool true), ?_, F0.set (by decide) rfl rfl, L⟩
      simp [upd, e278, e272]
    | 20, _ =>
      have hd := deps_of (l := [12, 19]) (by kernel_rfl) ho hdeps
      have e272 := F0 12 272 _ (hd 12 (by simp)) rfl rfl
      have e279 := F0 19 279 _ (hd 19 (by simp)) rfl rfl
      clear hdeps hCl' ho hend hsn hsi hT1 hT2 hnum hcell hXw hX hB hC hx1 hx2 hs1 hs2
      simp only [tm57] at hr ⊢
      simp only [e272, e279]
      (refine Walk.oq ?_; try walk_nrm)
      refine hr _ _ ⟨upd u 280 (.bool true), ?_, F0.set (by decide) rfl rfl, L⟩
      simp [upd, e272, e279]
    | 21, _ =>
      have hd := deps_of (l := [20]) (by kernel_rfl) ho hdeps
      have e280 := F0 20 280 _ (hd 20 (by simp)) rfl rfl
      clear hdeps hCl' ho hend hsn hsi hT1 hT2 hnum hcell hXw hX hB hC hx1 hx2 hs1 hs2
      simp only [tm57] at hr ⊢
      simp only [e280]
      (refine Walk.oq ?_; try walk_nrm)
      refine hr _ _ ⟨upd u 281 (.bool true), ?_, F0.set (by decide) rfl rfl, L⟩
      simp [upd, e280]
    | 22, _ =>
      have hd := deps_of (l := [21]) (by kernel_rfl) ho hdeps
      have e281 := F0 21 281 _ (hd 21 (by simp)) rfl rfl
      clear hdeps hCl' ho hend hsn hsi hT1 hT2 hnum hcell hXw hX hB hC hx1 hx2 hs1 hs2
      simp only [tm57] at hr ⊢
      simp only [e281]
      (refine Walk.oq ?_; try walk_nrm)
      refine hr _ _ ⟨upd u 282 (.slice (some ⟨k1, 0, none⟩) (xl + 1) c1), ?_, F0.set (by decide) rfl rfl, L⟩
      simp [upd, e281]
    | 23, _ =>
      have hd := deps_of (l := [21]) (by kernel_rfl) ho hdeps
      have e281 := F0 21 281 _ (hd 21 (by simp)) rfl rfl
      clear hdeps hCl' ho hend hsn hsi hT1 hT2 hnum hcell hXw hX hB hC hx1 hx2 hs1 hs2
      simp only [tm57] at hr ⊢
      simp only [e281]
      (refine Walk.oq ?_; try walk_nrm)
      refine hr _ _ ⟨upd u 283 (.pointer (some ⟨X, 0, none⟩)), ?_, F0.set (by decide) rfl rfl, L⟩
      simp [upd, e281]
    | 24, _ =>
      have hd := deps_of (l := [23, 21]) (by kernel_rfl) ho hdeps
      have e283 := F0 23 283 _ (hd 23 (by simp)) rfl rfl
      have e281 := F0 21 281 _ (hd 21 (by simp)) rfl rfl
      clear hdeps hCl' ho hend hsn hsi hT1 hT2 hnum hcell hXw hX hB hC hx1 hx2 hs1 hs2
      simp only [tm57] at hr ⊢
      simp only [e283, e281]
      (refine Walk.oq ?_; try walk_nrm)
      refine hr _ _ ⟨upd u 284 ((.slice xa xl xc : Value)), ?_, F0.set (by decide) rfl rfl, L⟩
      simp [upd, e283, e281]
    | 25, _ =>
      have hd := deps_of (l := [24, 21]) (by kernel_rfl) ho hdeps
      have e284 := F0 24 284 _ (hd 24 (by simp)) rfl rfl
      have e281 := F0 21 281 _ (hd 21 (by simp)) rfl rfl
      clear hdeps hCl' ho hend hsn hsi hT1 hT2 hnum hcell hXw hX hB hC hx1 hx2 hs1 hs2
      simp only [tm57] at hr ⊢
      simp only [e284, e281]
      (refine Walk.oq ?_; try walk_nrm)
      refine hr _ _ ⟨upd u 285 (.int .i64 xl), ?_, F0.set (by decide) rfl rfl, L⟩
      simp [upd, e284, e281]
    | 26, _ =>
      have hd := deps_of (l := [22, 25, 21]) (by kernel_rfl) ho hdeps
      have e282 := F0 22 282 _ (hd 22 (by simp)) rfl rfl
      have e285 := F0 25 285 _ (hd 25 (by simp)) rfl rfl
      have e281 := F0 21 281 _ (hd 21 (by simp)) rfl rfl
      clear hdeps hCl' ho hend hsn hsi hT1 hT2 hnum hcell hXw hX hB hC hx1 hx2 hs1 hs2
      simp only [tm57] at hr ⊢
      simp only [e282, e285, e281]
      (refine Walk.oq ?_; try walk_nrm)
      refine hr _ _ ⟨upd u 286 (.slice (some ⟨k1, 0, none⟩) xl c1), ?_, F0.set (by decide) rfl rfl, L⟩
      simp [upd, e282, e285, e281]
    | 27, _ =>
      have hd := deps_of (l := [21]) (by kernel_rfl) ho hdeps
      have e281 := F0 21 281 _ (hd 21 (by simp)) rfl rfl
      clear hdeps hCl' ho hend hsn hsi hT1 hT2 hnum hcell hXw hX hB hC hx1 hx2 hs1 hs2
      simp only [tm57] at hr ⊢
      simp only [e281]
      (refine Walk.oq ?_; try walk_nrm)
      refine hr _ _ ⟨upd u 287 (.pointer (some ⟨X, 0, none⟩)), ?_, F0.set (by decide) rfl rfl, L⟩
      simp [upd, e281]
    | 28, _ =>
      have hd := deps_of (l := [27, 21]) (by kernel_rfl) ho hdeps
      have e287 := F0 27 287 _ (hd 27 (by simp)) rfl rfl
      have e281 := F0 21 281 _ (hd 21 (by simp)) rfl rfl
      clear hdeps hCl' ho hend hsn hsi hT1 hT2 hnum hcell hXw hX hB hC hx1 hx2 hs1 hs2
      simp only [tm57] at hr ⊢
      simp only [e287, e281]
      (refine Walk.oq ?_; try walk_nrm)
      refine hr _ _ ⟨upd u 288 ((.slice xa xl xc : Value)), ?_, F0.set (by decide) rfl rfl, L⟩
      simp [upd, e287, e281]
    | 29, _ =>
      have hd := deps_of (l := [26, 28, 21]) (by kernel_rfl) ho hdeps
      have e286 := F0 26 286 _ (hd 26 (by simp)) rfl rfl
      have e288 := F0 28 288 _ (hd 28 (by simp)) rfl rfl
      have e281 := F0 21 281 _ (hd 21 (by simp)) rfl rfl
      have hS := hsn w (hnum hx1) (hnum hx2)
      clear hdeps hCl' ho hend hsn hsi hT1 hT2 hnum hcell hXw hX hB hC hx1 hx2 hs1 hs2
      simp only [tm57] at hr ⊢
      simp only [e286, e288, e281]
      refine Walk.callV (x := .bool true) (W := w) ?_ (ho_of (by conv => lhs; whnf) (by kernel_rfl)) (by rfl) (by decide) rfl Try.func32 (by kernel_rfl) (by rfl) ?_
      · walk_nrm
        exact hS
      walk_nrm
      refine hr _ _ ⟨upd u 289 (.bool true), ?_, F0.set (by decide) rfl rfl, L⟩
      simp [upd, e286, e288, e281]
    | 30, _ =>
      have hd := deps_of (l := [21, 29]) (by kernel_rfl) ho hdeps
      have e281 := F0 21 281 _ (hd 21 (by simp)) rfl rfl
      have e289 := F0 29 289 _ (hd 29 (by simp)) rfl rfl
      clear hdeps hCl' ho hend hsn hsi hT1 hT2 hnum hcell hXw hX hB hC hx1 hx2 hs1 hs2
      simp only [tm57] at hr ⊢
      simp only [e281, e289]
      (refine Walk.oq ?_; try walk_nrm)
      refine hr _ _ ⟨upd u 290 (.bool true), ?_, F0.set (by decide) rfl rfl, L⟩
      simp [upd, e281, e289]
    | 31, _ =>
      have hd := deps_of (l := [30]) (by kernel_rfl) ho hdeps
      have e290 := F0 30 290 _ (hd 30 (by simp)) rfl rfl
      clear hdeps hCl' ho hend hsn hsi hT1 hT2 hnum hcell hXw hX hB hC hx1 hx2 hs1 hs2
      simp only [tm57] at hr ⊢
      simp only [e290]
      (refine Walk.oq ?_; try walk_nrm)
      refine hr _ _ ⟨upd u 291 (.bool true), ?_, F0.set (by decide) rfl rfl, L⟩
      simp [upd, e290]
    | 32, _ =>
      have hd := deps_of (l := [31]) (by kernel_rfl) ho hdeps
      have e291 := F0 31 291 _ (hd 31 (by simp)) rfl rfl
      clear hdeps hCl' ho hend hsn hsi hT1 hT2 hnum hcell hXw hX hB hC hx1 hx2 hs1 hs2
      simp only [tm57] at hr ⊢
      simp only [e291]
      (refine Walk.oq ?_; try walk_nrm)
      refine hr _ _ ⟨upd u 292 (.slice (some ⟨k2, 0, none⟩) (sl + 1) c2), ?_, F0.set (by decide) rfl rfl, L⟩
      simp [upd, e291]
    | 33, _ =>
      have hd := deps_of (l := [31]) (by kernel_rfl) ho hdeps
      have e291 := F0 31 291 _ (hd 31 (by simp)) rfl rfl
      clear hdeps hCl' ho hend hsn hsi hT1 hT2 hnum hcell hXw hX hB hC hx1 hx2 hs1 hs2
      simp only [tm57] at hr ⊢
      simp only [e291]
      (refine Walk.oq ?_; try walk_nrm)
      refine hr _ _ ⟨upd u 293 (.pointer (some ⟨X, 2, none⟩)), ?_, F0.set (by decide) rfl rfl, L⟩
      simp [upd, e291]
    | 34, _ =>
      have hd := deps_of (l := [33, 31]) (by kernel_rfl) ho hdeps
      have e293 := F0 33 293 _ (hd 33 (by simp)) rfl rfl
      have e291 := F0 31 291 _ (hd 31 (by simp)) rfl rfl
      clear hdeps hCl' ho hend hsn hsi hT1 hT2 hnum hcell hXw hX hB hC hx1 hx2 hs1 hs2
      simp only [tm57] at hr ⊢
      simp only [e293, e291]
      (refine Walk.oq ?_; try walk_nrm)
      refine hr _ _ ⟨upd u 294 ((.slice sa sl sc' : Value)), ?_, F0.set (by decide) rfl rfl, L⟩
      simp [upd, e293, e291]
    | 35, _ =>
      have hd := deps_of (l := [34, 31]) (by kernel_rfl) ho hdeps
      have e294 := F0 34 294 _ (hd 34 (by simp)) rfl rfl
      have e291 := F0 31 291 _ (hd 31 (by simp)) rfl rfl
      clear hdeps hCl' ho hend hsn hsi hT1 hT2 hnum hcell hXw hX hB hC hx1 hx2 hs1 hs2
      simp only [tm57] at hr ⊢
      simp only [e294, e291]
      (refine Walk.oq ?_; try walk_nrm)
      refine hr _ _ ⟨upd u 295 (.int .i64 sl), ?_, F0.set (by decide) rfl rfl, L⟩
      simp [upd, e294, e291]
    | 36, _ =>
      have hd := deps_of (l := [32, 35, 31]) (by kernel_rfl) ho hdeps
      have e292 := F0 32 292 _ (hd 32 (by simp)) rfl rfl
      have e295 := F0 35 295 _ (hd 35 (by simp)) rfl rfl
      have e291 := F0 31 291 _ (hd 31 (by simp)) rfl rfl
      clear hdeps hCl' ho hend hsn hsi hT1 hT2 hnum hcell hXw hX hB hC hx1 hx2 hs1 hs2
      simp only [tm57] at hr ⊢
      simp only [e292, e295, e291]
      (refine Walk.oq ?_; try walk_nrm)
      refine hr _ _ ⟨upd u 296 (.slice (some ⟨k2, 0, none⟩) sl c2), ?_, F0.set (by decide) rfl rfl, L⟩
      simp [upd, e292, e295, e291]
    | 37, _ =>
      have hd := deps_of (l := [31]) (by kernel_rfl) ho hdeps
      have e291 := F0 31 291 _ (hd 31 (by simp)) rfl rfl
      clear hdeps hCl' ho hend hsn hsi hT1 hT2 hnum hcell hXw hX hB hC hx1 hx2 hs1 hs2
      simp only [tm57] at hr ⊢
      simp only [e291]
      (refine Walk.oq ?_; try walk_nrm)
      refine hr _ _ ⟨upd u 297 (.pointer (some ⟨X, 2, none⟩)), ?_, F0.set (by decide) rfl rfl, L⟩
      simp [upd, e291]
    | 38, _ =>
      have hd := deps_of (l := [37, 31]) (by kernel_rfl) ho hdeps
      have e297 := F0 37 297 _ (hd 37 (by simp)) rfl rfl
      have e291 := F0 31 291 _ (hd 31 (by simp)) rfl rfl
      clear hdeps hCl' ho hend hsn hsi hT1 hT2 hnum hcell hXw hX hB hC hx1 hx2 hs1 hs2
      simp only [tm57] at hr ⊢
      simp only [e297, e291]
      (refine Walk.oq ?_; try walk_nrm)
      refine hr _ _ ⟨upd u 298 ((.slice sa sl sc' : Value)), ?_, F0.set (by decide) rfl rfl, L⟩
      simp [upd, e297, e291]
    | 39, _ =>
      have hd := deps_of (l := [36, 38, 31]) (by kernel_rfl) ho hdeps
      have e296 := F0 36 296 _ (hd 36 (by simp)) rfl rfl
      have e298 := F0 38 298 _ (hd 38 (by simp)) rfl rfl
      have e291 := F0 31 291 _ (hd 31 (by simp)) rfl rfl
      have hS := hsi w (hnum hs1) (hnum hs2)
      clear hdeps hCl' ho hend hsn hsi hT1 hT2 hnum hcell hXw hX hB hC hx1 hx2 hs1 hs2
      simp only [tm57] at hr ⊢
      simp only [e296, e298, e291]
      refine Walk.callV (x := .bool true) (W := w) ?_ (ho_of (by conv => lhs; whnf) (by kernel_rfl)) (by rfl) (by decide) rfl Try.func37 (by kernel_rfl) (by rfl) ?_
      · walk_nrm
        exact hS
      walk_nrm
      refine hr _ _ ⟨upd u 299 (.bool true), ?_, F0.set (by decide) rfl rfl, L⟩
      simp [upd, e296, e298, e291]
    | 40, _ =>
      have hd := deps_of (l := [31, 39]) (by kernel_rfl) ho hdeps
      have e291 := F0 31 291 _ (hd 31 (by simp)) rfl rfl
      have e299 := F0 39 299 _ (hd 39 (by simp)) rfl rfl
      clear hdeps hCl' ho hend hsn hsi hT1 hT2 hnum hcell hXw hX hB hC hx1 hx2 hs1 hs2
      simp only [tm57] at hr ⊢
      simp only [e291, e299]
      (refine Walk.oq ?_; try walk_nrm)
      refine hr _ _ ⟨upd u 300 (.bool true), ?_, F0.set (by decide) rfl rfl, L⟩
      simp [upd, e291, e299]
    | 41, _ =>
      have hd := deps_of (l := [40]) (by kernel_rfl) ho hdeps
      have e300 := F0 40 300 _ (hd 40 (by simp)) rfl rfl
      clear hdeps hCl' ho hend hsn hsi hT1 hT2 hnum hcell hXw hX hB hC hx1 hx2 hs1 hs2
      simp only [tm57] at hr ⊢
      simp only [e300]
      (refine Walk.oq ?_; try walk_nrm)
      refine hr _ _ ⟨upd u 4 (.bool true), ?_, F0.set (by decide) rfl rfl, L⟩
      simp [upd, e300]
  · rintro f act w ⟨u, rfl, F0, L⟩ hall
    exact hend u w (F0 41 4 _ (hall 41 (by rw [size11_57]; decide)) rfl rfl) L
theorem fldsOp_full : ∃ f0 f1 f2 f3, fldsOp = #[f0, f1, f2, f3] ∧ (f0.type = 3 ∨ f0.type = 2) ∧ (f1.type = 3 ∨ f1.type = 2) ∧ (f2.type = 3 ∨ f2.type = 2) ∧ (f3.type = 3 ∨ f3.type = 2) ∧ f0.offset = 0 ∧ f1.offset = 1 ∧ f2.offset = 2 ∧ f3.offset = 3 ∧ ¬ f0.name = "_" ∧ ¬ f1.name = "_" ∧ ¬ f2.name = "_" ∧ ¬ f3.name = "_" := by
  have hs : fldsOp.size = 4 := by kernel_rfl
  have h0 : (fldsOp[0]?).map (fun f => ((decide (f.type = 3) || decide (f.type = 2)), f.offset, f.name == "_")) = some (true, 0, false) := by kernel_rfl
  have h1 : (fldsOp[1]?).map (fun f => ((decide (f.type = 3) || decide (f.type = 2)), f.offset, f.name == "_")) = some (true, 1, false) := by kernel_rfl
  have h2 : (fldsOp[2]?).map (fun f => ((decide (f.type = 3) || decide (f.type = 2)), f.offset, f.name == "_")) = some (true, 2, false) := by kernel_rfl
  have h3 : (fldsOp[3]?).map (fun f => ((decide (f.type = 3) || decide (f.type = 2)), f.offset, f.name == "_")) = some (true, 3, false) := by kernel_rfl
  generalize fldsOp = F at *
  obtain ⟨l⟩ := F
  match l, hs with
  | [f0, f1, f2, f3], _ =>
    simp at h0 h1 h2 h3
    exact ⟨f0, f1, f2, f3, rfl, h0.1, h1.1, h2.1, h3.1, h0.2.1, h1.2.1, h2.2.1, h3.2.1, h0.2.2, h1.2.2, h2.2.2, h3.2.2⟩
theorem int_of {t : TypeId} (ht : t = 3 ∨ t = 2) : Try.prog.underlying t = some (.int .i64) := by
  rcases ht with rfl | rfl
  · exact und3_is
  · exact und2_is
theorem part_one {t : TypeId} (ht : t = 3 ∨ t = 2) (xs : Array Value) (j : Nat) (x : Value) (hx : xs[j]? = some x) (w : World) : (part t xs j).run Try.prog w = .ok x w := by
  simp [part, isAgg, run_underlying (int_of ht), hx]
theorem part_ev {t : TypeId} (ht : t = 3 ∨ t = 2) (xs : Array Value) (j : Nat) (x : Value) (hx : xs[j]? = some x) (w : World) (es : Array Event) : (part t xs j).events Try.prog w es = es := by
  simp [part, isAgg, run_underlying (int_of ht), hx]
theorem eqIn_int {t : TypeId} (ht : t = 3 ∨ t = 2) (d : Nat) (a : Int) (w : World) : (Op.equalIn (d + 1) t (.int .i64 a) (.int .i64 a)).run Try.prog w = .ok true w := by
  simp [Op.equalIn, run_underlying (int_of ht)]
theorem eqIn_ev {t : TypeId} (ht : t = 3 ∨ t = 2) (d : Nat) (a : Int) (w : World) (es : Array Event) : (Op.equalIn (d + 1) t (.int .i64 a) (.int .i64 a)).events Try.prog w es = es := by
  simp [Op.equalIn, run_underlying (int_of ht)]
def opCs (a b c e : Int) : Array Value := #[.int .i64 a, .int .i64 b, .int .i64 c, .int .i64 e]
theorem eq_op (d : Nat) (a b c e : Int) (w : World) (es : Array Event) : (Op.equalIn (d + 1 + 1) 84 (.agg (opCs a b c e)) (.agg (opCs a b c e))).run Try.prog w = .ok true w ∧ (Op.equalIn (d + 1 + 1) 84 (.agg (opCs a b c e)) (.agg (opCs a b c e))).events Try.prog w es = es := by
  obtain ⟨f0, f1, f2, f3, ef, t0, t1, t2, t3, o0, o1, o2, o3, n0, n1, n2, n3⟩ := fldsOp_full
  have hu : Try.prog.underlying 84 = some (.struct #[f0, f1, f2, f3]) := by rw [undOp_is, ef]
  have hp : Try.prog.stoodInHeld 84 = false := by kernel_rfl
  have p0 := part_one t0 (opCs a b c e) 0 (.int .i64 a) rfl
  have p1 := part_one t1 (opCs a b c e) 1 (.int .i64 b) rfl
  have p2 := part_one t2 (opCs a b c e) 2 (.int .i64 c) rfl
  have p3 := part_one t3 (opCs a b c e) 3 (.int .i64 e) rfl
  have v0 := part_ev t0 (opCs a b c e) 0 (.int .i64 a) rfl
  have v1 := part_ev t1 (opCs a b c e) 1 (.int .i64 b) rfl
  have v2 := part_ev t2 (opCs a b c e) 2 (.int .i64 c) rfl
  have v3 := part_ev t3 (opCs a b c e) 3 (.int .i64 e) rfl
  have q0 := eqIn_int t0 d
  have q1 := eqIn_int t1 d
  have q2 := eqIn_int t2 d
  have q3 := eqIn_int t3 d
  have r0 := eqIn_ev t0 d
  have r1 := eqIn_ev t1 d
  have r2 := eqIn_ev t2 d
  have r3 := eqIn_ev t3 d
  clear t0 t1 t2 t3 ef
  constructor <;> rw [Op.equalIn] <;> simp [run_underlying hu, hp, n0, n1, n2, n3, o0, o1, o2, o3, p0, p1, p2, p3, v0, v1, v2, v3, q0, q1, q2, q3, r0, r1, r2, r3]
theorem neq_op (a b c e : Int) (w : World) (es : Array Event) : (binOp .neq 84 (.agg (opCs a b c e)) (.agg (opCs a b c e))).run Try.prog w = .ok (.bool false) w ∧ (binOp .neq 84 (.agg (opCs a b c e)) (.agg (opCs a b c e))).events Try.prog w es = es := by
  have h := eq_op 9998 a b c e w es
  have h' := eq_op 9998 a b c e w #[]
  constructor <;> simp only [binOp] <;> simp [Op.equal, Op.maxDepth, h.1, h.2]
theorem guard_op (x y : Operand) (xs ys : Array Value) (w : World) (es : Array Event) : (eqGuard .neq 84 x y (.agg xs) (.agg ys)).run Try.prog w = .ok () w ∧ (eqGuard .neq 84 x y (.agg xs) (.agg ys)).events Try.prog w es = es := by
  have hg : Try.prog.eqGuardType Try.prog.depth 84 = false := by kernel_rfl
  constructor <;> simp [eqGuard, hg]
section
variable {main : Bool}
def opL (o : OpV) : List Value := [.int .i64 o.k, .int .i64 o.a, .int .i64 o.b, .int .i64 o.c]
def mk99 : Array Value := #[.int .i64 99, .int .i64 0, .int .i64 0, .int .i64 0]
theorem ks1 (st sc : Value) (X Y A B : Nat) (i n tc : Nat) (ta : Option Addr) (u : Nat → Value) (cs : List Frame) (w : World) (hi : i < n) (hn : n ≤ 17592186044416) :
    Walk Try.prog main (DR (fun _ => none)) (fun g' w' => (∃ u', g' = G (hk2 st sc (.slice ta n tc) X Y A B i 0 u') cs) ∧ ∃ d, w' = w.at d) (G (hk1 st sc (.slice ta n tc) X Y A B i u) cs) w := by
  conv => arg 5; unfold hk1
  repeat (first | refine Walk.cx ?_ | (refine Walk.cReg ?_; simp only [z11]) | (refine Walk.oq ?_; try walk_nrm) | (refine Walk.un ?_; walk_nrm))
  refine Walk.ctl rfl (fun w => stepG_loop) ?_
  refine .stop fun d => ⟨at_slots ?_, d, rfl⟩
  simp only [hk2]
  rfl
theorem ks1o (st sc : Value) (X Y A B : Nat) (n tc : Nat) (ta : Option Addr) (u : Nat → Value) (cs : List Frame) (w : World) :
    Walk Try.prog main (DR (fun _ => none)) (fun g' w' => (∃ u', g' = G (hk3 st sc (.slice ta n tc) X Y A B 0 u') cs) ∧ ∃ d, w' = w.at d) (G (hk1 st sc (.slice ta n tc) X Y A B n u) cs) w := by
  conv => arg 5; unfold hk1
  repeat (first | refine Walk.cx ?_ | (refine Walk.cReg ?_; simp only [z11]) | (refine Walk.oq ?_; try walk_nrm) | (refine Walk.un ?_; walk_nrm))
  refine Walk.ctl rfl (fun w => stepG_loop) ?_
  refine .stop fun d => ⟨at_slots ?_, d, rfl⟩
  simp only [hk3]
  rfl
theorem ks2o (st sc : Value) (X Y A B : Nat) (i n tc tb ln lc : Nat) (la : Option Addr) (u : Nat → Value) (cs : List Frame) (w : World) (hi : i < n) (hn : n ≤ 17592186044416) (hln : ln ≤ 17592186044416) (h1 : w.cell? ⟨tb, i, none⟩ = some (.slice la ln lc)) :
    Walk Try.prog main (DR (fun _ => none)) (fun g' w' => (∃ u', g' = G (hk1 st sc (.slice (some ⟨tb, 0, none⟩) n tc) X Y A B (i + 1) u') cs) ∧ ∃ d, w' = w.at d) (G (hk2 st sc (.slice (some ⟨tb, 0, none⟩) n tc) X Y A B i ln u) cs) w := by
  have hw1 : IntKind.wrap .i64 ((i : Int) + 1) = (i : Int) + 1 := by rw [IntKind.wrap_i64]; omega
  have hc : ((i + 1 : Nat) : Int) = (i : Int) + 1 := by simp
  conv => arg 5; unfold hk2
  repeat (first | refine Walk.cx ?_ | (refine Walk.cReg ?_; simp only [z11]) | (refine Walk.oq ?_; try walk_nrm) | (refine Walk.un ?_; walk_nrm))
  refine Walk.ctl rfl (fun w => stepG_inLoop) ?_
  refine .stop fun d => ⟨at_slots ?_, d, rfl⟩
  simp only [hk1, hc]
  rfl
theorem ks2 (st sc : Value) (X Y A B : Nat) (i k n tc tb g ln lc sb so sc' ob oo ol oc : Nat) (o : OpV) (cur : Array Value) (u : Nat → Value) (cs : List Frame) (w : World) (hi : i < n) (hn : n ≤ 17592186044416) (hk : k < ln) (hln : ln ≤ 17592186044416) (hol : k < ol) (h1 : w.cell? ⟨tb, i, none⟩ = some (.slice (some ⟨g, 0, none⟩) ln lc))
    (h2 : ∀ (j : Nat) (v : Value), (opL o)[j]? = some v → w.cell? ⟨g, k * 4 + j, none⟩ = some v) (h3 : w.cell? ⟨X, 1, none⟩ = some (.slice (some ⟨sb, so, none⟩) n sc')) (h4 : w.cell? ⟨sb, so + i, none⟩ = some (.slice (some ⟨ob, oo, none⟩) ol oc)) (h5 : ∀ (j : Nat) (v : Value), (opL o)[j]? = some v → w.cell? ⟨ob, oo + k * 4 + j, none⟩ = some v)
    (hg : w.heap[g]? = some (.cells cur 84 (0, 0))) (hl : k * 4 + 4 ≤ cur.size) :
    Walk Try.prog main (DR (fun _ => none)) (fun g' w' => (∃ u', g' = G (hk2 st sc (.slice (some ⟨tb, 0, none⟩) n tc) X Y A B i (k + 1) u') cs) ∧ ∃ d, w' = (w.setCells g (k * 4) mk99.toList).at d) (G (hk2 st sc (.slice (some ⟨tb, 0, none⟩) n tc) X Y A B i k u) cs) w := by
  have hw1 : IntKind.wrap .i64 ((k : Int) + 1) = (k : Int) + 1 := by rw [IntKind.wrap_i64]; omega
  have hc : ((k + 1 : Nat) : Int) = (k : Int) + 1 := by simp
  obtain ⟨fsO, huO⟩ := structT 84 (by kernel_rfl)
  obtain ⟨ok, oa, ob', oc'⟩ := o
  have hq1 := fun w => (neq_op ok oa ob' oc' w #[]).1
  have hq2 := fun w es => (neq_op ok oa ob' oc' w es).2
  simp only [opCs] at hq1 hq2
  have hz1 := fun w => (guard_op (.tmp 99) (.tmp 107) (opCs ok oa ob' oc') (opCs ok oa ob' oc') w #[]).1
  have hz2 := fun w es => (guard_op (.tmp 99) (.tmp 107) (opCs ok oa ob' oc') (opCs ok oa ob' oc') w es).2
  simp only [opCs] at hz1 hz2
  conv => arg 5; unfold hk2
  repeat (first | refine Walk.cx ?_ | (refine Walk.cReg ?_; simp only [z11]) | (refine Walk.oq ?_; try walk_nrm) | (refine Walk.un ?_; walk_nrm))
  (refine Walk.drawnC (by kernel_rfl) size11_18 (by kernel_rfl) (by kernel_rfl) (by decide) ?_; simp only [List.range, List.range.loop]; repeat (first | (refine Cm.oq ?_) | (refine Cm.unw (ho_of (by conv => lhs; whnf) (by kernel_rfl)) (by rfl) ?_; walk_nrm)))
  refine Cm.loadS 84 (.tmp 98) (ho_of (by conv => lhs; whnf) (by kernel_rfl)) (by rfl) rfl g (k * 4) [.int .i64 ok, .int .i64 oa, .int .i64 ob', .int .i64 oc'] (.struct fsO) rfl (fun x hx => hx ▸ h2) huO rfl (by kernel_rfl) ?_
  walk_nrm
  repeat (first | (refine Cm.oq ?_) | (refine Cm.unw (ho_of (by conv => lhs; whnf) (by kernel_rfl)) (by rfl) ?_; walk_nrm))
  refine Cm.loadS 84 (.tmp 106) (ho_of (by conv => lhs; whnf) (by kernel_rfl)) (by rfl) rfl ob (oo + k * 4) [.int .i64 ok, .int .i64 oa, .int .i64 ob', .int .i64 oc'] (.struct fsO) rfl (fun x hx => hx ▸ h5) huO rfl (by kernel_rfl) ?_
  walk_nrm
  repeat (first | (refine Cm.oq ?_) | (refine Cm.unw (ho_of (by conv => lhs; whnf) (by kernel_rfl)) (by rfl) ?_; walk_nrm))
  refine Cm.done ?_
  repeat (first | refine Walk.cx ?_ | (refine Walk.cReg ?_; simp only [z11]) | (refine Walk.oq ?_; try walk_nrm) | (refine Walk.un ?_; walk_nrm))
  refine Walk.storeM 84 (.tmp 115) (.tmp 114) (ho_of (by conv => lhs; whnf) (by kernel_rfl)) (by rfl) (by decide) rfl g (k * 4) mk99 cur 84 rfl rfl hg (by kernel_rfl) hl (by simp [mk99, Value.oneCell']) (ap0 g) ?_
  generalize hw2 : w.setCells g (k * 4) mk99.toList = w2 at *
  walk_nrm
  clear h1 h2 h3 h4 h5 hg hq1 hq2 hz1 hz2
  repeat (first | refine Walk.cx ?_ | (refine Walk.cReg ?_; simp only [z11]) | (refine Walk.oq ?_; try walk_nrm) | (refine Walk.un ?_; walk_nrm))
  refine Walk.ctl rfl (fun w => stepG_inLoop) ?_
  refine .stop fun d' => ⟨at_slots ?_, d', rfl⟩
  simp only [hk2, hc]
  rfl
end
section
variable {main : Bool}
structure KT (A0 A1 X n tb sb so sc' : Nat) (hdrs : Array Value) (g cp ln : Nat → Nat) (la : Nat → Option Addr) (oc : Nat → Nat) (ops : Nat → List OpV) (wz : World) : Prop where
  hn : n ≤ 5864062014805
  hdr : 0 < n → wz.heap[tb]? = some (.cells hdrs 73 (0, 0)) ∧ ∀ i, i < n → hdrs[i]? = some (.slice (some ⟨g i, 0, none⟩) (ln i) (cp i))
  row : ∀ i, i < n → OwnR A0 A1 84 4 (.slice (some ⟨g i, 0, none⟩) (ln i) (cp i)) (ln i) wz
  cells : ∀ i, i < n → ∀ (k : Nat) (o : OpV), (ops i)[k]? = some o → ∀ (j : Nat) (v : Value), (opL o)[j]? = some v → wz.cell? ⟨g i, k * 4 + j, none⟩ = some v
  one : ∀ i j, i < n → j < n → g i = g j → i = j
  len : ∀ i, i < n → (ops i).length = ln i ∧ ln i ≤ 4398046511104
  hX : 0 < n → X < A0 ∧ wz.cell? ⟨X, 1, none⟩ = some (.slice (some ⟨sb, so, none⟩) n sc')
  src : ∀ i, i < n → sb < A0 ∧ wz.cell? ⟨sb, so + i, none⟩ = some (.slice (la i) (ln i) (oc i))
  ops : ∀ i, i < n → ∀ (k : Nat) (o : OpV), (ops i)[k]? = some o → ∃ b off, la i = some ⟨b, off, none⟩ ∧ b < A0 ∧ ∀ (j : Nat) (v : Value), (opL o)[j]? = some v → wz.cell? ⟨b, off + k * 4 + j, none⟩ = some v
def AnsK (wz w : World) : Prop := ∀ (b : Nat) (c : Array Value), wz.heap[b]? = some (.cells c 81 (0, 0)) → w.heap[b]? = wz.heap[b]?
theorem AnsK.turn {wz w w' : World} (R : AnsK wz w) {g : Nat} {c : Array Value} {t : TypeId} (hg : w.heap[g]? = some (.cells c t (0, 0))) (ht : t ≠ 81) (hs : ∀ b, b ≠ g → w'.heap[b]? = w.heap[b]?) : AnsK wz w' := fun b cb hb => by
  have h := R b cb hb
  by_cases e : b = g
  · subst e
    rw [hg, hb] at h
    cases h
    exact absurd rfl ht
  · exact (hs b e).trans h
def TI (n : Nat) (g : Nat → Nat) (ops : Nat → List OpV) (i0 k0 : Nat) (w : World) : Prop := ∀ (i k : Nat) (o : OpV), i < n → (ops i)[k]? = some o → ¬ (i < i0 ∨ (i = i0 ∧ k < k0)) → ∀ (j : Nat) (v : Value), (opL o)[j]? = some v → w.cell? ⟨g i, k * 4 + j, none⟩ = some v
section
variable {A0 A1 X n tb sb so sc' tc : Nat} {hdrs : Array Value} {g cp ln : Nat → Nat} {la : Nat → Option Addr} {oc : Nat → Nat} {ops : Nat → List OpV} {wz w : World} {st sc : Value} {Y A B : Nat} {cs : List Frame}
theorem TI.start (Z : KT A0 A1 X n tb sb so sc' hdrs g cp ln la oc ops wz) : TI n g ops 0 0 wz := fun i k o hi ho _ j v hv => Z.cells i hi k o ho j v hv
theorem KT.c1 (Z : KT A0 A1 X n tb sb so sc' hdrs g cp ln la oc ops wz) (H : KP A0 A1 wz w) {i : Nat} (hi : i < n) : w.cell? ⟨tb, i, none⟩ = some (.slice (some ⟨g i, 0, none⟩) (ln i) (cp i)) := H.cellTyped (Z.hdr (by omega)).1 (by decide) ((Z.hdr (by omega)).2 i hi)
theorem ks2_all (Z : KT A0 A1 X n tb sb so sc' hdrs g cp ln la oc ops wz) {i : Nat} (hi : i < n) :
    ∀ (r k : Nat) (u : Nat → Value) (w : World), k + r = ln i → KP A0 A1 wz w → AnsK wz w → TI n g ops i k w → Walk Try.prog main (DR (fun _ => none)) (fun g' w' => (∃ u', g' = G (hk1 st sc (.slice (some ⟨tb, 0, none⟩) n tc) X Y A B (i + 1) u') cs) ∧ KP A0 A1 wz w' ∧ AnsK wz w' ∧ TI n g ops (i + 1) 0 w') (G (hk2 st sc (.slice (some ⟨tb, 0, none⟩) n tc) X Y A B i k u) cs) w := by
  have hn := Z.hn
  have hl := (Z.len i hi).2
  intro r
  induction r with
  | zero =>
    intro k u w hk H Q R
    have hk : k = ln i := hk
    subst hk
    refine (ks2o st sc X Y A B i n tc tb (ln i) (cp i) _ u cs w hi (by omega) (by omega) (Z.c1 H hi)).mono ?_
    rintro g' w' ⟨hu, d, rfl⟩
    refine ⟨hu, H.at d, Q, fun i' k' o hi' ho hne j v hv => R i' k' o hi' ho (fun h => hne ?_) j v hv⟩
    rcases h with h | ⟨rfl, h⟩
    · exact .inl (by omega)
    · exact .inl (by omega)
  | succ r ih =>
    intro k u w hk H Q R
    have hkl : k < ln i := by omega
    obtain ⟨o, ho⟩ : ∃ o, (ops i)[k]? = some o := ⟨_, List.getElem?_eq_getElem (by rw [(Z.len i hi).1]; exact hkl)⟩
    obtain ⟨hXl, hX⟩ := Z.hX (by omega)
    obtain ⟨hsb, hsrc⟩ := Z.src i hi
    obtain ⟨ob, oo, hla, hob, hoc⟩ := Z.ops i hi k o ho
    rw [hla] at hsrc
    have hr := Z.row i hi
    obtain ⟨xs, hrow, hlt⟩ := id hr
    obtain ⟨ys, _, hrow'⟩ := Sizes.row H.sizes hrow
    obtain ⟨gi, cur, e, hg, _, hle⟩ := own_cell hrow' hkl (by decide)
    cases e
    refine (ks2 st sc X Y A B i k n tc tb (g i) (ln i) (cp i) sb so sc' ob oo (ln i) (oc i) o cur u cs w hi (by omega) hkl (by omega) hkl (Z.c1 H hi) (fun j v hv => R i k o hi ho (by omega) j v hv) (H.cellLow hX (.inl hXl)) (H.cellLow hsrc (.inl hsb)) (fun j v hv => H.cellLow (hoc j v hv) (.inl hob)) hg (by omega)).then ?_
    rintro g' w' ⟨⟨u1, rfl⟩, d, rfl⟩
    refine Walk.back ?_ d
    refine ih (k + 1) u1 _ (by omega) (H.sets (.inl (hr.may (.inl rfl) rfl))) (Q.turn hg (by decide) fun b hb => (setCells_kept (g i) mk99.toList (k * 4) w).2.2.2.1 b hb) fun i' k' o' hi' ho' hne j v hv => ?_
    have hj : j < 4 := (List.getElem?_eq_some_iff.1 hv).1
    rw [show (w.setCells (g i) (k * 4) mk99.toList).cell? ⟨g i', k' * 4 + j, none⟩ = w.cell? ⟨g i', k' * 4 + j, none⟩ from World.cell?_setCells_out (g i) mk99.toList (k * 4) w ⟨g i', k' * 4 + j, none⟩ fun e _ => ?_]
    · exact R i' k' o' hi' ho' (by omega) j v hv
    · have e : g i' = g i := e
      have := Z.one i' i hi' hi e
      show k' * 4 + j < k * 4 ∨ k * 4 + 4 ≤ k' * 4 + j
      omega
theorem ks1_all {ta : Option Addr} (hta : 0 < n → ta = some ⟨tb, 0, none⟩) (Z : KT A0 A1 X n tb sb so sc' hdrs g cp ln la oc ops wz) :
    ∀ (r i : Nat) (u : Nat → Value) (w : World), i + r = n → KP A0 A1 wz w → AnsK wz w → TI n g ops i 0 w → Walk Try.prog main (DR (fun _ => none)) (fun g' w' => (∃ u', g' = G (hk3 st sc (.slice ta n tc) X Y A B 0 u') cs) ∧ KP A0 A1 wz w' ∧ AnsK wz w') (G (hk1 st sc (.slice ta n tc) X Y A B i u) cs) w := by
  have hn := Z.hn
  intro r
  induction r with
  | zero =>
    intro i u w hi H Q R
    have hi : i = n := hi
    subst hi
    refine (ks1o st sc X Y A B i tc ta u cs w).mono ?_
    rintro g' w' ⟨hu, d, rfl⟩
    exact ⟨hu, H.at d, Q⟩
  | succ r ih =>
    intro i u w hi H Q R
    have hin : i < n := by omega
    obtain rfl := hta (by omega)
    refine (ks1 st sc X Y A B i n tc _ u cs w hin (by omega)).then ?_
    rintro g' w' ⟨⟨u1, rfl⟩, d, rfl⟩
    refine Walk.back ?_ d
    refine (ks2_all Z hin (ln i) 0 u1 w (by omega) H Q R).then ?_
    rintro g' w2 ⟨⟨u2, rfl⟩, H2, Q2, R2⟩
    exact ih (i + 1) u2 w2 (by omega) H2 Q2 R2
end
section
variable {A0 A1 : Nat} {wz : World} {st sc tv : Value} {X Y A B : Nat} {cs : List Frame}
theorem ks3_w {m mc : Nat} {sa : Option Addr} (hm : m ≤ 17592186044416) {arr : Array Value} {t : TypeId} (hA : wz.heap[A]? = some (.cells arr t (0, 0))) (ht : ¬ (t = 84 ∨ t = 81 ∨ t = 2 ∨ t = 3)) (h2 : arr[2]? = some (.slice sa m mc)) (hr : OwnR A0 A1 2 1 (.slice sa m mc) m wz) :
    ∀ (r i : Nat) (u : Nat → Value) (w : World), i + r = m → KP A0 A1 wz w → AnsK wz w → Walk Try.prog main (DR (fun _ => none)) (fun g' w' => (∃ u', g' = G (hk4 st sc tv X Y A B 0 u') cs) ∧ KP A0 A1 wz w' ∧ AnsK wz w') (G (hk3 st sc tv X Y A B i u) cs) w := by
  intro r
  induction r with
  | zero =>
    intro i u w hi H Q
    have hi : i = m := hi
    subst hi
    refine (ks3o st sc tv X Y A B i mc _ u cs w (H.cellTyped hA ht h2)).mono ?_
    rintro g w' ⟨hu, d, rfl⟩
    exact ⟨hu, H.at d, Q⟩
  | succ r ih =>
    intro i u w hi H Q
    obtain ⟨xs, hrow, hlt⟩ := hr
    obtain ⟨ys, _, hrow'⟩ := Sizes.row H.sizes hrow
    obtain ⟨g, cur, rfl, hg, hc, _⟩ := own_cell hrow' (i := i) (by omega) (by decide)
    obtain ⟨y, hy, _⟩ := hc i (by omega)
    refine (ks3 st sc tv X Y A B i g m mc y u cs w (by omega) hm (H.cellTyped hA ht h2) hy (frozen_of hg i)).then ?_
    rintro g' w' ⟨⟨u', rfl⟩, d, rfl⟩
    refine Walk.back ?_ d
    exact ih (i + 1) u' _ (by omega) (H.set (.inl (OwnR.may ⟨xs, hrow, hlt⟩ (.inr (.inr (.inl rfl))) rfl))) (Q.turn hg (by decide) fun b hb => heap_set_other _ _ _ _ hb)
theorem ks4_w {m mc : Nat} {sa : Option Addr} (hm : m ≤ 17592186044416) {arr : Array Value} {t : TypeId} (hA : wz.heap[A]? = some (.cells arr t (0, 0))) (ht : ¬ (t = 84 ∨ t = 81 ∨ t = 2 ∨ t = 3)) (h2 : arr[1]? = some (.slice sa m mc)) (hr : OwnR A0 A1 3 1 (.slice sa m mc) m wz) :
    ∀ (r i : Nat) (u : Nat → Value) (w : World), i + r = m → KP A0 A1 wz w → AnsK wz w → Walk Try.prog main (DR (fun _ => none)) (fun g' w' => (∃ u', g' = G (hk5 st sc tv X Y A B 0 u') cs) ∧ KP A0 A1 wz w' ∧ AnsK wz w') (G (hk4 st sc tv X Y A B i u) cs) w := by
  intro r
  induction r with
  | zero =>
    intro i u w hi H Q
    have hi : i = m := hi
    subst hi
    refine (ks4o st sc tv X Y A B i mc _ u cs w (H.cellTyped hA ht h2)).mono ?_
    rintro g w' ⟨hu, d, rfl⟩
    exact ⟨hu, H.at d, Q⟩
  | succ r ih =>
    intro i u w hi H Q
    obtain ⟨xs, hrow, hlt⟩ := hr
    obtain ⟨ys, _, hrow'⟩ := Sizes.row H.sizes hrow
    obtain ⟨g, cur, rfl, hg, hc, _⟩ := own_cell hrow' (i := i) (by omega) (by decide)
    obtain ⟨y, hy, _⟩ := hc i (by omega)
    refine (ks4 st sc tv X Y A B i g m mc y u cs w (by omega) hm (H.cellTyped hA ht h2) hy (frozen_of hg i)).then ?_
    rintro g' w' ⟨⟨u', rfl⟩, d, rfl⟩
    refine Walk.back ?_ d
    exact ih (i + 1) u' _ (by omega) (H.set (.inl (OwnR.may ⟨xs, hrow, hlt⟩ (.inr (.inr (.inr rfl))) rfl))) (Q.turn hg (by decide) fun b hb => heap_set_other _ _ _ _ hb)
end
end
end Go.Proofs.Ytgfajibjedfkdaa
