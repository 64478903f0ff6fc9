/- Part 31. -/
import Derived.Test.YtflcclneedldoaaJ9
import Derived.Test.YtflcclneedldoaaJ17
import Derived.Test.YtflcclneedldoaaJ18
import Derived.Test.YtflcclneedldoaaJ29
import Derived.Test.YtflcclneedldoaaJ30
set_option linter.unusedSimpArgs false
set_option linter.unusedVariables false
set_option maxHeartbeats 8000000
set_option maxRecDepth 100000
namespace Go.Proofs.Ytflcclneedldoaa
open Go.Conc Go.RowKit Go.Relay Try
open Go.ConcN (upd upd_ne upd_same)
section
variable {P : Program} {t e : TypeId} {ti : TypeInfo}
theorem run_from (hu : P.underlying t = some (.slice e)) (hi : P.info? e = some ti) (hz : ti.size = 1) (b o p y cap : Nat) (hc : p + y <= cap) : ∃ a' : Option Addr, (0 < y -> a' = some ⟨b, o + p, none⟩) /\ ∀ (w : World) (es : Array Event), (Instr.sliceAt t (.slice (some ⟨b, o, none⟩) (p + y) cap) (some (.int .i64 (p : Nat))) none none).run P w = .ok (.slice a' y (cap - p)) w /\
  (Instr.sliceAt t (.slice (some ⟨b, o, none⟩) (p + y) cap) (some (.int .i64 (p : Nat))) none none).events P w es = es := by
 have g1 : (p : Int) <= ((p + y : Nat) : Int) := by omega
 have g3 : (p : Int) <= (p : Int) + y := by omega
 have g4 : ¬ ((p : Int) + y < p) := by omega
 have g5 : (0 : Int) <= p := by omega
 have g6 : ¬ ((p : Int) < 0) := by omega
 have g7 : p + y - p = y := by omega
 have g8 : ¬ (p + y < p) := by omega
 by_cases g2 : cap = p
 ·subst g2
  have hy : y = 0 := by omega
  subst hy
  refine ⟨some ⟨b, o, none⟩, fun h => by omega, fun w es => ?_⟩
  constructor <;> simp [Instr.sliceAt, Instr.slice, run_underlying hu, Instr.sliceBounds, Instr.sliceBound, asIntOf, sizeOf, typeInfo, hi, hz, g6, Addr.add]
 ·have g9 : ¬ p = cap := fun e => g2 e.symm
  have g10 : ¬ (cap <= p) := by omega
  refine ⟨some ⟨b, o + p, none⟩, fun _ => rfl, fun w es => ?_⟩
  constructor <;> simp [Instr.sliceAt, Instr.slice, run_underlying hu, Instr.sliceBounds, Instr.sliceBound, asIntOf, sizeOf, typeInfo, hi, hz, g1, g2, g3, g4, g5, g6, g7, g8, g9, g10, Addr.add]
theorem run_upto (hu : P.underlying t = some (.slice e)) (hi : P.info? e = some ti) (hz : ti.size = 1) (b o q y cap : Nat) (hq : q <= y) (hy : 0 < y) (hc : y <= cap) (w : World) (es : Array Event) : (Instr.sliceAt t (.slice (some ⟨b, o, none⟩) y cap) none (some (.int .i64 (q : Nat))) none).run P w = .ok (.slice (some ⟨b, o, none⟩) q cap) w /\ (Instr.sliceAt t (.slice (some ⟨b, o, none⟩) y cap) none (some (.int .i64 (q : Nat))) none).events P w es = es := by
 have g1 : (q : Int) <= (cap : Nat) := by omega
 have g2 : ¬ ((q : Int) < 0) := by omega
 have g3 : (0 : Int) <= q := by omega
 have g4 : ¬ cap = 0 := by omega
 have g5 : q <= cap := by omega
 have g6 : 0 < cap := by omega
 constructor <;> simp [Instr.sliceAt, Instr.slice, run_underlying hu, Instr.sliceBounds, Instr.sliceBound, asIntOf, sizeOf, typeInfo, hi, hz, g1, g2, g3, g4, g5, g6, Addr.add]
end
theorem huInts : prog.underlying 31 = some (.slice 2) := by kernel_rfl
theorem huInt : ∃ ti, prog.info? 2 = some ti /\ ti.size = 1 := by
 have h : (prog.info? 2).map (·.size) = some 1 := by kernel_rfl
 cases he : prog.info? 2 with
 | none => rw [he] at h; cases h
 | some ti => rw [he] at h; exact ⟨ti, rfl, by simpa using h⟩
noncomputable def tmT (Q kb lb p n : Nat) (u : Nat -> Value) : Array Value := #[.int .i64 n, u 1, u 2, u 3, u 4, .pointer (some ⟨kb, 0, none⟩), u 6, .pointer (some ⟨lb, 0, none⟩), u 8, .pointer (some ⟨Q, 0, none⟩), .pointer (some ⟨p, 0, none⟩), u 11, u 12, u 13, u 14, u 15, u 16, u 17, u 18, u 19, u 20, u 21, u 22, u 23, u 24, u 25, u 26, u 27, u 28, u 29, u 30, u 31, u 32, u 33, u 34, u 35, u 36, u 37, u 38, u 39, u 40, u 41, u 42, u 43, u 44, u 45, u 46, u 47, u 48, u 49, u 50, u 51, u 52, u 53, u 54, u 55, u 56, u 57, u 58, u 59, u 60, u 61, u 62, u 63, u 64, u 65, u 66, u 67, u 68, u 69, u 70, u 71, u 72, u 73, u 74, u 75, u 76, u 77, u 78, u 79, u 80, u 81, u 82, u 83, u 84, u 85, u 86, u 87, u 88, u 89, u 90, u 91, u 92, u 93, u 94, u 95, u 96, u 97, u 98, u 99, u 100, u 101, u 102, u 103, u 104, u 105, u 106, u 107, u 108, u 109, u 110, u 111, u 112, u 113, u 114, u 115, u 116, u 117, u 118, u 119, u 120, u 121, u 122, u 123, u 124, u 125, u 126, u 127, u 128, u 129, u 130, u 131, u 132, u 133, u 134, u 135, u 136, u 137, u 138, u 139, u 140, u 141, u 142, u 143, u 144, u 145, u 146, u 147, u 148, u 149, u 150, u 151, u 152, u 153, u 154, u 155, u 156, u 157, u 158, u 159, u 160, u 161, u 162, u 163, u 164, u 165, u 166, u 167, u 168, u 169, u 170, u 171, u 172, u 173, u 174, u 175, u 176, u 177, u 178, u 179, u 180, u 181, u 182, u 183, u 184, u 185, u 186, u 187, u 188, u 189, u 190, u 191, u 192, u 193, u 194, u 195]
def dsT : List Nat := [161, 162, 163, 164, 165, 166, 167, 168, 169, 170, 171, 172, 173, 174, 175, 176, 177, 178, 179, 180, 181, 182, 183, 184, 185, 186, 187, 188, 189, 190, 191, 192, 193, 194, 195, 4]
def vsT (Q kb lb p n sn sb so sc c oc : Nat) (oa : Option Addr) (B1 B2 B3 : Nat) : List Value := [.pointer (some ⟨kb, 0, none⟩), .slice (some ⟨B1, 0, none⟩) n n, .pointer (some ⟨Q, 2, none⟩), .slice (some ⟨sb, so, none⟩) sn sc, .int .i64 n, .slice (some ⟨sb, so, none⟩) n sc, .bool true, .bool true, .pointer (some ⟨kb, 0, none⟩), .slice (some ⟨B2, 0, none⟩) n n, .pointer (some ⟨Q, 2, none⟩), .slice (some ⟨sb, so, none⟩) sn sc, .int .i64 n, .slice (some ⟨sb, so + n, none⟩) n (sc - n), .bool true, .bool true, .bool true, .pointer (some ⟨lb, 0, none⟩), .slice (some ⟨B3, 0, none⟩) n n, .pointer (some ⟨Q, 2, none⟩), .slice (some ⟨sb, so, none⟩) sn sc, .int .i64 n, .slice (some ⟨sb, so, none⟩) n sc, .bool true, .bool true, .bool true, .pointer (some ⟨p, 0, none⟩), .pointer (some ⟨p, 0, none⟩), .pointer (some ⟨p, 0, none⟩), .int .i64 c, .pointer (some ⟨Q, 1, none⟩), .slice oa c oc, .int .i64 c, .bool true, .bool true, .bool true]
structure LasT (kb ks lb ls n p : Nat) (S : Rg) (c : Nat) (W : World) (f : Nat -> Bool) (B1 B2 B3 : Nat) (w : World) : Prop where
 I : CalQ kb ks lb ls n p S c W w
 t1 : f 1 = true -> W.heap.size <= B1 /\ NumB w B1 ((List.range n).map S.st)
 t2 : f 9 = true -> W.heap.size <= B2 /\ NumB w B2 ((List.range n).map S.va)
 t3 : f 18 = true -> W.heap.size <= B3 /\ NumB w B3 ((List.range n).map S.st)
section
variable {kb ks lb ls n p : Nat} {S : Rg} {c : Nat} {W : World} {main : Bool}
theorem Li {w : World} {B : Nat} {l : List Int} (h : NumB w B l) : NumA (some ⟨B, 0, none⟩) l w := fun j x hx => ⟨B, 0, rfl, by rw [Nat.zero_add]; exact h.cell hx⟩
theorem LasT.at {f : Nat -> Bool} {B1 B2 B3 : Nat} {w : World} (h : LasT kb ks lb ls n p S c W f B1 B2 B3 w) (d : Nat) : LasT kb ks lb ls n p S c W f B1 B2 B3 (w.at d) := ⟨h.I.at d, h.t1, h.t2, h.t3⟩
theorem LasT.quiet {f : Nat -> Bool} {B1 B2 B3 : Nat} {w : World} (h : LasT kb ks lb ls n p S c W f B1 B2 B3 w) {i : Nat} (h1 : i ≠ 1 := by decide) (h9 : i ≠ 9 := by decide) (h18 : i ≠ 18 := by decide) : LasT kb ks lb ls n p S c W (upd f i true) B1 B2 B3 w :=
 ⟨h.I, by rw [upd_ne _ _ (Ne.symm h1)]; exact h.t1, by rw [upd_ne _ _ (Ne.symm h9)]; exact h.t2, by rw [upd_ne _ _ (Ne.symm h18)]; exact h.t3⟩
theorem CalQ.new {W0 w w1 : World} (h : CalQ kb ks lb ls n p S c W0 w) (hO : ∀ b, b < w.heap.size -> w1.heap[b]? = w.heap[b]?) (hZ : w.heap.size < w1.heap.size) : CalQ kb ks lb ls n p S c W0 w1 :=
 ⟨h.ik.old (hO _ h.ik.lt.1) (hO _ h.ik.lt.2), h.il.old (hO _ h.il.lt.1) (hO _ h.il.lt.2), (hO p (aEs h.cn).1).trans h.cn, fun b hb g => (hO b (Nat.lt_of_lt_of_le hb h.size)).trans (h.old b hb g), Nat.le_trans h.size (Nat.le_of_lt hZ)⟩
theorem calls_last (Q sn sb so sc oc : Nat) (oa : Option Addr) (hs1 : sn <= n + n) (hs2 : n + n <= sn) (hsc : sn <= sc) (W0 : World) (I0 : CalQ kb ks lb ls n p S c W0 W) (hc : c <= 9223372036854)
  (x1 : W.cell? ⟨Q, 1, none⟩ = some (.slice oa c oc)) (x2 : W.cell? ⟨Q, 2, none⟩ = some (.slice (some ⟨sb, so, none⟩) sn sc)) (hQ : Ez kb ks lb ls p Q) (hsb : Ez kb ks lb ls p sb) (hst : NumA (some ⟨sb, so, none⟩) (It n S) W)
  (kx : List Item) (cs : List Frame) (u0 : Nat -> Value) {Stop : Goroutine -> World -> Prop}
  (hend : ∀ (u : Nat -> Value) (w : World), u 4 = .bool true -> (∀ b, b < W.heap.size -> Ez kb ks lb ls p b -> w.heap[b]? = W.heap[b]?) -> W.heap.size <= w.heap.size -> Walk prog main (DR (fun _ => none)) Stop (G ((base 3).at ⟨tmT Q kb lb p n u, []⟩ (.inRegion reg3_22 [] :: kx)) cs) w) :
  Walk prog main (DR (fun _ => none)) Stop (G ((base 3).at ⟨tmT Q kb lb p n u0, []⟩ (.code (.region 22 reg3_22 true) :: kx)) cs) W := by
 have hA : ∀ b, Az (fun _ => none) b := Ov
 have hla : ((List.range n).map S.st).length = n := by simp
 have hlb : ((List.range n).map S.va).length = n := by simp
 have hps := I0.ik.pos
 have hna : NumA (some ⟨sb, so, none⟩) ((List.range n).map S.st) W := fun j x hx => hst j x (by
  have hj : j < ((List.range n).map S.st).length := (lEs hx).1
  unfold It
  rw [List.getElem?_append_left hj]
  exact hx)
 have hnb : NumA (some ⟨sb, so + n, none⟩) ((List.range n).map S.va) W := fun j x hx => by
  obtain ⟨b', o', e, h⟩ := hst (n + j) x (by
   unfold It
   rw [List.getElem?_append_right (by rw [hla]; omega), hla, Nat.add_sub_cancel_left]
   exact hx)
  cases e
  exact ⟨sb, so + n, rfl, by rw [Nat.add_assoc]; exact h⟩
 obtain ⟨ti, hti, htz⟩ := huInt
 have hs := fun w => (run_upto huInts hti htz sb so n sn sc (by omega) (by omega) hsc w #[]).1
 have hse := fun w es => (run_upto huInts hti htz sb so n sn sc (by omega) (by omega) hsc w es).2
 obtain ⟨a', ha', hf⟩ := run_from huInts hti htz sb so n n sc (by omega)
 obtain rfl := ha' (by omega)
 have hsn : n + n = sn := by omega
 rw [hsn] at hf
 have hf1 := fun w => (hf w #[]).1
 have hf2 := fun w es => (hf w es).2
 clear hf hsn ha' hst hs1 hs2
 have hvs : ∀ (L Ls : Nat) (w : World), RgI L Ls n S w -> CallW prog main (fun _ => none) 24 #[.pointer (some ⟨L, 0, none⟩)] w (Mk n S.st w) := fun L Ls w I => stamps_w (main := main) w I fun b _ => hA b
 have hvv : ∀ (L Ls : Nat) (w : World), RgI L Ls n S w -> CallW prog main (fun _ => none) 25 #[.pointer (some ⟨L, 0, none⟩)] w (Mk n S.va w) := fun L Ls w I => values_w (main := main) w I fun b _ => hA b
 refine Cv (Inv := fun f ac' w => ∃ u B1 B2 B3, ac' = ⟨tmT Q kb lb p n u, []⟩ /\ Facts dsT (vsT Q kb lb p n sn sb so sc c oc oa B1 B2 B3) f u /\ LasT kb ks lb ls n p S c W f B1 B2 B3 w) (by kernel_rfl) (by kernel_rfl) (fun d => ⟨u0, 0, 0, 0, rfl, Facts.none _ _ _, LasT.at ⟨⟨I0.ik, I0.il, I0.cn, fun _ _ _ => rfl, Nat.le_refl _⟩, fun h => (by cases h), fun h => (by cases h), fun h => (by cases h)⟩ d⟩) ?_ ?_
 ·rintro f j op act w ⟨u, B1, B2, B3, rfl, F0, L⟩ hC hfj ho hdeps rest hr
  have hj : j < 36 := by have := (aEs ho).1; rw [size3_22] at this; exact this
  have I := L.I
  have hcell : ∀ {x y : Nat} {v : Value}, Ez kb ks lb ls p x -> W.cell? ⟨x, y, none⟩ = some v -> w.cell? ⟨x, y, none⟩ = some v := fun {x y v} e h => (cBk (a := ⟨x, y, none⟩) (I.old x (Al h) e)).trans h
  have hIs := I.size
  simp only [tmT] at hr ⊢
  match j, hj with
  | 0, _ =>
   clear hdeps hC hend hvs hvv
   (refine Wq ?_; try walk_nrm)
   refine hr _ _ ⟨upd u 161 (.pointer (some ⟨kb, 0, none⟩)), B1, B2, B3, ?_, F0.set, L.quiet⟩
   simp [tmT, upd]
  | 1, _ =>
   have hd := qD [0] ho hdeps
   have e161 := F0.g hd 0
   have hto := hvs kb ks w I.ik
   clear hdeps hC hend hvs hvv
   simp only [e161]
   refine qW (Post := Mk n S.st w) func24 ?_ ?_
   ·walk_nrm
    exact hto
   rintro v w1 ⟨rfl, hN, hO, hZ⟩
   walk_nrm
   refine hr _ w1 ⟨upd u 162 (.slice (some ⟨w.heap.size, 0, none⟩) n n), w.heap.size, B2, B3, ?_, Facts.set (Dk F0 hfj rfl), ⟨I.new hO hZ, fun h => ?_, fun h => ?_, fun h => ?_⟩⟩
   ·simp [tmT, upd, e161]
   ·exact ⟨hIs, hN⟩
   ·rw [upd_ne _ _ (by decide)] at h
    obtain ⟨z1, z2⟩ := L.t2 h
    exact ⟨z1, z2.same (hO _ z2.lt)⟩
   ·rw [upd_ne _ _ (by decide)] at h
    obtain ⟨z1, z2⟩ := L.t3 h
    exact ⟨z1, z2.same (hO _ z2.lt)⟩
  | 2, _ =>
   clear hdeps hC hend hvs hvv
   (refine Wq ?_; try walk_nrm)
   refine hr _ _ ⟨upd u 163 (.pointer (some ⟨Q, 2, none⟩)), B1, B2, B3, ?_, F0.set, L.quiet⟩
   simp [tmT, upd]
  | 3, _ =>
   have hd := qD [2] ho hdeps
   have e163 := F0.g hd 2
   have y2 := hcell hQ x2
   clear hdeps hC hend hvs hvv
   simp only [e163]
   (refine Wq ?_; try walk_nrm)
   refine hr _ _ ⟨upd u 164 (.slice (some ⟨sb, so, none⟩) sn sc), B1, B2, B3, ?_, F0.set, L.quiet⟩
   simp [tmT, upd, e163]
  | 4, _ =>
   clear hdeps hC hend hvs hvv
   (refine Wq ?_; try walk_nrm)
   refine hr _ _ ⟨upd u 165 (.int .i64 n), B1, B2, B3, ?_, F0.set, L.quiet⟩
   simp [tmT, upd]
  | 5, _ =>
   have hd := qD [3, 4] ho hdeps
   have e164 := F0.g hd 3
   have e165 := F0.g hd 4
   clear hdeps hC hend hvs hvv
   simp only [e164, e165]
   (refine Wq ?_; try walk_nrm)
   refine hr _ _ ⟨upd u 166 (.slice (some ⟨sb, so, none⟩) n sc), B1, B2, B3, ?_, F0.set, L.quiet⟩
   simp [tmT, upd, e164, e165]
  | 6, _ =>
   have hd := qD [1, 5] ho hdeps
   have e162 := F0.g hd 1
   have e166 := F0.g hd 5
   have hT := (L.t1 (hd 1 (by simp))).2
   have hsn := sn_w (main := main) (V := fun _ => none) (some ⟨B1, 0, none⟩) (some ⟨sb, so, none⟩) ((List.range n).map S.st) n sc (by rw [hla]; omega) w (Li hT) (fun j x hx => by
    obtain ⟨b', o', e, h⟩ := hna j x hx
    cases e
    exact ⟨sb, so, rfl, hcell hsb h⟩)
   rw [hla] at hsn
   clear hdeps hC hend hvs hvv
   simp only [e162, e166]
   refine qV (x := .bool true) (W := w) func23 ?_ ?_
   ·walk_nrm
    exact hsn
   walk_nrm
   refine hr _ _ ⟨upd u 167 (.bool true), B1, B2, B3, ?_, F0.set, L.quiet⟩
   simp [tmT, upd, e162, e166]
  | 7, _ =>
   have hd := qD [6] ho hdeps
   have e167 := F0.g hd 6
   clear hdeps hC hend hvs hvv
   simp only [e167]
   (refine Wq ?_; try walk_nrm)
   refine hr _ _ ⟨upd u 168 (.bool true), B1, B2, B3, ?_, F0.set, L.quiet⟩
   simp [tmT, upd, e167]
  | 8, _ =>
   have hd := qD [7] ho hdeps
   have e168 := F0.g hd 7
   clear hdeps hC hend hvs hvv
   simp only [e168]
   (refine Wq ?_; try walk_nrm)
   refine hr _ _ ⟨upd u 169 (.pointer (some ⟨kb, 0, none⟩)), B1, B2, B3, ?_, F0.set, L.quiet⟩
   simp [tmT, upd, e168]
  | 9, _ =>
   have hd := qD [8, 7] ho hdeps
   have e169 := F0.g hd 8
   have e168 := F0.g hd 7
   have hto := hvv kb ks w I.ik
   clear hdeps hC hend hvs hvv
   simp only [e169, e168]
   refine qW (Post := Mk n S.va w) func25 ?_ ?_
   ·walk_nrm
    exact hto
   rintro v w1 ⟨rfl, hN, hO, hZ⟩
   walk_nrm
   refine hr _ w1 ⟨upd u 170 (.slice (some ⟨w.heap.size, 0, none⟩) n n), B1, w.heap.size, B3, ?_, Facts.set (Dk F0 hfj rfl), ⟨I.new hO hZ, fun h => ?_, fun h => ?_, fun h => ?_⟩⟩
   ·simp [tmT, upd, e169, e168]
   ·rw [upd_ne _ _ (by decide)] at h
    obtain ⟨z1, z2⟩ := L.t1 h
    exact ⟨z1, z2.same (hO _ z2.lt)⟩
   ·exact ⟨hIs, hN⟩
   ·rw [upd_ne _ _ (by decide)] at h
    obtain ⟨z1, z2⟩ := L.t3 h
    exact ⟨z1, z2.same (hO _ z2.lt)⟩
  | 10, _ =>
   have hd := qD [7] ho hdeps
   have e168 := F0.g hd 7
   clear hdeps hC hend hvs hvv
   simp only [e168]
   (refine Wq ?_; try walk_nrm)
   refine hr _ _ ⟨upd u 171 (.pointer (some ⟨Q, 2, none⟩)), B1, B2, B3, ?_, F0.set, L.quiet⟩
   simp [tmT, upd, e168]
  | 11, _ =>
   have hd := qD [10, 7] ho hdeps
   have e171 := F0.g hd 10
   have e168 := F0.g hd 7
   have y2 := hcell hQ x2
   clear hdeps hC hend hvs hvv
   simp only [e171, e168]
   (refine Wq ?_; try walk_nrm)
   refine hr _ _ ⟨upd u 172 (.slice (some ⟨sb, so, none⟩) sn sc), B1, B2, B3, ?_, F0.set, L.quiet⟩
   simp [tmT, upd, e171, e168]
  | 12, _ =>
   have hd := qD [7] ho hdeps
   have e168 := F0.g hd 7
   clear hdeps hC hend hvs hvv
   simp only [e168]
   (refine Wq ?_; try walk_nrm)
   refine hr _ _ ⟨upd u 173 (.int .i64 n), B1, B2, B3, ?_, F0.set, L.quiet⟩
   simp [tmT, upd, e168]
  | 13, _ =>
   have hd := qD [11, 12, 7] ho hdeps
   have e172 := F0.g hd 11
   have e173 := F0.g hd 12
   have e168 := F0.g hd 7
   clear hdeps hC hend hvs hvv
   simp only [e172, e173, e168]
   (refine Wq ?_; try walk_nrm)
   refine hr _ _ ⟨upd u 174 (.slice (some ⟨sb, so + n, none⟩) n (sc - n)), B1, B2, B3, ?_, F0.set, L.quiet⟩
   simp [tmT, upd, e172, e173, e168]
  | 14, _ =>
   have hd := qD [9, 13, 7] ho hdeps
   have e170 := F0.g hd 9
   have e174 := F0.g hd 13
   have e168 := F0.g hd 7
   have hT := (L.t2 (hd 9 (by simp))).2
   have hsn := sn_w (main := main) (V := fun _ => none) (some ⟨B2, 0, none⟩) (some ⟨sb, so + n, none⟩) ((List.range n).map S.va) n (sc - n) (by rw [hlb]; omega) w (Li hT) (fun j x hx => by
    obtain ⟨b', o', e, h⟩ := hnb j x hx
    cases e
    exact ⟨sb, so + n, rfl, hcell hsb h⟩)
   rw [hlb] at hsn
   clear hdeps hC hend hvs hvv
   simp only [e170, e174, e168]
   refine qV (x := .bool true) (W := w) func23 ?_ ?_
   ·walk_nrm
    exact hsn
   walk_nrm
   refine hr _ _ ⟨upd u 175 (.bool true), B1, B2, B3, ?_, F0.set, L.quiet⟩
   simp [tmT, upd, e170, e174, e168]
  | 15, _ =>
   have hd := qD [7, 14] ho hdeps
   have e168 := F0.g hd 7
   have e175 := F0.g hd 14
   clear hdeps hC hend hvs hvv
   simp only [e168, e175]
   (refine Wq ?_; try walk_nrm)
   refine hr _ _ ⟨upd u 176 (.bool true), B1, B2, B3, ?_, F0.set, L.quiet⟩
   simp [tmT, upd, e168, e175]
  | 16, _ =>
   have hd := qD [15] ho hdeps
   have e176 := F0.g hd 15
   clear hdeps hC hend hvs hvv
   simp only [e176]
   (refine Wq ?_; try walk_nrm)
   refine hr _ _ ⟨upd u 177 (.bool true), B1, B2, B3, ?_, F0.set, L.quiet⟩
   simp [tmT, upd, e176]
  | 17, _ =>
   have hd := qD [16] ho hdeps
   have e177 := F0.g hd 16
   clear hdeps hC hend hvs hvv
   simp only [e177]
   (refine Wq ?_; try walk_nrm)
   refine hr _ _ ⟨upd u 178 (.pointer (some ⟨lb, 0, none⟩)), B1, B2, B3, ?_, F0.set, L.quiet⟩
   simp [tmT, upd, e177]
  | 18, _ =>
   have hd := qD [17, 16] ho hdeps
   have e178 := F0.g hd 17
   have e177 := F0.g hd 16
   have hto := hvs lb ls w I.il
   clear hdeps hC hend hvs hvv
   simp only [e178, e177]
   refine qW (Post := Mk n S.st w) func24 ?_ ?_
   ·walk_nrm
    exact hto
   rintro v w1 ⟨rfl, hN, hO, hZ⟩
   walk_nrm
   refine hr _ w1 ⟨upd u 179 (.slice (some ⟨w.heap.size, 0, none⟩) n n), B1, B2, w.heap.size, ?_, Facts.set (Dk F0 hfj rfl), ⟨I.new hO hZ, fun h => ?_, fun h => ?_, fun h => ?_⟩⟩
   ·simp [tmT, upd, e178, e177]
   ·rw [upd_ne _ _ (by decide)] at h
    obtain ⟨z1, z2⟩ := L.t1 h
    exact ⟨z1, z2.same (hO _ z2.lt)⟩
   ·rw [upd_ne _ _ (by decide)] at h
    obtain ⟨z1, z2⟩ := L.t2 h
    exact ⟨z1, z2.same (hO _ z2.lt)⟩
   ·exact ⟨hIs, hN⟩
  | 19, _ =>
   have hd := qD [16] ho hdeps
   have e177 := F0.g hd 16
   clear hdeps hC hend hvs hvv
   simp only [e177]
   (refine Wq ?_; try walk_nrm)
   refine hr _ _ ⟨upd u 180 (.pointer (some ⟨Q, 2, none⟩)), B1, B2, B3, ?_, F0.set, L.quiet⟩
   simp [tmT, upd, e177]
  | 20, _ =>
   have hd := qD [19, 16] ho hdeps
   have e180 := F0.g hd 19
   have e177 := F0.g hd 16
   have y2 := hcell hQ x2
   clear hdeps hC hend hvs hvv
   simp only [e180, e177]
   (refine Wq ?_; try walk_nrm)
   refine hr _ _ ⟨upd u 181 (.slice (some ⟨sb, so, none⟩) sn sc), B1, B2, B3, ?_, F0.set, L.quiet⟩
   simp [tmT, upd, e180, e177]
  | 21, _ =>
   have hd := qD [16] ho hdeps
   have e177 := F0.g hd 16
   clear hdeps hC hend hvs hvv
   simp only [e177]
   (refine Wq ?_; try walk_nrm)
   refine hr _ _ ⟨upd u 182 (.int .i64 n), B1, B2, B3, ?_, F0.set, L.quiet⟩
   simp [tmT, upd, e177]
  | 22, _ =>
   have hd := qD [20, 21, 16] ho hdeps
   have e181 := F0.g hd 20
   have e182 := F0.g hd 21
   have e177 := F0.g hd 16
   clear hdeps hC hend hvs hvv
   simp only [e181, e182, e177]
   (refine Wq ?_; try walk_nrm)
   refine hr _ _ ⟨upd u 183 (.slice (some ⟨sb, so, none⟩) n sc), B1, B2, B3, ?_, F0.set, L.quiet⟩
   simp [tmT, upd, e181, e182, e177]
  | 23, _ =>
   have hd := qD [18, 22, 16] ho hdeps
   have e179 := F0.g hd 18
   have e183 := F0.g hd 22
   have e177 := F0.g hd 16
   have hT := (L.t3 (hd 18 (by simp))).2
   have hsn := sn_w (main := main) (V := fun _ => none) (some ⟨B3, 0, none⟩) (some ⟨sb, so, none⟩) ((List.range n).map S.st) n sc (by rw [hla]; omega) w (Li hT) (fun j x hx => by
    obtain ⟨b', o', e, h⟩ := hna j x hx
    cases e
    exact ⟨sb, so, rfl, hcell hsb h⟩)
   rw [hla] at hsn
   clear hdeps hC hend hvs hvv
   simp only [e179, e183, e177]
   refine qV (x := .bool true) (W := w) func23 ?_ ?_
   ·walk_nrm
    exact hsn
   walk_nrm
   refine hr _ _ ⟨upd u 184 (.bool true), B1, B2, B3, ?_, F0.set, L.quiet⟩
   simp [tmT, upd, e179, e183, e177]
  | 24, _ =>
   have hd := qD [16, 23] ho hdeps
   have e177 := F0.g hd 16
   have e184 := F0.g hd 23
   clear hdeps hC hend hvs hvv
   simp only [e177, e184]
   (refine Wq ?_; try walk_nrm)
   refine hr _ _ ⟨upd u 185 (.bool true), B1, B2, B3, ?_, F0.set, L.quiet⟩
   simp [tmT, upd, e177, e184]
  | 25, _ =>
   have hd := qD [24] ho hdeps
   have e185 := F0.g hd 24
   clear hdeps hC hend hvs hvv
   simp only [e185]
   (refine Wq ?_; try walk_nrm)
   refine hr _ _ ⟨upd u 186 (.bool true), B1, B2, B3, ?_, F0.set, L.quiet⟩
   simp [tmT, upd, e185]
  | 26, _ =>
   have hd := qD [25] ho hdeps
   have e186 := F0.g hd 25
   clear hdeps hC hend hvs hvv
   simp only [e186]
   (refine Wq ?_; try walk_nrm)
   refine hr _ _ ⟨upd u 187 (.pointer (some ⟨p, 0, none⟩)), B1, B2, B3, ?_, F0.set, L.quiet⟩
   simp [tmT, upd, e186]
  | 27, _ =>
   have hd := qD [26, 25] ho hdeps
   have e187 := F0.g hd 26
   have e186 := F0.g hd 25
   clear hdeps hC hend hvs hvv
   simp only [e187, e186]
   (refine Wq ?_; try walk_nrm)
   refine hr _ _ ⟨upd u 188 (.pointer (some ⟨p, 0, none⟩)), B1, B2, B3, ?_, F0.set, L.quiet⟩
   simp [tmT, upd, e187, e186]
  | 28, _ =>
   have hd := qD [27, 25] ho hdeps
   have e188 := F0.g hd 27
   have e186 := F0.g hd 25
   clear hdeps hC hend hvs hvv
   simp only [e188, e186]
   (refine Wq ?_; try walk_nrm)
   refine hr _ _ ⟨upd u 189 (.pointer (some ⟨p, 0, none⟩)), B1, B2, B3, ?_, F0.set, L.quiet⟩
   simp [tmT, upd, e188, e186]
  | 29, _ =>
   have hd := qD [28, 25] ho hdeps
   have e189 := F0.g hd 28
   have e186 := F0.g hd 25
   have y3 : w.cell? ⟨p, 0, none⟩ = some (.int .i64 c) := (Ab I.cn 0).trans rfl
   clear hdeps hC hend hvs hvv
   simp only [e189, e186]
   (refine Wq ?_; try walk_nrm)
   refine hr _ _ ⟨upd u 190 (.int .i64 c), B1, B2, B3, ?_, F0.set, L.quiet⟩
   simp [tmT, upd, e189, e186]
  | 30, _ =>
   have hd := qD [25] ho hdeps
   have e186 := F0.g hd 25
   clear hdeps hC hend hvs hvv
   simp only [e186]
   (refine Wq ?_; try walk_nrm)
   refine hr _ _ ⟨upd u 191 (.pointer (some ⟨Q, 1, none⟩)), B1, B2, B3, ?_, F0.set, L.quiet⟩
   simp [tmT, upd, e186]
  | 31, _ =>
   have hd := qD [30, 25] ho hdeps
   have e191 := F0.g hd 30
   have e186 := F0.g hd 25
   have y1 := hcell hQ x1
   clear hdeps hC hend hvs hvv
   simp only [e191, e186]
   (refine Wq ?_; try walk_nrm)
   refine hr _ _ ⟨upd u 192 (.slice oa c oc), B1, B2, B3, ?_, F0.set, L.quiet⟩
   simp [tmT, upd, e191, e186]
  | 32, _ =>
   have hd := qD [31, 25] ho hdeps
   have e192 := F0.g hd 31
   have e186 := F0.g hd 25
   clear hdeps hC hend hvs hvv
   simp only [e192, e186]
   (refine Wq ?_; try walk_nrm)
   refine hr _ _ ⟨upd u 193 (.int .i64 c), B1, B2, B3, ?_, F0.set, L.quiet⟩
   simp [tmT, upd, e192, e186]
  | 33, _ =>
   have hd := qD [29, 32, 25] ho hdeps
   have e190 := F0.g hd 29
   have e193 := F0.g hd 32
   have e186 := F0.g hd 25
   have hbe : ((c : Int) == c) = true := by simp
   clear hdeps hC hend hvs hvv
   simp only [e190, e193, e186]
   (refine Wq ?_; try walk_nrm)
   refine hr _ _ ⟨upd u 194 (.bool true), B1, B2, B3, ?_, F0.set, L.quiet⟩
   simp [tmT, upd, e190, e193, e186]
  | 34, _ =>
   have hd := qD [25, 33] ho hdeps
   have e186 := F0.g hd 25
   have e194 := F0.g hd 33
   clear hdeps hC hend hvs hvv
   simp only [e186, e194]
   (refine Wq ?_; try walk_nrm)
   refine hr _ _ ⟨upd u 195 (.bool true), B1, B2, B3, ?_, F0.set, L.quiet⟩
   simp [tmT, upd, e186, e194]
  | 35, _ =>
   have hd := qD [34] ho hdeps
   have e195 := F0.g hd 34
   clear hdeps hC hend hvs hvv
   simp only [e195]
   (refine Wq ?_; try walk_nrm)
   refine hr _ _ ⟨upd u 4 (.bool true), B1, B2, B3, ?_, F0.set, L.quiet⟩
   simp [tmT, upd, e195]
 ·rintro f act w ⟨u, B1, B2, B3, rfl, F0, L⟩ hall
  exact hend u w (F0 35 4 _ (hall 35 (by rw [size3_22]; decide)) rfl rfl) L.I.old L.I.size
end
structure Closing (f : FuncId) (t : Tmp) (v : Value) (g : Goroutine) : Prop where
 all : ∃ fr, g = G fr [] /\ fr.mode = .returning /\ fr.kind = .normal /\ fr.defers = [] /\ fr.fn = f /\ fr.tmps.getD t undef = v
theorem mdT_code (Q kb lb p n : Nat) (u : Nat -> Value) : G (mdT Q kb lb p n u) [] = G ((base 3).at ⟨tmT Q kb lb p n u, []⟩ (.code (.region 22 reg3_22 true) :: [.code .ret])) [] := rfl
theorem Ny {i n : Nat} (h1 : i <= 65536) (h2 : n <= 65536) : i * (3 * n + 3) <= 9223372036854 := Nat.le_trans (Nat.mul_le_mul h1 (show 3 * n + 3 <= 196611 by omega)) (by decide)
section
variable {kb ks lb ls n p : Nat}
theorem calls_out (Q : Nat) (u : Nat -> Value) (h : u 4 = .bool true) (w : World) : Walk prog true (DR (fun _ => none)) (fun g w' => Closing 3 4 (.bool true) g /\ ∃ d, w' = w.at d) (G ((base 3).at ⟨tmT Q kb lb p n u, []⟩ (.inRegion reg3_22 [] :: [.code .ret])) []) w := by
 simp only [tmT, h]
 refine Aa z3 ?_
 exact .stop fun d => ⟨⟨_, rfl, rfl, rfl, rfl, rfl, rfl⟩, d, rfl⟩
theorem cal_loop {main : Bool} (oa0 : Option Addr) (n0 tc Q ab ao ac tc1 : Nat) (ta : Option Addr) (s0 : Rg) (l : List OpV) (hl : l.length = min n0 65536) (hn0 : n0 <= 17592186044416) (hn6 : n <= 65536) (W0 : World) (t5 : Five kb ks lb ls p)
  (hal : ∀ i, i < l.length -> (anR n s0 l i).l.length <= 1048576)
  (hop : ∀ (j : Nat) (o : OpV), l[j]? = some o -> ∃ b off, oa0 = some ⟨b, off, none⟩ /\ Ez kb ks lb ls p b /\ W0.cell? ⟨b, off + j * 4, none⟩ = some (.int .i64 o.k) /\ W0.cell? ⟨b, off + j * 4 + 1, none⟩ = some (.int .i64 o.a) /\ W0.cell? ⟨b, off + j * 4 + 2, none⟩ = some (.int .i64 o.b) /\ W0.cell? ⟨b, off + j * 4 + 3, none⟩ = some (.int .i64 o.c))
  (hQ : Ez kb ks lb ls p Q) (hab : Ez kb ks lb ls p ab) (x0 : W0.cell? ⟨Q, 0, none⟩ = some (.slice (some ⟨ab, ao, none⟩) 1 ac)) (x1 : W0.cell? ⟨ab, ao, none⟩ = some (.slice ta l.length tc1))
  (hA : ∀ i, i < l.length -> ∃ b o la lc, ta = some ⟨b, o, none⟩ /\ Ez kb ks lb ls p b /\ W0.cell? ⟨b, o + i * 3, none⟩ = some (.bool (anR n s0 l i).ok) /\ W0.cell? ⟨b, o + i * 3 + 1, none⟩ = some (.int .i64 (anR n s0 l i).n) /\ W0.cell? ⟨b, o + i * 3 + 2, none⟩ = some (.slice la (anR n s0 l i).l.length lc) /\ NumA la (anR n s0 l i).l W0 /\ (∀ b x, la = some ⟨b, x, none⟩ -> (anR n s0 l i).l ≠ [] -> Ez kb ks lb ls p b)) (cs : List Frame) :
  ∀ (r i : Nat) (w : World) (u : Nat -> Value), i + r = l.length -> CalQ kb ks lb ls n p (prR n s0 l i).1 (prR n s0 l i).2 W0 w ->
  Walk prog main (DR (fun _ => none)) (fun g w' => (∃ u, g = G (mdT Q kb lb p n u) cs) /\ CalQ kb ks lb ls n p (prR n s0 l l.length).1 (prR n s0 l l.length).2 W0 w') (G (Jg (.slice oa0 n0 tc) Q kb lb p n i u) cs) w := by
 intro r
 induction r with
 | zero =>
  intro i w u hi I
  have hi : i = l.length := hi
  subst hi
  have hcell : ∀ {x y : Nat} {v : Value}, Ez kb ks lb ls p x -> W0.cell? ⟨x, y, none⟩ = some v -> w.cell? ⟨x, y, none⟩ = some v := fun {x y v} e h => (cBk (a := ⟨x, y, none⟩) (I.old x (Al h) e)).trans h
  refine (cal_end _ Q ab ao ac l.length tc1 ta w (hcell hQ x0) (hcell hab x1) cs u).mono ?_
  rintro g w' ⟨⟨u, rfl⟩, d, rfl⟩
  exact ⟨⟨u, rfl⟩, I.at d⟩
 | succ r ih =>
  intro i w u hi I
  have hil : i < l.length := by omega
  have ho : l[i]? = some l[i] := List.getElem?_eq_getElem hil
  generalize l[i] = o at ho
  obtain ⟨b, off, rfl, hOb, o0, o1, o2, o3⟩ := hop i o ho
  obtain ⟨b1, o1', la, lc, rfl, hO1, a0, a1, a2, nW, offw⟩ := hA i hil
  have ha : anR n s0 l i = (rgOne n (prR n s0 l i).1 o).2 := by unfold anR; rw [ho]
  have hai := hal i hil
  rw [ha] at a0 a1 a2 nW offw hai
  have hcell : ∀ {x y : Nat} {v : Value}, Ez kb ks lb ls p x -> W0.cell? ⟨x, y, none⟩ = some v -> w.cell? ⟨x, y, none⟩ = some v := fun {x y v} e h => (cBk (a := ⟨x, y, none⟩) (I.old x (Al h) e)).trans h
  have nW' : NumA la (rgOne n (prR n s0 l i).1 o).2.l w := fun j z hz => by
   obtain ⟨b, o, e, hc⟩ := nW j z hz
   exact ⟨b, o, e, hcell (offw b o e (fun hn => by rw [hn] at hz; simp at hz)) hc⟩
  have hl6 : l.length <= 65536 := by rw [hl]; exact Nat.min_le_right _ _
  have hin : i < n0 := Nat.lt_of_lt_of_le hil (by rw [hl]; exact Nat.min_le_left _ _)
  refine (cal_round (n := n) b off n0 tc Q i ab ao ac b1 o1' l.length tc1 (prR n s0 l i).1 (prR n s0 l i).2 o hin hn0 hil hl6 W0 w I (Nat.le_trans (prR_le (n := n) s0 l i) (Ny (Nat.le_trans (Nat.le_of_lt hil) hl6) hn6)) t5 (fun c hc => ?_) la lc offw hai (hcell hQ x0) (hcell hab x1) (hcell hO1 a0) (hcell hO1 a1) (hcell hO1 a2) nW' (hcell hOb o0) (hcell hOb o1) (hcell hOb o2) (hcell hOb o3) cs u).then ?_
  ·rcases hc with rfl | rfl | rfl | rfl
   ·exact hOb
   ·exact hQ
   ·exact hab
   ·exact hO1
  rintro g w' ⟨⟨u', rfl⟩, I'⟩
  have hp := Ns (n := n) s0 l i o ho
  refine ih (i + 1) w' u' ((Nat.add_right_comm i 1 r).trans hi) ?_
  rw [hp]
  exact I'
theorem sc_tail (Q sn : Nat) (oa : Option Addr) (oc sb so sc : Nat) (S : Rg) (c : Nat) (W0 : World) (hs1 : sn <= n + n) (hs2 : n + n <= sn) (hsc : sn <= sc) (hc : c <= 9223372036854)
  (hQ : Ez kb ks lb ls p Q) (hsb : Ez kb ks lb ls p sb) (x1 : W0.cell? ⟨Q, 1, none⟩ = some (.slice oa c oc)) (x2 : W0.cell? ⟨Q, 2, none⟩ = some (.slice (some ⟨sb, so, none⟩) sn sc)) (hst : NumA (some ⟨sb, so, none⟩) (It n S) W0) (w : World) (u : Nat -> Value) (I : CalQ kb ks lb ls n p S c W0 w) :
  Walk prog true (DR (fun _ => none)) (fun g w' => Closing 3 4 (.bool true) g /\ ∀ b, b < W0.heap.size -> Ez kb ks lb ls p b -> w'.heap[b]? = W0.heap[b]?) (G (mdT Q kb lb p n u) []) w := by
 have hcell : ∀ {x y : Nat} {v : Value}, Ez kb ks lb ls p x -> W0.cell? ⟨x, y, none⟩ = some v -> w.cell? ⟨x, y, none⟩ = some v := fun {x y v} e h => (cBk (a := ⟨x, y, none⟩) (I.old x (Al h) e)).trans h
 have hst' : NumA (some ⟨sb, so, none⟩) (It n S) w := fun j x hx => by
  obtain ⟨b', o', e, h⟩ := hst j x hx
  cases e
  exact ⟨sb, so, rfl, hcell hsb h⟩
 rw [mdT_code]
 refine calls_last Q sn sb so sc oc oa hs1 hs2 hsc W0 I hc (hcell hQ x1) (hcell hQ x2) hQ hsb hst' [.code .ret] [] u fun u2 w2 h4 hO hZ => ?_
 refine (calls_out Q u2 h4 w2).mono ?_
 rintro g _ ⟨hC, d, rfl⟩
 have hIs := I.size
 exact ⟨hC, fun b hb g => (hO b (by omega) g).trans (I.old b hb g)⟩
end
def Pi : Nat -> List OpV := fun i => ([[⟨2, 0, 0, 0⟩], [⟨1, 2, 9, 0⟩]] : List (List OpV)).getD i []
def fxSl : List Int := [0, 1, 1, 0, 0, 1]
def fxA : Array Value := #[.int .i64 2, .int .i64 0, .int .i64 0, .int .i64 0]
def fxB : Array Value := #[.int .i64 1, .int .i64 2, .int .i64 9, .int .i64 0]
def fxW : Array Value := #[.int .i64 2, .int .i64 7]
def fxH (A B : Nat) : Array Value := #[.slice (some ⟨A, 0, none⟩) 1 1, .slice (some ⟨B, 0, none⟩) 1 1]
def fxS : Array Value := #[.int .i64 0, .int .i64 1, .int .i64 1, .int .i64 0, .int .i64 0, .int .i64 1]
def fxOa (A B : Nat) (i : Nat) : Option Addr := if i = 0 then some ⟨A, 0, none⟩ else some ⟨B, 0, none⟩
theorem fx_is : Qx [2, 7] := ⟨2, [7], rfl, by decide, by decide, by decide, by kernel_rfl⟩
theorem fx_run (rb sb : Nat) : ((Ca (Br rb sb (Lv [2, 7])) (r0R [2, 7]) Pi 2 99 fxSl).1.th 0).ans = [⟨false, 10, []⟩] := by kernel_rfl
theorem fx_state (rb sb : Nat) : It (Lv [2, 7]) (Ca (Br rb sb (Lv [2, 7])) (r0R [2, 7]) Pi 2 99 fxSl).1.s = [2, -2, 9, 0] := by kernel_rfl
theorem fx_ops {A B Hd : Nat} {w : World} (h1 : w.heap[A]? = some (.cells fxA 45)) (h2 : w.heap[B]? = some (.cells fxB 45)) (h4 : w.heap[Hd]? = some (.cells (fxH A B) 22)) : OpsIn Hd 0 2 (fxOa A B) (fun _ => 1) (fun _ => 1) Pi w := by
 refine ⟨fun i hi => ?_, fun i hi => Nat.le_refl _, fun i hi => .inr ?_, fun i hi => ?_, fun i hi j o ho => ?_⟩
 ·rw [Nat.zero_add]
  refine (Ab h4 i).trans ?_
  match i, hi with
  | 0, _ => rfl
  | 1, _ => rfl
 ·match i, hi with
  | 0, _ => exact ⟨_, rfl⟩
  | 1, _ => exact ⟨_, rfl⟩
 ·match i, hi with
  | 0, _ => rfl
  | 1, _ => rfl
 ·match i, hi, ho with
  | 0, _, ho =>
   match j, ho with
   | 0, ho => cases ho; exact ⟨A, 0, rfl, (Ab h1 _).trans rfl, (Ab h1 _).trans rfl, (Ab h1 _).trans rfl, (Ab h1 _).trans rfl⟩
   | j + 1, ho => exact absurd ho (by simp [Pi])
  | 1, _, ho =>
   match j, ho with
   | 0, ho => cases ho; exact ⟨B, 0, rfl, (Ab h2 _).trans rfl, (Ab h2 _).trans rfl, (Ab h2 _).trans rfl, (Ab h2 _).trans rfl⟩
   | j + 1, ho => exact absurd ho (by simp [Pi])
def fz1 : Rg := Hx 2 (Ho 2) 0 7
def fz2 : Rg := Hx 2 fz1 1 8
def fz3 : Rg := Hx 2 fz2 2 9
theorem fz_g2 : getA 2 fz3 2 = ⟨true, 9, []⟩ := by kernel_rfl
theorem fz_g0 : getA 2 fz3 0 = ⟨false, 10, []⟩ := by kernel_rfl
theorem fz_t1 : thA 2 fz3 1 = true := by kernel_rfl
theorem fz_t0 : thA 2 fz3 0 = false := by kernel_rfl
theorem fz_hi (rb sb : Nat) : runN (Br rb sb 2) 2 (fz3, hiD 2 1 5) = some (fz3, ⟨true, 2, []⟩) := by kernel_rfl
noncomputable def reg13_0 := rk f13.body 0
noncomputable def reg13_1 := rk f13.body 1
noncomputable def reg13_2 := rk f13.body 2
noncomputable def reg13_3 := rk f13.body 3
noncomputable def reg13_4 := rk f13.body 4
noncomputable def reg13_5 := rk f13.body 5
noncomputable def reg13_6 := rk f13.body 6
noncomputable def reg13_7 := rk f13.body 7
noncomputable def reg13_8 := rk f13.body 8
noncomputable def reg13_9 := rk f13.body 9
theorem z13 : reg13_0.size = 1 /\ reg13_1.size = 10 /\ reg13_2.size = 38 /\ reg13_3.size = 1 /\ reg13_4.size = 6 /\ reg13_5.size = 21 /\ reg13_6.size = 1 /\ reg13_7.size = 7 /\ reg13_8.size = 7 /\ reg13_9.size = 25 := by and_intros <;> kernel_rfl
theorem code13_is : f13.body = some (.seq (.region 0 reg13_0 false) (.seq (.region 1 reg13_1 false) (.seq (.seq (.region 2 reg13_2 false) (.cond (.tmp 52 ) (.seq (.region 3 reg13_3 false) (.ret)) (.skip))) (.seq (.region 4 reg13_4 false) (.seq (.seq (.region 5 reg13_5 false) (.cond (.tmp 77 ) (.seq (.region 6 reg13_6 false) (.ret)) (.skip))) (.seq (.region 7 reg13_7 false) (.seq (.region 8 reg13_8 false) (.seq (.region 9 reg13_9 false) (.ret))))))))) := by kernel_rfl
def zTr' : Obj := .cells #[.slice none 0 0, .slice none 0 0, .slice none 0 0, .bool false] 33
def FxBack (fr c : Frame) (cs : List Frame) : Prop := ∀ (cells : Array Value) (F : Nat -> List Ans) (ord : List Nat) (k : Bool) (w : World), TrA cells 2 F ord [2, -2, 9, 0] k w -> F 0 = [⟨false, 10, []⟩] ->
 Walk prog true (DR (fun _ => none)) (fun g w' => g = G (c.finish (.bool true)) cs /\ (∀ b, b < w.heap.size -> w'.heap[b]? = w.heap[b]?) /\ w.heap.size <= w'.heap.size) (G (fr.finish (.agg cells)) (c :: cs)) w
section
variable {c : Frame} {cs : List Frame}
theorem fixed_in (c : Frame) (cs : List Frame) (w : World) :
  Walk prog true (DR (fun _ => none)) (fun g w' => ∃ fr, g = G (Frame.enter prog 52 #[.slice (some ⟨w.heap.size, 0, none⟩) 2 2, .slice (some ⟨w.heap.size + 3, 0, none⟩) 2 2, .slice (some ⟨w.heap.size + 4, 0, none⟩) fxSl.length 6, .int .i64 99] .normal) (fr :: c :: cs) /\ (∀ b, b < w.heap.size -> w'.heap[b]? = w.heap[b]?) /\ w.heap.size <= w'.heap.size /\
    w'.heap[w.heap.size]? = some (.cells fxW 2) /\ OpsIn (w.heap.size + 3) 0 2 (fxOa (w.heap.size + 1) (w.heap.size + 2)) (fun _ => 1) (fun _ => 1) Pi w' /\ (∀ (j : Nat) (z : Int), fxSl[j]? = some z -> w'.cell? ⟨w.heap.size + 4, 0 + j, none⟩ = some (.int .i64 z)) /\ FxBack fr c cs)
   (G (Frame.enter prog 13 #[] .normal) (c :: cs)) w := by
 have hA : ∀ b, Az (fun _ => none) b := fun b => ⟨fun _ _ _ _ h => (by cases h), fun _ _ h => (by cases h)⟩
 rw [enter_at _ func13 code13_is]
 simp only [ntmps13, ez, Nat.reduceAdd, Nat.reduceSub]
 obtain ⟨T, hT⟩ : ∃ T, w.heap.size = T := ⟨_, rfl⟩
 rw [hT]
 refine Aa z13 ?_
 (refine Wa ?_; try walk_nrm)
 have s1 : (w.alloc (.cells fxW 2)).heap.size = T + 1 := by simp [hT]
 have o1 : ∀ b, b < T -> (w.alloc (.cells fxW 2)).heap[b]? = w.heap[b]? := fun b hb => Ad _ _ (by omega)
 have d1 : (w.alloc (.cells fxW 2)).heap[T]? = some (.cells fxW 2) := hT ▸ hAw w (.cells fxW 2)
 try simp only [hT]
 change Walk prog true _ _ _ (w.alloc (.cells fxW 2))
 generalize w.alloc (.cells fxW 2) = x1 at *
 refine Aa z13 ?_
 (refine Wa ?_; try walk_nrm)
 have s2 : (x1.alloc (.cells fxA 45)).heap.size = (T + 1) + 1 := by simp [s1]
 have o2 : ∀ b, b < (T + 1) -> (x1.alloc (.cells fxA 45)).heap[b]? = x1.heap[b]? := fun b hb => Ad _ _ (by omega)
 have d2 : (x1.alloc (.cells fxA 45)).heap[(T + 1)]? = some (.cells fxA 45) := s1 ▸ hAw x1 (.cells fxA 45)
 try simp only [s1]
 change Walk prog true _ _ _ (x1.alloc (.cells fxA 45))
 generalize x1.alloc (.cells fxA 45) = x2 at *
 refine Aa z13 ?_
 (refine Wa ?_; try walk_nrm)
 have s3 : (x2.alloc (.cells fxB 45)).heap.size = (T + 2) + 1 := by simp [s2]
 have o3 : ∀ b, b < (T + 2) -> (x2.alloc (.cells fxB 45)).heap[b]? = x2.heap[b]? := fun b hb => Ad _ _ (by omega)
 have d3 : (x2.alloc (.cells fxB 45)).heap[(T + 2)]? = some (.cells fxB 45) := s2 ▸ hAw x2 (.cells fxB 45)
 try simp only [s2]
 change Walk prog true _ _ _ (x2.alloc (.cells fxB 45))
 generalize x2.alloc (.cells fxB 45) = x3 at *
 refine Aa z13 ?_
 (refine Wa ?_; try walk_nrm)
 have s4 : (x3.alloc (.cells (fxH (T + 1) (T + 2)) 22)).heap.size = (T + 3) + 1 := by simp [s3]
 have o4 : ∀ b, b < (T + 3) -> (x3.alloc (.cells (fxH (T + 1) (T + 2)) 22)).heap[b]? = x3.heap[b]? := fun b hb => Ad _ _ (by omega)
 have d4 : (x3.alloc (.cells (fxH (T + 1) (T + 2)) 22)).heap[(T + 3)]? = some (.cells (fxH (T + 1) (T + 2)) 22) := s3 ▸ hAw x3 (.cells (fxH (T + 1) (T + 2)) 22)
 try simp only [s3]
 change Walk prog true _ _ _ (x3.alloc (.cells (fxH (T + 1) (T + 2)) 22))
 generalize x3.alloc (.cells (fxH (T + 1) (T + 2)) 22) = x4 at *
 refine Aa z13 ?_
 (refine Wa ?_; try walk_nrm)
 have s5 : (x4.alloc (.cells fxS 3)).heap.size = (T + 4) + 1 := by simp [s4]
 have o5 : ∀ b, b < (T + 4) -> (x4.alloc (.cells fxS 3)).heap[b]? = x4.heap[b]? := fun b hb => Ad _ _ (by omega)
 have d5 : (x4.alloc (.cells fxS 3)).heap[(T + 4)]? = some (.cells fxS 3) := s4 ▸ hAw x4 (.cells fxS 3)
 try simp only [s4]
 change Walk prog true _ _ _ (x4.alloc (.cells fxS 3))
 generalize x4.alloc (.cells fxS 3) = x5 at *
 refine Aa z13 ?_
 refine Walk.callE Ah (by rfl) (by decide) rfl func52 (by kernel_rfl) (by rfl) ?_
 walk_nrm
 have up : ∀ b, b < T + 1 -> x5.heap[b]? = x1.heap[b]? := fun b hb => (o5 b (by omega)).trans ((o4 b (by omega)).trans ((o3 b (by omega)).trans (o2 b (by omega))))
 refine .stop fun d => ⟨_, rfl, fun b hb => (up b (by omega)).trans (o1 b (by omega)), ?_, (up T (by omega)).trans d1, fx_ops ((o5 _ (by omega)).trans ((o4 _ (by omega)).trans ((o3 _ (by omega)).trans d2))) ((o5 _ (by omega)).trans ((o4 _ (by omega)).trans d3)) ((o5 _ (by omega)).trans d4), fun j z hz => ?_, ?_⟩
 ·show T <= x5.heap.size
  omega
 ·try rw [Nat.zero_add]
  refine (Ab (w := x5) d5 j).trans ?_
  have h : (fxSl.map (Value.int .i64))[j]? = some (.int .i64 z) := by rw [List.getElem?_map, hz]; rfl
  simpa [fxSl, fxS] using h
 ·clear d1 d2 d3 d4 d5 s1 s2 s3 s4 s5 o1 o2 o3 o4 o5 up hT
  intro cells F ord k w6 hTr hF0
  obtain ⟨aa, ac, oa, oc, sa, sc, rfl, n1, n2, n3⟩ := hTr.all
  obtain ⟨b, o, ta0, tc0, rfl, a0, A0⟩ := n3 0 (by decide)
  rw [hF0] at a0 A0
  obtain ⟨b0, o0, la, lc, rfl, k0, k1, _⟩ := A0 0 _ rfl
  simp only [Nat.zero_mul, Nat.add_zero, List.length_cons, List.length_nil, Nat.zero_add, Nat.reduceAdd] at a0 k0 k1
  generalize ord.length = ol at *
  simp only [Pc, List.length_cons, List.length_nil, Nat.zero_add, Nat.reduceAdd]
  refine Walk.finish Ah ?_
  walk_nrm
  (refine Wa ?_; try walk_nrm)
  have s7 : (w6.alloc zTr').heap.size = w6.heap.size + 1 := by simp
  have o7 : ∀ b, b < w6.heap.size -> (w6.alloc zTr').heap[b]? = w6.heap[b]? := fun b hb => Ad _ _ hb
  have d7 := hAw w6 zTr'
  have e7 : w6.alloc (.cells #[.slice none 0 0, .slice none 0 0, .slice none 0 0, .bool false] 33) = w6.alloc zTr' := rfl
  try rw [e7]
  clear e7
  have l1 := Al a0
  have l2 := Al k0
  generalize hT1 : w6.heap.size = T1 at *
  generalize w6.alloc zTr' = w7 at *
  unfold zTr' at d7
  refine Am 33 (.tmp 1) (.tmp 14) Ah (by rfl) (by decide) rfl T1 #[.slice (some ⟨b, o, none⟩) 2 ac, .slice oa ol oc, .slice sa 4 sc, .bool k] _ 33 rfl rfl d7 (by kernel_rfl) (by rfl) (by simp [Value.oneCell']) (hA _) ?_
  have d8 := Ba (cells := #[.slice (some ⟨b, o, none⟩) 2 ac, .slice oa ol oc, .slice sa 4 sc, .bool k]) d7
  have o8 : ∀ x, x < T1 -> (w7.setRow T1 #[.slice (some ⟨b, o, none⟩) 2 ac, .slice oa ol oc, .slice sa 4 sc, .bool k]).heap[x]? = w6.heap[x]? := fun x hx => (Ap _ _ (by omega)).trans (o7 x hx)
  have s8 := Ay w7 T1 #[.slice (some ⟨b, o, none⟩) 2 ac, .slice oa ol oc, .slice sa 4 sc, .bool k]
  rw [s7] at s8
  generalize w7.setRow T1 #[.slice (some ⟨b, o, none⟩) 2 ac, .slice oa ol oc, .slice sa 4 sc, .bool k] = w8 at *
  have hc8 : ∀ {x j : Nat} {v : Value}, x < T1 -> w6.cell? ⟨x, j, none⟩ = some v -> w8.cell? ⟨x, j, none⟩ = some v := fun {x j v} h e => (cBk (a := ⟨x, j, none⟩) (o8 x h)).trans e
  have x0 : w8.cell? ⟨T1, 0, none⟩ = some (.slice (some ⟨b, o, none⟩) 2 ac) := (Ab d8 0).trans rfl
  have x2 : w8.cell? ⟨T1, 2, none⟩ = some (.slice sa 4 sc) := (Ab d8 2).trans rfl
  have x1 := hc8 l1 a0
  have x3 := hc8 l2 k0
  have x4 := hc8 l2 k1
  have nl8 : NumA sa [2, -2, 9, 0] w8 := fun i x hx => by
   obtain ⟨bb, oo, e, h⟩ := n2 i x hx
   exact ⟨bb, oo, e, hc8 (by have := Al h; omega) h⟩
  clear n1 n2 n3 A0 a0 k0 k1 d7 d8 hTr s7 o7 hc8 l1 l2
  try walk_nrm
  refine Aa z13 ?_
  (refine Wa ?_; try walk_nrm)
  have s9 : (w8.alloc (.cells #[.int .i64 2, .int .i64 (-2), .int .i64 9, .int .i64 0] 2)).heap.size = T1 + 2 := by simp [s8]
  have o9 : ∀ x, x < T1 + 1 -> (w8.alloc (.cells #[.int .i64 2, .int .i64 (-2), .int .i64 9, .int .i64 0] 2)).heap[x]? = w8.heap[x]? := fun x hx => Ad _ _ (by omega)
  have d9 : NumB (w8.alloc (.cells #[.int .i64 2, .int .i64 (-2), .int .i64 9, .int .i64 0] 2)) (T1 + 1) [2, -2, 9, 0] := s8 ▸ hAw w8 (.cells #[.int .i64 2, .int .i64 (-2), .int .i64 9, .int .i64 0] 2)
  have nl9 : NumA sa [2, -2, 9, 0] (w8.alloc (.cells #[.int .i64 2, .int .i64 (-2), .int .i64 9, .int .i64 0] 2)) := nl8.chg ⟨by simp, fun b hb _ => Ad _ _ hb⟩
  try simp only [s8]
  clear x0 x1 x2 x3 x4 nl8
  generalize w8.alloc (.cells #[.int .i64 2, .int .i64 (-2), .int .i64 9, .int .i64 0] 2) = w9 at *
  have hsn := sn_w (main := true) (V := fun _ => none) sa (some ⟨T1 + 1, 0, none⟩) [2, -2, 9, 0] sc 4 (by decide) w9 nl9 (fun i x hx => ⟨T1 + 1, 0, rfl, by rw [Nat.zero_add]; exact d9.cell hx⟩)
  refine Aa z13 ?_
  refine qV (x := .bool true) (W := w9) func23 ?_ ?_
  ·walk_nrm
   exact hsn
  clear hsn nl9 d9
  walk_nrm
  refine Aa z13 ?_
  have hnw := new_w (main := true) (V := fun _ => none) 2 ⟨by decide, by decide, by kernel_rfl⟩ w9 (fun b _ => hA b)
  rw [s9] at hnw
  refine qW (Post := fun v w' => v = .tuple #[.pointer (some ⟨T1 + 2 + 1, 0, none⟩), .int .i64 0] /\ NwR w9 (T1 + 2 + 1) (T1 + 2) 2 2 w') func14 ?_ ?_
  ·walk_nrm
   exact hnw
  rintro v w10 ⟨rfl, E10⟩
  have I10 := E10.I
  have z10 := E10.size
  have u10 : ∀ b, b < T1 -> w10.heap[b]? = w6.heap[b]? := fun b hb => (E10.old b (by omega)).trans ((o9 b (by omega)).trans (o8 b hb))
  clear hnw E10 o9 o8 s8
  have hq1 := fun w => Ce (P := prog) 24 Dr (some ⟨T1 + 2 + 1, 0, none⟩) w
  have hq2 := fun w es => Cp (P := prog) 24 Dr (some ⟨T1 + 2 + 1, 0, none⟩) w es
  simp only [Option.isNone_some] at hq1
  generalize hSB : T1 + 2 = SB at *
  generalize hLB : SB + 1 = LB at *
  walk_nrm
  refine Aa z13 ?_
  have hpt := rput_w (main := true) (V := fun _ => none) hA I10 0 7 (by decide)
  refine Cq (Post := fun v w' => v = .int .i64 0 /\ SolR LB SB 2 fz1 w10 w') ?_ Ah (by rfl) (by decide) rfl func53 (by kernel_rfl) (by rfl) ⟨rfl, rfl, _, func13⟩ ?_
  ·walk_nrm
   exact hpt
  rintro v w11 ⟨rfl, H11⟩
  clear hpt
  walk_nrm
  refine Aa z13 ?_
  have hpt := rput_w (main := true) (V := fun _ => none) hA H11.I 1 8 (by decide)
  refine Cq (Post := fun v w' => v = .int .i64 0 /\ SolR LB SB 2 fz2 w11 w') ?_ Ah (by rfl) (by decide) rfl func53 (by kernel_rfl) (by rfl) ⟨rfl, rfl, _, func13⟩ ?_
  ·walk_nrm
   exact hpt
  rintro v w12 ⟨rfl, H12⟩
  clear hpt
  walk_nrm
  refine Aa z13 ?_
  have hpt := rput_w (main := true) (V := fun _ => none) hA H12.I 2 9 (by decide)
  refine Cq (Post := fun v w' => v = .int .i64 0 /\ SolR LB SB 2 fz3 w12 w') ?_ Ah (by rfl) (by decide) rfl func53 (by kernel_rfl) (by rfl) ⟨rfl, rfl, _, func13⟩ ?_
  ·walk_nrm
   exact hpt
  rintro v w13 ⟨rfl, H13⟩
  clear hpt
  walk_nrm
  refine Aa z13 ?_
  have hgt := rget_w (main := true) (V := fun _ => none) hA H13.I 2
  rw [fz_g2] at hgt
  refine Cq (Post := fun x w' => ∃ a er, x = .tuple #[.int .i64 a, .int .i64 er] /\ (⟨true, 9, []⟩ : Ans) = ⟨er == 0, if er = 0 then a else er, []⟩ /\ SolR LB SB 2 fz3 w13 w') ?_ Ah (by rfl) (by decide) rfl func54 (by kernel_rfl) (by rfl) ⟨rfl, rfl, _, func13⟩ ?_
  ·walk_nrm
   exact hgt
  rintro v w14 ⟨a, er, rfl, he, H14⟩
  clear hgt
  obtain ⟨rfl, rfl⟩ := got_ok he
  clear he
  walk_nrm
  refine Aa z13 ?_
  have hgt := rget_w (main := true) (V := fun _ => none) hA H14.I 0
  rw [fz_g0] at hgt
  refine Cq (Post := fun x w' => ∃ a er, x = .tuple #[.int .i64 a, .int .i64 er] /\ (⟨false, 10, []⟩ : Ans) = ⟨er == 0, if er = 0 then a else er, []⟩ /\ SolR LB SB 2 fz3 w14 w') ?_ Ah (by rfl) (by decide) rfl func54 (by kernel_rfl) (by rfl) ⟨rfl, rfl, _, func13⟩ ?_
  ·walk_nrm
   exact hgt
  rintro v w15 ⟨a, er, rfl, he, H15⟩
  clear hgt
  obtain rfl := got_no he
  clear he
  walk_nrm
  refine Aa z13 ?_
  have hhi := rhigh_w (main := true) (V := fun _ => none) hA H15.I 1 5 2 fz3 ⟨true, 2, []⟩ (fz_hi LB SB)
  refine Cq (Post := fun x w' => x = .int .i64 2 /\ SolR LB SB 2 fz3 w15 w') ?_ Ah (by rfl) (by decide) rfl func55 (by kernel_rfl) (by rfl) ⟨rfl, rfl, _, func13⟩ ?_
  ·walk_nrm
   exact hhi
  rintro v w16 ⟨rfl, H16⟩
  clear hhi
  walk_nrm
  refine Aa z13 ?_
  have hth := rthere_w (main := true) (V := fun _ => none) hA H16.I 1
  rw [fz_t1] at hth
  refine Cq (Post := fun x w' => x = .bool true /\ SolR LB SB 2 fz3 w16 w') ?_ Ah (by rfl) (by decide) rfl func56 (by kernel_rfl) (by rfl) ⟨rfl, rfl, _, func13⟩ ?_
  ·walk_nrm
   exact hth
  rintro v w17 ⟨rfl, H17⟩
  clear hth
  walk_nrm
  refine Aa z13 ?_
  have hth := rthere_w (main := true) (V := fun _ => none) hA H17.I 0
  rw [fz_t0] at hth
  refine Cq (Post := fun x w' => x = .bool false /\ SolR LB SB 2 fz3 w17 w') ?_ Ah (by rfl) (by decide) rfl func56 (by kernel_rfl) (by rfl) ⟨rfl, rfl, _, func13⟩ ?_
  ·walk_nrm
   exact hth
  rintro v w18 ⟨rfl, H18⟩
  clear hth
  walk_nrm
  refine Aa z13 ?_
  have HH := ((((((H11.trans H12).trans H13).trans H14).trans H15).trans H16).trans H17).trans H18
  have zz := HH.size
  have oo := HH.old
  exact Bk rfl rfl func13 rfl (.stop fun d => ⟨rfl, fun b hb => (oo b (by omega) (by omega) (by omega)).trans (u10 b (by omega)), by show T1 <= w18.heap.size; omega⟩)
end
theorem fixed_run (c : Frame) (cs : List Frame) (w : World) : Runs (fun g w' => g = G (c.finish (.bool true)) cs /\ (∀ b, b < w.heap.size -> w'.heap[b]? = w.heap[b]?) /\ w.heap.size <= w'.heap.size) (G (Frame.enter prog 13 #[] .normal) (c :: cs)) w := by
 refine Runs.walk (fixed_in c cs w) ?_
 rintro _ w1 ⟨fr, rfl, O1, Z1, hw1, I1, hs1, hB⟩
 refine Runs.then (splay_any (.slice (some ⟨w.heap.size, 0, none⟩) 2 2) [2, 7] (by decide) (.slice (some ⟨w.heap.size + 3, 0, none⟩) 2 2) 99 (some ⟨w.heap.size + 3, 0, none⟩) (w.heap.size + 3) 0 2 2 (fun _ => rfl) (by decide) _ _ _ _ (some ⟨w.heap.size + 4, 0, none⟩) 6 fxSl (by decide) fr (c :: cs) w1 (NumB.lsR (xs := [2, 7]) hw1) fx_is I1 (fun j z hz => ⟨_, 0, rfl, hs1 j z hz⟩) (fun w' _ => firstOps_some _ 2 2 w' (by decide) (.inr ⟨_, rfl⟩))) ?_
 rintro _ w2 ⟨cells, H, rfl⟩
 have O2 := H.old
 have Z2 := H.size
 have hT := H.tr.tr
 rw [fx_state] at hT
 refine Runs.walk (hB cells _ _ _ w2 hT (fx_run _ _)) ?_
 rintro _ w3 ⟨rfl, O3, Z3⟩
 exact .now ⟨rfl, fun b hb => (O3 b (by omega)).trans ((O2 b (by omega)).trans (O1 b hb)), by omega⟩
end Go.Proofs.Ytflcclneedldoaa
