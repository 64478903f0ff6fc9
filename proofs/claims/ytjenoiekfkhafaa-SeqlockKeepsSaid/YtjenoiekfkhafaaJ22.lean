/- Part 22. -/
import Derived.Test.YtjenoiekfkhafaaJ21
set_option linter.unusedSimpArgs false
set_option linter.unusedVariables false
set_option linter.unusedVariables false
set_option maxHeartbeats 8000000
set_option maxRecDepth 100000
namespace Go.Proofs.Ytjenoiekfkhafaa
open Go.Conc Go.RowKit Go.Relay
open Go.ConcN (upd upd_ne upd_same)
section
def fxOps (a b c d : Int) : Nat → List OpV := fun i => ([[⟨1, 1, 10, 1⟩], [⟨a, b, c, d⟩]] : List (List OpV)).getD i []
def fxSl : List Int := [1, 1, 0, 0, 0, 0, 0, 1, 1]
def fySl : List Int := [1, 0, 0, 0, 0, 0, 1]
def fxA : Array Value := #[.int .i64 1, .int .i64 1, .int .i64 10, .int .i64 1]
def fxB (a b c d : Int) : Array Value := #[.int .i64 a, .int .i64 b, .int .i64 c, .int .i64 d]
def fxW : Array Value := #[.int .i64 1, .int .i64 2]
def fxH (A B : Nat) : Array Value := #[.slice (some ⟨A, 0, none⟩) 1 1, .slice (some ⟨B, 0, none⟩) 1 1]
def fxS : Array Value := #[.int .i64 1, .int .i64 1, .int .i64 0, .int .i64 0, .int .i64 0, .int .i64 0, .int .i64 0, .int .i64 1, .int .i64 1]
def fyS : Array Value := #[.int .i64 1, .int .i64 0, .int .i64 0, .int .i64 0, .int .i64 0, .int .i64 0, .int .i64 1]
def fxOa (A B : Nat) (i : Nat) : Option Addr := if i = 0 then some ⟨A, 0, none⟩ else some ⟨B, 0, none⟩
theorem fx_run (lb : Nat) : ((playO (sqLa lb (sqK ([1, 2] : List Int).length)) (sq0 [1, 2]) (fxOps 3 1 0 0) 2 99 fxSl).1.th 1).ans = [⟨false, 0, []⟩] := by kernel_rfl
theorem fx_state (lb : Nat) : stL (sqK ([1, 2] : List Int).length) (playO (sqLa lb (sqK ([1, 2] : List Int).length)) (sq0 [1, 2]) (fxOps 3 1 0 0) 2 99 fxSl).1.s = [2, 10, 11] := by kernel_rfl
theorem fy_run (lb : Nat) : ((playO (sqLa lb (sqK ([1, 2] : List Int).length)) (sq0 [1, 2]) (fxOps 4 0 0 0) 2 99 fySl).1.th 1).ans = [⟨true, 0, [1, 11]⟩] := by kernel_rfl
theorem fx_ops {a b c d : Int} {A B Hd : Nat} {w : World} (h1 : w.heap[A]? = some (.cells fxA 47)) (h2 : w.heap[B]? = some (.cells (fxB a b c d) 47)) (h4 : w.heap[Hd]? = some (.cells (fxH A B) 34)) : OpsIn Hd 0 2 (fxOa A B) (fun _ => 1) (fun _ => 1) (fxOps a b c d) w := by
  refine ⟨fun i hi => ?_, fun i hi => Nat.le_refl _, fun i hi => .inr ?_, fun i hi => ?_, fun i hi j o ho => ?_⟩
  · rw [Nat.zero_add]
    refine (cell_of h4 i).trans ?_
    match i, hi with
    | 0, _ => rfl
    | 1, _ => rfl
  · match i, hi with
    | 0, _ => exact ⟨_, rfl⟩
    | 1, _ => exact ⟨_, rfl⟩
  · match i, hi with
    | 0, _ => rfl
    | 1, _ => rfl
  · match i, hi, ho with
    | 0, _, ho =>
      match j, ho with
      | 0, ho => cases ho; exact ⟨A, 0, rfl, (cell_of h1 _).trans rfl, (cell_of h1 _).trans rfl, (cell_of h1 _).trans rfl, (cell_of h1 _).trans rfl⟩
      | j + 1, ho => exact absurd ho (by simp [fxOps])
    | 1, _, ho =>
      match j, ho with
      | 0, ho => cases ho; exact ⟨B, 0, rfl, (cell_of h2 _).trans rfl, (cell_of h2 _).trans rfl, (cell_of h2 _).trans rfl, (cell_of h2 _).trans rfl⟩
      | j + 1, ho => exact absurd ho (by simp [fxOps])
theorem fx_lsR {T : Nat} {w : World} (h : w.heap[T]? = some (.cells fxW 2)) : LsR (.slice (some ⟨T, 0, none⟩) 2 2) [1, 2] w := NumB.lsR (xs := [1, 2]) h
def fz1 : Sq := sqDone 1 (sq0 [1, 2]) false (fun i => ([5, 6] : List Int).getD i 0)
def fz2 : Sq := sqDone 1 fz1 true (fun i => ([1] : List Int).getD i 0)
theorem fz_even : ¬ sqOdd (sq0 [1, 2]).v ∧ ¬ sqOdd fz1.v ∧ ¬ sqOdd fz2.v := by
  have h : decide (¬ sqOdd (sq0 [1, 2]).v ∧ ¬ sqOdd fz1.v ∧ ¬ sqOdd fz2.v) = true := by kernel_rfl
  exact of_decide_eq_true h
theorem fz_words : wdL 1 fz2 = [6, 6] := by kernel_rfl
theorem fz_ver : fz2.v = 4 := by kernel_rfl
theorem fz_v1 : ValsIn 1 (fun i => ([5, 6] : List Int).getD i 0) [5, 6] := fun i hi => by
  match i, hi with
  | 0, _ => rfl
  | 1, _ => rfl
theorem fz_v2 : ValsIn 1 (fun i => ([1] : List Int).getD i 0) [1] := fun i hi => by
  match i, hi with
  | 0, _ => rfl
  | 1, _ => rfl
structure FxT (X b o ac b0 o0 tc0 sb so sc : Nat) (v1 : Value) (k : Bool) (w : World) : Prop where
  x : w.heap[X]? = some (.cells (trC (.slice (some ⟨b, o, none⟩) 2 ac) v1 (.slice (some ⟨sb, so, none⟩) 3 sc) k) 31)
  a1 : w.cell? ⟨b, o + 1, none⟩ = some (.slice (some ⟨b0, o0, none⟩) 1 tc0)
  n0 : w.cell? ⟨b0, o0, none⟩ = some (.bool false)
  z0 : w.cell? ⟨sb, so, none⟩ = some (.int .i64 2)
  z2 : w.cell? ⟨sb, so + 2, none⟩ = some (.int .i64 11)
theorem FxT.old {X b o ac b0 o0 tc0 sb so sc : Nat} {v1 : Value} {k : Bool} {w w' : World} (H : FxT X b o ac b0 o0 tc0 sb so sc v1 k w) (h : ∀ b, b < w.heap.size → w'.heap[b]? = w.heap[b]?) : FxT X b o ac b0 o0 tc0 sb so sc v1 k w' := by
  have hc : ∀ {b j : Nat} {v : Value}, w.cell? ⟨b, j, none⟩ = some v → w'.cell? ⟨b, j, none⟩ = some v := fun {b j v} e => (World.cell?_of_block (a := ⟨b, j, none⟩) (h b (cell_lt' e))).trans e
  exact ⟨(h X (Array.getElem?_eq_some_iff.1 H.x).1).trans H.x, hc H.a1, hc H.n0, hc H.z0, hc H.z2⟩
noncomputable def reg12_0 := rg Try.f12.body [0]
noncomputable def reg12_1 := rg Try.f12.body [1, 0]
noncomputable def reg12_2 := rg Try.f12.body [1, 1, 0]
noncomputable def reg12_3 := rg Try.f12.body [1, 1, 1, 0]
noncomputable def reg12_4 := rg Try.f12.body [1, 1, 1, 1, 0, 0]
noncomputable def reg12_5 := rg Try.f12.body [1, 1, 1, 1, 0, 1, 0, 0]
noncomputable def reg12_6 := rg Try.f12.body [1, 1, 1, 1, 1, 0]
noncomputable def reg12_7 := rg Try.f12.body [1, 1, 1, 1, 1, 1, 0, 0]
noncomputable def reg12_8 := rg Try.f12.body [1, 1, 1, 1, 1, 1, 0, 1, 0, 0]
noncomputable def reg12_9 := rg Try.f12.body [1, 1, 1, 1, 1, 1, 1, 0]
noncomputable def reg12_10 := rg Try.f12.body [1, 1, 1, 1, 1, 1, 1, 1, 0]
theorem z12 : List.range reg12_0.size = [0] ∧ List.range reg12_1.size = [0, 1, 2] ∧ List.range reg12_2.size = [0, 1, 2, 3, 4, 5, 6, 7, 8] ∧ List.range reg12_3.size = [0, 1, 2, 3, 4, 5, 6, 7, 8] ∧ List.range reg12_4.size = [0, 1, 2, 3, 4, 5, 6, 7, 8, 9, 10, 11, 12, 13, 14, 15, 16, 17, 18, 19, 20, 21, 22, 23, 24, 25, 26, 27, 28, 29, 30, 31, 32, 33, 34, 35, 36, 37, 38, 39, 40, 41, 42, 43, 44, 45, 46, 47, 48, 49, 50, 51, 52, 53, 54, 55, 56, 57, 58, 59, 60, 61, 62, 63, 64, 65, 66] ∧ List.range reg12_5.size = [0] ∧ List.range reg12_6.size = [0, 1, 2] ∧ List.range reg12_7.size = [0, 1, 2, 3, 4, 5, 6, 7, 8, 9, 10, 11, 12, 13] ∧ List.range reg12_8.size = [0] ∧ List.range reg12_9.size = [0, 1, 2, 3, 4, 5, 6] ∧ List.range reg12_10.size = [0, 1, 2, 3, 4, 5, 6, 7, 8, 9, 10, 11, 12, 13] := by refine ⟨?_, ?_, ?_, ?_, ?_, ?_, ?_, ?_, ?_, ?_, ?_⟩ <;> kernel_rfl
theorem code12_is : Try.f12.body = some (.seq (.region 0 reg12_0 false) (.seq (.region 1 reg12_1 false) (.seq (.region 2 reg12_2 false) (.seq (.region 3 reg12_3 false) (.seq (.seq (.region 4 reg12_4 false) (.cond (.tmp 89 ) (.seq (.region 5 reg12_5 false) (.ret)) (.skip))) (.seq (.region 6 reg12_6 false) (.seq (.seq (.region 7 reg12_7 false) (.cond (.tmp 105 ) (.seq (.region 8 reg12_8 false) (.ret)) (.skip))) (.seq (.region 9 reg12_9 false) (.seq (.region 10 reg12_10 false) (.ret)))))))))) := by kernel_rfl
def zTr' : Obj := .cells #[.slice none 0 0, .slice none 0 0, .slice none 0 0, .bool false] 31
def FxBack2 (X b o ac b0 o0 tc0 sb so sc : Nat) (v1 : Value) (k : Bool) (fr c : Frame) (cs : List Frame) : Prop := ∀ (cells : Array Value) (F : Nat → List Ans) (ord : List Nat) (sts : List Int) (k2 : Bool) (w : World), FxT X b o ac b0 o0 tc0 sb so sc v1 k w → TrA cells 2 F ord sts k2 w → F 1 = [⟨true, 0, [1, 11]⟩] →
  Walk Try.prog true (DR (fun _ => none)) (fun g w' => g = G (c.finish (.bool true)) cs ∧ (∀ b, b < w.heap.size → w'.heap[b]? = w.heap[b]?) ∧ w.heap.size ≤ w'.heap.size) (G (fr.finish (.agg cells)) (c :: cs)) w
def FxBack1 (T : Nat) (fr c : Frame) (cs : List Frame) : Prop := ∀ (cells : Array Value) (F : Nat → List Ans) (ord : List Nat) (k : Bool) (w : World), TrA cells 2 F ord [2, 10, 11] k w → F 1 = [⟨false, 0, []⟩] → w.heap[T]? = some (.cells fxA 47) →
  Walk Try.prog true (DR (fun _ => none)) (fun g w' => ∃ fr2 b o ac b0 o0 tc0 sb so sc v1, g = G (Frame.enter Try.prog 14 #[.slice (some ⟨w.heap.size + 1, 0, none⟩) 2 2, .slice (some ⟨w.heap.size + 3, 0, none⟩) 2 2, .slice (some ⟨w.heap.size + 4, 0, none⟩) fySl.length 7, .int .i64 99] .normal) (fr2 :: c :: cs) ∧ (∀ b, b < w.heap.size → w'.heap[b]? = w.heap[b]?) ∧ w.heap.size ≤ w'.heap.size ∧
      FxT w.heap.size b o ac b0 o0 tc0 sb so sc v1 k w' ∧ w'.heap[w.heap.size + 1]? = some (.cells fxW 2) ∧ OpsIn (w.heap.size + 3) 0 2 (fxOa T (w.heap.size + 2)) (fun _ => 1) (fun _ => 1) (fxOps 4 0 0 0) w' ∧ (∀ (j : Nat) (z : Int), fySl[j]? = some z → w'.cell? ⟨w.heap.size + 4, 0 + j, none⟩ = some (.int .i64 z)) ∧ FxBack2 w.heap.size b o ac b0 o0 tc0 sb so sc v1 k fr2 c cs) (G (fr.finish (.agg cells)) (c :: cs)) w
section
variable {c : Frame} {cs : List Frame}
theorem fixed_in (c : Frame) (cs : List Frame) (w : World) :
    Walk Try.prog true (DR (fun _ => none)) (fun g w' => ∃ fr, g = G (Frame.enter Try.prog 14 #[.slice (some ⟨w.heap.size + 1, 0, none⟩) 2 2, .slice (some ⟨w.heap.size + 3, 0, none⟩) 2 2, .slice (some ⟨w.heap.size + 4, 0, none⟩) fxSl.length 9, .int .i64 99] .normal) (fr :: c :: cs) ∧ (∀ b, b < w.heap.size → w'.heap[b]? = w.heap[b]?) ∧ w.heap.size ≤ w'.heap.size ∧
        w'.heap[w.heap.size]? = some (.cells fxA 47) ∧ w'.heap[w.heap.size + 1]? = some (.cells fxW 2) ∧ OpsIn (w.heap.size + 3) 0 2 (fxOa w.heap.size (w.heap.size + 2)) (fun _ => 1) (fun _ => 1) (fxOps 3 1 0 0) w' ∧ (∀ (j : Nat) (z : Int), fxSl[j]? = some z → w'.cell? ⟨w.heap.size + 4, 0 + j, none⟩ = some (.int .i64 z)) ∧ FxBack1 w.heap.size fr c cs)
      (G (Frame.enter Try.prog 12 #[] .normal) (c :: cs)) w := by
  have hA : ∀ b, Apart (fun _ => none) b := fun b => ⟨fun _ _ _ _ h => (by cases h), fun _ _ h => (by cases h)⟩
  rw [enter_at _ Try.func12 code12_is]
  simp only [Try.ntmps12, ez, Nat.reduceAdd, Nat.reduceSub]
  obtain ⟨T, hT⟩ : ∃ T, w.heap.size = T := ⟨_, rfl⟩
  rw [hT]
  repeat (first | refine Walk.cx ?_ | (refine Walk.cReg ?_; simp only [z12]) | (refine Walk.oq ?_; try walk_nrm) | (refine Walk.un ?_; walk_nrm))
  (refine Walk.oa ?_; try walk_nrm)
  have s1 : (w.alloc (.cells fxA 47)).heap.size = T + 1 := by simp [hT]
  have o1 : ∀ b, b < T → (w.alloc (.cells fxA 47)).heap[b]? = w.heap[b]? := fun b hb => heap_new_lt _ _ (by omega)
  have d1 : (w.alloc (.cells fxA 47)).heap[T]? = some (.cells fxA 47) := hT ▸ heap_alloc_new w (.cells fxA 47)
  try simp only [hT]
  change Walk Try.prog true _ _ _ (w.alloc (.cells fxA 47))
  generalize w.alloc (.cells fxA 47) = x1 at *
  repeat (first | refine Walk.cx ?_ | (refine Walk.cReg ?_; simp only [z12]) | (refine Walk.oq ?_; try walk_nrm) | (refine Walk.un ?_; walk_nrm))
  (refine Walk.oa ?_; try walk_nrm)
  have s2 : (x1.alloc (.cells fxW 2)).heap.size = (T + 1) + 1 := by simp [s1]
  have o2 : ∀ b, b < (T + 1) → (x1.alloc (.cells fxW 2)).heap[b]? = x1.heap[b]? := fun b hb => heap_new_lt _ _ (by omega)
  have d2 : (x1.alloc (.cells fxW 2)).heap[(T + 1)]? = some (.cells fxW 2) := s1 ▸ heap_alloc_new x1 (.cells fxW 2)
  try simp only [s1]
  change Walk Try.prog true _ _ _ (x1.alloc (.cells fxW 2))
  generalize x1.alloc (.cells fxW 2) = x2 at *
  repeat (first | refine Walk.cx ?_ | (refine Walk.cReg ?_; simp only [z12]) | (refine Walk.oq ?_; try walk_nrm) | (refine Walk.un ?_; walk_nrm))
  (refine Walk.oa ?_; try walk_nrm)
  have s3 : (x2.alloc (.cells (fxB 3 1 0 0) 47)).heap.size = (T + 2) + 1 := by simp [s2]
  have o3 : ∀ b, b < (T + 2) → (x2.alloc (.cells (fxB 3 1 0 0) 47)).heap[b]? = x2.heap[b]? := fun b hb => heap_new_lt _ _ (by omega)
  have d3 : (x2.alloc (.cells (fxB 3 1 0 0) 47)).heap[(T + 2)]? = some (.cells (fxB 3 1 0 0) 47) := s2 ▸ heap_alloc_new x2 (.cells (fxB 3 1 0 0) 47)
  try simp only [s2]
  change Walk Try.prog true _ _ _ (x2.alloc (.cells (fxB 3 1 0 0) 47))
  generalize x2.alloc (.cells (fxB 3 1 0 0) 47) = x3 at *
  repeat (first | refine Walk.cx ?_ | (refine Walk.cReg ?_; simp only [z12]) | (refine Walk.oq ?_; try walk_nrm) | (refine Walk.un ?_; walk_nrm))
  (refine Walk.oa ?_; try walk_nrm)
  have s4 : (x3.alloc (.cells (fxH T (T + 2)) 34)).heap.size = (T + 3) + 1 := by simp [s3]
  have o4 : ∀ b, b < (T + 3) → (x3.alloc (.cells (fxH T (T + 2)) 34)).heap[b]? = x3.heap[b]? := fun b hb => heap_new_lt _ _ (by omega)
  have d4 : (x3.alloc (.cells (fxH T (T + 2)) 34)).heap[(T + 3)]? = some (.cells (fxH T (T + 2)) 34) := s3 ▸ heap_alloc_new x3 (.cells (fxH T (T + 2)) 34)
  try simp only [s3]
  change Walk Try.prog true _ _ _ (x3.alloc (.cells (fxH T (T + 2)) 34))
  generalize x3.alloc (.cells (fxH T (T + 2)) 34) = x4 at *
  repeat (first | refine Walk.cx ?_ | (refine Walk.cReg ?_; simp only [z12]) | (refine Walk.oq ?_; try walk_nrm) | (refine Walk.un ?_; walk_nrm))
  (refine Walk.oa ?_; try walk_nrm)
  have s5 : (x4.alloc (.cells fxS 3)).heap.size = (T + 4) + 1 := by simp [s4]
  have o5 : ∀ b, b < (T + 4) → (x4.alloc (.cells fxS 3)).heap[b]? = x4.heap[b]? := fun b hb => heap_new_lt _ _ (by omega)
  have d5 : (x4.alloc (.cells fxS 3)).heap[(T + 4)]? = some (.cells fxS 3) := s4 ▸ heap_alloc_new x4 (.cells fxS 3)
  try simp only [s4]
  change Walk Try.prog true _ _ _ (x4.alloc (.cells fxS 3))
  generalize x4.alloc (.cells fxS 3) = x5 at *
  repeat (first | refine Walk.cx ?_ | (refine Walk.cReg ?_; simp only [z12]) | (refine Walk.oq ?_; try walk_nrm) | (refine Walk.un ?_; walk_nrm))
  refine Walk.callE (ho_of (by conv => lhs; whnf) (by kernel_rfl)) (by rfl) (by decide) rfl Try.func14 (by kernel_rfl) (by rfl) ?_
  walk_nrm
  have up1 : ∀ b, b < T + 1 → x5.heap[b]? = x1.heap[b]? := fun b hb => (o5 b (by omega)).trans ((o4 b (by omega)).trans ((o3 b (by omega)).trans (o2 b (by omega))))
  refine .stop fun d => ⟨_, rfl, fun b hb => (up1 b (by omega)).trans (o1 b (by omega)), ?_, (up1 T (by omega)).trans d1, ?_, fx_ops ((up1 T (by omega)).trans d1) ?_ ?_, fun j z hz => ?_, ?_⟩
  · show T ≤ x5.heap.size
    omega
  · exact (o5 _ (by omega)).trans ((o4 _ (by omega)).trans ((o3 _ (by omega)).trans d2))
  · exact (o5 _ (by omega)).trans ((o4 _ (by omega)).trans d3)
  · exact (o5 _ (by omega)).trans d4
  · rw [Nat.zero_add]
    refine (cell_of (w := x5) d5 j).trans ?_
    have h : (fxSl.map (Value.int .i64))[j]? = some (.int .i64 z) := by rw [List.getElem?_map, hz]; rfl
    simpa [fxSl, fxS] using h
  · clear d1 d2 d3 d4 d5 s1 s2 s3 s4 s5 o1 o2 o3 o4 o5 up1
    intro cells F ord k w6 hTr hF1 hT6
    obtain ⟨aa, ac, oa, oc, sa, sc, rfl, n1, n2, n3⟩ := hTr.all
    obtain ⟨b, o, ta0, tc0, rfl, a1, A1⟩ := n3 1 (by decide)
    rw [hF1] at a1 A1
    obtain ⟨b0, o0, la, lc, rfl, k0, _⟩ := A1 0 _ rfl
    obtain ⟨sb, so, rfl, z0⟩ := n2 0 2 rfl
    obtain ⟨sb', so', e', z2⟩ := n2 2 11 rfl
    cases e'
    simp only [Nat.zero_mul, Nat.add_zero, List.length_cons, List.length_nil, Nat.zero_add] at a1 k0 z0
    generalize ord.length = ol at *
    simp only [trC, List.length_cons, List.length_nil, Nat.zero_add, Nat.reduceAdd]
    refine Walk.finish (ho_of (by conv => lhs; whnf) (by kernel_rfl)) ?_
    walk_nrm
    (refine Walk.oa ?_; try walk_nrm)
    have s7 : (w6.alloc zTr').heap.size = w6.heap.size + 1 := by simp
    have o7 : ∀ b, b < w6.heap.size → (w6.alloc zTr').heap[b]? = w6.heap[b]? := fun b hb => heap_new_lt _ _ hb
    have d7 := heap_alloc_new w6 zTr'
    have e7 : w6.alloc (.cells #[.slice none 0 0, .slice none 0 0, .slice none 0 0, .bool false] 31) = w6.alloc zTr' := rfl
    try rw [e7]
    clear e7
    have l1 := cell_lt' a1
    have l2 := cell_lt' k0
    have l3 := (Array.getElem?_eq_some_iff.1 hT6).1
    have l4 := cell_lt' z0
    generalize hT1 : w6.heap.size = T1 at *
    generalize w6.alloc zTr' = w7 at *
    unfold zTr' at d7
    refine Walk.storeS 31 (.tmp 2) (.tmp 15) (ho_of (by conv => lhs; whnf) (by kernel_rfl)) (by rfl) (by decide) rfl T1 #[.slice (some ⟨b, o, none⟩) 2 ac, .slice oa ol oc, .slice (some ⟨sb, so, none⟩) 3 sc, .bool k] _ 31 rfl rfl d7 (by kernel_rfl) (by rfl) (by simp [Value.oneCell']) (hA _) ?_
    have d8 := setRow_self (cells := #[.slice (some ⟨b, o, none⟩) 2 ac, .slice oa ol oc, .slice (some ⟨sb, so, none⟩) 3 sc, .bool k]) d7
    have o8 : ∀ x, x < T1 → (w7.setRow T1 #[.slice (some ⟨b, o, none⟩) 2 ac, .slice oa ol oc, .slice (some ⟨sb, so, none⟩) 3 sc, .bool k]).heap[x]? = w6.heap[x]? := fun x hx => (setRow_other _ _ (by omega)).trans (o7 x hx)
    have s8 := setRow_size w7 T1 #[.slice (some ⟨b, o, none⟩) 2 ac, .slice oa ol oc, .slice (some ⟨sb, so, none⟩) 3 sc, .bool k]
    rw [s7] at s8
    generalize w7.setRow T1 #[.slice (some ⟨b, o, none⟩) 2 ac, .slice oa ol oc, .slice (some ⟨sb, so, none⟩) 3 sc, .bool k] = w8 at *
    have hc8 : ∀ {x j : Nat} {v : Value}, x < T1 → w6.cell? ⟨x, j, none⟩ = some v → w8.cell? ⟨x, j, none⟩ = some v := fun {x j v} h e => (World.cell?_of_block (a := ⟨x, j, none⟩) (o8 x h)).trans e
    have C8 : FxT T1 b o ac b0 o0 tc0 sb so sc (.slice oa ol oc) k w8 := ⟨d8, hc8 l1 a1, hc8 l2 k0, hc8 l4 z0, hc8 l4 z2⟩
    have t8 := (o8 T (by omega)).trans hT6
    clear n1 n2 n3 A1 a1 k0 z0 z2 d7 d8 hTr s7 o7 hT6 hc8
    try walk_nrm
    repeat (first | refine Walk.cx ?_ | (refine Walk.cReg ?_; simp only [z12]) | (refine Walk.oq ?_; try walk_nrm) | (refine Walk.un ?_; walk_nrm))
    (refine Walk.oa ?_; try walk_nrm)
    have s9 : (w8.alloc (.cells fxW 2)).heap.size = (T1 + 1) + 1 := by simp [s8]
    have o9 : ∀ b, b < (T1 + 1) → (w8.alloc (.cells fxW 2)).heap[b]? = w8.heap[b]? := fun b hb => heap_new_lt _ _ (by omega)
    have d9 : (w8.alloc (.cells fxW 2)).heap[(T1 + 1)]? = some (.cells fxW 2) := s8 ▸ heap_alloc_new w8 (.cells fxW 2)
    try simp only [s8]
    change Walk Try.prog true _ _ _ (w8.alloc (.cells fxW 2))
    generalize w8.alloc (.cells fxW 2) = w9 at *
    repeat (first | refine Walk.cx ?_ | (refine Walk.cReg ?_; simp only [z12]) | (refine Walk.oq ?_; try walk_nrm) | (refine Walk.un ?_; walk_nrm))
    (refine Walk.oa ?_; try walk_nrm)
    have s10 : (w9.alloc (.cells (fxB 4 0 0 0) 47)).heap.size = (T1 + 2) + 1 := by simp [s9]
    have o10 : ∀ b, b < (T1 + 2) → (w9.alloc (.cells (fxB 4 0 0 0) 47)).heap[b]? = w9.heap[b]? := fun b hb => heap_new_lt _ _ (by omega)
    have d10 : (w9.alloc (.cells (fxB 4 0 0 0) 47)).heap[(T1 + 2)]? = some (.cells (fxB 4 0 0 0) 47) := s9 ▸ heap_alloc_new w9 (.cells (fxB 4 0 0 0) 47)
    try simp only [s9]
    change Walk Try.prog true _ _ _ (w9.alloc (.cells (fxB 4 0 0 0) 47))
    generalize w9.alloc (.cells (fxB 4 0 0 0) 47) = w10 at *
    repeat (first | refine Walk.cx ?_ | (refine Walk.cReg ?_; simp only [z12]) | (refine Walk.oq ?_; try walk_nrm) | (refine Walk.un ?_; walk_nrm))
    (refine Walk.oa ?_; try walk_nrm)
    have s11 : (w10.alloc (.cells (fxH T (T1 + 2)) 34)).heap.size = (T1 + 3) + 1 := by simp [s10]
    have o11 : ∀ b, b < (T1 + 3) → (w10.alloc (.cells (fxH T (T1 + 2)) 34)).heap[b]? = w10.heap[b]? := fun b hb => heap_new_lt _ _ (by omega)
    have d11 : (w10.alloc (.cells (fxH T (T1 + 2)) 34)).heap[(T1 + 3)]? = some (.cells (fxH T (T1 + 2)) 34) := s10 ▸ heap_alloc_new w10 (.cells (fxH T (T1 + 2)) 34)
    try simp only [s10]
    change Walk Try.prog true _ _ _ (w10.alloc (.cells (fxH T (T1 + 2)) 34))
    generalize w10.alloc (.cells (fxH T (T1 + 2)) 34) = w11 at *
    repeat (first | refine Walk.cx ?_ | (refine Walk.cReg ?_; simp only [z12]) | (refine Walk.oq ?_; try walk_nrm) | (refine Walk.un ?_; walk_nrm))
    (refine Walk.oa ?_; try walk_nrm)
    have s12 : (w11.alloc (.cells fyS 3)).heap.size = (T1 + 4) + 1 := by simp [s11]
    have o12 : ∀ b, b < (T1 + 4) → (w11.alloc (.cells fyS 3)).heap[b]? = w11.heap[b]? := fun b hb => heap_new_lt _ _ (by omega)
    have d12 : (w11.alloc (.cells fyS 3)).heap[(T1 + 4)]? = some (.cells fyS 3) := s11 ▸ heap_alloc_new w11 (.cells fyS 3)
    try simp only [s11]
    change Walk Try.prog true _ _ _ (w11.alloc (.cells fyS 3))
    generalize w11.alloc (.cells fyS 3) = w12 at *
    repeat (first | refine Walk.cx ?_ | (refine Walk.cReg ?_; simp only [z12]) | (refine Walk.oq ?_; try walk_nrm) | (refine Walk.un ?_; walk_nrm))
    refine Walk.callE (ho_of (by conv => lhs; whnf) (by kernel_rfl)) (by rfl) (by decide) rfl Try.func14 (by kernel_rfl) (by rfl) ?_
    walk_nrm
    have up : ∀ b, b < T1 + 1 → w12.heap[b]? = w8.heap[b]? := fun b hb => (o12 b (by omega)).trans ((o11 b (by omega)).trans ((o10 b (by omega)).trans (o9 b (by omega))))
    refine .stop fun d => ⟨_, b, o, ac, b0, o0, tc0, sb, so, sc, .slice oa ol oc, rfl, fun b hb => (up b (by omega)).trans (o8 b (by omega)), ?_, C8.old fun b hb => up b (by omega), ?_, fx_ops ((up T (by omega)).trans t8) ?_ ?_, fun j z hz => ?_, ?_⟩
    · show T1 ≤ w12.heap.size
      omega
    · exact (o12 _ (by omega)).trans ((o11 _ (by omega)).trans ((o10 _ (by omega)).trans d9))
    · exact (o12 _ (by omega)).trans ((o11 _ (by omega)).trans d10)
    · exact (o12 _ (by omega)).trans d11
    · try rw [Nat.zero_add]
      refine (cell_of (w := w12) d12 j).trans ?_
      have h : (fySl.map (Value.int .i64))[j]? = some (.int .i64 z) := by rw [List.getElem?_map, hz]; rfl
      simpa [fySl, fyS] using h
    · clear d9 d10 d11 d12 s8 s9 s10 s11 s12 o8 o9 o10 o11 o12 up C8 t8
      intro cells F ord sts k2 w13 C13 hTr hF1
      obtain ⟨aa, ac', oa', oc', sa', sc', rfl, n1, n2, n3⟩ := hTr.all
      obtain ⟨b', o', ta0, tc0', rfl, a1', A1⟩ := n3 1 (by decide)
      rw [hF1] at a1' A1
      obtain ⟨b0', o0', la, lc, rfl, _, _, k2', nl, _⟩ := A1 0 _ rfl
      simp only [Nat.zero_mul, Nat.add_zero, List.length_cons, List.length_nil, Nat.zero_add, Nat.reduceAdd] at a1' k2'
      generalize ord.length = ol' at *
      generalize sts.length = sl2 at *
      simp only [trC]
      refine Walk.finish (ho_of (by conv => lhs; whnf) (by kernel_rfl)) ?_
      walk_nrm
      (refine Walk.oa ?_; try walk_nrm)
      have s14 : (w13.alloc zTr').heap.size = w13.heap.size + 1 := by simp
      have o14 : ∀ b, b < w13.heap.size → (w13.alloc zTr').heap[b]? = w13.heap[b]? := fun b hb => heap_new_lt _ _ hb
      have d14 := heap_alloc_new w13 zTr'
      have e14 : w13.alloc (.cells #[.slice none 0 0, .slice none 0 0, .slice none 0 0, .bool false] 31) = w13.alloc zTr' := rfl
      try rw [e14]
      clear e14
      have l1' := cell_lt' a1'
      have l2' := cell_lt' k2'
      generalize hT2 : w13.heap.size = T2 at *
      generalize w13.alloc zTr' = w14 at *
      unfold zTr' at d14
      refine Walk.storeS 31 (.tmp 3) (.tmp 22) (ho_of (by conv => lhs; whnf) (by kernel_rfl)) (by rfl) (by decide) rfl T2 #[.slice (some ⟨b', o', none⟩) 2 ac', .slice oa' ol' oc', .slice sa' sl2 sc', .bool k2] _ 31 rfl rfl d14 (by kernel_rfl) (by rfl) (by simp [Value.oneCell']) (hA _) ?_
      have d15 := setRow_self (cells := #[.slice (some ⟨b', o', none⟩) 2 ac', .slice oa' ol' oc', .slice sa' sl2 sc', .bool k2]) d14
      have o15 : ∀ x, x < T2 → (w14.setRow T2 #[.slice (some ⟨b', o', none⟩) 2 ac', .slice oa' ol' oc', .slice sa' sl2 sc', .bool k2]).heap[x]? = w13.heap[x]? := fun x hx => (setRow_other _ _ (by omega)).trans (o14 x hx)
      have s15 := setRow_size w14 T2 #[.slice (some ⟨b', o', none⟩) 2 ac', .slice oa' ol' oc', .slice sa' sl2 sc', .bool k2]
      rw [s14] at s15
      generalize w14.setRow T2 #[.slice (some ⟨b', o', none⟩) 2 ac', .slice oa' ol' oc', .slice sa' sl2 sc', .bool k2] = w15 at *
      have C15 := C13.old (w' := w15) fun b hb => o15 b (by omega)
      have x0 : w15.cell? ⟨T1, 0, none⟩ = some (.slice (some ⟨b, o, none⟩) 2 ac) := (cell_of C15.x 0).trans rfl
      have x2 : w15.cell? ⟨T1, 2, none⟩ = some (.slice (some ⟨sb, so, none⟩) 3 sc) := (cell_of C15.x 2).trans rfl
      have x1 := C15.a1
      have x3 := C15.n0
      have x4 := C15.z0
      have x5 := C15.z2
      have y0 : w15.cell? ⟨T2, 0, none⟩ = some (.slice (some ⟨b', o', none⟩) 2 ac') := (cell_of d15 0).trans rfl
      have y1 : w15.cell? ⟨b', o' + 1, none⟩ = some (.slice (some ⟨b0', o0', none⟩) 1 tc0') := (World.cell?_of_block (a := ⟨b', o' + 1, none⟩) (o15 b' (by omega))).trans a1'
      have y2 : w15.cell? ⟨b0', o0' + 2, none⟩ = some (.slice la 2 lc) := (World.cell?_of_block (a := ⟨b0', o0' + 2, none⟩) (o15 b0' (by omega))).trans k2'
      have nl15 : NumA la [1, 11] w15 := fun i x hx => by
        obtain ⟨bb, oo, e, h⟩ := nl i x hx
        exact ⟨bb, oo, e, (World.cell?_of_block (a := ⟨bb, oo + i, none⟩) (o15 bb (by have := cell_lt' h; omega))).trans h⟩
      clear n1 n2 n3 A1 a1' k2' nl d14 d15 hTr s14 o14 C13 C15
      try walk_nrm
      repeat (first | refine Walk.cx ?_ | (refine Walk.cReg ?_; simp only [z12]) | (refine Walk.oq ?_; try walk_nrm) | (refine Walk.un ?_; walk_nrm))
      (refine Walk.oa ?_; try walk_nrm)
      have s16 : (w15.alloc (.cells #[.int .i64 1, .int .i64 11] 2)).heap.size = T2 + 2 := by simp [s15]
      have o16 : ∀ x, x < T2 + 1 → (w15.alloc (.cells #[.int .i64 1, .int .i64 11] 2)).heap[x]? = w15.heap[x]? := fun x hx => heap_new_lt _ _ (by omega)
      have d16 : NumB (w15.alloc (.cells #[.int .i64 1, .int .i64 11] 2)) (T2 + 1) [1, 11] := s15 ▸ heap_alloc_new w15 (.cells #[.int .i64 1, .int .i64 11] 2)
      have nl16 : NumA la [1, 11] (w15.alloc (.cells #[.int .i64 1, .int .i64 11] 2)) := nl15.chg ⟨by simp, fun b hb _ => heap_new_lt _ _ hb⟩
      try simp only [s15]
      clear x0 x1 x2 x3 x4 x5 y0 y1 y2 nl15
      generalize w15.alloc (.cells #[.int .i64 1, .int .i64 11] 2) = w16 at *
      have hsn := sn_w (main := true) (V := fun _ => none) la (some ⟨T2 + 1, 0, none⟩) [1, 11] lc 2 (by decide) w16 nl16 (fun i x hx => ⟨T2 + 1, 0, rfl, by rw [Nat.zero_add]; exact d16.cell hx⟩)
      repeat (first | refine Walk.cx ?_ | (refine Walk.cReg ?_; simp only [z12]) | (refine Walk.oq ?_; try walk_nrm) | (refine Walk.un ?_; walk_nrm))
      refine Walk.callV (x := .bool true) (W := w16) ?_ (ho_of (by conv => lhs; whnf) (by kernel_rfl)) (by rfl) (by decide) rfl Try.func21 (by kernel_rfl) (by rfl) ?_
      · walk_nrm
        exact hsn
      clear hsn nl16 d16
      walk_nrm
      repeat (first | refine Walk.cx ?_ | (refine Walk.cReg ?_; simp only [z12]) | (refine Walk.oq ?_; try walk_nrm) | (refine Walk.un ?_; walk_nrm))
      repeat (first | refine Walk.cx ?_ | (refine Walk.cReg ?_; simp only [z12]) | (refine Walk.oq ?_; try walk_nrm) | (refine Walk.un ?_; walk_nrm))
      (refine Walk.oa ?_; try walk_nrm)
      have s17 : (w16.alloc (.cells fxW 2)).heap.size = (T2 + 2) + 1 := by simp [s16]
      have o17 : ∀ b, b < (T2 + 2) → (w16.alloc (.cells fxW 2)).heap[b]? = w16.heap[b]? := fun b hb => heap_new_lt _ _ (by omega)
      have d17 : (w16.alloc (.cells fxW 2)).heap[(T2 + 2)]? = some (.cells fxW 2) := s16 ▸ heap_alloc_new w16 (.cells fxW 2)
      try simp only [s16]
      change Walk Try.prog true _ _ _ (w16.alloc (.cells fxW 2))
      generalize w16.alloc (.cells fxW 2) = w17 at *
      repeat (first | refine Walk.cx ?_ | (refine Walk.cReg ?_; simp only [z12]) | (refine Walk.oq ?_; try walk_nrm) | (refine Walk.un ?_; walk_nrm))
      have hnw := new_w (main := true) (V := fun _ => none) w17 _ [1, 2] (fx_lsR d17) (by decide) (fun b _ => hA b)
      have hk1 : sqK ([1, 2] : List Int).length = 1 := by decide
      rw [hk1] at hnw
      rw [s17] at hnw
      refine Walk.callW (Post := fun v w' => v = .pointer (some ⟨T2 + 2 + 1, 0, none⟩) ∧ SqI (T2 + 2 + 1) 1 (sq0 [1, 2]) w' ∧ (∀ b, b < T2 + 2 + 1 → w'.heap[b]? = w17.heap[b]?) ∧ T2 + 2 + 1 < w'.heap.size) ?_ (ho_of (by conv => lhs; whnf) (by kernel_rfl)) (by rfl) (by decide) rfl Try.func16 (by kernel_rfl) (by rfl) ?_
      · walk_nrm
        exact hnw
      rintro v w18 ⟨rfl, I18, O18, Z18⟩
      clear hnw d17
      have hq1 := fun w => run_eql_ptr (P := Try.prog) 35 undLock (some ⟨T2 + 2 + 1, 0, none⟩) w
      have hq2 := fun w es => ev_eql_ptr (P := Try.prog) 35 undLock (some ⟨T2 + 2 + 1, 0, none⟩) w es
      simp only [Option.isNone_some] at hq1
      have u18 : ∀ b, b < T2 → w18.heap[b]? = w13.heap[b]? := fun b hb => (O18 b (by omega)).trans ((o17 b (by omega)).trans ((o16 b (by omega)).trans (o15 b hb)))
      clear O18 o17 o16 o15 s15 s16 s17
      generalize hL : T2 + 2 + 1 = LB at *
      walk_nrm
      repeat (first | refine Walk.cx ?_ | (refine Walk.cReg ?_; simp only [z12]) | (refine Walk.oq ?_; try walk_nrm) | (refine Walk.un ?_; walk_nrm))
      (refine Walk.oa ?_; try walk_nrm)
      have s19 : (w18.alloc (.cells #[.int .i64 5, .int .i64 6] 2)).heap.size = w18.heap.size + 1 := by simp
      have o19 : ∀ x, x < w18.heap.size → (w18.alloc (.cells #[.int .i64 5, .int .i64 6] 2)).heap[x]? = w18.heap[x]? := fun x hx => heap_new_lt _ _ hx
      have d19 : NumB (w18.alloc (.cells #[.int .i64 5, .int .i64 6] 2)) w18.heap.size [5, 6] := heap_alloc_new w18 (.cells #[.int .i64 5, .int .i64 6] 2)
      have I19 := I18.old (w' := w18.alloc (.cells #[.int .i64 5, .int .i64 6] 2)) (o19 LB (by omega))
      generalize w18.alloc (.cells #[.int .i64 5, .int .i64 6] 2) = w19 at *
      generalize hN18 : w18.heap.size = N18 at *
      have hwr := lwrite_w (main := true) (V := fun _ => none) hA I19 fz_even.1 1 _ [5, 6] d19.lsR _ fz_v1
      repeat (first | refine Walk.cx ?_ | (refine Walk.cReg ?_; simp only [z12]) | (refine Walk.oq ?_; try walk_nrm) | (refine Walk.un ?_; walk_nrm))
      refine Walk.callP (Post := fun v w' => v = .bool true ∧ Solo LB 1 fz1 w19 w') ?_ (ho_of (by conv => lhs; whnf) (by kernel_rfl)) (by rfl) (by decide) rfl Try.func23 (by kernel_rfl) (by rfl) ⟨rfl, rfl, _, Try.func12⟩ ?_
      · walk_nrm
        exact hwr
      rintro v w20 ⟨rfl, H20⟩
      have z20 := H20.size
      clear hwr d19
      walk_nrm
      repeat (first | refine Walk.cx ?_ | (refine Walk.cReg ?_; simp only [z12]) | (refine Walk.oq ?_; try walk_nrm) | (refine Walk.un ?_; walk_nrm))
      (refine Walk.oa ?_; try walk_nrm)
      have s21 : (w20.alloc (.cells #[.int .i64 1] 2)).heap.size = w20.heap.size + 1 := by simp
      have o21 : ∀ x, x < w20.heap.size → (w20.alloc (.cells #[.int .i64 1] 2)).heap[x]? = w20.heap[x]? := fun x hx => heap_new_lt _ _ hx
      have d21 : NumB (w20.alloc (.cells #[.int .i64 1] 2)) w20.heap.size [1] := heap_alloc_new w20 (.cells #[.int .i64 1] 2)
      have I21 := H20.I.old (w' := w20.alloc (.cells #[.int .i64 1] 2)) (o21 LB (by omega))
      generalize w20.alloc (.cells #[.int .i64 1] 2) = w21 at *
      generalize hN20 : w20.heap.size = N20 at *
      have hwr := ladd_w (main := true) (V := fun _ => none) hA I21 fz_even.2.1 1 _ [1] d21.lsR _ fz_v2
      repeat (first | refine Walk.cx ?_ | (refine Walk.cReg ?_; simp only [z12]) | (refine Walk.oq ?_; try walk_nrm) | (refine Walk.un ?_; walk_nrm))
      refine Walk.callP (Post := fun v w' => v = .bool true ∧ Solo LB 1 fz2 w21 w') ?_ (ho_of (by conv => lhs; whnf) (by kernel_rfl)) (by rfl) (by decide) rfl Try.func24 (by kernel_rfl) (by rfl) ⟨rfl, rfl, _, Try.func12⟩ ?_
      · walk_nrm
        exact hwr
      rintro v w22 ⟨rfl, H22⟩
      have z22 := H22.size
      have hrd := lread_w (main := true) (V := fun _ => none) hA H22.I fz_even.2.2 1
      clear hwr d21
      walk_nrm
      repeat (first | refine Walk.cx ?_ | (refine Walk.cReg ?_; simp only [z12]) | (refine Walk.oq ?_; try walk_nrm) | (refine Walk.un ?_; walk_nrm))
      refine Walk.callP (Post := fun v w' => ∃ B, v = .tuple #[.slice (some ⟨B, 0, none⟩) (1 + 1) (1 + 1), .bool true] ∧ w22.heap.size ≤ B ∧ NumB w' B (wdL 1 fz2) ∧ Solo LB 1 fz2 w22 w') ?_ (ho_of (by conv => lhs; whnf) (by kernel_rfl)) (by rfl) (by decide) rfl Try.func25 (by kernel_rfl) (by rfl) ⟨rfl, rfl, _, Try.func12⟩ ?_
      · walk_nrm
        exact hrd
      rintro v w23 ⟨B, rfl, hB, hNB, H23⟩
      rw [fz_words] at hNB
      have z23 := H23.size
      clear hrd
      walk_nrm
      repeat (first | refine Walk.cx ?_ | (refine Walk.cReg ?_; simp only [z12]) | (refine Walk.oq ?_; try walk_nrm) | (refine Walk.un ?_; walk_nrm))
      (refine Walk.oa ?_; try walk_nrm)
      have s24 : (w23.alloc (.cells #[.int .i64 6, .int .i64 6] 2)).heap.size = w23.heap.size + 1 := by simp
      have o24 : ∀ x, x < w23.heap.size → (w23.alloc (.cells #[.int .i64 6, .int .i64 6] 2)).heap[x]? = w23.heap[x]? := fun x hx => heap_new_lt _ _ hx
      have d24 : NumB (w23.alloc (.cells #[.int .i64 6, .int .i64 6] 2)) w23.heap.size [6, 6] := heap_alloc_new w23 (.cells #[.int .i64 6, .int .i64 6] 2)
      have I24 := H23.I.old (w' := w23.alloc (.cells #[.int .i64 6, .int .i64 6] 2)) (o24 LB (by omega))
      have n24 := hNB.same (w' := w23.alloc (.cells #[.int .i64 6, .int .i64 6] 2)) (o24 B hNB.lt)
      generalize w23.alloc (.cells #[.int .i64 6, .int .i64 6] 2) = w24 at *
      generalize hN23 : w23.heap.size = N23 at *
      have hsn := sn_w (main := true) (V := fun _ => none) (some ⟨B, 0, none⟩) (some ⟨N23, 0, none⟩) [6, 6] 2 2 (by decide) w24 (fun i x hx => ⟨B, 0, rfl, by rw [Nat.zero_add]; exact n24.cell hx⟩) (fun i x hx => ⟨N23, 0, rfl, by rw [Nat.zero_add]; exact d24.cell hx⟩)
      repeat (first | refine Walk.cx ?_ | (refine Walk.cReg ?_; simp only [z12]) | (refine Walk.oq ?_; try walk_nrm) | (refine Walk.un ?_; walk_nrm))
      refine Walk.callV (x := .bool true) (W := w24) ?_ (ho_of (by conv => lhs; whnf) (by kernel_rfl)) (by rfl) (by decide) rfl Try.func21 (by kernel_rfl) (by rfl) ?_
      · walk_nrm
        exact hsn
      have hvr := version_w (main := true) (V := fun _ => none) hA w24 I24
      rw [fz_ver] at hvr
      clear hsn d24 n24
      walk_nrm
      repeat (first | refine Walk.cx ?_ | (refine Walk.cReg ?_; simp only [z12]) | (refine Walk.oq ?_; try walk_nrm) | (refine Walk.un ?_; walk_nrm))
      refine Walk.callW (Post := fun v w' => v = .int .i64 4 ∧ Calm LB 1 fz2 w24 w') ?_ (ho_of (by conv => lhs; whnf) (by kernel_rfl)) (by rfl) (by decide) rfl Try.func18 (by kernel_rfl) (by rfl) ?_
      · walk_nrm
        exact hvr
      rintro v w25 ⟨rfl, H25⟩
      have z25 := H25.size
      have O25 : ∀ b, b < T2 → w25.heap[b]? = w13.heap[b]? := fun b hb => (H25.old b (by omega) (by omega)).trans ((o24 b (by omega)).trans ((H23.old b (by omega) (by omega)).trans ((H22.old b (by omega) (by omega)).trans ((o21 b (by omega)).trans ((H20.old b (by omega) (by omega)).trans ((o19 b (by omega)).trans (u18 b hb)))))))
      clear hvr H20 H22 H23 H25 I18 I19 I21 I24 hq1 hq2
      walk_nrm
      repeat (first | refine Walk.cx ?_ | (refine Walk.cReg ?_; simp only [z12]) | (refine Walk.oq ?_; try walk_nrm) | (refine Walk.un ?_; walk_nrm))
      exact Walk.on1 rfl rfl Try.func12 rfl (.stop fun d => ⟨rfl, O25, by show T2 ≤ w25.heap.size; omega⟩)
end
end
end Go.Proofs.Ytjenoiekfkhafaa
