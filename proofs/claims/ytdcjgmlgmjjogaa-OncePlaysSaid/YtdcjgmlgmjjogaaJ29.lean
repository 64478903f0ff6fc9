/- Part 29. -/
import Derived.Test.YtdcjgmlgmjjogaaJ21
import Derived.Test.YtdcjgmlgmjjogaaJ22
import Derived.Test.YtdcjgmlgmjjogaaJ26
import Derived.Test.YtdcjgmlgmjjogaaJ27
import Derived.Test.YtdcjgmlgmjjogaaJ28
set_option linter.unusedSimpArgs false
set_option linter.unusedVariables false
set_option maxHeartbeats 8000000
set_option maxRecDepth 100000
namespace Go.Proofs.Ytdcjgmlgmjjogaa
open Go.Conc Go.RowKit Go.Relay
open Go.ConcN (upd upd_ne upd_same)
section
noncomputable def reg12_0 := rg Try.f12.body [0]
noncomputable def reg12_1 := rg Try.f12.body [1, 0]
noncomputable def reg12_2 := rg Try.f12.body [1, 1, 0, 0]
noncomputable def reg12_3 := rg Try.f12.body [1, 1, 0, 1, 0, 0, 0, 0]
noncomputable def reg12_5 := rg Try.f12.body [1, 1, 0, 1, 0, 0, 1, 0, 0]
noncomputable def reg12_4 := rg Try.f12.body [1, 1, 0, 1, 0, 0, 1, 1]
noncomputable def reg12_6 := rg Try.f12.body [1, 1, 1, 0, 0]
noncomputable def reg12_7 := rg Try.f12.body [1, 1, 1, 0, 1, 0, 0, 0, 0]
noncomputable def reg12_9 := rg Try.f12.body [1, 1, 1, 0, 1, 0, 0, 1, 0, 0]
noncomputable def reg12_8 := rg Try.f12.body [1, 1, 1, 0, 1, 0, 0, 1, 1]
noncomputable def reg12_10 := rg Try.f12.body [1, 1, 1, 1, 0]
noncomputable def reg12_11 := rg Try.f12.body [1, 1, 1, 1, 1, 0, 0, 0, 0]
noncomputable def reg12_12 := rg Try.f12.body [1, 1, 1, 1, 1, 0, 0, 0, 1, 0, 0]
noncomputable def reg12_13 := rg Try.f12.body [1, 1, 1, 1, 1, 0, 0, 0, 1, 0, 1, 0, 0]
theorem size12_13 : reg12_13.size = 9 := by kernel_rfl
noncomputable def reg12_14 := rg Try.f12.body [1, 1, 1, 1, 1, 0, 0, 0, 1, 1]
theorem z12 : List.range reg12_0.size = [0] ∧ List.range reg12_1.size = [0, 1, 2, 3, 4] ∧ List.range reg12_2.size = [0] ∧ List.range reg12_3.size = [0, 1, 2, 3] ∧ List.range reg12_4.size = [0, 1, 2] ∧ List.range reg12_5.size = [0, 1, 2, 3, 4, 5, 6, 7, 8, 9, 10] ∧ List.range reg12_6.size = [0] ∧ List.range reg12_7.size = [0, 1, 2, 3, 4, 5, 6] ∧ List.range reg12_8.size = [0, 1, 2] ∧ List.range reg12_9.size = [0, 1, 2, 3, 4, 5, 6, 7, 8] ∧ List.range reg12_10.size = [0, 1, 2, 3] ∧ List.range reg12_11.size = [0, 1, 2, 3, 4, 5, 6] ∧ List.range reg12_12.size = [0, 1] ∧ List.range reg12_13.size = [0, 1, 2, 3, 4, 5, 6, 7, 8] ∧ List.range reg12_14.size = [0, 1, 2, 3, 4, 5, 6, 7, 8] := by refine ⟨?_, ?_, ?_, ?_, ?_, ?_, ?_, ?_, ?_, ?_, ?_, ?_, ?_, ?_, ?_⟩ <;> kernel_rfl
theorem code12_is : Try.f12.body = some (.seq (.region 0 reg12_0 false) (.seq (.region 1 reg12_1 false) (.seq (.seq (.region 2 reg12_2 false) (.block 0 (.loop (.seq (.seq (.region 3 reg12_3 false) (.cond (.tmp 21 ) (.skip) (.exit 0))) (.seq (.block 1 (.region 5 reg12_5 false)) (.region 4 reg12_4 false)))))) (.seq (.seq (.region 6 reg12_6 false) (.block 2 (.loop (.seq (.seq (.region 7 reg12_7 false) (.cond (.tmp 40 ) (.skip) (.exit 2))) (.seq (.block 3 (.region 9 reg12_9 false)) (.region 8 reg12_8 false)))))) (.seq (.region 10 reg12_10 false) (.block 4 (.loop (.block 5 (.seq (.region 11 reg12_11 false) (.seq (.seq (.region 12 reg12_12 false) (.cond (.tmp 62 ) (.seq (.region 13 reg12_13 true) (.ret)) (.skip))) (.region 14 reg12_14 false))))))))))) := by kernel_rfl
noncomputable def hdY0 (sz : Int) (sv : Value) (most : Int) (r m i : Nat) (u : Nat → Value) : Frame :=
  (base 12).at { tmps := #[.int .i64 sz, u 1, sv, .int .i64 most, u 4, u 5, u 6, u 7, .pointer (some ⟨r, 0, none⟩), .pointer (some ⟨m, 0, none⟩), .int .i64 i, u 11, u 12, u 13, u 14, u 15, u 16, u 17, u 18, u 19, u 20, u 21, u 22, u 23, u 24, u 25, u 26, u 27, u 28, u 29, u 30, u 31, u 32, u 33, u 34, u 35, u 36, u 37, u 38, u 39, u 40, u 41, u 42, u 43, u 44, u 45, u 46, u 47, u 48, u 49, u 50, u 51, u 52, u 53, u 54, u 55, u 56, u 57, u 58, u 59, u 60, u 61, u 62, u 63, u 64, u 65, u 66, u 67, u 68, u 69, u 70, u 71, u 72, u 73, u 74, u 75, u 76, u 77, u 78, u 79], defers := [] } [.code (.seq (.seq (.region 3 reg12_3 false) (.cond (.tmp 21 ) (.skip) (.exit 0))) (.seq (.block 1 (.region 5 reg12_5 false)) (.region 4 reg12_4 false))), .inLoop (.seq (.seq (.region 3 reg12_3 false) (.cond (.tmp 21 ) (.skip) (.exit 0))) (.seq (.block 1 (.region 5 reg12_5 false)) (.region 4 reg12_4 false))), .inBlock 0, .code (.seq (.seq (.region 6 reg12_6 false) (.block 2 (.loop (.seq (.seq (.region 7 reg12_7 false) (.cond (.tmp 40 ) (.skip) (.exit 2))) (.seq (.block 3 (.region 9 reg12_9 false)) (.region 8 reg12_8 false)))))) (.seq (.region 10 reg12_10 false) (.block 4 (.loop (.block 5 (.seq (.region 11 reg12_11 false) (.seq (.seq (.region 12 reg12_12 false) (.cond (.tmp 62 ) (.seq (.region 13 reg12_13 true) (.ret)) (.skip))) (.region 14 reg12_14 false))))))))]
noncomputable def hdY1 (sv : Value) (most : Int) (r m i : Nat) (u : Nat → Value) : Frame :=
  (base 12).at { tmps := #[u 0, u 1, sv, .int .i64 most, u 4, u 5, u 6, u 7, .pointer (some ⟨r, 0, none⟩), .pointer (some ⟨m, 0, none⟩), u 10, .int .i64 i, u 12, u 13, u 14, u 15, u 16, u 17, u 18, u 19, u 20, u 21, u 22, u 23, u 24, u 25, u 26, u 27, u 28, u 29, u 30, u 31, u 32, u 33, u 34, u 35, u 36, u 37, u 38, u 39, u 40, u 41, u 42, u 43, u 44, u 45, u 46, u 47, u 48, u 49, u 50, u 51, u 52, u 53, u 54, u 55, u 56, u 57, u 58, u 59, u 60, u 61, u 62, u 63, u 64, u 65, u 66, u 67, u 68, u 69, u 70, u 71, u 72, u 73, u 74, u 75, u 76, u 77, u 78, u 79], defers := [] } [.code (.seq (.seq (.region 7 reg12_7 false) (.cond (.tmp 40 ) (.skip) (.exit 2))) (.seq (.block 3 (.region 9 reg12_9 false)) (.region 8 reg12_8 false))), .inLoop (.seq (.seq (.region 7 reg12_7 false) (.cond (.tmp 40 ) (.skip) (.exit 2))) (.seq (.block 3 (.region 9 reg12_9 false)) (.region 8 reg12_8 false))), .inBlock 2, .code (.seq (.region 10 reg12_10 false) (.block 4 (.loop (.block 5 (.seq (.region 11 reg12_11 false) (.seq (.seq (.region 12 reg12_12 false) (.cond (.tmp 62 ) (.seq (.region 13 reg12_13 true) (.ret)) (.skip))) (.region 14 reg12_14 false)))))))]
noncomputable def hdY2 (r m B : Nat) (u : Nat → Value) : Frame :=
  (base 12).at { tmps := #[u 0, u 1, u 2, u 3, u 4, u 5, u 6, u 7, .pointer (some ⟨r, 0, none⟩), .pointer (some ⟨m, 0, none⟩), u 10, u 11, .pointer (some ⟨B, 0, none⟩), u 13, u 14, u 15, u 16, u 17, u 18, u 19, u 20, u 21, u 22, u 23, u 24, u 25, u 26, u 27, u 28, u 29, u 30, u 31, u 32, u 33, u 34, u 35, u 36, u 37, u 38, u 39, u 40, u 41, u 42, u 43, u 44, u 45, u 46, u 47, u 48, u 49, u 50, u 51, u 52, u 53, u 54, u 55, u 56, u 57, u 58, u 59, u 60, u 61, u 62, u 63, u 64, u 65, u 66, u 67, u 68, u 69, u 70, u 71, u 72, u 73, u 74, u 75, u 76, u 77, u 78, u 79], defers := [] } [.code (.block 5 (.seq (.region 11 reg12_11 false) (.seq (.seq (.region 12 reg12_12 false) (.cond (.tmp 62 ) (.seq (.region 13 reg12_13 true) (.ret)) (.skip))) (.region 14 reg12_14 false)))), .inLoop (.block 5 (.seq (.region 11 reg12_11 false) (.seq (.seq (.region 12 reg12_12 false) (.cond (.tmp 62 ) (.seq (.region 13 reg12_13 true) (.ret)) (.skip))) (.region 14 reg12_14 false)))), .inBlock 4]
theorem held_cells (x : Int) : (if x < 1 then 1 else if 64 < x then 64 else x) = ((cellsN x : Nat) : Int) := by
  rw [(cellsN_le x).2.2]
  split
  · omega
  split <;> omega
structure CelI (m n lc : Nat) (la : Option Addr) (i : Nat) (w0 w : World) : Prop where
  mb : ∃ ca cc, w.heap[m]? = some (.cells #[.slice ca i cc, .slice la n lc] 101) ∧ w.ownsRow (m + 1) 104 3 (.slice ca i cc) i (List.replicate (i * 3) (.int .i64 0))
  old : ∀ b, b < m → w.heap[b]? = w0.heap[b]?
  size : m + 1 ≤ w.heap.size
theorem CelI.at {m n lc : Nat} {la : Option Addr} {i : Nat} {w0 w : World} (H : CelI m n lc la i w0 w) (d : Nat) : CelI m n lc la i w0 (w.at d) := ⟨H.mb, H.old, H.size⟩
section
variable {main : Bool}
theorem ply_cell (sz : Int) (sv : Value) (most : Int) (r m n lc i : Nat) (la : Option Addr) (hi : i < cellsN sz) (u : Nat → Value) (cs : List Frame) (w0 w : World) (H : CelI m n lc la i w0 w) :
    Walk Try.prog main (DR (fun _ => none)) (fun g w' => (∃ u, g = G (hdY0 sz sv most r m (i + 1) u) cs) ∧ CelI m n lc la (i + 1) w0 w') (G (hdY0 sz sv most r m i u) cs) w := by
  have hiO := Option.some_get (show (Try.prog.info? 104).isSome = true by kernel_rfl)
  obtain ⟨q1, q2, q3⟩ := cellsN_le sz
  have hh := held_w (main := main) (V := fun _ => none) sz 1 64 w
  rw [held_cells] at hh
  clear q3
  generalize cellsN sz = N at *
  obtain ⟨ca, cc, hb, hrow⟩ := H.mb
  have hsz := H.size
  have hold := H.old
  have c0 : w.cell? ⟨m, 0, none⟩ = some (.slice ca i cc) := (cell_of hb 0).trans rfl
  have hj1 : decide ((i : Int) < N) = true := by simp; omega
  have hj3 : decide (i < N) = true := by simp; omega
  have hw1 : IntKind.wrap .i64 ((i : Int) + 1) = (i : Int) + 1 := by rw [IntKind.wrap_i64]; omega
  conv => arg 5; unfold hdY0
  repeat (first | refine Walk.cx ?_ | (refine Walk.cReg ?_; simp only [z12]) | (refine Walk.oq ?_; try walk_nrm) | (refine Walk.un ?_; walk_nrm))
  refine Walk.callV (x := .int .i64 (N : Nat)) (W := w) ?_ (ho_of (by conv => lhs; whnf) (by kernel_rfl)) (by rfl) (by decide) rfl Try.func33 (by kernel_rfl) (by rfl) ?_
  · walk_nrm
    exact hh
  walk_nrm
  repeat (first | refine Walk.cx ?_ | (refine Walk.cReg ?_; simp only [z12]) | (refine Walk.oq ?_; try walk_nrm) | (refine Walk.un ?_; walk_nrm))
  (refine Walk.oa ?_; try walk_nrm)
  have d1 := heap_alloc_new w (.cells #[.int .i64 0, .int .i64 0, .int .i64 0] 104)
  have o1 : ∀ b, b < w.heap.size → (w.alloc (.cells #[.int .i64 0, .int .i64 0, .int .i64 0] 104)).heap[b]? = w.heap[b]? := fun b hb => heap_new_lt _ _ hb
  have s1 : (w.alloc (.cells #[.int .i64 0, .int .i64 0, .int .i64 0] 104)).heap.size = w.heap.size + 1 := by simp
  have hrow1 : (w.alloc (.cells #[.int .i64 0, .int .i64 0, .int .i64 0] 104)).ownsRow (m + 1) 104 3 (.slice ca i cc) i (List.replicate (i * 3) (.int .i64 0)) := row_same hrow fun b hb => o1 b (hrow.lt b hb).2
  have hb1 := (o1 m (by omega)).trans hb
  clear c0
  generalize hQ : w.heap.size = Q at *
  generalize w.alloc (.cells #[.int .i64 0, .int .i64 0, .int .i64 0] 104) = w1 at *
  repeat (first | (refine Walk.oq ?_; try walk_nrm) | (refine Walk.un ?_; walk_nrm))
  refine Walk.append (.tmp 28) (.tmp 30) 99 (ho_of (by conv => lhs; whnf) (by kernel_rfl)) (by rfl) (by decide) rfl (m + 1) 104 _ (.agg #[.int .i64 0, .int .i64 0, .int .i64 0]) 3 24 (by kernel_rfl) hiO.symm (by rfl) (by rfl) (by rfl) (by rfl) (by decide) (.slice ca i cc) i (List.replicate (i * 3) (.int .i64 0)) rfl hrow1 ⟨Q, 0, none⟩ 1 1 [.int .i64 0, .int .i64 0, .int .i64 0] rfl (by rfl) (fun j u hu => ?_) (by intro u hu; simp only [List.mem_cons, List.not_mem_nil, or_false] at hu; rcases hu with rfl | rfl | rfl <;> rfl) (by decide) (by simp [maxLen]; omega) (by omega) (by omega) (fun b _ => ap0 b) (fun g gcap w2 hown hgr hat hlt => ?_)
  · rw [add_none, Nat.zero_add]
    refine (cell_of d1 j).trans ?_
    simpa using hu
  have hs2 := hgr.size
  have hne : ∀ b, b < m + 1 → w2.heap[b]? = w1.heap[b]? := fun b hb => hgr.block b (by omega) fun he => by have := (hrow1.lt b he.symm).1; omega
  have hb2 := (hne m (by omega)).trans hb1
  have k0 := (cell_of hb2 0).trans rfl
  have z0 := frozen_of hb2 0
  have hlo : m + 1 ≤ g := by
    rcases hat with h | h
    · exact (hrow1.lt g h).1
    · omega
  have hrep : List.replicate (i * 3) (Value.int .i64 0) ++ [.int .i64 0, .int .i64 0, .int .i64 0] = List.replicate ((i + 1) * 3) (.int .i64 0) := by
    have h : [Value.int .i64 0, .int .i64 0, .int .i64 0] = List.replicate 3 (.int .i64 0) := rfl
    rw [show (i + 1) * 3 = i * 3 + 3 from by omega, h, List.replicate_append_replicate]
  rw [hrep] at hown
  walk_nrm
  repeat (first | (refine Walk.oq ?_; try walk_nrm) | (refine Walk.un ?_; walk_nrm))
  (have hfr := fr0 m 0; refine Walk.os hfr k0 ?_; clear hfr; try walk_nrm)
  have d3 : (w2.setCell ⟨m, 0, none⟩ (.slice (some ⟨g, 0, none⟩) (i + 1) gcap)).heap[m]? = some (.cells #[.slice (some ⟨g, 0, none⟩) (i + 1) gcap, .slice la n lc] 101) := by
    rw [heap_set_self _ _ hb2]
    simp
  have o3 : ∀ b, b ≠ m → (w2.setCell ⟨m, 0, none⟩ (.slice (some ⟨g, 0, none⟩) (i + 1) gcap)).heap[b]? = w2.heap[b]? := fun b hb => heap_set_other _ _ _ _ hb
  have s3 := size_set w2 ⟨m, 0, none⟩ (.slice (some ⟨g, 0, none⟩) (i + 1) gcap)
  have hown3 : (w2.setCell ⟨m, 0, none⟩ (.slice (some ⟨g, 0, none⟩) (i + 1) gcap)).ownsRow (m + 1) 104 3 (.slice (some ⟨g, 0, none⟩) (i + 1) gcap) (i + 1) (List.replicate ((i + 1) * 3) (.int .i64 0)) := row_same hown fun b hb => o3 b (by have := (hown.lt b hb).1; omega)
  clear k0 z0
  generalize w2.setCell ⟨m, 0, none⟩ (.slice (some ⟨g, 0, none⟩) (i + 1) gcap) = w3 at *
  try walk_nrm
  repeat (first | refine Walk.cx ?_ | (refine Walk.cReg ?_; simp only [z12]) | (refine Walk.oq ?_; try walk_nrm) | (refine Walk.un ?_; walk_nrm))
  refine Walk.ctl rfl (fun w => stepG_inLoop) ?_
  refine .stop fun d => ⟨at_slots ?_, ⟨⟨_, _, d3, hown3⟩, fun b hb => (o3 b (by omega)).trans ((hne b (by omega)).trans ((o1 b (by omega)).trans (hold b hb))), ?_⟩⟩
  · have hc : ((i + 1 : Nat) : Int) = (i : Int) + 1 := by simp
    simp only [hdY0, hc]
    rfl
  · show m + 1 ≤ w3.heap.size
    omega
theorem ply_cells (sz : Int) (sv : Value) (most : Int) (r m n lc : Nat) (la : Option Addr) (cs : List Frame) (w0 : World) : ∀ (k i : Nat) (u : Nat → Value) (w : World), i + k = cellsN sz → CelI m n lc la i w0 w →
    Walk Try.prog main (DR (fun _ => none)) (fun g w' => (∃ u, g = G (hdY0 sz sv most r m (cellsN sz) u) cs) ∧ CelI m n lc la (cellsN sz) w0 w') (G (hdY0 sz sv most r m i u) cs) w := by
  intro k
  induction k with
  | zero =>
    intro i u w hi H
    obtain rfl : i = cellsN sz := by omega
    exact .stop fun d => ⟨⟨u, rfl⟩, H.at d⟩
  | succ k ih =>
    intro i u w hi H
    refine (ply_cell sz sv most r m n lc i la (by omega) u cs w0 w H).then ?_
    rintro _ w1 ⟨⟨u1, rfl⟩, H1⟩
    exact ih (i + 1) u1 w1 (by omega) H1
theorem ply_celled (sz : Int) (sv : Value) (most : Int) (r m : Nat) (u : Nat → Value) (cs : List Frame) (w : World) :
    Walk Try.prog main (DR (fun _ => none)) (fun g w' => (∃ u, g = G (hdY1 sv most r m 0 u) cs) ∧ ∃ d, w' = w.at d) (G (hdY0 sz sv most r m (cellsN sz) u) cs) w := by
  have hh := held_w (main := main) (V := fun _ => none) sz 1 64 w
  rw [held_cells] at hh
  generalize cellsN sz = N at *
  have hj1 : decide ((N : Int) < N) = false := by simp
  have hj3 : decide (N < N) = false := by simp
  conv => arg 5; unfold hdY0
  repeat (first | refine Walk.cx ?_ | (refine Walk.cReg ?_; simp only [z12]) | (refine Walk.oq ?_; try walk_nrm) | (refine Walk.un ?_; walk_nrm))
  refine Walk.callV (x := .int .i64 (N : Nat)) (W := w) ?_ (ho_of (by conv => lhs; whnf) (by kernel_rfl)) (by rfl) (by decide) rfl Try.func33 (by kernel_rfl) (by rfl) ?_
  · walk_nrm
    exact hh
  walk_nrm
  repeat (first | refine Walk.cx ?_ | (refine Walk.cReg ?_; simp only [z12]) | (refine Walk.oq ?_; try walk_nrm) | (refine Walk.un ?_; walk_nrm))
  refine Walk.ctl rfl (fun w => stepG_loop) ?_
  refine .stop fun d => ⟨at_slots ?_, d, rfl⟩
  simp only [hdY1]
  rfl
structure PlyIn (sz : Int) (ops : Nat → List OpV) (n : Nat) (W : World) (a2 cb cc : Nat) (pr : Nat → Option Nat) (ts : Nat → Nat) (oas : Nat → Option Addr) (ocs : Nat → Nat) (la : Option Addr) (lc : Nat) (w : World) : Prop where
  lo : W.heap.size + 1 ≤ a2 ∧ a2 ≤ w.heap.size
  old : ∀ b, b < W.heap.size → w.heap[b]? = W.heap[b]?
  res : w.heap[W.heap.size]? = some zTr
  M : OmX (fun g => a2 ≤ g) a2 cb (cellsN sz) cc (.slice la n lc) oz0 w
  row : w.ownsRow (W.heap.size + 1) 106 1 (.slice la n lc) n (ptrRow ts n)
  rowp : ∀ g, (Value.slice la n lc).ownBlock = some g → pr g = none ∧ g < a2
  prl : ∀ b j, pr b = some j → W.heap.size + 1 ≤ b ∧ b < a2 ∧ j < n
  th : ∀ j, j < n → ThX (fun b => pr b = some j) (ts j) (ops j) (oas j) (ocs j) 0 0 (fun _ => 0) [] none 0 false w
theorem ply_open (sz : Int) (tb toff n0 tc n : Nat) (ta : Option Addr) (oa : Nat → Option Addr) (ln oc : Nat → Nat) (ops : Nat → List OpV) (sv : Value) (most : Int) (cs : List Frame) (W : World) (hn : n = min n0 64) (ht : 0 < n → ta = some ⟨tb, toff, none⟩) (hI : ∀ w, (∀ b, b < W.heap.size → w.heap[b]? = W.heap[b]?) → OpsIn tb toff n oa ln oc ops w) :
    Walk Try.prog main (DR (fun _ => none)) (fun g w' => ∃ w0 pr ts oas ocs la lc, (∃ u, g = G (hdY0 sz sv most W.heap.size w0.heap.size 0 u) cs) ∧ (∃ w1, w1.heap.size = W.heap.size + 1 ∧ (∀ b, b < W.heap.size → w1.heap[b]? = W.heap[b]?) ∧ w1.heap[W.heap.size]? = some zTr ∧ ThMk ops w1 n pr ts oas ocs la lc w0) ∧ CelI w0.heap.size n lc la 0 w0 w')
      (G (Frame.enter Try.prog 12 #[.int .i64 sz, .slice ta n0 tc, sv, .int .i64 most] .normal) cs) W := by
  have hthr : ∀ w2 : World, OpsIn tb toff n oa ln oc ops w2 → CallW Try.prog main (fun _ => none) 32 #[.slice ta n0 tc] w2 (ThrOut ops n w2) := fun w2 I2 => thr_w tb toff n0 tc n ta oa ln oc ops w2 I2 hn ht
  clear hn ht
  rw [enter_at _ Try.func12 code12_is]
  simp only [Try.ntmps12, ez, Nat.reduceAdd, Nat.reduceSub]
  repeat (first | refine Walk.cx ?_ | (refine Walk.cReg ?_; simp only [z12]) | (refine Walk.oq ?_; try walk_nrm) | (refine Walk.un ?_; walk_nrm))
  (refine Walk.oa ?_; try walk_nrm)
  have d1 := heap_alloc_new W zTr
  have o1 : ∀ b, b < W.heap.size → (W.alloc zTr).heap[b]? = W.heap[b]? := fun b hb => heap_new_lt _ _ hb
  have s1 : (W.alloc zTr).heap.size = W.heap.size + 1 := by simp
  generalize hR : W.heap.size = R at *
  have hz : (Obj.cells #[.slice none 0 0, .slice none 0 0, .slice none 0 0, .bool false] 29) = zTr := rfl
  try simp only [hz]
  generalize W.alloc zTr = w1 at *
  have I1 := hI w1 (by simpa using o1)
  repeat (first | refine Walk.cx ?_ | (refine Walk.cReg ?_; simp only [z12]) | (refine Walk.oq ?_; try walk_nrm) | (refine Walk.un ?_; walk_nrm))
  refine Walk.callW (Post := ThrOut ops n w1) ?_ (ho_of (by conv => lhs; whnf) (by kernel_rfl)) (by rfl) (by decide) rfl Try.func32 (by kernel_rfl) (by rfl) ?_
  · walk_nrm
    exact hthr w1 I1
  rintro v w2 ⟨pr, ts, oas, ocs, la, lc, rfl, H⟩
  walk_nrm
  repeat (first | refine Walk.cx ?_ | (refine Walk.cReg ?_; simp only [z12]) | (refine Walk.oq ?_; try walk_nrm) | (refine Walk.un ?_; walk_nrm))
  (refine Walk.oa ?_; try walk_nrm)
  have d2 := heap_alloc_new w2 (.cells #[.slice none 0 0, .slice la n lc] 101)
  have o2 : ∀ b, b < w2.heap.size → (w2.alloc (.cells #[.slice none 0 0, .slice la n lc] 101)).heap[b]? = w2.heap[b]? := fun b hb => heap_new_lt _ _ hb
  have s2 : (w2.alloc (.cells #[.slice none 0 0, .slice la n lc] 101)).heap.size = w2.heap.size + 1 := by simp
  generalize w2.alloc (.cells #[.slice none 0 0, .slice la n lc] 101) = w3 at *
  repeat (first | refine Walk.cx ?_ | (refine Walk.cReg ?_; simp only [z12]) | (refine Walk.oq ?_; try walk_nrm) | (refine Walk.un ?_; walk_nrm))
  refine Walk.ctl rfl (fun w => stepG_loop) ?_
  refine .stop fun d => ⟨w2, pr, ts, oas, ocs, la, lc, at_slots ?_, ⟨w1, s1, o1, d1, H⟩, ⟨⟨none, 0, d2, ⟨rfl, .inl ⟨rfl, rfl⟩⟩⟩, o2, ?_⟩⟩
  · simp only [hdY0]
    rfl
  · show w2.heap.size + 1 ≤ w3.heap.size
    omega
end
end
section
theorem omx_new {m n lc N : Nat} {la : Option Addr} {w0 w : World} (h1 : 1 ≤ N) (hm : w0.heap.size = m) (H : CelI m n lc la N w0 w) : ∃ cb cc, OmX (fun g => m ≤ g) m cb N cc (.slice la n lc) oz0 w := by
  obtain ⟨ca, cc, hb, hrow⟩ := H.mb
  rcases hrow.2 with ⟨_, h0⟩ | ⟨g, cap, cur, e, hg, hh, hle, _, hsz, htk⟩
  · omega
  · injection e with e1 e2 e3
    subst e1
    refine ⟨g, cc, hb, ⟨cur, hh, fun i hi => ?_⟩, Nat.le_refl _, by show m ≤ g; omega, by omega⟩
    have key : ∀ j, j < N * 3 → cur[j]? = some (.int .i64 0) := fun j hj => by
      have h : (cur.toList.take (N * 3))[j]? = some (.int .i64 0) := by rw [htk]; simp [hj]
      rw [List.getElem?_take, if_pos hj] at h
      simpa using h
    exact ⟨key _ (by omega), key _ (by omega), key _ (by omega)⟩
section
variable {main : Bool}
theorem ply_in (sz : Int) (tb toff n0 tc n : Nat) (ta : Option Addr) (oa : Nat → Option Addr) (ln oc : Nat → Nat) (ops : Nat → List OpV) (sv : Value) (most : Int) (cs : List Frame) (W : World) (hn : n = min n0 64) (ht : 0 < n → ta = some ⟨tb, toff, none⟩) (hI : ∀ w, (∀ b, b < W.heap.size → w.heap[b]? = W.heap[b]?) → OpsIn tb toff n oa ln oc ops w) :
    Walk Try.prog main (DR (fun _ => none)) (fun g w' => ∃ a2 cb cc pr ts oas ocs la lc, (∃ u, g = G (hdY1 sv most W.heap.size a2 0 u) cs) ∧ PlyIn sz ops n W a2 cb cc pr ts oas ocs la lc w')
      (G (Frame.enter Try.prog 12 #[.int .i64 sz, .slice ta n0 tc, sv, .int .i64 most] .normal) cs) W := by
  refine (ply_open sz tb toff n0 tc n ta oa ln oc ops sv most cs W hn ht hI).then ?_
  rintro _ w1 ⟨w0, pr, ts, oas, ocs, la, lc, ⟨u, rfl⟩, ⟨wa, sa, oa1, ra, H⟩, C1⟩
  refine (ply_cells sz sv most W.heap.size w0.heap.size n lc la cs w0 (cellsN sz) 0 u w1 (by omega) C1).then ?_
  rintro _ w2 ⟨⟨u2, rfl⟩, C2⟩
  refine (ply_celled sz sv most W.heap.size w0.heap.size u2 cs w2).mono ?_
  rintro _ w3 ⟨⟨u3, rfl⟩, d, rfl⟩
  obtain ⟨cb, cc, M⟩ := omx_new (cellsN_le sz).1 rfl C2
  have hs := H.size
  have hsz := C2.size
  have old2 : ∀ b, b < w0.heap.size → (w2.at d).heap[b]? = w0.heap[b]? := C2.old
  refine ⟨w0.heap.size, cb, cc, pr, ts, oas, ocs, la, lc, ⟨u3, rfl⟩, ⟨by omega, ?_⟩, fun b hb => ?_, ?_, M.at d, ?_, fun g hg => ⟨H.rowp g hg, ?_⟩, fun b j hj => ?_, fun j hj => (H.th j hj).same fun g hg hp => old2 g (by have := (H.prl g j hp).2.1; omega)⟩
  · show w0.heap.size ≤ w2.heap.size
    omega
  · exact (old2 b (by omega)).trans ((H.old b (by omega)).trans (oa1 b hb))
  · exact (old2 _ (by omega)).trans ((H.old _ (by omega)).trans ra)
  · have h := row_same H.row (w' := w2.at d) fun g hg => old2 g (H.row.lt g hg).2
    rwa [sa] at h
  · exact (H.row.lt g hg).2
  · have := H.prl b j hj
    exact ⟨by omega, this.2.1, this.2.2⟩
theorem ply_one (sv : Value) (most : Int) (r m i tl n lc q : Nat) (Z : World → Prop) (u : Nat → Value) (cs : List Frame) (w : World) (hi : i < n) (hn : n ≤ 64) (c1 : w.cell? ⟨m, 1, none⟩ = some (.slice (some ⟨tl, 0, none⟩) n lc)) (hl : w.cell? ⟨tl, i, none⟩ = some (.pointer (some ⟨q, 0, none⟩)))
    (hb : CallW Try.prog main (fun _ => none) 34 #[.pointer (some ⟨m, 0, none⟩), .pointer (some ⟨q, 0, none⟩)] w (fun v w' => v = .tuple #[] ∧ Z w')) :
    Walk Try.prog main (DR (fun _ => none)) (fun g w' => (∃ u, g = G (hdY1 sv most r m (i + 1) u) cs) ∧ ∃ w1 d, Z w1 ∧ w' = w1.at d) (G (hdY1 sv most r m i u) cs) w := by
  have hw1 : IntKind.wrap .i64 ((i : Int) + 1) = (i : Int) + 1 := by rw [IntKind.wrap_i64]; omega
  conv => arg 5; unfold hdY1
  repeat (first | refine Walk.cx ?_ | (refine Walk.cReg ?_; simp only [z12]) | (refine Walk.oq ?_; try walk_nrm) | (refine Walk.un ?_; walk_nrm))
  refine Walk.callW (Post := fun v w' => v = .tuple #[] ∧ Z w') ?_ (ho_of (by conv => lhs; whnf) (by kernel_rfl)) (by rfl) (by decide) rfl Try.func34 (by kernel_rfl) (by rfl) ?_
  · walk_nrm
    exact hb
  rintro v w1 ⟨rfl, hZ⟩
  clear c1 hl hb
  walk_nrm
  repeat (first | refine Walk.cx ?_ | (refine Walk.cReg ?_; simp only [z12]) | (refine Walk.oq ?_; try walk_nrm) | (refine Walk.un ?_; walk_nrm))
  refine Walk.ctl rfl (fun w => stepG_inLoop) ?_
  refine .stop fun d => ⟨at_slots ?_, w1, d, hZ, rfl⟩
  have hc : ((i + 1 : Nat) : Int) = (i : Int) + 1 := by simp
  simp only [hdY1, hc]
  rfl
theorem ply_turn (sa : Option Addr) (sn sc : Nat) (most : Int) (r m n lc : Nat) (la : Option Addr) (B : World → Nat → World → Prop) (u : Nat → Value) (cs : List Frame) (w : World) (c1 : w.cell? ⟨m, 1, none⟩ = some (.slice la n lc))
    (hb : CallW Try.prog main (fun _ => none) 35 #[.slice sa sn sc, .int .i64 most] w (fun v w' => ∃ b, v = .pointer (some ⟨b, 0, none⟩) ∧ B w b w')) :
    Walk Try.prog main (DR (fun _ => none)) (fun g w' => ∃ b w1 d, (∃ u, g = G (hdY2 r m b u) cs) ∧ B w b w1 ∧ w' = w1.at d) (G (hdY1 (.slice sa sn sc) most r m n u) cs) w := by
  conv => arg 5; unfold hdY1
  repeat (first | refine Walk.cx ?_ | (refine Walk.cReg ?_; simp only [z12]) | (refine Walk.oq ?_; try walk_nrm) | (refine Walk.un ?_; walk_nrm))
  refine Walk.callW (Post := fun v w' => ∃ b, v = .pointer (some ⟨b, 0, none⟩) ∧ B w b w') ?_ (ho_of (by conv => lhs; whnf) (by kernel_rfl)) (by rfl) (by decide) rfl Try.func35 (by kernel_rfl) (by rfl) ?_
  · walk_nrm
    exact hb
  rintro v w1 ⟨b, rfl, hB⟩
  clear c1 hb
  walk_nrm
  repeat (first | refine Walk.cx ?_ | (refine Walk.cReg ?_; simp only [z12]) | (refine Walk.oq ?_; try walk_nrm) | (refine Walk.un ?_; walk_nrm))
  refine Walk.ctl rfl (fun w => stepG_loop) ?_
  refine .stop fun d => ⟨b, w1, d, at_slots ?_, hB, rfl⟩
  simp only [hdY2]
  rfl
theorem ply_go (r m B n lc : Nat) (la : Option Addr) (Y : Nat → World → Prop) (Z : Nat → World → World → Prop) (u : Nat → Value) (cs : List Frame) (w : World) (hn : n ≤ 64) (c1 : w.cell? ⟨m, 1, none⟩ = some (.slice la n lc))
    (hp : CallW Try.prog main (fun _ => none) 36 #[.pointer (some ⟨B, 0, none⟩), .slice la n lc] w (fun v w' => ∃ x : Nat, v = .int .i64 (x : Nat) ∧ Y x w'))
    (hy : ∀ x w1, Y x w1 → x < n ∧ w1.cell? ⟨m, 1, none⟩ = some (.slice la n lc) ∧ ∃ tl q, la = some ⟨tl, 0, none⟩ ∧ w1.cell? ⟨tl, x, none⟩ = some (.pointer (some ⟨q, 0, none⟩)) ∧ CallW Try.prog main (fun _ => none) 39 #[.pointer (some ⟨m, 0, none⟩), .pointer (some ⟨q, 0, none⟩)] w1 (fun v w' => v = .tuple #[] ∧ Z x w1 w')) :
    Walk Try.prog main (DR (fun _ => none)) (fun g w' => (∃ u, g = G (hdY2 r m B u) cs) ∧ ∃ x w1 w2 d, Y x w1 ∧ Z x w1 w2 ∧ w' = w2.at d) (G (hdY2 r m B u) cs) w := by
  conv => arg 5; unfold hdY2
  repeat (first | refine Walk.cx ?_ | (refine Walk.cReg ?_; simp only [z12]) | (refine Walk.oq ?_; try walk_nrm) | (refine Walk.un ?_; walk_nrm))
  refine Walk.callW (Post := fun v w' => ∃ x : Nat, v = .int .i64 (x : Nat) ∧ Y x w') ?_ (ho_of (by conv => lhs; whnf) (by kernel_rfl)) (by rfl) (by decide) rfl Try.func36 (by kernel_rfl) (by rfl) ?_
  · walk_nrm
    exact hp
  rintro v w1 ⟨x, rfl, hY⟩
  obtain ⟨hx, k1, tl, q, rfl, hl, hs⟩ := hy x w1 hY
  clear c1 hp hy
  have hd0 : decide ((x : Int) < 0) = false := by simp
  have hx1 : (x : Int) < n := by omega
  walk_nrm
  repeat (first | refine Walk.cx ?_ | (refine Walk.cReg ?_; simp only [z12]) | (refine Walk.oq ?_; try walk_nrm) | (refine Walk.un ?_; walk_nrm))
  refine Walk.callW (Post := fun v w' => v = .tuple #[] ∧ Z x w1 w') ?_ (ho_of (by conv => lhs; whnf) (by kernel_rfl)) (by rfl) (by decide) rfl Try.func39 (by kernel_rfl) (by rfl) ?_
  · walk_nrm
    exact hs
  rintro v w2 ⟨rfl, hZ⟩
  clear k1 hl hs
  walk_nrm
  repeat (first | refine Walk.cx ?_ | (refine Walk.cReg ?_; simp only [z12]) | (refine Walk.oq ?_; try walk_nrm) | (refine Walk.un ?_; walk_nrm))
  refine Walk.ctl rfl (fun w => stepG_inLoop) ?_
  refine .stop fun d => ⟨at_slots ?_, x, w1, w2, d, hY, hZ, rfl⟩
  simp only [hdY2]
  rfl
end
end
section
theorem facts_out {dsts : List Nat} {vals : List Value} {f : Nat → Bool} {u : Nat → Value} (F : Facts dsts vals f u) {i d : Nat} {v : Value} (hd : dsts[i]? = none) (hn : d ∉ dsts) : Facts dsts vals (upd f i true) (upd u d v) := by
  intro j e x hf hj hv
  have e1 : j ≠ i := fun h => by rw [h, hd] at hj; cases hj
  have e2 : e ≠ d := fun h => hn (h ▸ List.mem_of_getElem? hj)
  rw [upd_ne _ _ e1] at hf
  rw [upd_ne _ _ e2]
  exact F j e x hf hj hv
section
variable {main : Bool}
structure PlyEnd (m cb N cc : Nat) (s : Oz) (n lc : Nat) (la : Option Addr) (hv : Nat → Value) (B : Nat) (lo : Option Addr) (lco : Nat) (sl : List Int) (most : Int) (p rd : Nat) (oa : Option Addr) (oc : Nat) (ord : List Nat) (st : Bool) (r : Nat) (w : World) : Prop where
  M : OmX (fun g => g < w.heap.size) m cb N cc (.slice la n lc) s w
  U : TuX (fun g => g < w.heap.size) B lo lco sl most p rd oa oc ord st w
  th : ∀ i, i < n → ∃ tl q aa al ac, la = some ⟨tl, 0, none⟩ ∧ w.cell? ⟨tl, 0 + i, none⟩ = some (.pointer (some ⟨q, 0, none⟩)) ∧ w.cell? ⟨q, 12, none⟩ = some (.slice aa al ac) ∧ hv i = .slice aa al ac
  res : w.heap[r]? = some zTr
  rlt : r < w.heap.size
def PlyOut (n : Nat) (hv : Nat → Value) (oa : Option Addr) (oc : Nat) (ord : List Nat) (sts : List Int) (st : Bool) (r : Nat) (w1 : World) (v : Value) (w' : World) : Prop := ∃ ha hc sa sc, v = .agg (trC (.slice ha n hc) (.slice oa ord.length oc) (.slice sa sts.length sc) st) ∧ w'.ownsRow w1.heap.size 49 1 (.slice ha n hc) n (hdRow hv n) ∧ w'.ownsRow w1.heap.size 2 1 (.slice sa sts.length sc) sts.length (intRow sts) ∧ Chg (fun b => b = r) w1 w'
def tmX (r m B : Nat) (u : Nat → Value) : Array Value := #[u 0, u 1, u 2, u 3, u 4, u 5, u 6, u 7, .pointer (some ⟨r, 0, none⟩), .pointer (some ⟨m, 0, none⟩), u 10, u 11, .pointer (some ⟨B, 0, none⟩), u 13, u 14, u 15, u 16, u 17, u 18, u 19, u 20, u 21, u 22, u 23, u 24, u 25, u 26, u 27, u 28, u 29, u 30, u 31, u 32, u 33, u 34, u 35, u 36, u 37, u 38, u 39, u 40, u 41, u 42, u 43, u 44, u 45, u 46, u 47, u 48, u 49, u 50, u 51, u 52, u 53, u 54, u 55, u 56, u 57, u 58, u 59, u 60, u 61, u 62, u 63, u 64, u 65, u 66, u 67, u 68, u 69, u 70, u 71, u 72, u 73, u 74, u 75, u 76, u 77, u 78, u 79]
def dsX : List Nat := [63, 64, 65, 66, 67, 68]
def vsX (m B n lc : Nat) (la : Option Addr) : List Value := [.pointer (some ⟨B, 0, none⟩), .pointer (some ⟨m, 0, none⟩), .pointer (some ⟨m, 0, none⟩), .pointer (some ⟨m, 1, none⟩), .slice la n lc, .pointer (some ⟨m, 0, none⟩)]
inductive LaR (n : Nat) (hv : Nat → Value) (oa : Option Addr) (oc : Nat) (ord : List Nat) (sts : List Int) (st : Bool) (r : Nat) (w1 : World) (f : Nat → Bool) (u : Nat → Value) (w' : World) : Prop
  | early (h6 : f 6 = false) (h7 : f 7 = false) (h8 : f 8 = false) (e : ∃ d, w' = w1.at d)
  | stated (h6 : f 6 = true) (h7 : f 7 = false) (h8 : f 8 = false) (sa : Option Addr) (sc : Nat) (e : u 69 = .slice sa sts.length sc) (H : VI w1 w' sts sa sc)
  | told (h7 : f 7 = true) (h8 : f 8 = false) (sa : Option Addr) (sc : Nat) (ha : Option Addr) (hc : Nat) (e : u 70 = .agg (trC (.slice ha n hc) (.slice oa ord.length oc) (.slice sa sts.length sc) st)) (r1 : w'.ownsRow w1.heap.size 49 1 (.slice ha n hc) n (hdRow hv n)) (r2 : w'.ownsRow w1.heap.size 2 1 (.slice sa sts.length sc) sts.length (intRow sts)) (C : Chg (fun _ => False) w1 w')
  | done (h8 : f 8 = true) (cells : Array Value) (hr : w'.heap[r]? = some (.cells cells 29)) (hs : cells.size = 4) (h : PlyOut n hv oa oc ord sts st r w1 (.agg cells) w')
theorem LaR.quiet {n : Nat} {hv : Nat → Value} {oa : Option Addr} {oc : Nat} {ord : List Nat} {sts : List Int} {st : Bool} {r : Nat} {w1 : World} {f : Nat → Bool} {u : Nat → Value} {w' : World} (H : LaR n hv oa oc ord sts st r w1 f u w') {i d : Nat} {v : Value} (hi : i < 6) (hd : d < 69) : LaR n hv oa oc ord sts st r w1 (upd f i true) (upd u d v) w' := by
  have n6 : upd f i true 6 = f 6 := upd_ne _ _ (by omega)
  have n7 : upd f i true 7 = f 7 := upd_ne _ _ (by omega)
  have n8 : upd f i true 8 = f 8 := upd_ne _ _ (by omega)
  have u9 : upd u d v 69 = u 69 := upd_ne _ _ (by omega)
  have u0 : upd u d v 70 = u 70 := upd_ne _ _ (by omega)
  cases H with
  | early h6 h7 h8 e => exact .early (n6.trans h6) (n7.trans h7) (n8.trans h8) e
  | stated h6 h7 h8 sa sc e H => exact .stated (n6.trans h6) (n7.trans h7) (n8.trans h8) sa sc (u9.trans e) H
  | told h7 h8 sa sc ha hc e r1 r2 C => exact .told (n7.trans h7) (n8.trans h8) sa sc ha hc (u0.trans e) r1 r2 C
  | done h8 cells hr hs h => exact .done (n8.trans h8) cells hr hs h
theorem LaR.olds {n : Nat} {hv : Nat → Value} {oa : Option Addr} {oc : Nat} {ord : List Nat} {sts : List Int} {st : Bool} {r : Nat} {w1 : World} {f : Nat → Bool} {u : Nat → Value} {w' : World} (H : LaR n hv oa oc ord sts st r w1 f u w') {b : Nat} (hb : b < w1.heap.size) (hr : b ≠ r) : w'.heap[b]? = w1.heap[b]? := by
  cases H with
  | early _ _ _ e => obtain ⟨d, rfl⟩ := e; rfl
  | stated _ _ _ _ _ _ H => exact H.old b hb
  | told _ _ _ _ _ _ _ _ _ C => exact C.same b hb id
  | done _ _ _ _ h => obtain ⟨_, _, _, _, _, _, _, C⟩ := h; exact C.same b hb hr
theorem ply_last (m cb N cc : Nat) (s : Oz) (n lc : Nat) (la : Option Addr) (hv : Nat → Value) (B : Nat) (Y : World → Prop) (r : Nat) (u0 : Nat → Value) (c : Frame) (cs : List Frame) (w : World) (hn : n ≤ 64) (hN : N ≤ 64) (hmr : m ≠ r) (c1 : w.cell? ⟨m, 1, none⟩ = some (.slice la n lc))
    (hp : CallW Try.prog main (fun _ => none) 36 #[.pointer (some ⟨B, 0, none⟩), .slice la n lc] w (fun v w' => v = .int .i64 (-1) ∧ Y w'))
    (hy : ∀ w1, Y w1 → ∃ lo lco sl most p rd oa oc ord st, PlyEnd m cb N cc s n lc la hv B lo lco sl most p rd oa oc ord st r w1) :
    Walk Try.prog main (DR (fun _ => none)) (fun g w' => ∃ v w1 lo lco sl most p rd oa oc ord st, Y w1 ∧ PlyEnd m cb N cc s n lc la hv B lo lco sl most p rd oa oc ord st r w1 ∧ PlyOut n hv oa oc ord (ozState s N) st r w1 v w' ∧ g = G (c.finish v) cs) (G (hdY2 r m B u0) (c :: cs)) w := by
  conv => arg 5; unfold hdY2
  repeat (first | refine Walk.cx ?_ | (refine Walk.cReg ?_; simp only [z12]) | (refine Walk.oq ?_; try walk_nrm) | (refine Walk.un ?_; walk_nrm))
  refine Walk.callW (Post := fun v w' => v = .int .i64 (-1) ∧ Y w') ?_ (ho_of (by conv => lhs; whnf) (by kernel_rfl)) (by rfl) (by decide) rfl Try.func36 (by kernel_rfl) (by rfl) ?_
  · walk_nrm
    exact hp
  rintro v w1 ⟨rfl, hY⟩
  obtain ⟨lo, lco, sl, most, p, rd, oa, oc, ord, st, E⟩ := hy w1 hY
  clear c1 hp hy
  have hstt := rstate_w (main := main) hN w1 E.M
  obtain ⟨l1, l2⟩ := E.M.lt
  have k1 := E.M.c1
  have hrl := E.rlt
  walk_nrm
  repeat (first | refine Walk.cx ?_ | (refine Walk.cReg ?_; simp only [z12]) | (refine Walk.oq ?_; try walk_nrm) | (refine Walk.un ?_; walk_nrm))
  refine slots_walk (F := fun u => G ((base 12).at ⟨tmX r m B u, []⟩ (.code (.region 13 reg12_13 true) :: _)) (c :: cs)) (A := _) (fun u1 => ?_) rfl
  refine Walk.drawnJ (Inv := fun f ac' w' => ∃ u, ac' = ⟨tmX r m B u, []⟩ ∧ Facts dsX (vsX m B n lc la) f u ∧ LaR n hv oa oc ord (ozState s N) st r w1 f u w') (by kernel_rfl) (by kernel_rfl) (fun d => ⟨u1, rfl, Facts.none _ _ _, .early rfl rfl rfl ⟨d, rfl⟩⟩) ?_ ?_
  · rintro f j op act w' ⟨u, rfl, F0, Q⟩ hC hfj ho hdeps rest hr
    have hj : j < 9 := by have := (Array.getElem?_eq_some_iff.1 ho).1; rw [size12_13] at this; exact this
    have c1 : w'.cell? ⟨m, 1, none⟩ = some (.slice la n lc) := (World.cell?_of_block (a := ⟨m, 1, none⟩) (Q.olds l1 hmr)).trans k1
    match j, hj with
    | 0, _ =>
      clear hdeps hC c1
      simp only [tmX] at hr ⊢
      (refine Walk.oq ?_; try walk_nrm)
      refine hr _ _ ⟨upd u 63 (.pointer (some ⟨B, 0, none⟩)), ?_, F0.set (by decide) rfl rfl, Q.quiet (by decide) (by decide)⟩
      simp [tmX, upd]
    | 1, _ =>
      clear hdeps hC c1
      simp only [tmX] at hr ⊢
      (refine Walk.oq ?_; try walk_nrm)
      refine hr _ _ ⟨upd u 64 (.pointer (some ⟨m, 0, none⟩)), ?_, F0.set (by decide) rfl rfl, Q.quiet (by decide) (by decide)⟩
      simp [tmX, upd]
    | 2, _ =>
      have hd := deps_of (l := [1]) (by kernel_rfl) ho hdeps
      have e64 := F0 1 64 _ (hd 1 (by simp)) rfl rfl
      clear hdeps hC c1
      simp only [tmX] at hr ⊢
      simp only [e64]
      (refine Walk.oq ?_; try walk_nrm)
      refine hr _ _ ⟨upd u 65 (.pointer (some ⟨m, 0, none⟩)), ?_, F0.set (by decide) rfl rfl, Q.quiet (by decide) (by decide)⟩
      simp [tmX, upd, e64]
    | 3, _ =>
      have hd := deps_of (l := [2]) (by kernel_rfl) ho hdeps
      have e65 := F0 2 65 _ (hd 2 (by simp)) rfl rfl
      clear hdeps hC c1
      simp only [tmX] at hr ⊢
      simp only [e65]
      (refine Walk.oq ?_; try walk_nrm)
      refine hr _ _ ⟨upd u 66 (.pointer (some ⟨m, 1, none⟩)), ?_, F0.set (by decide) rfl rfl, Q.quiet (by decide) (by decide)⟩
      simp [tmX, upd, e65]
    | 4, _ =>
      have hd := deps_of (l := [3]) (by kernel_rfl) ho hdeps
      have e66 := F0 3 66 _ (hd 3 (by simp)) rfl rfl
      clear hdeps hC
      simp only [tmX] at hr ⊢
      simp only [e66]
      (refine Walk.oq ?_; try walk_nrm)
      refine hr _ _ ⟨upd u 67 (.slice la n lc), ?_, F0.set (by decide) rfl rfl, Q.quiet (by decide) (by decide)⟩
      simp [tmX, upd, e66]
    | 5, _ =>
      clear hdeps hC c1
      simp only [tmX] at hr ⊢
      (refine Walk.oq ?_; try walk_nrm)
      refine hr _ _ ⟨upd u 68 (.pointer (some ⟨m, 0, none⟩)), ?_, F0.set (by decide) rfl rfl, Q.quiet (by decide) (by decide)⟩
      simp [tmX, upd]
    | 6, _ =>
      have hd := deps_of (l := [5]) (by kernel_rfl) ho hdeps
      have e68 := F0 5 68 _ (hd 5 (by simp)) rfl rfl
      have f8 : f 8 = false := by
        cases h : f 8 with
        | false => rfl
        | true => have := hC.deps (i := 8) (l := [6]) h (by kernel_rfl) 6 (by simp); rw [hfj] at this; cases this
      have f7 : f 7 = false := by
        cases h : f 7 with
        | false => rfl
        | true => have := hC.deps (i := 7) (l := [6]) h (by kernel_rfl) 6 (by simp); rw [hfj] at this; cases this
      cases Q with
      | stated h6 => rw [hfj] at h6; cases h6
      | told h7 => rw [f7] at h7; cases h7
      | done h8 => rw [f8] at h8; cases h8
      | early h6 h7 h8 e =>
        obtain ⟨dd, rfl⟩ := e
        refine Walk.back ?_ dd
        clear hdeps hC c1
        simp only [tmX] at hr ⊢
        simp only [e68]
        refine Walk.callW (Post := ValOut w1 (ozState s N)) ?_ (ho_of (by conv => lhs; whnf) (by kernel_rfl)) (by rfl) (by decide) rfl Try.func38 (by kernel_rfl) (by rfl) ?_
        · walk_nrm
          exact hstt
        rintro v w3 ⟨sa, sc, rfl, H⟩
        walk_nrm
        refine hr _ _ ⟨upd u 69 (.slice sa (ozState s N).length sc), ?_, facts_out F0 rfl (by decide), .stated (upd_same _ _ _) ((upd_ne _ _ (by decide)).trans f7) ((upd_ne _ _ (by decide)).trans f8) sa sc (upd_same _ _ _) ⟨H.row, H.old, H.size⟩⟩
        simp [tmX, upd, e68]
    | 7, _ =>
      have hd := deps_of (l := [0, 4, 6]) (by kernel_rfl) ho hdeps
      have e63 := F0 0 63 _ (hd 0 (by simp)) rfl rfl
      have e67 := F0 4 67 _ (hd 4 (by simp)) rfl rfl
      have f6 := hd 6 (by simp)
      have f8 : f 8 = false := by
        cases h : f 8 with
        | false => rfl
        | true => have := hC.deps (i := 8) (l := [7]) h (by kernel_rfl) 7 (by simp); rw [hfj] at this; cases this
      cases Q with
      | early h6 => rw [f6] at h6; cases h6
      | told h7 => rw [hfj] at h7; cases h7
      | done h8 => rw [f8] at h8; cases h8
      | stated h6 h7 h8 sa sc e69 H =>
        have hsz := H.size
        have U4 : TuX (fun g => g < w1.heap.size) B lo lco sl most p rd oa oc ord st w' := E.U.same fun g hg _ => H.old g hg
        have hcell : ∀ {x j : Nat} {v : Value}, w1.cell? ⟨x, j, none⟩ = some v → w'.cell? ⟨x, j, none⟩ = some v := fun {x j v} h => (World.cell?_of_block (a := ⟨x, j, none⟩) (H.old x (cell_lt' h))).trans h
        have htr := trc_w (main := main) la n lc sa (ozState s N).length sc hv w' hn U4 fun i hi => by
          obtain ⟨tl, q, aa, al, ac, e, h1, h2, h3⟩ := E.th i hi
          exact ⟨tl, q, aa, al, ac, e, hcell h1, hcell h2, h3⟩
        clear hdeps hC c1
        simp only [tmX] at hr ⊢
        simp only [e63, e67, e69]
        refine Walk.callW (Post := TraceR n hv (.slice oa ord.length oc) (.slice sa (ozState s N).length sc) st w') ?_ (ho_of (by conv => lhs; whnf) (by kernel_rfl)) (by rfl) (by decide) rfl Try.func37 (by kernel_rfl) (by rfl) ?_
        · walk_nrm
          exact htr
        rintro v w5 ⟨ha, hc, rfl, hrow5, hC5⟩
        walk_nrm
        refine hr _ _ ⟨upd u 70 (.agg (trC (.slice ha n hc) (.slice oa ord.length oc) (.slice sa (ozState s N).length sc) st)), ?_, facts_out F0 rfl (by decide), .told (upd_same _ _ _) ((upd_ne _ _ (by decide)).trans f8) sa sc ha hc (upd_same _ _ _) (row_raise hrow5 fun g hg => by have := (hrow5.lt g hg).1; omega) (row_same H.row fun g hg => hC5.same g (H.row.lt g hg).2 id) ⟨by have := hC5.size; show w1.heap.size ≤ w5.heap.size; omega, fun x hx _ => (hC5.same x (by omega) id).trans (H.old x hx)⟩⟩
        simp [tmX, upd, e63, e67, e69, trC]
    | 8, _ =>
      have f7 := deps_of (l := [7]) (by kernel_rfl) ho hdeps 7 (by simp)
      have f6 := deps_of (l := [6]) (by kernel_rfl) ho hdeps 6 (by simp)
      cases Q with
      | early h6 => rw [f6] at h6; cases h6
      | stated _ h7 => rw [f7] at h7; cases h7
      | done h8 => rw [hfj] at h8; cases h8
      | told h7 h8 sa sc ha hc e70 r1 r2 C =>
        have hr5 : w'.heap[r]? = some zTr := (C.same r hrl id).trans E.res
        have hT := setRow_self (cells := trC (.slice ha n hc) (.slice oa ord.length oc) (.slice sa (ozState s N).length sc) st) hr5
        have hfin : PlyOut n hv oa oc ord (ozState s N) st r w1 (.agg (trC (.slice ha n hc) (.slice oa ord.length oc) (.slice sa (ozState s N).length sc) st)) (w'.setRow r (trC (.slice ha n hc) (.slice oa ord.length oc) (.slice sa (ozState s N).length sc) st)) := by
          have hCs := C.size
          refine ⟨ha, hc, sa, sc, rfl, ?_, ?_, ⟨by rw [setRow_size]; omega, fun x hx hn => ?_⟩⟩
          · exact row_same r1 fun g hg => setRow_other _ _ (by have := (r1.lt g hg).1; omega)
          · exact row_same r2 fun g hg => setRow_other _ _ (by have := (r2.lt g hg).1; omega)
          · rw [setRow_other _ _ hn]
            exact C.same x hx id
        simp only [trC] at hT hfin e70
        clear hdeps hC c1
        simp only [tmX] at hr ⊢
        simp only [e70]
        refine Walk.storeS 29 (.tmp 8) (.tmp 70) (ho_of (by conv => lhs; whnf) (by kernel_rfl)) (by rfl) (by decide) rfl r #[.slice ha n hc, .slice oa ord.length oc, .slice sa (ozState s N).length sc, .bool st] #[.slice none 0 0, .slice none 0 0, .slice none 0 0, .bool false] 29 rfl rfl hr5 (by kernel_rfl) rfl (by simp [Value.oneCell']) (ap0 _) ?_
        walk_nrm
        refine hr _ _ ⟨u, ?_, facts_moreO F0 rfl, .done (upd_same _ _ _) _ hT rfl hfin⟩
        simp [tmX, e70]
  · rintro f act w6 ⟨u, rfl, F0, Q⟩ hall
    have h6 : f 6 = true := hall 6 (by rw [size12_13]; decide)
    have h7 : f 7 = true := hall 7 (by rw [size12_13]; decide)
    have h8 : f 8 = true := hall 8 (by rw [size12_13]; decide)
    cases Q with
    | early h => rw [h6] at h; cases h
    | stated _ h => rw [h7] at h; cases h
    | told _ h => rw [h8] at h; cases h
    | done _ cells hT hs4 hfin =>
      have hcs : (Try.prog.info? 29).map (·.size) = some cells.size := by rw [hs4]; kernel_rfl
      clear hall F0 h6 h7 h8 hstt
      simp only [tmX]
      try walk_nrm
      repeat (first | refine Walk.cx ?_ | (refine Walk.cReg ?_; simp only [z12]) | (refine Walk.oq ?_; try walk_nrm) | (refine Walk.un ?_; walk_nrm))
      refine Walk.onCell (T := r) rfl rfl rfl Try.func12 rfl (by rfl) hT (by kernel_rfl) hcs (.stop fun d => ⟨_, w1, lo, lco, sl, most, p, rd, oa, oc, ord, st, hY, E, ?_, rfl⟩)
      obtain ⟨ha', hc', sa', sc', e, h1, h2, h3⟩ := hfin
      exact ⟨ha', hc', sa', sc', e, h1, h2, h3.at d⟩
end
end
end Go.Proofs.Ytdcjgmlgmjjogaa
