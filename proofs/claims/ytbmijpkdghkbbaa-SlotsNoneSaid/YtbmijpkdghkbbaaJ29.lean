/- Part 29. -/
import Derived.Test.YtbmijpkdghkbbaaJ22
import Derived.Test.YtbmijpkdghkbbaaJ23
import Derived.Test.YtbmijpkdghkbbaaJ28
import Derived.Test.YtbmijpkdghkbbaaRows
import Derived.Conc.LeavingOf
import Derived.Lib.SmallJoins
import Derived.Handy
import Derived.SizedLaws
import Derived.Carry
import Derived.Deep.Slices
import Derived.Deep.Fields
set_option linter.unusedSimpArgs false
set_option linter.unusedVariables false
set_option linter.unusedVariables false
set_option maxHeartbeats 8000000
set_option maxRecDepth 100000
namespace Go.Proofs.Ytbmijpkdghkbbaa
open Go.Conc Go.RowKit Go.Relay
open Go.ConcN (upd upd_ne upd_same)
section
section
variable {zb lb : Nat}
theorem no_in (ov : Value) (i : Nat) (hi : i < 2) (W w : World) (I : NoW zb lb W w) (cs : List Frame) (u : Nat → Value) :
    Walk Try.prog true (DR (fun _ => none)) (fun g w' => (∃ u, g = G (hdNi ov (rvL zb i) lb i 0 u) cs) ∧ NoW zb lb W w') (G (hdNo ov lb i u) cs) w := by
  have hi0 : (0 : Int) ≤ i := by omega
  have hi1 : decide ((i : Int) < 2) = true := by simp; omega
  have hi3 : decide (i < 2) = true := by simp; omega
  have hi4 : (i : Int) < 2 := by omega
  have c1 := I.item hi
  have k1 := size_z (main := true) (V := fun _ => none) (rvL zb i) w (I.nor i)
  have k2 := stamps_z (main := true) (V := fun _ => none) (rvL zb i) w (I.nor i)
  have k3 := fun w' (h : NoW zb lb W w') => values_z (main := true) (V := fun _ => none) (rvL zb i) w' (h.nor i)
  generalize rvL zb i = rv at *
  conv => arg 5; unfold hdNo
  repeat (first | refine Walk.cx ?_ | (refine Walk.cReg ?_; simp only [z7]) | (refine Walk.oq ?_; try walk_nrm) | (refine Walk.un ?_; walk_nrm))
  refine Walk.callV (x := .int .i64 0) (W := w) ?_ (ho_of (by conv => lhs; whnf) (by kernel_rfl)) (by rfl) (by decide) rfl Try.func20 (by kernel_rfl) (by rfl) ?_
  · walk_nrm
    exact k1
  clear c1
  walk_nrm
  repeat (first | refine Walk.cx ?_ | (refine Walk.cReg ?_; simp only [z7]) | (refine Walk.oq ?_; try walk_nrm) | (refine Walk.un ?_; walk_nrm))
  refine Walk.callW (Post := NlR w) ?_ (ho_of (by conv => lhs; whnf) (by kernel_rfl)) (by rfl) (by decide) rfl Try.func27 (by kernel_rfl) (by rfl) ?_
  · walk_nrm
    exact k2
  rintro v w2 ⟨⟨B, rfl⟩, z2, o2⟩
  have I2 := I.next z2 o2
  clear k1 k2 o2 z2
  walk_nrm
  repeat (first | refine Walk.cx ?_ | (refine Walk.cReg ?_; simp only [z7]) | (refine Walk.oq ?_; try walk_nrm) | (refine Walk.un ?_; walk_nrm))
  refine Walk.callW (Post := NlR w2) ?_ (ho_of (by conv => lhs; whnf) (by kernel_rfl)) (by rfl) (by decide) rfl Try.func28 (by kernel_rfl) (by rfl) ?_
  · walk_nrm
    exact k3 w2 I2
  rintro v w3 ⟨⟨B3, rfl⟩, z3, o3⟩
  have I3 := I2.next z3 o3
  clear k3 o3 z3
  walk_nrm
  repeat (first | refine Walk.cx ?_ | (refine Walk.cReg ?_; simp only [z7]) | (refine Walk.oq ?_; try walk_nrm) | (refine Walk.un ?_; walk_nrm))
  refine Walk.ctl rfl (fun w => stepG_loop) ?_
  refine .stop fun d => ⟨at_slots ?_, I3.at d⟩
  simp only [hdNi]
  rfl
end
end
section
section
variable {zb lb : Nat}
theorem no_round (tb toff n0 tc i k : Nat) (o : OpV) (hk : k < n0) (hn0 : n0 ≤ 17592186044416) (rv : Value) (w : World) (hr : NoR rv w) (hw : IntKind.i64.wrap o.a = o.a)
    (o1 : w.cell? ⟨tb, toff + k * 4 + 1, none⟩ = some (.int .i64 o.a)) (o2 : w.cell? ⟨tb, toff + k * 4 + 2, none⟩ = some (.int .i64 o.b)) (cs : List Frame) (u : Nat → Value) :
    Walk Try.prog true (DR (fun _ => none)) (fun g w' => (∃ u, g = G (hdNi (.slice (some ⟨tb, toff, none⟩) n0 tc) rv lb i (k + 1) u) cs) ∧ ∃ d, w' = w.at d) (G (hdNi (.slice (some ⟨tb, toff, none⟩) n0 tc) rv lb i k u) cs) w := by
  have hi0 : (0 : Int) ≤ k := by omega
  have hi1 : decide ((k : Int) < n0) = true := by simp; omega
  have hi3 : decide (k < n0) = true := by simp; omega
  have hi4 : (k : Int) < n0 := by omega
  have hw1 : IntKind.wrap .i64 ((k : Int) + 1) = (k : Int) + 1 := by rw [IntKind.wrap_i64]; omega
  have hcc : ((k + 1 : Nat) : Int) = (k : Int) + 1 := by simp
  have k1 := get_z (main := true) (V := fun _ => none) rv .nilIface w hr o.a
  have k2 := gather_z (main := true) (V := fun _ => none) rv .nilIface w hr o.a o.b
  have k3 := put_z (main := true) (V := fun _ => none) rv .nilIface w hr o.a 1
  have k4 := there_z (main := true) (V := fun _ => none) rv .nilIface w hr o.a
  have k5 := high_z (main := true) (V := fun _ => none) rv .nilIface w hr o.a o.b
  clear hr
  unfold bef at k5
  have hlo : -9223372036854775808 ≤ o.a := by rw [IntKind.wrap_i64] at hw; omega
  generalize o.a = q at *
  generalize o.b = t at *
  clear hw
  conv => arg 5; unfold hdNi
  repeat (first | refine Walk.cx ?_ | (refine Walk.cReg ?_; simp only [z7]) | (refine Walk.oq ?_; try walk_nrm) | (refine Walk.un ?_; walk_nrm))
  refine Walk.callV (x := .tuple #[.int .i64 0, .int .i64 1]) (W := w) ?_ (ho_of (by conv => lhs; whnf) (by kernel_rfl)) (by rfl) (by decide) rfl Try.func34 (by kernel_rfl) (by rfl) ?_
  · walk_nrm
    exact k1
  walk_nrm
  repeat (first | refine Walk.cx ?_ | (refine Walk.cReg ?_; simp only [z7]) | (refine Walk.oq ?_; try walk_nrm) | (refine Walk.un ?_; walk_nrm))
  refine Walk.callV (x := .tuple #[.slice none 0 0, .int .i64 1]) (W := w) ?_ (ho_of (by conv => lhs; whnf) (by kernel_rfl)) (by rfl) (by decide) rfl Try.func37 (by kernel_rfl) (by rfl) ?_
  · walk_nrm
    exact k2
  clear k1 k2
  walk_nrm
  by_cases h1 : q = -9223372036854775808
  · subst h1
    rw [if_pos rfl] at k5
    clear hlo
    repeat (first | refine Walk.cx ?_ | (refine Walk.cReg ?_; simp only [z7]) | (refine Walk.oq ?_; try walk_nrm) | (refine Walk.un ?_; walk_nrm))
    refine Walk.callV (x := .int .i64 1) (W := w) ?_ (ho_of (by conv => lhs; whnf) (by kernel_rfl)) (by rfl) (by decide) rfl Try.func33 (by kernel_rfl) (by rfl) ?_
    · walk_nrm
      exact k3
    walk_nrm
    repeat (first | refine Walk.cx ?_ | (refine Walk.cReg ?_; simp only [z7]) | (refine Walk.oq ?_; try walk_nrm) | (refine Walk.un ?_; walk_nrm))
    refine Walk.callV (x := .bool false) (W := w) ?_ (ho_of (by conv => lhs; whnf) (by kernel_rfl)) (by rfl) (by decide) rfl Try.func35 (by kernel_rfl) (by rfl) ?_
    · walk_nrm
      exact k4
    walk_nrm
    repeat (first | refine Walk.cx ?_ | (refine Walk.cReg ?_; simp only [z7]) | (refine Walk.oq ?_; try walk_nrm) | (refine Walk.un ?_; walk_nrm))
    refine Walk.callV (x := .int .i64 (-9223372036854775808)) (W := w) ?_ (ho_of (by conv => lhs; whnf) (by kernel_rfl)) (by rfl) (by decide) rfl Try.func36 (by kernel_rfl) (by rfl) ?_
    · walk_nrm
      exact k5
    clear k3 k4 k5 o1 o2
    walk_nrm
    repeat (first | refine Walk.cx ?_ | (refine Walk.cReg ?_; simp only [z7]) | (refine Walk.oq ?_; try walk_nrm) | (refine Walk.un ?_; walk_nrm))
    refine Walk.ctl rfl (fun w => stepG_inLoop) ?_
    refine .stop fun d => ⟨at_slots ?_, d, rfl⟩
    simp only [hdNi, hcc]
    rfl
  · rw [if_neg h1] at k5
    have g1 : decide (-9223372036854775808 < q) = true := by simp; omega
    have g3 : IntKind.i64.wrap (IntKind.i64.wrap (q - 1)) = IntKind.i64.wrap (q - 1) := by simp only [IntKind.wrap_i64]; omega
    generalize hz : IntKind.i64.wrap (q - 1) = z at *
    have g2 : (z != z) = false := by simp
    repeat (first | refine Walk.cx ?_ | (refine Walk.cReg ?_; simp only [z7]) | (refine Walk.oq ?_; try walk_nrm) | (refine Walk.un ?_; walk_nrm))
    refine Walk.callV (x := .int .i64 1) (W := w) ?_ (ho_of (by conv => lhs; whnf) (by kernel_rfl)) (by rfl) (by decide) rfl Try.func33 (by kernel_rfl) (by rfl) ?_
    · walk_nrm
      exact k3
    walk_nrm
    repeat (first | refine Walk.cx ?_ | (refine Walk.cReg ?_; simp only [z7]) | (refine Walk.oq ?_; try walk_nrm) | (refine Walk.un ?_; walk_nrm))
    refine Walk.callV (x := .bool false) (W := w) ?_ (ho_of (by conv => lhs; whnf) (by kernel_rfl)) (by rfl) (by decide) rfl Try.func35 (by kernel_rfl) (by rfl) ?_
    · walk_nrm
      exact k4
    walk_nrm
    repeat (first | refine Walk.cx ?_ | (refine Walk.cReg ?_; simp only [z7]) | (refine Walk.oq ?_; try walk_nrm) | (refine Walk.un ?_; walk_nrm))
    refine Walk.callV (x := .int .i64 z) (W := w) ?_ (ho_of (by conv => lhs; whnf) (by kernel_rfl)) (by rfl) (by decide) rfl Try.func36 (by kernel_rfl) (by rfl) ?_
    · walk_nrm
      exact k5
    clear k3 k4 k5 o1 o2
    walk_nrm
    repeat (first | refine Walk.cx ?_ | (refine Walk.cReg ?_; simp only [z7]) | (refine Walk.oq ?_; try walk_nrm) | (refine Walk.un ?_; walk_nrm))
    refine Walk.ctl rfl (fun w => stepG_inLoop) ?_
    refine .stop fun d => ⟨at_slots ?_, d, rfl⟩
    simp only [hdNi, hcc]
    rfl
end
end
section
section
variable {zb lb : Nat}
theorem no_next (oa0 : Option Addr) (n0 tc i : Nat) (hi : i < 2) (rv : Value) (w : World) (cs : List Frame) (u : Nat → Value) :
    Walk Try.prog true (DR (fun _ => none)) (fun g w' => (∃ u, g = G (hdNo (.slice oa0 n0 tc) lb (i + 1) u) cs) ∧ ∃ d, w' = w.at d) (G (hdNi (.slice oa0 n0 tc) rv lb i n0 u) cs) w := by
  have hi1 : decide ((n0 : Int) < n0) = false := by simp
  have hi3 : decide (n0 < n0) = false := by simp
  have hw1 : IntKind.wrap .i64 ((i : Int) + 1) = (i : Int) + 1 := by rw [IntKind.wrap_i64]; omega
  have hcc : ((i + 1 : Nat) : Int) = (i : Int) + 1 := by simp
  conv => arg 5; unfold hdNi
  repeat (first | refine Walk.cx ?_ | (refine Walk.cReg ?_; simp only [z7]) | (refine Walk.oq ?_; try walk_nrm) | (refine Walk.un ?_; walk_nrm))
  refine Walk.ctl rfl (fun w => stepG_inLoop) ?_
  refine .stop fun d => ⟨at_slots ?_, d, rfl⟩
  simp only [hdNo, hcc]
  rfl
theorem no_end (ov : Value) (w : World) (u : Nat → Value) :
    Walk Try.prog true (DR (fun _ => none)) (fun g w' => Closing 7 2 (.bool true) g ∧ ∃ d, w' = w.at d) (G (hdNo ov lb 2 u) []) w := by
  conv => arg 5; unfold hdNo
  repeat (first | refine Walk.cx ?_ | (refine Walk.cReg ?_; simp only [z7]) | (refine Walk.oq ?_; try walk_nrm) | (refine Walk.un ?_; walk_nrm))
  exact .stop fun d => ⟨⟨_, rfl, rfl, rfl, rfl, rfl, rfl⟩, d, rfl⟩
end
theorem no_enter (ov : Value) (w : World) : Walk Try.prog true (DR (fun _ => none)) (fun g w' => ∃ fr, g = G (Frame.enter Try.prog 14 #[] .normal) [fr] ∧ (∃ d, w' = w.at d) ∧ ∀ w1,
      Walk Try.prog true (DR (fun _ => none)) (fun g w' => (∃ u, g = G (hdNo ov (w1.heap.size + 1) 0 u) []) ∧ NoW w1.heap.size (w1.heap.size + 1) w1 w') (G (fr.finish (.bool true)) []) w1)
    (G (Frame.enter Try.prog 7 #[ov] .normal) []) w := by
  rw [enter_at _ Try.func7 code7_is]
  simp only [Try.ntmps7, ez, Nat.reduceAdd, Nat.reduceSub]
  repeat (first | refine Walk.cx ?_ | (refine Walk.cReg ?_; simp only [z7]) | (refine Walk.oq ?_; try walk_nrm) | (refine Walk.un ?_; walk_nrm))
  refine Walk.callE (ho_of (by conv => lhs; whnf) (by kernel_rfl)) (by rfl) (by decide) rfl Try.func14 (by kernel_rfl) (by rfl) ?_
  walk_nrm
  refine .stop fun d => ⟨_, rfl, ⟨d, rfl⟩, fun w1 => ?_⟩
  refine Walk.finish (ho_of (by conv => lhs; whnf) (by kernel_rfl)) ?_
  walk_nrm
  repeat (first | refine Walk.cx ?_ | (refine Walk.cReg ?_; simp only [z7]) | (refine Walk.oq ?_; try walk_nrm) | (refine Walk.un ?_; walk_nrm))
  (refine Walk.oa ?_; try walk_nrm)
  have s2 : (w1.alloc (.cells #[.slice none 0 0] 72)).heap.size = w1.heap.size + 1 := by simp
  have o2 : ∀ b, b < w1.heap.size → (w1.alloc (.cells #[.slice none 0 0] 72)).heap[b]? = w1.heap[b]? := fun b hb => heap_new_lt _ _ hb
  have d2 := heap_alloc_new w1 (.cells #[.slice none 0 0] 72)
  generalize hT : w1.heap.size = T at *
  generalize w1.alloc (.cells #[.slice none 0 0] 72) = x2 at *
  repeat (first | (refine Walk.oq ?_; try walk_nrm) | (refine Walk.un ?_; walk_nrm))
  (refine Walk.oa ?_; try walk_nrm)
  have s3 : (x2.alloc (.cells #[.pointer none, .pointer (some ⟨T, 0, none⟩)] 35)).heap.size = T + 2 := by simp [s2]
  have o3 : ∀ b, b < T + 1 → (x2.alloc (.cells #[.pointer none, .pointer (some ⟨T, 0, none⟩)] 35)).heap[b]? = x2.heap[b]? := fun b hb => heap_new_lt _ _ (by omega)
  have d3 := heap_alloc_new x2 (.cells #[.pointer none, .pointer (some ⟨T, 0, none⟩)] 35)
  try simp only [s2]
  rw [s2] at d3
  generalize x2.alloc (.cells #[.pointer none, .pointer (some ⟨T, 0, none⟩)] 35) = x3 at *
  have N3 : NoW T (T + 1) w1 x3 := ⟨(o3 T (by omega)).trans d2, d3, fun b hb => (o3 b (by omega)).trans (o2 b (by omega)), by omega⟩
  repeat (first | refine Walk.cx ?_ | (refine Walk.cReg ?_; simp only [z7]) | (refine Walk.oq ?_; try walk_nrm) | (refine Walk.un ?_; walk_nrm))
  refine Walk.ctl rfl (fun w => stepG_loop) ?_
  refine .stop fun d => ⟨at_slots ?_, N3.at d⟩
  simp only [hdNo]
  rfl
end
section
def OpsAt (oa0 : Option Addr) (l : List OpV) (w : World) : Prop := ∀ (j : Nat) (o : OpV), l[j]? = some o → IntKind.i64.wrap o.a = o.a ∧ ∃ b off, oa0 = some ⟨b, off, none⟩ ∧ w.cell? ⟨b, off + j * 4 + 1, none⟩ = some (.int .i64 o.a) ∧ w.cell? ⟨b, off + j * 4 + 2, none⟩ = some (.int .i64 o.b)
theorem OpsAt.old {oa0 : Option Addr} {l : List OpV} {w w' : World} (h : OpsAt oa0 l w) (ho : ∀ b, b < w.heap.size → w'.heap[b]? = w.heap[b]?) : OpsAt oa0 l w' := fun j o hj => by
  obtain ⟨hw, b, off, e, c1, c2⟩ := h j o hj
  exact ⟨hw, b, off, e, (World.cell?_of_block (a := ⟨b, _, none⟩) (ho b (cell_lt' c1))).trans c1, (World.cell?_of_block (a := ⟨b, _, none⟩) (ho b (cell_lt' c2))).trans c2⟩
section
variable {zb lb : Nat}
theorem no_inner (oa0 : Option Addr) (n0 tc : Nat) (l : List OpV) (hl : l.length = n0) (hn0 : n0 ≤ 17592186044416) (i : Nat) (hi : i < 2) (W : World) (cs : List Frame) :
    ∀ (r k : Nat) (w : World) (u : Nat → Value), k + r = n0 → NoW zb lb W w → OpsAt oa0 l w →
    Walk Try.prog true (DR (fun _ => none)) (fun g w' => (∃ u, g = G (hdNo (.slice oa0 n0 tc) lb (i + 1) u) cs) ∧ NoW zb lb W w' ∧ OpsAt oa0 l w') (G (hdNi (.slice oa0 n0 tc) (rvL zb i) lb i k u) cs) w := by
  intro r
  induction r with
  | zero =>
    intro k w u hk I O
    have hk : k = n0 := hk
    subst hk
    refine (no_next oa0 k tc i hi (rvL zb i) w cs u).mono ?_
    rintro g w' ⟨hu, d, rfl⟩
    exact ⟨hu, I.at d, O.old fun _ _ => rfl⟩
  | succ r ih =>
    intro k w u hk I O
    have hkl : k < l.length := by omega
    have ho : l[k]? = some l[k] := List.getElem?_eq_getElem hkl
    generalize l[k] = o at ho
    obtain ⟨hw, b, off, rfl, c1, c2⟩ := O k o ho
    refine (no_round b off n0 tc i k o (by omega) hn0 (rvL zb i) w (I.nor i) hw c1 c2 cs u).then ?_
    rintro g w' ⟨⟨u', rfl⟩, d, rfl⟩
    exact ih (k + 1) _ u' (by omega) (I.at d) (O.old fun _ _ => rfl)
theorem no_outer (oa0 : Option Addr) (n0 tc : Nat) (l : List OpV) (hl : l.length = n0) (hn0 : n0 ≤ 17592186044416) (W : World) :
    ∀ (r i : Nat) (w : World) (u : Nat → Value), i + r = 2 → NoW zb lb W w → OpsAt oa0 l w →
    Walk Try.prog true (DR (fun _ => none)) (fun g w' => Closing 7 2 (.bool true) g ∧ ∀ b, b < W.heap.size → w'.heap[b]? = W.heap[b]?) (G (hdNo (.slice oa0 n0 tc) lb i u) []) w := by
  intro r
  induction r with
  | zero =>
    intro i w u hi I O
    have hi : i = 2 := hi
    subst hi
    refine (no_end (.slice oa0 n0 tc) w u).mono ?_
    rintro g w' ⟨hC, d, rfl⟩
    exact ⟨hC, I.old⟩
  | succ r ih =>
    intro i w u hi I O
    refine (no_in (.slice oa0 n0 tc) i (by omega) w w ⟨I.z, I.l, fun _ _ => rfl, Nat.le_refl _⟩ [] u).then ?_
    rintro g w2 ⟨⟨u2, rfl⟩, I2⟩
    refine (no_inner oa0 n0 tc l hl hn0 i (by omega) W [] n0 0 w2 u2 (Nat.zero_add _) (I.next I2.size I2.old) (O.old I2.old)).then ?_
    rintro g w3 ⟨⟨u3, rfl⟩, I3, O3⟩
    exact ih (i + 1) w3 u3 (by omega) I3 O3
end
theorem none_all (oa0 : Option Addr) (n0 tc : Nat) (hn0 : n0 ≤ 17592186044416) (l : List OpV) (hl : l.length = n0) (W : World) (hop : OpsAt oa0 l W) :
    Runs (fun g w' => Closing 7 2 (.bool true) g ∧ ∀ b, b < W.heap.size → w'.heap[b]? = W.heap[b]?) (G (Frame.enter Try.prog 7 #[.slice oa0 n0 tc] .normal) []) W := by
  refine Runs.walk (no_enter (.slice oa0 n0 tc) W) ?_
  rintro _ _ ⟨fr, rfl, ⟨d, rfl⟩, hB⟩
  refine Runs.then (fixed_run fr [] (W.at d)) ?_
  rintro _ w1 ⟨rfl, O1, Z1⟩
  have O1 : ∀ b, b < W.heap.size → w1.heap[b]? = W.heap[b]? := O1
  have Z1 : W.heap.size ≤ w1.heap.size := Z1
  refine Runs.walk ((hB w1).then ?_) (Stop := fun g w' => Closing 7 2 (.bool true) g ∧ ∀ b, b < w1.heap.size → w'.heap[b]? = w1.heap[b]?) ?_
  · rintro g w2 ⟨⟨u, rfl⟩, I2⟩
    exact no_outer oa0 n0 tc l hl hn0 w1 2 0 w2 u rfl I2 ((hop.old O1).old I2.old)
  · rintro g w3 ⟨hC, hO⟩
    exact .now ⟨hC, fun b hb => (hO b (by omega)).trans (O1 b hb)⟩
end
section
open Go.ChangeShapes Go.WideShapes Go.ChangeAt Go.Joins Go.Deep
theorem prog_own : ownKnob Try.prog.godebug = none := by kernel_rfl
def Left (W : World) (v : Value) (w' : World) : Prop := v = .bool true ∧ w'.os = W.os ∧ w'.output = W.output ∧ ∀ b, b < W.heap.size → w'.heap[b]? = W.heap[b]?
theorem Left.kept {W w' : World} {v : Value} (h : Left W v w') (may : MemPlace → Prop) : W.keptBut w' may := by
  refine ⟨h.2.1, h.2.2.1, fun i hi => ?_⟩
  rw [h.2.2.2 i hi]
  split <;> simp_all
theorem und4_is : Try.prog.underlying 4 = some .bool := by kernel_rfl
theorem stepG_done {P : Program} {fr : Frame} {w : World} {fn : Func} {v : Value} (hm : fr.mode = .returning) (hn : fr.kind = .normal) (hd : fr.defers = []) (hf : P.funcs[fr.fn]? = some fn) (hr : (results fn fr.tmps).run P w = .ok v w) (he : (results fn fr.tmps).events P w #[] = #[]) (hi : P.inits.idxOf? fr.fn = none) :
    stepG P true (G fr []) w = .ended (.done v) w #[] := by
  simp [G, stepG, unwind, doReturn, hm, hd, hn, hf, hr, he, hi, GStep.after, seen_none]
theorem run_claim {f : FuncId} {fn : Func} {args : Array Value} {W : World} {Post : Value → World → Prop} {v : Value} {t : Tmp} (hf : Try.prog.funcs[f]? = some fn) (hres : fn.results = #[.tmp t]) (hi : Try.prog.inits.idxOf? f = none)
    (h : Runs (fun g w' => Closing f t v g ∧ (OsSame W w' → ∀ d, Post v (w'.at d))) (G (Frame.enter Try.prog f args .normal) []) W) :
    ∃ M last o w' t', runNT Try.prog (M + 1) (solo (G (Frame.enter Try.prog f args .normal) []) W) #[] = (.ended o w', t') ∧ Go.runN Try.prog M (solo (G (Frame.enter Try.prog f args .normal) []) W) = .next last ∧ step Try.prog last = .ended o w' ∧ Go.Conc.Good Try.prog Post last o w' t' := by
  rw [solo_eq_crowd]
  have A0 := at_begin (P := Try.prog) (gs := #[G (Frame.enter Try.prog f args .normal) []]) (a := G (Frame.enter Try.prog f args .normal) []) (sl := none) (w := W) rfl (leavers_one Try.prog _) past_nil
  obtain ⟨N1, m1, T1, r1, ⟨nG, g1, w1, _, ⟨⟨fr, rfl, hm, hn, hd, hfn, hv⟩, hP⟩, A1⟩, ho⟩ := h 1 _ _ (Nat.le_refl _) A0
  obtain ⟨gs, sl, q, B, rfl, _, hg0, hL, hPast⟩ := A1.ends (fun _ => rfl)
  have hP := hP ho
  have hs : ∀ d, stepG Try.prog true (G fr []) (w1.at d) = .ended (.done v) (w1.at d) #[] := fun d =>
    stepG_done hm hn hd (by rw [hfn]; exact hf) (by rw [results_tmp hres, hv]) (events_results_tmp hres _ _) (by rw [hfn]; exact hi)
  have hG : Goes Try.prog true AtRel (fun _ _ es => ∀ e ∈ es, EvL (fun _ => False) B e) (AtEnd Try.prog (fun _ => False) B Post) 0 (G fr []) w1 := by
    rintro _ ⟨d, rfl⟩
    exact ⟨rfl, v, #[], hs d, by simp, hP d⟩
  obtain ⟨M8, last, o, w', t', e1, e2, e3, e4⟩ := beside_ends (P := Try.prog) (Post := Post) (sl := sl) (fun _ _ _ h => h) hg0 hL hPast hG
  refine ⟨N1 + M8, last, o, w', t', ?_, ?_, e3, e4⟩
  · rw [Nat.add_assoc, runNT_add, r1]; exact e1
  · rw [Go.runN_add, ← runNT_fst Try.prog _ _ #[], r1]; exact e2
end
section
open Go.Conc Go.RowKit Go.Relay Go.ChangeShapes Go.WideShapes Go.ChangeAt Go.Joins Go.Deep
theorem und3_is : Try.prog.underlying 3 = some (.int .i64) := by kernel_rfl
theorem und2_is : Try.prog.underlying 2 = some (.int .i64) := by kernel_rfl
theorem laid_out : laidOutB Try.prog = true := by kernel_rfl
section
variable {H : Type} {enc : TypeId × Value → H} {W w' : World}
theorem Left.stays {r : Value} {t : TypeId} {v : Value} {d : DataW H} {ps : List MemPlace} (K : Left W r w') (hr : Try.prog.readableRec t = true) (hrow : t < Try.prog.types.size) (h : DataW.Trod enc Try.prog W 0 (fun _ => true) true t v d ps) (hlt : ∀ x ∈ ps, x.block < W.heap.size) :
    DataW.Trod enc Try.prog w' 0 (fun b => decide (b < W.heap.size)) true t v d ps :=
  WideElems.Trod_stays laid_out hr hrow h (fun x hx => by
    have hb := K.2.2.2 x.block (hlt x hx)
    cases x with
    | cell b o => exact World.cell?_of_block (w := W) (a := ⟨b, o, none⟩) hb
    | map b => exact hb) (fun x hx => by simpa using hlt x hx)
theorem addr_form {w : World} {a : Addr} {v : Value} (h : w.cell? a = some v) : a = ⟨a.block, a.off, none⟩ := by
  obtain ⟨b, o, s⟩ := a
  cases s with
  | none => rfl
  | some s =>
    unfold World.cell? at h
    split at h
    · simp at h
    · cases h
end
section
variable {H : Type} {enc : TypeId × Value → H} {W : World}
theorem lit_wraps {z : Int} (h : (Lit.int .i64 z).wf = true) : IntKind.i64.wrap z = z := by
  simp [Lit.wf, IntKind.min, IntKind.max, IntKind.signed, IntKind.bits] at h
  rw [IntKind.wrap_i64]
  omega
variable {base : Nat} {spare : Nat → Bool} {held : Bool}
end
end
section
open Go.Conc Go.RowKit Go.Relay Go.ChangeShapes Go.WideShapes Go.ChangeAt Go.Joins Go.Deep
noncomputable def fldsOp : Array Field := match Try.prog.underlying 49 with | some (.struct fs) => fs | _ => #[]
theorem undOp_is : Try.prog.underlying 49 = some (.struct fldsOp) := by kernel_rfl
theorem fldsOp_four : ∃ f0 f1 f2 f3, fldsOp = #[f0, f1, f2, f3] ∧ f0.type = 3 ∧ f1.type = 2 ∧ f2.type = 2 ∧ f3.type = 2 := by
  have hs : fldsOp.size = 4 := by kernel_rfl
  have h0 : (fldsOp[0]?).map (·.type) = some 3 := by kernel_rfl
  have h1 : (fldsOp[1]?).map (·.type) = some 2 := by kernel_rfl
  have h2 : (fldsOp[2]?).map (·.type) = some 2 := by kernel_rfl
  have h3 : (fldsOp[3]?).map (·.type) = some 2 := by kernel_rfl
  generalize fldsOp = F at *
  obtain ⟨l⟩ := F
  match l, hs with
  | [f0, f1, f2, f3], _ => exact ⟨f0, f1, f2, f3, rfl, by simpa using h0, by simpa using h1, by simpa using h2, by simpa using h3⟩
section
variable {H : Type} {enc : TypeId × Value → H} {W : World} {base : Nat} {spare : Nat → Bool} {held : Bool}
theorem trod_struct4 {P : Program} {t : TypeId} {f0 f1 f2 f3 : Field} {fuel : Nat} {cs : List Value} {x : DataW H × List MemPlace} (ht : P.underlying t = some (.struct #[f0, f1, f2, f3])) (h : DataW.trod enc P W base spare held fuel t cs = some x) :
    ∃ y0 y1 y2 y3 n, cs.length = P.cellsOf t ∧ DataW.trod enc P W base spare held n f0.type ((cs.drop f0.offset).take (P.cellsOf f0.type)) = some y0 ∧
      DataW.trod enc P W base spare held n f1.type ((cs.drop f1.offset).take (P.cellsOf f1.type)) = some y1 ∧ DataW.trod enc P W base spare held n f2.type ((cs.drop f2.offset).take (P.cellsOf f2.type)) = some y2 ∧
      DataW.trod enc P W base spare held n f3.type ((cs.drop f3.offset).take (P.cellsOf f3.type)) = some y3 := by
  obtain ⟨xs, n, _, rfl, hl, hlen, hf⟩ := DataW.trod_struct ht h
  match xs, hlen with
  | [y0, y1, y2, y3], _ => exact ⟨y0, y1, y2, y3, n, hl, by simpa using hf 0 f0 rfl, by simpa using hf 1 f1 rfl, by simpa using hf 2 f2 rfl, by simpa using hf 3 f3 rfl⟩
structure ThIn (W : World) (v : Value) (a : Option Addr) (ln oc : Nat) (l : List OpV) : Prop where
  is : v = .slice a ln oc
  len : l.length = ln
  cap : ln ≤ oc
  ad : (a = none ∧ oc = 0) ∨ ∃ p, a = some p
  ops : ∀ (k : Nat) (o : OpV), l[k]? = some o → ∃ b off, a = some ⟨b, off, none⟩ ∧ W.cell? ⟨b, off + k * 4, none⟩ = some (.int .i64 o.k) ∧ W.cell? ⟨b, off + k * 4 + 1, none⟩ = some (.int .i64 o.a) ∧ W.cell? ⟨b, off + k * 4 + 2, none⟩ = some (.int .i64 o.b) ∧ W.cell? ⟨b, off + k * 4 + 3, none⟩ = some (.int .i64 o.c)
  wr : ∀ (k : Nat) (o : OpV), l[k]? = some o → IntKind.i64.wrap o.k = o.k ∧ IntKind.i64.wrap o.a = o.a ∧ IntKind.i64.wrap o.b = o.b ∧ IntKind.i64.wrap o.c = o.c
theorem open_ops {n : Nat} {v : Value} {x : DataW H × List MemPlace} (hu : Try.prog.underlying 34 = some (.slice 49)) (h : DataW.trod enc Try.prog W base (fun _ => true) held n 34 [v] = some x) :
    ∃ (q : (Option Addr × Nat × Nat) × List OpV), ThIn W v q.1.1 q.1.2.1 q.1.2.2 q.2 := by
  have hC : Try.prog.cellsOf 49 = 4 := by kernel_rfl
  obtain ⟨f0, f1, f2, f3, ef, t0, t1, t2, t3⟩ := fldsOp_four
  have hst : Try.prog.underlying 49 = some (.struct #[f0, f1, f2, f3]) := by rw [undOp_is, ef]
  have hone : oneCellFields Try.prog #[f0, f1, f2, f3] = true := by rw [← ef]; kernel_rfl
  rcases open_slice hu h with ⟨e, _⟩ | ⟨a', len', cap', m, n', D, Pl, e, _, hl, _, hm, hx, hel⟩
  · injection e with e _
    exact ⟨((none, 0, 0), []), e, rfl, Nat.le_refl _, .inl ⟨rfl, rfl⟩, fun k o h => (by simp at h), fun k o h => (by simp at h)⟩
  · injection e with e _
    have hm : m = cap' := by simpa using hm
    have key : ∀ i, i < len' → ∃ o : OpV, (IntKind.i64.wrap o.k = o.k ∧ IntKind.i64.wrap o.a = o.a ∧ IntKind.i64.wrap o.b = o.b ∧ IntKind.i64.wrap o.c = o.c) ∧ ∀ k v, ([.int .i64 o.k, .int .i64 o.a, .int .i64 o.b, .int .i64 o.c] : List Value)[k]? = some v → W.cell? ((a'.add (i * 4)).add k) = some v := fun i hi => by
      obtain ⟨cs', h1, h2⟩ := hel i (by omega)
      rw [hC] at h1
      obtain ⟨_, hlen, hcell⟩ := World.cells?_some h1
      obtain ⟨y0, y1, y2, y3, k, _, u0, u1, u2, u3⟩ := trod_struct4 hst h2
      obtain ⟨o0, k0⟩ := hone_of hone 0 f0 rfl
      obtain ⟨o1, k1⟩ := hone_of hone 1 f1 rfl
      obtain ⟨o2, k2⟩ := hone_of hone 2 f2 rfl
      obtain ⟨o3, k3⟩ := hone_of hone 3 f3 rfl
      match cs', hlen with
      | [c0, c1, c2, c3], _ =>
        rw [o0, k0, t0] at u0
        rw [o1, k1, t1] at u1
        rw [o2, k2, t2] at u2
        rw [o3, k3, t3] at u3
        obtain ⟨z0, e0, _, q0⟩ := DataW.trod_int und3_is u0
        obtain ⟨z1, e1, _, q1⟩ := DataW.trod_int und2_is u1
        obtain ⟨z2, e2, _, q2⟩ := DataW.trod_int und2_is u2
        obtain ⟨z3, e3, _, q3⟩ := DataW.trod_int und2_is u3
        simp at e0 e1 e2 e3
        subst e0 e1 e2 e3
        refine ⟨⟨z0, z1, z2, z3⟩, ⟨lit_wraps q0, lit_wraps q1, lit_wraps q2, lit_wraps q3⟩, fun k v hv => ?_⟩
        have hk4 : k < 4 := (List.getElem?_eq_some_iff.1 hv).1
        have hc := hcell k (by simpa using hk4)
        rw [hc]
        exact hv
    have hI : Inhabited OpV := ⟨⟨0, 0, 0, 0⟩⟩
    obtain ⟨f, hf'⟩ := choose_lt (α := OpV) key
    refine ⟨((some a', len', cap'), (List.range len').map f), e, by simp, hl, .inr ⟨_, rfl⟩, fun k o hd => ?_, fun k o hd => ?_⟩
    rotate_left
    · have hk : k < len' := by simpa using (List.getElem?_eq_some_iff.1 hd).1
      have hd : f k = o := by simpa [hk] using hd
      have hf := (hf' k hk).1
      rwa [hd] at hf
    have hk : k < len' := by simpa using (List.getElem?_eq_some_iff.1 hd).1
    have hd : f k = o := by simpa [hk] using hd
    have hf := (hf' k hk).2
    rw [hd] at hf
    have h0 := (hf' 0 (by omega)).2 0 _ rfl
    have ha : (a'.add (0 * 4)).add 0 = a' := by simp [Addr.add]
    rw [ha] at h0
    have hform := addr_form h0
    have hc : ∀ (m : Nat) (v : Value), ([.int .i64 o.k, .int .i64 o.a, .int .i64 o.b, .int .i64 o.c] : List Value)[m]? = some v → W.cell? ⟨a'.block, a'.off + k * 4 + m, none⟩ = some v := fun m v hv => by
      have := hf m v hv
      rw [hform, add_none, add_none] at this
      exact this
    exact ⟨a'.block, a'.off, congrArg some hform, hc 0 _ rfl, hc 1 _ rfl, hc 2 _ rfl, hc 3 _ rfl⟩
end
section
variable {H : Type} {enc : TypeId × Value → H} {W : World}
theorem open_opsW {base : Nat} {v : Value} {d : DataW H} {ps : List MemPlace} (hu : Try.prog.underlying 34 = some (.slice 49)) (hval : Value.okWide Try.prog W .any base 34 v) (h : DataW.Trod enc Try.prog W 0 (fun _ => true) true 34 v d ps)
    {ts : List TypeId} {ds : List (DataW H)} {j : Nat} (hsz : (DataW.weightsEach Try.prog ts ds).all (· ≤ reachBytes) = true) (ht : ts[j]? = some 34) (hd : ds[j]? = some d) :
    ∃ (a : Option Addr) (n0 tc : Nat) (ops : List OpV), v = .slice a n0 tc ∧ ops.length = n0 ∧ n0 ≤ tc ∧ (a = none ∧ tc = 0 ∨ ∃ p, a = some p) ∧ n0 ≤ 17592186044416 ∧
      ∀ (j : Nat) (o : OpV), ops[j]? = some o → ∃ b off, a = some ⟨b, off, none⟩ ∧ W.cell? ⟨b, off + j * 4, none⟩ = some (.int .i64 o.k) ∧ W.cell? ⟨b, off + j * 4 + 1, none⟩ = some (.int .i64 o.a) ∧ W.cell? ⟨b, off + j * 4 + 2, none⟩ = some (.int .i64 o.b) ∧ W.cell? ⟨b, off + j * 4 + 3, none⟩ = some (.int .i64 o.c) ∧ IntKind.i64.wrap o.k = o.k ∧ IntKind.i64.wrap o.a = o.a ∧ IntKind.i64.wrap o.b = o.b ∧ IntKind.i64.wrap o.c = o.c := by
  obtain ⟨sa, sl, sc, rfl⟩ := okWide_slice hu hval
  obtain ⟨fuel, hf⟩ := h
  have hf : DataW.trod enc Try.prog W 0 (fun _ => true) true fuel 34 [.slice sa sl sc] = some (d, ps) := hf
  generalize hv : Value.slice sa sl sc = v at *
  obtain ⟨⟨⟨a, n0, tc⟩, l⟩, I⟩ := open_ops hu hf
  have hb : n0 ≤ 17592186044416 := by
    have hB : Try.prog.bytesOf 49 = 32 := by kernel_rfl
    have hr := reachBytes_lt
    rcases open_slice hu hf with ⟨e, _⟩ | ⟨a', len', cap', m, n', D, Pl, e, _, hl, _, hm, hx, _⟩
    · have e : [v] = [.slice none 0 0] := e
      injection e with e _
      rw [I.is] at e
      injection e with _ e _
      have e : n0 = 0 := e
      omega
    · have e : [v] = [.slice (some a') len' cap'] := e
      injection e with e _
      rw [I.is] at e
      injection e with _ e _
      have e : n0 = len' := e
      injection hx with hx _
      subst hx
      have hs := sized_slice hsz ht hd hu
      rw [hB] at hs
      simp only [List.length_map, List.length_range] at hs
      omega
  exact ⟨a, n0, tc, l, I.is, I.len, I.cap, I.ad, hb, fun j o ho => by
    obtain ⟨b, off, e, c0, c1, c2, c3⟩ := I.ops j o ho
    exact ⟨b, off, e, c0, c1, c2, c3, I.wr j o ho⟩⟩
theorem trodAll_one {P : Program} {base : Nat} {spare : Nat → Bool} {held : Bool} {t : TypeId} {args : Array Value} {ds : List (DataW H)} {ps : List MemPlace} (h : DataW.TrodAll enc P W base spare held [t] args.toList ds ps) : ∃ v d, args = #[v] ∧ ds = [d] ∧ DataW.Trod enc P W base spare held t v d ps := by
  obtain ⟨v, vs, d, ds1, p, q, hargs, rfl, rfl, hd, hrest⟩ := trodAll_cons h
  obtain ⟨rfl, rfl, rfl⟩ := trodAll_nil hrest
  exact ⟨v, d, by cases args; simp_all, rfl, by simpa using hd⟩
end
end
end Go.Proofs.Ytbmijpkdghkbbaa
