/- Part 8. -/
import Derived.Test.YtjenoiekfkhafaaJ3
import Derived.Test.YtjenoiekfkhafaaJ7
set_option linter.unusedSimpArgs false
set_option linter.unusedVariables false
set_option maxHeartbeats 8000000
set_option maxRecDepth 100000
namespace Go.Proofs.Ytjenoiekfkhafaa
open Go.Conc Go.RowKit Go.Relay
open Go.ConcN (upd upd_ne upd_same)
section
variable {main : Bool} {V : Nat → Option Wait}
noncomputable def body53 : Code := match Try.f66.body with | some (.seq _ (.seq _ (.seq (.seq _ (.block _ (.loop c))) _))) => c | _ => .skip
noncomputable def ops53 : Array Oper := match body53 with | .seq _ (.seq _ (.seq (.block _ (.region _ ops _)) _)) => ops | _ => #[]
noncomputable def nt53 (B j n : Nat) (thr mo cl ag : Value) (u : Nat → Value) : Array Value := #[thr, mo, undef, undef, .pointer none, .pointer (some ⟨B, 0, none⟩), thr, .int .i64 n, mo, cl, ag, .pointer (some ⟨B, 0, none⟩), thr, .int .i64 n, .int .i64 j, .bool true, u 16, u 17, u 18, u 19, u 20, u 21, u 22, u 23, u 24, u 25, u 26, u 27]
def TR (w : World) (t r : Nat) : Prop := (t = w.heap.size ∧ r = w.heap.size + 1) ∨ (t = w.heap.size + 1 ∧ r = w.heap.size)
structure NT (V : Nat → Option Wait) (B : Nat) (oa : Option Addr) (on oc n0 : Nat) (xs : List Value) (w : World) : Prop where
 h0 : w.cell? ⟨B, 0, none⟩ = some (.slice oa on oc)
 hz : w.frozen? ⟨B, 0, none⟩ = false
 hf : Free V ⟨B, 0, none⟩
 own : w.ownsRow n0 150 1 (.slice oa on oc) on xs
 hn0 : n0 ≤ w.heap.size
 hon : on ≤ 64
 hap : ∀ g, (Value.slice oa on oc).ownBlock = some g → Apart V g ∧ g ≠ B
noncomputable def newW (w : World) (t r : Nat) : World := (standW w t r).alloc (.cells #[.pointer (some ⟨w.heap.size + 2, 0, none⟩)] 150)
structure NT7 (B : Nat) (oa : Option Addr) (on oc n0 : Nat) (xs : List Value) (w : World) (t r g cap : Nat) (w' : World) : Prop where
 own : w'.ownsRow n0 150 1 (.slice (some ⟨g, 0, none⟩) (on + 1) cap) (on + 1) (xs ++ [.pointer (some ⟨w.heap.size + 2, 0, none⟩)])
 grown : (newW w t r).grownBy w' (Value.slice oa on oc).ownBlock
 hat : (Value.slice oa on oc).ownBlock = some g ∨ g = (newW w t r).heap.size
 hlt : g < w'.heap.size
 h0 : w'.cell? ⟨B, 0, none⟩ = some (.slice oa on oc)
 hz : w'.frozen? ⟨B, 0, none⟩ = false
section
variable {B : Nat} {oa : Option Addr} {on oc n0 : Nat} {xs : List Value} {w : World}
theorem NT.stand (H : NT V B oa on oc n0 xs w) (t r : Nat) : (standW w t r).cell? ⟨B, 0, none⟩ = some (.slice oa on oc) ∧ (standW w t r).frozen? ⟨B, 0, none⟩ = false :=
 ⟨cell_alloc _ _ (cell_alloc _ _ (cell_alloc _ _ H.h0)), frozen_alloc _ _ (cell_alloc _ _ (cell_alloc _ _ H.h0)) (frozen_alloc _ _ (cell_alloc _ _ H.h0) (frozen_alloc _ _ H.h0 H.hz))⟩
theorem NT.new (H : NT V B oa on oc n0 xs w) (t r : Nat) : (newW w t r).cell? ⟨B, 0, none⟩ = some (.slice oa on oc) ∧ (newW w t r).frozen? ⟨B, 0, none⟩ = false :=
 ⟨cell_alloc _ _ (H.stand t r).1, frozen_alloc _ _ (H.stand t r).1 (H.stand t r).2⟩
theorem newW_size (w : World) (t r : Nat) : (newW w t r).heap.size = w.heap.size + 4 := by simp [newW, standW]
theorem standW_size (w : World) (t r : Nat) : (standW w t r).heap.size = w.heap.size + 3 := by simp [standW]
theorem newW_new (w : World) (t r : Nat) : (newW w t r).cell? ((⟨w.heap.size + 3, 0, none⟩ : Addr).add 0) = some (.pointer (some ⟨w.heap.size + 2, 0, none⟩)) := by
 have h := World.cell?_alloc_at (w := standW w t r) #[.pointer (some ⟨w.heap.size + 2, 0, none⟩)] 150 (w.heap.size + 3) 0 (standW_size w t r).symm
 simpa [Addr.add, newW] using h
theorem stand_new' (f : Operand → Value) (w : World) : CallW Try.prog main V 83 (Array.map f #[]) w (fun v w' => ∃ t r, v = .pointer (some ⟨w.heap.size + 2, 0, none⟩) ∧ TR w t r ∧ ∃ d, w' = (standW w t r).at d) := by
 rw [Array.map_empty]; exact stand_new w
theorem NT.owned (H : NT V B oa on oc n0 xs w) (t r : Nat) : (newW w t r).ownsRow n0 150 1 (.slice oa on oc) on xs :=
 (((H.own.alloc _).alloc _).alloc _).alloc _
end
variable {Stop : Goroutine → World → Prop} {k : List Item} {cs : List Frame}
abbrev AQ (B j n : Nat) (thr mo cl ag : Value) (oa : Option Addr) (on oc n0 : Nat) (xs : List Value) (w : World) : Act → World → Prop := fun a' w'' => ∃ t r g cap w' u', TR w t r ∧ NT7 B oa on oc n0 xs w t r g cap w' ∧ a' = ⟨nt53 B j n thr mo cl ag u', []⟩ ∧ ∃ d, w'' = (w'.setCell ⟨B, 0, none⟩ (.slice (some ⟨g, 0, none⟩) (on + 1) cap)).at d
theorem nt_0_1_2_3_4_5_6_7_8_9_10 (B j n : Nat) (thr mo cl ag : Value) (oa : Option Addr) (on oc n0 : Nat) (xs : List Value) (u : Nat → Value) (w : World) (H : NT V B oa on oc n0 xs w) (t r : Nat) (ht : TR w t r) (g cap : Nat) (w' : World) (h7 : NT7 B oa on oc n0 xs w t r g cap w') (d : Nat) :
  AnyW Try.prog main V Stop (base 66) k cs ops53 .any (AQ B j n thr mo cl ag oa on oc n0 xs w) 0 #[true, true, true, true, true, true, true, true, true, true, true] ⟨#[thr, mo, undef, undef, .pointer none, .pointer (some ⟨B, 0, none⟩), thr, .int .i64 n, mo, cl, ag, .pointer (some ⟨B, 0, none⟩), thr, .int .i64 n, .int .i64 j, .bool true, .pointer (some ⟨B, 0, none⟩), .pointer (some ⟨B, 0, none⟩), .pointer (some ⟨B, 0, none⟩), .pointer (some ⟨B, 0, none⟩), .slice oa on oc, .pointer (some ⟨w.heap.size + 2, 0, none⟩), .slice (some ⟨w.heap.size + 3, 0, none⟩) 1 1, .slice (some ⟨g, 0, none⟩) (on + 1) cap, .pointer (some ⟨B, 0, none⟩), .pointer (some ⟨B, 0, none⟩), u 26, u 27], []⟩ ((w'.setCell ⟨B, 0, none⟩ (.slice (some ⟨g, 0, none⟩) (on + 1) cap)).at d) := by
 have _ := H
 refine anyW_done (by first | kernel_rfl | decide +kernel) ⟨t, r, g, cap, w', fun x => ([u 0, u 1, u 2, u 3, u 4, u 5, u 6, u 7, u 8, u 9, u 10, u 11, u 12, u 13, u 14, u 15, .pointer (some ⟨B, 0, none⟩), .pointer (some ⟨B, 0, none⟩), .pointer (some ⟨B, 0, none⟩), .pointer (some ⟨B, 0, none⟩), .slice oa on oc, .pointer (some ⟨w.heap.size + 2, 0, none⟩), .slice (some ⟨w.heap.size + 3, 0, none⟩) 1 1, .slice (some ⟨g, 0, none⟩) (on + 1) cap, .pointer (some ⟨B, 0, none⟩), .pointer (some ⟨B, 0, none⟩), u 26, u 27] : List Value).getD x undef, ht, h7, ?_, d, rfl⟩ _
 rfl
theorem nt_0_1_2_3_4_5_6_7_8_9 (B j n : Nat) (thr mo cl ag : Value) (oa : Option Addr) (on oc n0 : Nat) (xs : List Value) (u : Nat → Value) (w : World) (H : NT V B oa on oc n0 xs w) (t r : Nat) (ht : TR w t r) (g cap : Nat) (w' : World) (h7 : NT7 B oa on oc n0 xs w t r g cap w') (d : Nat) :
  AnyW Try.prog main V Stop (base 66) k cs ops53 .any (AQ B j n thr mo cl ag oa on oc n0 xs w) 1 #[true, true, true, true, true, true, true, true, true, true, false] ⟨#[thr, mo, undef, undef, .pointer none, .pointer (some ⟨B, 0, none⟩), thr, .int .i64 n, mo, cl, ag, .pointer (some ⟨B, 0, none⟩), thr, .int .i64 n, .int .i64 j, .bool true, .pointer (some ⟨B, 0, none⟩), .pointer (some ⟨B, 0, none⟩), .pointer (some ⟨B, 0, none⟩), .pointer (some ⟨B, 0, none⟩), .slice oa on oc, .pointer (some ⟨w.heap.size + 2, 0, none⟩), .slice (some ⟨w.heap.size + 3, 0, none⟩) 1 1, .slice (some ⟨g, 0, none⟩) (on + 1) cap, .pointer (some ⟨B, 0, none⟩), .pointer (some ⟨B, 0, none⟩), u 26, u 27], []⟩ ((w').at d) := by
 refine anyW_all (rs := [10]) (by first | kernel_rfl | decide +kernel) (by simp) (fun i hi => ?_)
 obtain rfl : i = 10 := by simpa using hi
 ·intro rest hr
  refine Walk.back ?_ d
  simp only [ops53, body53, Try.f66] at hr ⊢
  have hcf := H.hf
  have hc := h7.h0
  have hcz := h7.hz
  (refine Walk.os hcf hc ?_; try walk_nrm)
  exact hr _ _ (nt_0_1_2_3_4_5_6_7_8_9_10 B j n thr mo cl ag oa on oc n0 xs u w H t r ht g cap w' h7 (w'.setCell ⟨B, 0, none⟩ (.slice (some ⟨g, 0, none⟩) (on + 1) cap)).drawn)
theorem nt_0_1_2_3_4_5_6_7_8 (B j n : Nat) (thr mo cl ag : Value) (oa : Option Addr) (on oc n0 : Nat) (xs : List Value) (u : Nat → Value) (w : World) (H : NT V B oa on oc n0 xs w) (t r : Nat) (ht : TR w t r) (g cap : Nat) (w' : World) (h7 : NT7 B oa on oc n0 xs w t r g cap w') (d : Nat) :
  AnyW Try.prog main V Stop (base 66) k cs ops53 .any (AQ B j n thr mo cl ag oa on oc n0 xs w) 2 #[true, true, true, true, true, true, true, true, true, false, false] ⟨#[thr, mo, undef, undef, .pointer none, .pointer (some ⟨B, 0, none⟩), thr, .int .i64 n, mo, cl, ag, .pointer (some ⟨B, 0, none⟩), thr, .int .i64 n, .int .i64 j, .bool true, .pointer (some ⟨B, 0, none⟩), .pointer (some ⟨B, 0, none⟩), .pointer (some ⟨B, 0, none⟩), .pointer (some ⟨B, 0, none⟩), .slice oa on oc, .pointer (some ⟨w.heap.size + 2, 0, none⟩), .slice (some ⟨w.heap.size + 3, 0, none⟩) 1 1, .slice (some ⟨g, 0, none⟩) (on + 1) cap, .pointer (some ⟨B, 0, none⟩), u 25, u 26, u 27], []⟩ ((w').at d) := by
 refine anyW_all (rs := [9]) (by first | kernel_rfl | decide +kernel) (by simp) (fun i hi => ?_)
 obtain rfl : i = 9 := by simpa using hi
 ·intro rest hr
  refine Walk.back ?_ d
  simp only [ops53, body53, Try.f66] at hr ⊢
  (refine Walk.oq ?_; try walk_nrm)
  exact hr _ _ (nt_0_1_2_3_4_5_6_7_8_9 B j n thr mo cl ag oa on oc n0 xs u w H t r ht g cap w' h7 (w').drawn)
theorem nt_0_1_2_3_4_5_6_7 (B j n : Nat) (thr mo cl ag : Value) (oa : Option Addr) (on oc n0 : Nat) (xs : List Value) (u : Nat → Value) (w : World) (H : NT V B oa on oc n0 xs w) (t r : Nat) (ht : TR w t r) (g cap : Nat) (w' : World) (h7 : NT7 B oa on oc n0 xs w t r g cap w') (d : Nat) :
  AnyW Try.prog main V Stop (base 66) k cs ops53 .any (AQ B j n thr mo cl ag oa on oc n0 xs w) 3 #[true, true, true, true, true, true, true, true, false, false, false] ⟨#[thr, mo, undef, undef, .pointer none, .pointer (some ⟨B, 0, none⟩), thr, .int .i64 n, mo, cl, ag, .pointer (some ⟨B, 0, none⟩), thr, .int .i64 n, .int .i64 j, .bool true, .pointer (some ⟨B, 0, none⟩), .pointer (some ⟨B, 0, none⟩), .pointer (some ⟨B, 0, none⟩), .pointer (some ⟨B, 0, none⟩), .slice oa on oc, .pointer (some ⟨w.heap.size + 2, 0, none⟩), .slice (some ⟨w.heap.size + 3, 0, none⟩) 1 1, .slice (some ⟨g, 0, none⟩) (on + 1) cap, u 24, u 25, u 26, u 27], []⟩ ((w').at d) := by
 refine anyW_all (rs := [8]) (by first | kernel_rfl | decide +kernel) (by simp) (fun i hi => ?_)
 obtain rfl : i = 8 := by simpa using hi
 ·intro rest hr
  refine Walk.back ?_ d
  simp only [ops53, body53, Try.f66] at hr ⊢
  (refine Walk.oq ?_; try walk_nrm)
  exact hr _ _ (nt_0_1_2_3_4_5_6_7_8 B j n thr mo cl ag oa on oc n0 xs u w H t r ht g cap w' h7 (w').drawn)
theorem nt_0_1_2_3_4_5_6 (B j n : Nat) (thr mo cl ag : Value) (oa : Option Addr) (on oc n0 : Nat) (xs : List Value) (u : Nat → Value) (w : World) (H : NT V B oa on oc n0 xs w) (t r : Nat) (ht : TR w t r) (d : Nat) :
  AnyW Try.prog main V Stop (base 66) k cs ops53 .any (AQ B j n thr mo cl ag oa on oc n0 xs w) 4 #[true, true, true, true, true, true, true, false, false, false, false] ⟨#[thr, mo, undef, undef, .pointer none, .pointer (some ⟨B, 0, none⟩), thr, .int .i64 n, mo, cl, ag, .pointer (some ⟨B, 0, none⟩), thr, .int .i64 n, .int .i64 j, .bool true, .pointer (some ⟨B, 0, none⟩), .pointer (some ⟨B, 0, none⟩), .pointer (some ⟨B, 0, none⟩), .pointer (some ⟨B, 0, none⟩), .slice oa on oc, .pointer (some ⟨w.heap.size + 2, 0, none⟩), .slice (some ⟨w.heap.size + 3, 0, none⟩) 1 1, u 23, u 24, u 25, u 26, u 27], []⟩ ((newW w t r).at d) := by
 refine anyW_all (rs := [7]) (by first | kernel_rfl | decide +kernel) (by simp) (fun i hi => ?_)
 obtain rfl : i = 7 := by simpa using hi
 ·intro rest hr
  refine Walk.back ?_ d
  simp only [ops53, body53, Try.f66] at hr ⊢
  have hi161 := Option.some_get (show (Try.prog.info? 150).isSome = true by kernel_rfl)
  refine Walk.append (.tmp 20) (.tmp 22) 128 rfl (by rfl) (by decide) rfl n0 150 _ (.pointer none) 1 8 (by kernel_rfl) hi161.symm (by rfl) (by rfl) (by rfl) (by rfl) (by decide) (.slice oa on oc) on xs rfl (H.owned t r) ⟨w.heap.size + 3, 0, none⟩ 1 1 [.pointer (some ⟨w.heap.size + 2, 0, none⟩)] rfl (by rfl) (fun y v hv => ?_) (by simp [Value.oneCell']) (by decide) (by have := H.hon; simp [maxLen]; omega) (by have := H.hon; omega) (by have := H.hn0; rw [newW_size]; omega) (fun g hg => (H.hap g hg).1) (fun g cap w' hown hg hat hlt => ?_)
  ·obtain rfl : y = 0 := by rcases y with _ | y <;> simp at hv ⊢
   simp at hv; subst hv; exact newW_new w t r
  have hB : some B ≠ (Value.slice oa on oc).ownBlock := fun e => (H.hap B e.symm).2 rfl
  have hn := H.new t r
  exact hr _ _ (nt_0_1_2_3_4_5_6_7 B j n thr mo cl ag oa on oc n0 xs u w H t r ht g cap w' ⟨hown, hg, hat, hlt, (hg.cell_far _ (cell_lt _ hn.1) hB).trans hn.1, (hg.frozen_far _ (cell_lt _ hn.1) hB).trans hn.2⟩ w'.drawn)
theorem nt_1_2_3_4_5_6_7 (B j n : Nat) (thr mo cl ag : Value) (oa : Option Addr) (on oc n0 : Nat) (xs : List Value) (u : Nat → Value) (w : World) (H : NT V B oa on oc n0 xs w) (t r : Nat) (ht : TR w t r) (g cap : Nat) (w' : World) (h7 : NT7 B oa on oc n0 xs w t r g cap w') (d : Nat) :
  AnyW Try.prog main V Stop (base 66) k cs ops53 .any (AQ B j n thr mo cl ag oa on oc n0 xs w) 4 #[false, true, true, true, true, true, true, true, false, false, false] ⟨#[thr, mo, undef, undef, .pointer none, .pointer (some ⟨B, 0, none⟩), thr, .int .i64 n, mo, cl, ag, .pointer (some ⟨B, 0, none⟩), thr, .int .i64 n, .int .i64 j, .bool true, u 16, .pointer (some ⟨B, 0, none⟩), .pointer (some ⟨B, 0, none⟩), .pointer (some ⟨B, 0, none⟩), .slice oa on oc, .pointer (some ⟨w.heap.size + 2, 0, none⟩), .slice (some ⟨w.heap.size + 3, 0, none⟩) 1 1, .slice (some ⟨g, 0, none⟩) (on + 1) cap, u 24, u 25, u 26, u 27], []⟩ ((w').at d) := by
 refine anyW_all (rs := [0]) (by first | kernel_rfl | decide +kernel) (by simp) (fun i hi => ?_)
 obtain rfl : i = 0 := by simpa using hi
 ·intro rest hr
  refine Walk.back ?_ d
  simp only [ops53, body53, Try.f66] at hr ⊢
  (refine Walk.oq ?_; try walk_nrm)
  exact hr _ _ (nt_0_1_2_3_4_5_6_7 B j n thr mo cl ag oa on oc n0 xs u w H t r ht g cap w' h7 (w').drawn)
theorem nt_0_1_2_3_4_5 (B j n : Nat) (thr mo cl ag : Value) (oa : Option Addr) (on oc n0 : Nat) (xs : List Value) (u : Nat → Value) (w : World) (H : NT V B oa on oc n0 xs w) (t r : Nat) (ht : TR w t r) (d : Nat) :
  AnyW Try.prog main V Stop (base 66) k cs ops53 .any (AQ B j n thr mo cl ag oa on oc n0 xs w) 5 #[true, true, true, true, true, true, false, false, false, false, false] ⟨#[thr, mo, undef, undef, .pointer none, .pointer (some ⟨B, 0, none⟩), thr, .int .i64 n, mo, cl, ag, .pointer (some ⟨B, 0, none⟩), thr, .int .i64 n, .int .i64 j, .bool true, .pointer (some ⟨B, 0, none⟩), .pointer (some ⟨B, 0, none⟩), .pointer (some ⟨B, 0, none⟩), .pointer (some ⟨B, 0, none⟩), .slice oa on oc, .pointer (some ⟨w.heap.size + 2, 0, none⟩), u 22, u 23, u 24, u 25, u 26, u 27], []⟩ ((standW w t r).at d) := by
 refine anyW_all (rs := [6]) (by first | kernel_rfl | decide +kernel) (by simp) (fun i hi => ?_)
 obtain rfl : i = 6 := by simpa using hi
 ·intro rest hr
  refine Walk.back ?_ d
  simp only [ops53, body53, Try.f66] at hr ⊢
  have hsz := standW_size w t r
  (refine Walk.oa ?_; try walk_nrm)
  try simp only [hsz]
  exact hr _ _ (nt_0_1_2_3_4_5_6 B j n thr mo cl ag oa on oc n0 xs u w H t r ht (newW w t r).drawn)
theorem nt_0_1_2_3_5_6 (B j n : Nat) (thr mo cl ag : Value) (oa : Option Addr) (on oc n0 : Nat) (xs : List Value) (u : Nat → Value) (w : World) (H : NT V B oa on oc n0 xs w) (t r : Nat) (ht : TR w t r) (d : Nat) :
  AnyW Try.prog main V Stop (base 66) k cs ops53 .any (AQ B j n thr mo cl ag oa on oc n0 xs w) 5 #[true, true, true, true, false, true, true, false, false, false, false] ⟨#[thr, mo, undef, undef, .pointer none, .pointer (some ⟨B, 0, none⟩), thr, .int .i64 n, mo, cl, ag, .pointer (some ⟨B, 0, none⟩), thr, .int .i64 n, .int .i64 j, .bool true, .pointer (some ⟨B, 0, none⟩), .pointer (some ⟨B, 0, none⟩), .pointer (some ⟨B, 0, none⟩), .pointer (some ⟨B, 0, none⟩), u 20, .pointer (some ⟨w.heap.size + 2, 0, none⟩), .slice (some ⟨w.heap.size + 3, 0, none⟩) 1 1, u 23, u 24, u 25, u 26, u 27], []⟩ ((newW w t r).at d) := by
 refine anyW_all (rs := [4]) (by first | kernel_rfl | decide +kernel) (by simp) (fun i hi => ?_)
 obtain rfl : i = 4 := by simpa using hi
 ·intro rest hr
  refine Walk.back ?_ d
  simp only [ops53, body53, Try.f66] at hr ⊢
  have hc := (H.new t r).1
  (refine Walk.oq ?_; try walk_nrm)
  exact hr _ _ (nt_0_1_2_3_4_5_6 B j n thr mo cl ag oa on oc n0 xs u w H t r ht (newW w t r).drawn)
theorem nt_1_2_3_4_5_6 (B j n : Nat) (thr mo cl ag : Value) (oa : Option Addr) (on oc n0 : Nat) (xs : List Value) (u : Nat → Value) (w : World) (H : NT V B oa on oc n0 xs w) (t r : Nat) (ht : TR w t r) (d : Nat) :
  AnyW Try.prog main V Stop (base 66) k cs ops53 .any (AQ B j n thr mo cl ag oa on oc n0 xs w) 5 #[false, true, true, true, true, true, true, false, false, false, false] ⟨#[thr, mo, undef, undef, .pointer none, .pointer (some ⟨B, 0, none⟩), thr, .int .i64 n, mo, cl, ag, .pointer (some ⟨B, 0, none⟩), thr, .int .i64 n, .int .i64 j, .bool true, u 16, .pointer (some ⟨B, 0, none⟩), .pointer (some ⟨B, 0, none⟩), .pointer (some ⟨B, 0, none⟩), .slice oa on oc, .pointer (some ⟨w.heap.size + 2, 0, none⟩), .slice (some ⟨w.heap.size + 3, 0, none⟩) 1 1, u 23, u 24, u 25, u 26, u 27], []⟩ ((newW w t r).at d) := by
 refine anyW_all (rs := [0, 7]) (by first | kernel_rfl | decide +kernel) (by simp) (fun i hi => ?_)
 obtain rfl | rfl : i = 0 ∨ i = 7 := by simpa using hi
 ·intro rest hr
  refine Walk.back ?_ d
  simp only [ops53, body53, Try.f66] at hr ⊢
  (refine Walk.oq ?_; try walk_nrm)
  exact hr _ _ (nt_0_1_2_3_4_5_6 B j n thr mo cl ag oa on oc n0 xs u w H t r ht (newW w t r).drawn)
 ·intro rest hr
  refine Walk.back ?_ d
  simp only [ops53, body53, Try.f66] at hr ⊢
  have hi161 := Option.some_get (show (Try.prog.info? 150).isSome = true by kernel_rfl)
  refine Walk.append (.tmp 20) (.tmp 22) 128 rfl (by rfl) (by decide) rfl n0 150 _ (.pointer none) 1 8 (by kernel_rfl) hi161.symm (by rfl) (by rfl) (by rfl) (by rfl) (by decide) (.slice oa on oc) on xs rfl (H.owned t r) ⟨w.heap.size + 3, 0, none⟩ 1 1 [.pointer (some ⟨w.heap.size + 2, 0, none⟩)] rfl (by rfl) (fun y v hv => ?_) (by simp [Value.oneCell']) (by decide) (by have := H.hon; simp [maxLen]; omega) (by have := H.hon; omega) (by have := H.hn0; rw [newW_size]; omega) (fun g hg => (H.hap g hg).1) (fun g cap w' hown hg hat hlt => ?_)
  ·obtain rfl : y = 0 := by rcases y with _ | y <;> simp at hv ⊢
   simp at hv; subst hv; exact newW_new w t r
  have hB : some B ≠ (Value.slice oa on oc).ownBlock := fun e => (H.hap B e.symm).2 rfl
  have hn := H.new t r
  exact hr _ _ (nt_1_2_3_4_5_6_7 B j n thr mo cl ag oa on oc n0 xs u w H t r ht g cap w' ⟨hown, hg, hat, hlt, (hg.cell_far _ (cell_lt _ hn.1) hB).trans hn.1, (hg.frozen_far _ (cell_lt _ hn.1) hB).trans hn.2⟩ w'.drawn)
theorem nt_0_1_2_3_4 (B j n : Nat) (thr mo cl ag : Value) (oa : Option Addr) (on oc n0 : Nat) (xs : List Value) (u : Nat → Value) (w : World) (H : NT V B oa on oc n0 xs w) (d : Nat) :
  AnyW Try.prog main V Stop (base 66) k cs ops53 .any (AQ B j n thr mo cl ag oa on oc n0 xs w) 6 #[true, true, true, true, true, false, false, false, false, false, false] ⟨#[thr, mo, undef, undef, .pointer none, .pointer (some ⟨B, 0, none⟩), thr, .int .i64 n, mo, cl, ag, .pointer (some ⟨B, 0, none⟩), thr, .int .i64 n, .int .i64 j, .bool true, .pointer (some ⟨B, 0, none⟩), .pointer (some ⟨B, 0, none⟩), .pointer (some ⟨B, 0, none⟩), .pointer (some ⟨B, 0, none⟩), .slice oa on oc, u 21, u 22, u 23, u 24, u 25, u 26, u 27], []⟩ ((w).at d) := by
 refine anyW_all (rs := [5]) (by first | kernel_rfl | decide +kernel) (by simp) (fun i hi => ?_)
 obtain rfl : i = 5 := by simpa using hi
 ·intro rest hr
  refine Walk.back ?_ d
  simp only [ops53, body53, Try.f66] at hr ⊢
  refine Walk.callW (stand_new' _ w) rfl (by rfl) (by decide) rfl Try.func83 (by kernel_rfl) (by rfl) ?_
  rintro v w₁ ⟨t, r, rfl, ht, d₁, rfl⟩
  walk_nrm
  exact hr _ _ (nt_0_1_2_3_4_5 B j n thr mo cl ag oa on oc n0 xs u w H t r ht d₁)
theorem nt_0_1_2_3_5 (B j n : Nat) (thr mo cl ag : Value) (oa : Option Addr) (on oc n0 : Nat) (xs : List Value) (u : Nat → Value) (w : World) (H : NT V B oa on oc n0 xs w) (t r : Nat) (ht : TR w t r) (d : Nat) :
  AnyW Try.prog main V Stop (base 66) k cs ops53 .any (AQ B j n thr mo cl ag oa on oc n0 xs w) 6 #[true, true, true, true, false, true, false, false, false, false, false] ⟨#[thr, mo, undef, undef, .pointer none, .pointer (some ⟨B, 0, none⟩), thr, .int .i64 n, mo, cl, ag, .pointer (some ⟨B, 0, none⟩), thr, .int .i64 n, .int .i64 j, .bool true, .pointer (some ⟨B, 0, none⟩), .pointer (some ⟨B, 0, none⟩), .pointer (some ⟨B, 0, none⟩), .pointer (some ⟨B, 0, none⟩), u 20, .pointer (some ⟨w.heap.size + 2, 0, none⟩), u 22, u 23, u 24, u 25, u 26, u 27], []⟩ ((standW w t r).at d) := by
 refine anyW_all (rs := [4, 6]) (by first | kernel_rfl | decide +kernel) (by simp) (fun i hi => ?_)
 obtain rfl | rfl : i = 4 ∨ i = 6 := by simpa using hi
 ·intro rest hr
  refine Walk.back ?_ d
  simp only [ops53, body53, Try.f66] at hr ⊢
  have hc := (H.stand t r).1
  (refine Walk.oq ?_; try walk_nrm)
  exact hr _ _ (nt_0_1_2_3_4_5 B j n thr mo cl ag oa on oc n0 xs u w H t r ht (standW w t r).drawn)
 ·intro rest hr
  refine Walk.back ?_ d
  simp only [ops53, body53, Try.f66] at hr ⊢
  have hsz := standW_size w t r
  (refine Walk.oa ?_; try walk_nrm)
  try simp only [hsz]
  exact hr _ _ (nt_0_1_2_3_5_6 B j n thr mo cl ag oa on oc n0 xs u w H t r ht (newW w t r).drawn)
theorem nt_0_1_2_5_6 (B j n : Nat) (thr mo cl ag : Value) (oa : Option Addr) (on oc n0 : Nat) (xs : List Value) (u : Nat → Value) (w : World) (H : NT V B oa on oc n0 xs w) (t r : Nat) (ht : TR w t r) (d : Nat) :
  AnyW Try.prog main V Stop (base 66) k cs ops53 .any (AQ B j n thr mo cl ag oa on oc n0 xs w) 6 #[true, true, true, false, false, true, true, false, false, false, false] ⟨#[thr, mo, undef, undef, .pointer none, .pointer (some ⟨B, 0, none⟩), thr, .int .i64 n, mo, cl, ag, .pointer (some ⟨B, 0, none⟩), thr, .int .i64 n, .int .i64 j, .bool true, .pointer (some ⟨B, 0, none⟩), .pointer (some ⟨B, 0, none⟩), .pointer (some ⟨B, 0, none⟩), u 19, u 20, .pointer (some ⟨w.heap.size + 2, 0, none⟩), .slice (some ⟨w.heap.size + 3, 0, none⟩) 1 1, u 23, u 24, u 25, u 26, u 27], []⟩ ((newW w t r).at d) := by
 refine anyW_all (rs := [3]) (by first | kernel_rfl | decide +kernel) (by simp) (fun i hi => ?_)
 obtain rfl : i = 3 := by simpa using hi
 ·intro rest hr
  refine Walk.back ?_ d
  simp only [ops53, body53, Try.f66] at hr ⊢
  (refine Walk.oq ?_; try walk_nrm)
  exact hr _ _ (nt_0_1_2_3_5_6 B j n thr mo cl ag oa on oc n0 xs u w H t r ht (newW w t r).drawn)
theorem nt_1_2_3_4_5 (B j n : Nat) (thr mo cl ag : Value) (oa : Option Addr) (on oc n0 : Nat) (xs : List Value) (u : Nat → Value) (w : World) (H : NT V B oa on oc n0 xs w) (t r : Nat) (ht : TR w t r) (d : Nat) :
  AnyW Try.prog main V Stop (base 66) k cs ops53 .any (AQ B j n thr mo cl ag oa on oc n0 xs w) 6 #[false, true, true, true, true, true, false, false, false, false, false] ⟨#[thr, mo, undef, undef, .pointer none, .pointer (some ⟨B, 0, none⟩), thr, .int .i64 n, mo, cl, ag, .pointer (some ⟨B, 0, none⟩), thr, .int .i64 n, .int .i64 j, .bool true, u 16, .pointer (some ⟨B, 0, none⟩), .pointer (some ⟨B, 0, none⟩), .pointer (some ⟨B, 0, none⟩), .slice oa on oc, .pointer (some ⟨w.heap.size + 2, 0, none⟩), u 22, u 23, u 24, u 25, u 26, u 27], []⟩ ((standW w t r).at d) := by
 refine anyW_all (rs := [0, 6]) (by first | kernel_rfl | decide +kernel) (by simp) (fun i hi => ?_)
 obtain rfl | rfl : i = 0 ∨ i = 6 := by simpa using hi
 ·intro rest hr
  refine Walk.back ?_ d
  simp only [ops53, body53, Try.f66] at hr ⊢
  (refine Walk.oq ?_; try walk_nrm)
  exact hr _ _ (nt_0_1_2_3_4_5 B j n thr mo cl ag oa on oc n0 xs u w H t r ht (standW w t r).drawn)
 ·intro rest hr
  refine Walk.back ?_ d
  simp only [ops53, body53, Try.f66] at hr ⊢
  have hsz := standW_size w t r
  (refine Walk.oa ?_; try walk_nrm)
  try simp only [hsz]
  exact hr _ _ (nt_1_2_3_4_5_6 B j n thr mo cl ag oa on oc n0 xs u w H t r ht (newW w t r).drawn)
theorem nt_1_2_3_5_6 (B j n : Nat) (thr mo cl ag : Value) (oa : Option Addr) (on oc n0 : Nat) (xs : List Value) (u : Nat → Value) (w : World) (H : NT V B oa on oc n0 xs w) (t r : Nat) (ht : TR w t r) (d : Nat) :
  AnyW Try.prog main V Stop (base 66) k cs ops53 .any (AQ B j n thr mo cl ag oa on oc n0 xs w) 6 #[false, true, true, true, false, true, true, false, false, false, false] ⟨#[thr, mo, undef, undef, .pointer none, .pointer (some ⟨B, 0, none⟩), thr, .int .i64 n, mo, cl, ag, .pointer (some ⟨B, 0, none⟩), thr, .int .i64 n, .int .i64 j, .bool true, u 16, .pointer (some ⟨B, 0, none⟩), .pointer (some ⟨B, 0, none⟩), .pointer (some ⟨B, 0, none⟩), u 20, .pointer (some ⟨w.heap.size + 2, 0, none⟩), .slice (some ⟨w.heap.size + 3, 0, none⟩) 1 1, u 23, u 24, u 25, u 26, u 27], []⟩ ((newW w t r).at d) := by
 refine anyW_all (rs := [0, 4]) (by first | kernel_rfl | decide +kernel) (by simp) (fun i hi => ?_)
 obtain rfl | rfl : i = 0 ∨ i = 4 := by simpa using hi
 ·intro rest hr
  refine Walk.back ?_ d
  simp only [ops53, body53, Try.f66] at hr ⊢
  (refine Walk.oq ?_; try walk_nrm)
  exact hr _ _ (nt_0_1_2_3_5_6 B j n thr mo cl ag oa on oc n0 xs u w H t r ht (newW w t r).drawn)
 ·intro rest hr
  refine Walk.back ?_ d
  simp only [ops53, body53, Try.f66] at hr ⊢
  have hc := (H.new t r).1
  (refine Walk.oq ?_; try walk_nrm)
  exact hr _ _ (nt_1_2_3_4_5_6 B j n thr mo cl ag oa on oc n0 xs u w H t r ht (newW w t r).drawn)
theorem nt_0_1_2_3 (B j n : Nat) (thr mo cl ag : Value) (oa : Option Addr) (on oc n0 : Nat) (xs : List Value) (u : Nat → Value) (w : World) (H : NT V B oa on oc n0 xs w) (d : Nat) :
  AnyW Try.prog main V Stop (base 66) k cs ops53 .any (AQ B j n thr mo cl ag oa on oc n0 xs w) 7 #[true, true, true, true, false, false, false, false, false, false, false] ⟨#[thr, mo, undef, undef, .pointer none, .pointer (some ⟨B, 0, none⟩), thr, .int .i64 n, mo, cl, ag, .pointer (some ⟨B, 0, none⟩), thr, .int .i64 n, .int .i64 j, .bool true, .pointer (some ⟨B, 0, none⟩), .pointer (some ⟨B, 0, none⟩), .pointer (some ⟨B, 0, none⟩), .pointer (some ⟨B, 0, none⟩), u 20, u 21, u 22, u 23, u 24, u 25, u 26, u 27], []⟩ ((w).at d) := by
 refine anyW_all (rs := [4, 5]) (by first | kernel_rfl | decide +kernel) (by simp) (fun i hi => ?_)
 obtain rfl | rfl : i = 4 ∨ i = 5 := by simpa using hi
 ·intro rest hr
  refine Walk.back ?_ d
  simp only [ops53, body53, Try.f66] at hr ⊢
  have hc := H.h0
  (refine Walk.oq ?_; try walk_nrm)
  exact hr _ _ (nt_0_1_2_3_4 B j n thr mo cl ag oa on oc n0 xs u w H (w).drawn)
 ·intro rest hr
  refine Walk.back ?_ d
  simp only [ops53, body53, Try.f66] at hr ⊢
  refine Walk.callW (stand_new' _ w) rfl (by rfl) (by decide) rfl Try.func83 (by kernel_rfl) (by rfl) ?_
  rintro v w₁ ⟨t, r, rfl, ht, d₁, rfl⟩
  walk_nrm
  exact hr _ _ (nt_0_1_2_3_5 B j n thr mo cl ag oa on oc n0 xs u w H t r ht d₁)
theorem nt_0_1_2_5 (B j n : Nat) (thr mo cl ag : Value) (oa : Option Addr) (on oc n0 : Nat) (xs : List Value) (u : Nat → Value) (w : World) (H : NT V B oa on oc n0 xs w) (t r : Nat) (ht : TR w t r) (d : Nat) :
  AnyW Try.prog main V Stop (base 66) k cs ops53 .any (AQ B j n thr mo cl ag oa on oc n0 xs w) 7 #[true, true, true, false, false, true, false, false, false, false, false] ⟨#[thr, mo, undef, undef, .pointer none, .pointer (some ⟨B, 0, none⟩), thr, .int .i64 n, mo, cl, ag, .pointer (some ⟨B, 0, none⟩), thr, .int .i64 n, .int .i64 j, .bool true, .pointer (some ⟨B, 0, none⟩), .pointer (some ⟨B, 0, none⟩), .pointer (some ⟨B, 0, none⟩), u 19, u 20, .pointer (some ⟨w.heap.size + 2, 0, none⟩), u 22, u 23, u 24, u 25, u 26, u 27], []⟩ ((standW w t r).at d) := by
 refine anyW_all (rs := [3, 6]) (by first | kernel_rfl | decide +kernel) (by simp) (fun i hi => ?_)
 obtain rfl | rfl : i = 3 ∨ i = 6 := by simpa using hi
 ·intro rest hr
  refine Walk.back ?_ d
  simp only [ops53, body53, Try.f66] at hr ⊢
  (refine Walk.oq ?_; try walk_nrm)
  exact hr _ _ (nt_0_1_2_3_5 B j n thr mo cl ag oa on oc n0 xs u w H t r ht (standW w t r).drawn)
 ·intro rest hr
  refine Walk.back ?_ d
  simp only [ops53, body53, Try.f66] at hr ⊢
  have hsz := standW_size w t r
  (refine Walk.oa ?_; try walk_nrm)
  try simp only [hsz]
  exact hr _ _ (nt_0_1_2_5_6 B j n thr mo cl ag oa on oc n0 xs u w H t r ht (newW w t r).drawn)
theorem nt_0_1_5_6 (B j n : Nat) (thr mo cl ag : Value) (oa : Option Addr) (on oc n0 : Nat) (xs : List Value) (u : Nat → Value) (w : World) (H : NT V B oa on oc n0 xs w) (t r : Nat) (ht : TR w t r) (d : Nat) :
  AnyW Try.prog main V Stop (base 66) k cs ops53 .any (AQ B j n thr mo cl ag oa on oc n0 xs w) 7 #[true, true, false, false, false, true, true, false, false, false, false] ⟨#[thr, mo, undef, undef, .pointer none, .pointer (some ⟨B, 0, none⟩), thr, .int .i64 n, mo, cl, ag, .pointer (some ⟨B, 0, none⟩), thr, .int .i64 n, .int .i64 j, .bool true, .pointer (some ⟨B, 0, none⟩), .pointer (some ⟨B, 0, none⟩), u 18, u 19, u 20, .pointer (some ⟨w.heap.size + 2, 0, none⟩), .slice (some ⟨w.heap.size + 3, 0, none⟩) 1 1, u 23, u 24, u 25, u 26, u 27], []⟩ ((newW w t r).at d) := by
 refine anyW_all (rs := [2]) (by first | kernel_rfl | decide +kernel) (by simp) (fun i hi => ?_)
 obtain rfl : i = 2 := by simpa using hi
 ·intro rest hr
  refine Walk.back ?_ d
  simp only [ops53, body53, Try.f66] at hr ⊢
  (refine Walk.oq ?_; try walk_nrm)
  exact hr _ _ (nt_0_1_2_5_6 B j n thr mo cl ag oa on oc n0 xs u w H t r ht (newW w t r).drawn)
theorem nt_1_2_3_4 (B j n : Nat) (thr mo cl ag : Value) (oa : Option Addr) (on oc n0 : Nat) (xs : List Value) (u : Nat → Value) (w : World) (H : NT V B oa on oc n0 xs w) (d : Nat) :
  AnyW Try.prog main V Stop (base 66) k cs ops53 .any (AQ B j n thr mo cl ag oa on oc n0 xs w) 7 #[false, true, true, true, true, false, false, false, false, false, false] ⟨#[thr, mo, undef, undef, .pointer none, .pointer (some ⟨B, 0, none⟩), thr, .int .i64 n, mo, cl, ag, .pointer (some ⟨B, 0, none⟩), thr, .int .i64 n, .int .i64 j, .bool true, u 16, .pointer (some ⟨B, 0, none⟩), .pointer (some ⟨B, 0, none⟩), .pointer (some ⟨B, 0, none⟩), .slice oa on oc, u 21, u 22, u 23, u 24, u 25, u 26, u 27], []⟩ ((w).at d) := by
 refine anyW_all (rs := [0, 5]) (by first | kernel_rfl | decide +kernel) (by simp) (fun i hi => ?_)
 obtain rfl | rfl : i = 0 ∨ i = 5 := by simpa using hi
 ·intro rest hr
  refine Walk.back ?_ d
  simp only [ops53, body53, Try.f66] at hr ⊢
  (refine Walk.oq ?_; try walk_nrm)
  exact hr _ _ (nt_0_1_2_3_4 B j n thr mo cl ag oa on oc n0 xs u w H (w).drawn)
 ·intro rest hr
  refine Walk.back ?_ d
  simp only [ops53, body53, Try.f66] at hr ⊢
  refine Walk.callW (stand_new' _ w) rfl (by rfl) (by decide) rfl Try.func83 (by kernel_rfl) (by rfl) ?_
  rintro v w₁ ⟨t, r, rfl, ht, d₁, rfl⟩
  walk_nrm
  exact hr _ _ (nt_1_2_3_4_5 B j n thr mo cl ag oa on oc n0 xs u w H t r ht d₁)
theorem nt_1_2_3_5 (B j n : Nat) (thr mo cl ag : Value) (oa : Option Addr) (on oc n0 : Nat) (xs : List Value) (u : Nat → Value) (w : World) (H : NT V B oa on oc n0 xs w) (t r : Nat) (ht : TR w t r) (d : Nat) :
  AnyW Try.prog main V Stop (base 66) k cs ops53 .any (AQ B j n thr mo cl ag oa on oc n0 xs w) 7 #[false, true, true, true, false, true, false, false, false, false, false] ⟨#[thr, mo, undef, undef, .pointer none, .pointer (some ⟨B, 0, none⟩), thr, .int .i64 n, mo, cl, ag, .pointer (some ⟨B, 0, none⟩), thr, .int .i64 n, .int .i64 j, .bool true, u 16, .pointer (some ⟨B, 0, none⟩), .pointer (some ⟨B, 0, none⟩), .pointer (some ⟨B, 0, none⟩), u 20, .pointer (some ⟨w.heap.size + 2, 0, none⟩), u 22, u 23, u 24, u 25, u 26, u 27], []⟩ ((standW w t r).at d) := by
 refine anyW_all (rs := [0, 4, 6]) (by first | kernel_rfl | decide +kernel) (by simp) (fun i hi => ?_)
 obtain rfl | rfl | rfl : i = 0 ∨ i = 4 ∨ i = 6 := by simpa using hi
 ·intro rest hr
  refine Walk.back ?_ d
  simp only [ops53, body53, Try.f66] at hr ⊢
  (refine Walk.oq ?_; try walk_nrm)
  exact hr _ _ (nt_0_1_2_3_5 B j n thr mo cl ag oa on oc n0 xs u w H t r ht (standW w t r).drawn)
 ·intro rest hr
  refine Walk.back ?_ d
  simp only [ops53, body53, Try.f66] at hr ⊢
  have hc := (H.stand t r).1
  (refine Walk.oq ?_; try walk_nrm)
  exact hr _ _ (nt_1_2_3_4_5 B j n thr mo cl ag oa on oc n0 xs u w H t r ht (standW w t r).drawn)
 ·intro rest hr
  refine Walk.back ?_ d
  simp only [ops53, body53, Try.f66] at hr ⊢
  have hsz := standW_size w t r
  (refine Walk.oa ?_; try walk_nrm)
  try simp only [hsz]
  exact hr _ _ (nt_1_2_3_5_6 B j n thr mo cl ag oa on oc n0 xs u w H t r ht (newW w t r).drawn)
theorem nt_1_2_5_6 (B j n : Nat) (thr mo cl ag : Value) (oa : Option Addr) (on oc n0 : Nat) (xs : List Value) (u : Nat → Value) (w : World) (H : NT V B oa on oc n0 xs w) (t r : Nat) (ht : TR w t r) (d : Nat) :
  AnyW Try.prog main V Stop (base 66) k cs ops53 .any (AQ B j n thr mo cl ag oa on oc n0 xs w) 7 #[false, true, true, false, false, true, true, false, false, false, false] ⟨#[thr, mo, undef, undef, .pointer none, .pointer (some ⟨B, 0, none⟩), thr, .int .i64 n, mo, cl, ag, .pointer (some ⟨B, 0, none⟩), thr, .int .i64 n, .int .i64 j, .bool true, u 16, .pointer (some ⟨B, 0, none⟩), .pointer (some ⟨B, 0, none⟩), u 19, u 20, .pointer (some ⟨w.heap.size + 2, 0, none⟩), .slice (some ⟨w.heap.size + 3, 0, none⟩) 1 1, u 23, u 24, u 25, u 26, u 27], []⟩ ((newW w t r).at d) := by
 refine anyW_all (rs := [0, 3]) (by first | kernel_rfl | decide +kernel) (by simp) (fun i hi => ?_)
 obtain rfl | rfl : i = 0 ∨ i = 3 := by simpa using hi
 ·intro rest hr
  refine Walk.back ?_ d
  simp only [ops53, body53, Try.f66] at hr ⊢
  (refine Walk.oq ?_; try walk_nrm)
  exact hr _ _ (nt_0_1_2_5_6 B j n thr mo cl ag oa on oc n0 xs u w H t r ht (newW w t r).drawn)
 ·intro rest hr
  refine Walk.back ?_ d
  simp only [ops53, body53, Try.f66] at hr ⊢
  (refine Walk.oq ?_; try walk_nrm)
  exact hr _ _ (nt_1_2_3_5_6 B j n thr mo cl ag oa on oc n0 xs u w H t r ht (newW w t r).drawn)
theorem nt_0_1_2 (B j n : Nat) (thr mo cl ag : Value) (oa : Option Addr) (on oc n0 : Nat) (xs : List Value) (u : Nat → Value) (w : World) (H : NT V B oa on oc n0 xs w) (d : Nat) :
  AnyW Try.prog main V Stop (base 66) k cs ops53 .any (AQ B j n thr mo cl ag oa on oc n0 xs w) 8 #[true, true, true, false, false, false, false, false, false, false, false] ⟨#[thr, mo, undef, undef, .pointer none, .pointer (some ⟨B, 0, none⟩), thr, .int .i64 n, mo, cl, ag, .pointer (some ⟨B, 0, none⟩), thr, .int .i64 n, .int .i64 j, .bool true, .pointer (some ⟨B, 0, none⟩), .pointer (some ⟨B, 0, none⟩), .pointer (some ⟨B, 0, none⟩), u 19, u 20, u 21, u 22, u 23, u 24, u 25, u 26, u 27], []⟩ ((w).at d) := by
 refine anyW_all (rs := [3, 5]) (by first | kernel_rfl | decide +kernel) (by simp) (fun i hi => ?_)
 obtain rfl | rfl : i = 3 ∨ i = 5 := by simpa using hi
 ·intro rest hr
  refine Walk.back ?_ d
  simp only [ops53, body53, Try.f66] at hr ⊢
  (refine Walk.oq ?_; try walk_nrm)
  exact hr _ _ (nt_0_1_2_3 B j n thr mo cl ag oa on oc n0 xs u w H (w).drawn)
 ·intro rest hr
  refine Walk.back ?_ d
  simp only [ops53, body53, Try.f66] at hr ⊢
  refine Walk.callW (stand_new' _ w) rfl (by rfl) (by decide) rfl Try.func83 (by kernel_rfl) (by rfl) ?_
  rintro v w₁ ⟨t, r, rfl, ht, d₁, rfl⟩
  walk_nrm
  exact hr _ _ (nt_0_1_2_5 B j n thr mo cl ag oa on oc n0 xs u w H t r ht d₁)
theorem nt_0_1_5 (B j n : Nat) (thr mo cl ag : Value) (oa : Option Addr) (on oc n0 : Nat) (xs : List Value) (u : Nat → Value) (w : World) (H : NT V B oa on oc n0 xs w) (t r : Nat) (ht : TR w t r) (d : Nat) :
  AnyW Try.prog main V Stop (base 66) k cs ops53 .any (AQ B j n thr mo cl ag oa on oc n0 xs w) 8 #[true, true, false, false, false, true, false, false, false, false, false] ⟨#[thr, mo, undef, undef, .pointer none, .pointer (some ⟨B, 0, none⟩), thr, .int .i64 n, mo, cl, ag, .pointer (some ⟨B, 0, none⟩), thr, .int .i64 n, .int .i64 j, .bool true, .pointer (some ⟨B, 0, none⟩), .pointer (some ⟨B, 0, none⟩), u 18, u 19, u 20, .pointer (some ⟨w.heap.size + 2, 0, none⟩), u 22, u 23, u 24, u 25, u 26, u 27], []⟩ ((standW w t r).at d) := by
 refine anyW_all (rs := [2, 6]) (by first | kernel_rfl | decide +kernel) (by simp) (fun i hi => ?_)
 obtain rfl | rfl : i = 2 ∨ i = 6 := by simpa using hi
 ·intro rest hr
  refine Walk.back ?_ d
  simp only [ops53, body53, Try.f66] at hr ⊢
  (refine Walk.oq ?_; try walk_nrm)
  exact hr _ _ (nt_0_1_2_5 B j n thr mo cl ag oa on oc n0 xs u w H t r ht (standW w t r).drawn)
 ·intro rest hr
  refine Walk.back ?_ d
  simp only [ops53, body53, Try.f66] at hr ⊢
  have hsz := standW_size w t r
  (refine Walk.oa ?_; try walk_nrm)
  try simp only [hsz]
  exact hr _ _ (nt_0_1_5_6 B j n thr mo cl ag oa on oc n0 xs u w H t r ht (newW w t r).drawn)
theorem nt_0_5_6 (B j n : Nat) (thr mo cl ag : Value) (oa : Option Addr) (on oc n0 : Nat) (xs : List Value) (u : Nat → Value) (w : World) (H : NT V B oa on oc n0 xs w) (t r : Nat) (ht : TR w t r) (d : Nat) :
  AnyW Try.prog main V Stop (base 66) k cs ops53 .any (AQ B j n thr mo cl ag oa on oc n0 xs w) 8 #[true, false, false, false, false, true, true, false, false, false, false] ⟨#[thr, mo, undef, undef, .pointer none, .pointer (some ⟨B, 0, none⟩), thr, .int .i64 n, mo, cl, ag, .pointer (some ⟨B, 0, none⟩), thr, .int .i64 n, .int .i64 j, .bool true, .pointer (some ⟨B, 0, none⟩), u 17, u 18, u 19, u 20, .pointer (some ⟨w.heap.size + 2, 0, none⟩), .slice (some ⟨w.heap.size + 3, 0, none⟩) 1 1, u 23, u 24, u 25, u 26, u 27], []⟩ ((newW w t r).at d) := by
 refine anyW_all (rs := [1]) (by first | kernel_rfl | decide +kernel) (by simp) (fun i hi => ?_)
 obtain rfl : i = 1 := by simpa using hi
 ·intro rest hr
  refine Walk.back ?_ d
  simp only [ops53, body53, Try.f66] at hr ⊢
  (refine Walk.oq ?_; try walk_nrm)
  exact hr _ _ (nt_0_1_5_6 B j n thr mo cl ag oa on oc n0 xs u w H t r ht (newW w t r).drawn)
theorem nt_1_2_3 (B j n : Nat) (thr mo cl ag : Value) (oa : Option Addr) (on oc n0 : Nat) (xs : List Value) (u : Nat → Value) (w : World) (H : NT V B oa on oc n0 xs w) (d : Nat) :
  AnyW Try.prog main V Stop (base 66) k cs ops53 .any (AQ B j n thr mo cl ag oa on oc n0 xs w) 8 #[false, true, true, true, false, false, false, false, false, false, false] ⟨#[thr, mo, undef, undef, .pointer none, .pointer (some ⟨B, 0, none⟩), thr, .int .i64 n, mo, cl, ag, .pointer (some ⟨B, 0, none⟩), thr, .int .i64 n, .int .i64 j, .bool true, u 16, .pointer (some ⟨B, 0, none⟩), .pointer (some ⟨B, 0, none⟩), .pointer (some ⟨B, 0, none⟩), u 20, u 21, u 22, u 23, u 24, u 25, u 26, u 27], []⟩ ((w).at d) := by
 refine anyW_all (rs := [0, 4, 5]) (by first | kernel_rfl | decide +kernel) (by simp) (fun i hi => ?_)
 obtain rfl | rfl | rfl : i = 0 ∨ i = 4 ∨ i = 5 := by simpa using hi
 ·intro rest hr
  refine Walk.back ?_ d
  simp only [ops53, body53, Try.f66] at hr ⊢
  (refine Walk.oq ?_; try walk_nrm)
  exact hr _ _ (nt_0_1_2_3 B j n thr mo cl ag oa on oc n0 xs u w H (w).drawn)
 ·intro rest hr
  refine Walk.back ?_ d
  simp only [ops53, body53, Try.f66] at hr ⊢
  have hc := H.h0
  (refine Walk.oq ?_; try walk_nrm)
  exact hr _ _ (nt_1_2_3_4 B j n thr mo cl ag oa on oc n0 xs u w H (w).drawn)
 ·intro rest hr
  refine Walk.back ?_ d
  simp only [ops53, body53, Try.f66] at hr ⊢
  refine Walk.callW (stand_new' _ w) rfl (by rfl) (by decide) rfl Try.func83 (by kernel_rfl) (by rfl) ?_
  rintro v w₁ ⟨t, r, rfl, ht, d₁, rfl⟩
  walk_nrm
  exact hr _ _ (nt_1_2_3_5 B j n thr mo cl ag oa on oc n0 xs u w H t r ht d₁)
theorem nt_1_2_5 (B j n : Nat) (thr mo cl ag : Value) (oa : Option Addr) (on oc n0 : Nat) (xs : List Value) (u : Nat → Value) (w : World) (H : NT V B oa on oc n0 xs w) (t r : Nat) (ht : TR w t r) (d : Nat) :
  AnyW Try.prog main V Stop (base 66) k cs ops53 .any (AQ B j n thr mo cl ag oa on oc n0 xs w) 8 #[false, true, true, false, false, true, false, false, false, false, false] ⟨#[thr, mo, undef, undef, .pointer none, .pointer (some ⟨B, 0, none⟩), thr, .int .i64 n, mo, cl, ag, .pointer (some ⟨B, 0, none⟩), thr, .int .i64 n, .int .i64 j, .bool true, u 16, .pointer (some ⟨B, 0, none⟩), .pointer (some ⟨B, 0, none⟩), u 19, u 20, .pointer (some ⟨w.heap.size + 2, 0, none⟩), u 22, u 23, u 24, u 25, u 26, u 27], []⟩ ((standW w t r).at d) := by
 refine anyW_all (rs := [0, 3, 6]) (by first | kernel_rfl | decide +kernel) (by simp) (fun i hi => ?_)
 obtain rfl | rfl | rfl : i = 0 ∨ i = 3 ∨ i = 6 := by simpa using hi
 ·intro rest hr
  refine Walk.back ?_ d
  simp only [ops53, body53, Try.f66] at hr ⊢
  (refine Walk.oq ?_; try walk_nrm)
  exact hr _ _ (nt_0_1_2_5 B j n thr mo cl ag oa on oc n0 xs u w H t r ht (standW w t r).drawn)
 ·intro rest hr
  refine Walk.back ?_ d
  simp only [ops53, body53, Try.f66] at hr ⊢
  (refine Walk.oq ?_; try walk_nrm)
  exact hr _ _ (nt_1_2_3_5 B j n thr mo cl ag oa on oc n0 xs u w H t r ht (standW w t r).drawn)
 ·intro rest hr
  refine Walk.back ?_ d
  simp only [ops53, body53, Try.f66] at hr ⊢
  have hsz := standW_size w t r
  (refine Walk.oa ?_; try walk_nrm)
  try simp only [hsz]
  exact hr _ _ (nt_1_2_5_6 B j n thr mo cl ag oa on oc n0 xs u w H t r ht (newW w t r).drawn)
theorem nt_1_5_6 (B j n : Nat) (thr mo cl ag : Value) (oa : Option Addr) (on oc n0 : Nat) (xs : List Value) (u : Nat → Value) (w : World) (H : NT V B oa on oc n0 xs w) (t r : Nat) (ht : TR w t r) (d : Nat) :
  AnyW Try.prog main V Stop (base 66) k cs ops53 .any (AQ B j n thr mo cl ag oa on oc n0 xs w) 8 #[false, true, false, false, false, true, true, false, false, false, false] ⟨#[thr, mo, undef, undef, .pointer none, .pointer (some ⟨B, 0, none⟩), thr, .int .i64 n, mo, cl, ag, .pointer (some ⟨B, 0, none⟩), thr, .int .i64 n, .int .i64 j, .bool true, u 16, .pointer (some ⟨B, 0, none⟩), u 18, u 19, u 20, .pointer (some ⟨w.heap.size + 2, 0, none⟩), .slice (some ⟨w.heap.size + 3, 0, none⟩) 1 1, u 23, u 24, u 25, u 26, u 27], []⟩ ((newW w t r).at d) := by
 refine anyW_all (rs := [0, 2]) (by first | kernel_rfl | decide +kernel) (by simp) (fun i hi => ?_)
 obtain rfl | rfl : i = 0 ∨ i = 2 := by simpa using hi
 ·intro rest hr
  refine Walk.back ?_ d
  simp only [ops53, body53, Try.f66] at hr ⊢
  (refine Walk.oq ?_; try walk_nrm)
  exact hr _ _ (nt_0_1_5_6 B j n thr mo cl ag oa on oc n0 xs u w H t r ht (newW w t r).drawn)
 ·intro rest hr
  refine Walk.back ?_ d
  simp only [ops53, body53, Try.f66] at hr ⊢
  (refine Walk.oq ?_; try walk_nrm)
  exact hr _ _ (nt_1_2_5_6 B j n thr mo cl ag oa on oc n0 xs u w H t r ht (newW w t r).drawn)
theorem nt_0_1 (B j n : Nat) (thr mo cl ag : Value) (oa : Option Addr) (on oc n0 : Nat) (xs : List Value) (u : Nat → Value) (w : World) (H : NT V B oa on oc n0 xs w) (d : Nat) :
  AnyW Try.prog main V Stop (base 66) k cs ops53 .any (AQ B j n thr mo cl ag oa on oc n0 xs w) 9 #[true, true, false, false, false, false, false, false, false, false, false] ⟨#[thr, mo, undef, undef, .pointer none, .pointer (some ⟨B, 0, none⟩), thr, .int .i64 n, mo, cl, ag, .pointer (some ⟨B, 0, none⟩), thr, .int .i64 n, .int .i64 j, .bool true, .pointer (some ⟨B, 0, none⟩), .pointer (some ⟨B, 0, none⟩), u 18, u 19, u 20, u 21, u 22, u 23, u 24, u 25, u 26, u 27], []⟩ ((w).at d) := by
 refine anyW_all (rs := [2, 5]) (by first | kernel_rfl | decide +kernel) (by simp) (fun i hi => ?_)
 obtain rfl | rfl : i = 2 ∨ i = 5 := by simpa using hi
 ·intro rest hr
  refine Walk.back ?_ d
  simp only [ops53, body53, Try.f66] at hr ⊢
  (refine Walk.oq ?_; try walk_nrm)
  exact hr _ _ (nt_0_1_2 B j n thr mo cl ag oa on oc n0 xs u w H (w).drawn)
 ·intro rest hr
  refine Walk.back ?_ d
  simp only [ops53, body53, Try.f66] at hr ⊢
  refine Walk.callW (stand_new' _ w) rfl (by rfl) (by decide) rfl Try.func83 (by kernel_rfl) (by rfl) ?_
  rintro v w₁ ⟨t, r, rfl, ht, d₁, rfl⟩
  walk_nrm
  exact hr _ _ (nt_0_1_5 B j n thr mo cl ag oa on oc n0 xs u w H t r ht d₁)
theorem nt_0_5 (B j n : Nat) (thr mo cl ag : Value) (oa : Option Addr) (on oc n0 : Nat) (xs : List Value) (u : Nat → Value) (w : World) (H : NT V B oa on oc n0 xs w) (t r : Nat) (ht : TR w t r) (d : Nat) :
  AnyW Try.prog main V Stop (base 66) k cs ops53 .any (AQ B j n thr mo cl ag oa on oc n0 xs w) 9 #[true, false, false, false, false, true, false, false, false, false, false] ⟨#[thr, mo, undef, undef, .pointer none, .pointer (some ⟨B, 0, none⟩), thr, .int .i64 n, mo, cl, ag, .pointer (some ⟨B, 0, none⟩), thr, .int .i64 n, .int .i64 j, .bool true, .pointer (some ⟨B, 0, none⟩), u 17, u 18, u 19, u 20, .pointer (some ⟨w.heap.size + 2, 0, none⟩), u 22, u 23, u 24, u 25, u 26, u 27], []⟩ ((standW w t r).at d) := by
 refine anyW_all (rs := [1, 6]) (by first | kernel_rfl | decide +kernel) (by simp) (fun i hi => ?_)
 obtain rfl | rfl : i = 1 ∨ i = 6 := by simpa using hi
 ·intro rest hr
  refine Walk.back ?_ d
  simp only [ops53, body53, Try.f66] at hr ⊢
  (refine Walk.oq ?_; try walk_nrm)
  exact hr _ _ (nt_0_1_5 B j n thr mo cl ag oa on oc n0 xs u w H t r ht (standW w t r).drawn)
 ·intro rest hr
  refine Walk.back ?_ d
  simp only [ops53, body53, Try.f66] at hr ⊢
  have hsz := standW_size w t r
  (refine Walk.oa ?_; try walk_nrm)
  try simp only [hsz]
  exact hr _ _ (nt_0_5_6 B j n thr mo cl ag oa on oc n0 xs u w H t r ht (newW w t r).drawn)
theorem nt_1_2 (B j n : Nat) (thr mo cl ag : Value) (oa : Option Addr) (on oc n0 : Nat) (xs : List Value) (u : Nat → Value) (w : World) (H : NT V B oa on oc n0 xs w) (d : Nat) :
  AnyW Try.prog main V Stop (base 66) k cs ops53 .any (AQ B j n thr mo cl ag oa on oc n0 xs w) 9 #[false, true, true, false, false, false, false, false, false, false, false] ⟨#[thr, mo, undef, undef, .pointer none, .pointer (some ⟨B, 0, none⟩), thr, .int .i64 n, mo, cl, ag, .pointer (some ⟨B, 0, none⟩), thr, .int .i64 n, .int .i64 j, .bool true, u 16, .pointer (some ⟨B, 0, none⟩), .pointer (some ⟨B, 0, none⟩), u 19, u 20, u 21, u 22, u 23, u 24, u 25, u 26, u 27], []⟩ ((w).at d) := by
 refine anyW_all (rs := [0, 3, 5]) (by first | kernel_rfl | decide +kernel) (by simp) (fun i hi => ?_)
 obtain rfl | rfl | rfl : i = 0 ∨ i = 3 ∨ i = 5 := by simpa using hi
 ·intro rest hr
  refine Walk.back ?_ d
  simp only [ops53, body53, Try.f66] at hr ⊢
  (refine Walk.oq ?_; try walk_nrm)
  exact hr _ _ (nt_0_1_2 B j n thr mo cl ag oa on oc n0 xs u w H (w).drawn)
 ·intro rest hr
  refine Walk.back ?_ d
  simp only [ops53, body53, Try.f66] at hr ⊢
  (refine Walk.oq ?_; try walk_nrm)
  exact hr _ _ (nt_1_2_3 B j n thr mo cl ag oa on oc n0 xs u w H (w).drawn)
 ·intro rest hr
  refine Walk.back ?_ d
  simp only [ops53, body53, Try.f66] at hr ⊢
  refine Walk.callW (stand_new' _ w) rfl (by rfl) (by decide) rfl Try.func83 (by kernel_rfl) (by rfl) ?_
  rintro v w₁ ⟨t, r, rfl, ht, d₁, rfl⟩
  walk_nrm
  exact hr _ _ (nt_1_2_5 B j n thr mo cl ag oa on oc n0 xs u w H t r ht d₁)
theorem nt_1_5 (B j n : Nat) (thr mo cl ag : Value) (oa : Option Addr) (on oc n0 : Nat) (xs : List Value) (u : Nat → Value) (w : World) (H : NT V B oa on oc n0 xs w) (t r : Nat) (ht : TR w t r) (d : Nat) :
  AnyW Try.prog main V Stop (base 66) k cs ops53 .any (AQ B j n thr mo cl ag oa on oc n0 xs w) 9 #[false, true, false, false, false, true, false, false, false, false, false] ⟨#[thr, mo, undef, undef, .pointer none, .pointer (some ⟨B, 0, none⟩), thr, .int .i64 n, mo, cl, ag, .pointer (some ⟨B, 0, none⟩), thr, .int .i64 n, .int .i64 j, .bool true, u 16, .pointer (some ⟨B, 0, none⟩), u 18, u 19, u 20, .pointer (some ⟨w.heap.size + 2, 0, none⟩), u 22, u 23, u 24, u 25, u 26, u 27], []⟩ ((standW w t r).at d) := by
 refine anyW_all (rs := [0, 2, 6]) (by first | kernel_rfl | decide +kernel) (by simp) (fun i hi => ?_)
 obtain rfl | rfl | rfl : i = 0 ∨ i = 2 ∨ i = 6 := by simpa using hi
 ·intro rest hr
  refine Walk.back ?_ d
  simp only [ops53, body53, Try.f66] at hr ⊢
  (refine Walk.oq ?_; try walk_nrm)
  exact hr _ _ (nt_0_1_5 B j n thr mo cl ag oa on oc n0 xs u w H t r ht (standW w t r).drawn)
 ·intro rest hr
  refine Walk.back ?_ d
  simp only [ops53, body53, Try.f66] at hr ⊢
  (refine Walk.oq ?_; try walk_nrm)
  exact hr _ _ (nt_1_2_5 B j n thr mo cl ag oa on oc n0 xs u w H t r ht (standW w t r).drawn)
 ·intro rest hr
  refine Walk.back ?_ d
  simp only [ops53, body53, Try.f66] at hr ⊢
  have hsz := standW_size w t r
  (refine Walk.oa ?_; try walk_nrm)
  try simp only [hsz]
  exact hr _ _ (nt_1_5_6 B j n thr mo cl ag oa on oc n0 xs u w H t r ht (newW w t r).drawn)
theorem nt_5_6 (B j n : Nat) (thr mo cl ag : Value) (oa : Option Addr) (on oc n0 : Nat) (xs : List Value) (u : Nat → Value) (w : World) (H : NT V B oa on oc n0 xs w) (t r : Nat) (ht : TR w t r) (d : Nat) :
  AnyW Try.prog main V Stop (base 66) k cs ops53 .any (AQ B j n thr mo cl ag oa on oc n0 xs w) 9 #[false, false, false, false, false, true, true, false, false, false, false] ⟨#[thr, mo, undef, undef, .pointer none, .pointer (some ⟨B, 0, none⟩), thr, .int .i64 n, mo, cl, ag, .pointer (some ⟨B, 0, none⟩), thr, .int .i64 n, .int .i64 j, .bool true, u 16, u 17, u 18, u 19, u 20, .pointer (some ⟨w.heap.size + 2, 0, none⟩), .slice (some ⟨w.heap.size + 3, 0, none⟩) 1 1, u 23, u 24, u 25, u 26, u 27], []⟩ ((newW w t r).at d) := by
 refine anyW_all (rs := [0, 1]) (by first | kernel_rfl | decide +kernel) (by simp) (fun i hi => ?_)
 obtain rfl | rfl : i = 0 ∨ i = 1 := by simpa using hi
 ·intro rest hr
  refine Walk.back ?_ d
  simp only [ops53, body53, Try.f66] at hr ⊢
  (refine Walk.oq ?_; try walk_nrm)
  exact hr _ _ (nt_0_5_6 B j n thr mo cl ag oa on oc n0 xs u w H t r ht (newW w t r).drawn)
 ·intro rest hr
  refine Walk.back ?_ d
  simp only [ops53, body53, Try.f66] at hr ⊢
  (refine Walk.oq ?_; try walk_nrm)
  exact hr _ _ (nt_1_5_6 B j n thr mo cl ag oa on oc n0 xs u w H t r ht (newW w t r).drawn)
theorem nt_0 (B j n : Nat) (thr mo cl ag : Value) (oa : Option Addr) (on oc n0 : Nat) (xs : List Value) (u : Nat → Value) (w : World) (H : NT V B oa on oc n0 xs w) (d : Nat) :
  AnyW Try.prog main V Stop (base 66) k cs ops53 .any (AQ B j n thr mo cl ag oa on oc n0 xs w) 10 #[true, false, false, false, false, false, false, false, false, false, false] ⟨#[thr, mo, undef, undef, .pointer none, .pointer (some ⟨B, 0, none⟩), thr, .int .i64 n, mo, cl, ag, .pointer (some ⟨B, 0, none⟩), thr, .int .i64 n, .int .i64 j, .bool true, .pointer (some ⟨B, 0, none⟩), u 17, u 18, u 19, u 20, u 21, u 22, u 23, u 24, u 25, u 26, u 27], []⟩ ((w).at d) := by
 refine anyW_all (rs := [1, 5]) (by first | kernel_rfl | decide +kernel) (by simp) (fun i hi => ?_)
 obtain rfl | rfl : i = 1 ∨ i = 5 := by simpa using hi
 ·intro rest hr
  refine Walk.back ?_ d
  simp only [ops53, body53, Try.f66] at hr ⊢
  (refine Walk.oq ?_; try walk_nrm)
  exact hr _ _ (nt_0_1 B j n thr mo cl ag oa on oc n0 xs u w H (w).drawn)
 ·intro rest hr
  refine Walk.back ?_ d
  simp only [ops53, body53, Try.f66] at hr ⊢
  refine Walk.callW (stand_new' _ w) rfl (by rfl) (by decide) rfl Try.func83 (by kernel_rfl) (by rfl) ?_
  rintro v w₁ ⟨t, r, rfl, ht, d₁, rfl⟩
  walk_nrm
  exact hr _ _ (nt_0_5 B j n thr mo cl ag oa on oc n0 xs u w H t r ht d₁)
theorem nt_1 (B j n : Nat) (thr mo cl ag : Value) (oa : Option Addr) (on oc n0 : Nat) (xs : List Value) (u : Nat → Value) (w : World) (H : NT V B oa on oc n0 xs w) (d : Nat) :
  AnyW Try.prog main V Stop (base 66) k cs ops53 .any (AQ B j n thr mo cl ag oa on oc n0 xs w) 10 #[false, true, false, false, false, false, false, false, false, false, false] ⟨#[thr, mo, undef, undef, .pointer none, .pointer (some ⟨B, 0, none⟩), thr, .int .i64 n, mo, cl, ag, .pointer (some ⟨B, 0, none⟩), thr, .int .i64 n, .int .i64 j, .bool true, u 16, .pointer (some ⟨B, 0, none⟩), u 18, u 19, u 20, u 21, u 22, u 23, u 24, u 25, u 26, u 27], []⟩ ((w).at d) := by
 refine anyW_all (rs := [0, 2, 5]) (by first | kernel_rfl | decide +kernel) (by simp) (fun i hi => ?_)
 obtain rfl | rfl | rfl : i = 0 ∨ i = 2 ∨ i = 5 := by simpa using hi
 ·intro rest hr
  refine Walk.back ?_ d
  simp only [ops53, body53, Try.f66] at hr ⊢
  (refine Walk.oq ?_; try walk_nrm)
  exact hr _ _ (nt_0_1 B j n thr mo cl ag oa on oc n0 xs u w H (w).drawn)
 ·intro rest hr
  refine Walk.back ?_ d
  simp only [ops53, body53, Try.f66] at hr ⊢
  (refine Walk.oq ?_; try walk_nrm)
  exact hr _ _ (nt_1_2 B j n thr mo cl ag oa on oc n0 xs u w H (w).drawn)
 ·intro rest hr
  refine Walk.back ?_ d
  simp only [ops53, body53, Try.f66] at hr ⊢
  refine Walk.callW (stand_new' _ w) rfl (by rfl) (by decide) rfl Try.func83 (by kernel_rfl) (by rfl) ?_
  rintro v w₁ ⟨t, r, rfl, ht, d₁, rfl⟩
  walk_nrm
  exact hr _ _ (nt_1_5 B j n thr mo cl ag oa on oc n0 xs u w H t r ht d₁)
theorem nt_5 (B j n : Nat) (thr mo cl ag : Value) (oa : Option Addr) (on oc n0 : Nat) (xs : List Value) (u : Nat → Value) (w : World) (H : NT V B oa on oc n0 xs w) (t r : Nat) (ht : TR w t r) (d : Nat) :
  AnyW Try.prog main V Stop (base 66) k cs ops53 .any (AQ B j n thr mo cl ag oa on oc n0 xs w) 10 #[false, false, false, false, false, true, false, false, false, false, false] ⟨#[thr, mo, undef, undef, .pointer none, .pointer (some ⟨B, 0, none⟩), thr, .int .i64 n, mo, cl, ag, .pointer (some ⟨B, 0, none⟩), thr, .int .i64 n, .int .i64 j, .bool true, u 16, u 17, u 18, u 19, u 20, .pointer (some ⟨w.heap.size + 2, 0, none⟩), u 22, u 23, u 24, u 25, u 26, u 27], []⟩ ((standW w t r).at d) := by
 refine anyW_all (rs := [0, 1, 6]) (by first | kernel_rfl | decide +kernel) (by simp) (fun i hi => ?_)
 obtain rfl | rfl | rfl : i = 0 ∨ i = 1 ∨ i = 6 := by simpa using hi
 ·intro rest hr
  refine Walk.back ?_ d
  simp only [ops53, body53, Try.f66] at hr ⊢
  (refine Walk.oq ?_; try walk_nrm)
  exact hr _ _ (nt_0_5 B j n thr mo cl ag oa on oc n0 xs u w H t r ht (standW w t r).drawn)
 ·intro rest hr
  refine Walk.back ?_ d
  simp only [ops53, body53, Try.f66] at hr ⊢
  (refine Walk.oq ?_; try walk_nrm)
  exact hr _ _ (nt_1_5 B j n thr mo cl ag oa on oc n0 xs u w H t r ht (standW w t r).drawn)
 ·intro rest hr
  refine Walk.back ?_ d
  simp only [ops53, body53, Try.f66] at hr ⊢
  have hsz := standW_size w t r
  (refine Walk.oa ?_; try walk_nrm)
  try simp only [hsz]
  exact hr _ _ (nt_5_6 B j n thr mo cl ag oa on oc n0 xs u w H t r ht (newW w t r).drawn)
theorem nt_x (B j n : Nat) (thr mo cl ag : Value) (oa : Option Addr) (on oc n0 : Nat) (xs : List Value) (u : Nat → Value) (w : World) (H : NT V B oa on oc n0 xs w) (d : Nat) :
  AnyW Try.prog main V Stop (base 66) k cs ops53 .any (AQ B j n thr mo cl ag oa on oc n0 xs w) 11 #[false, false, false, false, false, false, false, false, false, false, false] ⟨#[thr, mo, undef, undef, .pointer none, .pointer (some ⟨B, 0, none⟩), thr, .int .i64 n, mo, cl, ag, .pointer (some ⟨B, 0, none⟩), thr, .int .i64 n, .int .i64 j, .bool true, u 16, u 17, u 18, u 19, u 20, u 21, u 22, u 23, u 24, u 25, u 26, u 27], []⟩ ((w).at d) := by
 refine anyW_all (rs := [0, 1, 5]) (by first | kernel_rfl | decide +kernel) (by simp) (fun i hi => ?_)
 obtain rfl | rfl | rfl : i = 0 ∨ i = 1 ∨ i = 5 := by simpa using hi
 ·intro rest hr
  refine Walk.back ?_ d
  simp only [ops53, body53, Try.f66] at hr ⊢
  (refine Walk.oq ?_; try walk_nrm)
  exact hr _ _ (nt_0 B j n thr mo cl ag oa on oc n0 xs u w H (w).drawn)
 ·intro rest hr
  refine Walk.back ?_ d
  simp only [ops53, body53, Try.f66] at hr ⊢
  (refine Walk.oq ?_; try walk_nrm)
  exact hr _ _ (nt_1 B j n thr mo cl ag oa on oc n0 xs u w H (w).drawn)
 ·intro rest hr
  refine Walk.back ?_ d
  simp only [ops53, body53, Try.f66] at hr ⊢
  refine Walk.callW (stand_new' _ w) rfl (by rfl) (by decide) rfl Try.func83 (by kernel_rfl) (by rfl) ?_
  rintro v w₁ ⟨t, r, rfl, ht, d₁, rfl⟩
  walk_nrm
  exact hr _ _ (nt_5 B j n thr mo cl ag oa on oc n0 xs u w H t r ht d₁)
end
end Go.Proofs.Ytjenoiekfkhafaa
