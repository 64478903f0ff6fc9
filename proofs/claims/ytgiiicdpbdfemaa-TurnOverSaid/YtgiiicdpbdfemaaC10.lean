/- Part 10. -/
import Derived.Test.YtgiiicdpbdfemaaC9
set_option linter.unusedSimpArgs false
/- Package turn's newStand, in company. -/
section
namespace Go.Proofs.Ytgiiicdpbdfemaa
open Go.Conc Go.RowKit Go.Relay

variable {main : Bool} {V : Nat → Option Wait}

noncomputable def chan0 : Obj := .chan 0 #[] false 0 0 false
/-- The world behind newStand, whose channels are t and r. -/
noncomputable def standW (w : World) (t r : Nat) : World := ((w.alloc chan0).alloc chan0).alloc (.cells #[.chan (some t), .chan (some r), .bool false, .bool false] 166)

theorem run_chan {o : Oper} (ho : o.op = .makeChan 128 (.const (.int .i64 0))) (fn : FuncId) (a : Act) (w : World) (d : Nat) : (execOp a.eval o).run Try.prog (w.at d) = .ok (.value (.chan (some w.heap.size))) ((w.alloc chan0).at d) ∧ DR V (w.at d) ((w.alloc chan0).at d) (listed Try.prog fn a o (w.at d)) := by
  have hi := Option.some_get (show (Try.prog.info? 129).isSome = true by kernel_rfl)
  have ht : ∃ dir, Try.prog.underlying 128 = some (.chan dir 129) := ⟨.both, by kernel_rfl⟩
  obtain ⟨dir, ht⟩ := ht
  have hr := run_makeChan (P := Try.prog) (w := w.at d) ht hi.symm .i64 0 (by decide) (by simp)
  have he := events_makeChan (P := Try.prog) (w := w.at d) ht hi.symm .i64 0 (by decide) (by simp) #[]
  simp only [Int.ofNat_zero, Int.natCast_zero, Int.cast_ofNat_Int] at hr he
  have hn : a.eval (.const (.int .i64 0)) = .int .i64 0 := rfl
  have hv : (execOp a.eval o).events Try.prog (w.at d) #[] = #[] := by
    simp only [execOp, ho, hn, Sem.events_bind, hr, he]
    rfl
  refine ⟨?_, DR.alloc' d _ fun ev hm => ?_⟩
  · simp only [execOp, ho, hn, Sem.run_bind, hr]
    rfl
  · have hm' := mem_listed hm
    rw [hv] at hm'
    exact absurd hm' (by simp)

set_option maxHeartbeats 8000000 in
set_option maxRecDepth 100000 in
theorem stand_new (w : World) :
    CallW Try.prog main V 77 #[] w (fun v w' => ∃ t r, v = .pointer (some ⟨w.heap.size + 2, 0, none⟩) ∧ ((t = w.heap.size ∧ r = w.heap.size + 1) ∨ (t = w.heap.size + 1 ∧ r = w.heap.size)) ∧ ∃ d, w' = (standW w t r).at d) := by
  refine callW_in Try.func77 rfl fun fr cs => ?_
  simp only [Try.ntmps77, List.size_toArray, List.length_cons, List.length_nil, Nat.reduceAdd, Nat.reduceSub, Array.replicate_succ, Array.replicate_zero, List.push_toArray, List.append_toArray, List.nil_append, List.cons_append]
  repeat (first | (refine Walk.c rfl ?_) | (refine Walk.cReg ?_; simp only [List.size_toArray, List.length_cons, List.length_nil, Nat.reduceAdd, Nat.zero_add, List.range, List.range.loop]) | (refine Walk.cRet ?_) | (refine Walk.cEnd ?_) | (refine Walk.opq (ho_of (by conv => lhs; whnf) (by kernel_rfl)) (by rfl) (by decide) (fun dd e he => ?_) (fun dd K hK => ?_); (· (simp [go_sem, *] at he; try (subst he; exact evR_read _ _))); go_simp; refine hK _ ?_; clear hK K; try walk_nrm) | (refine Walk.ctl rfl (fun w => stepG_unwanted (ho_of (by conv => lhs; whnf) (by kernel_rfl)) (by rfl)) ?_; walk_nrm))
  refine Walk.drawn (by kernel_rfl) (by decide) (Q := fun a' w' => (∃ t r, a'.tmps.getD 0 undef = .pointer (some ⟨w.heap.size + 2, 0, none⟩) ∧ ((t = w.heap.size ∧ r = w.heap.size + 1) ∨ (t = w.heap.size + 1 ∧ r = w.heap.size)) ∧ ∃ d, w' = (standW w t r).at d) ∧ a'.defers = []) (fun d => ?_) ?_
  · simp only [List.size_toArray, List.length_cons, List.length_nil, Nat.reduceAdd, Nat.zero_add]
    refine anyCH_all (rs := [0, 1]) (by first | kernel_rfl | decide +kernel) (by simp) ?_
    intro i hi
    have hs1 : (w.alloc chan0).heap.size = w.heap.size + 1 := by simp
    obtain rfl | rfl : i = 0 ∨ i = 1 := by simpa using hi
    · refine opC_new (w := w) (W := (w).alloc chan0) rfl (by rfl) (fun d => (run_chan (V := V) rfl 77 _ _ d).1) (fun d => (run_chan rfl 77 _ _ d).2) (fun d => ⟨trivial, ?_⟩)
      walk_nrm
      refine anyCH_all (rs := [1]) (by first | kernel_rfl | decide +kernel) (by simp) (fun i hi => ?_)
      obtain rfl : i = 1 := by simpa using hi
      refine opC_new (w := w.alloc chan0) (W := (w.alloc chan0).alloc chan0) rfl (by rfl) (fun d => (run_chan (V := V) rfl 77 _ _ d).1) (fun d => (run_chan rfl 77 _ _ d).2) (fun d => ⟨trivial, ?_⟩)
      walk_nrm
      simp only [hs1]
      refine anyCH_all (rs := [2]) (by first | kernel_rfl | decide +kernel) (by simp) (fun i hi => ?_)
      obtain rfl : i = 2 := by simpa using hi
      refine opC_new (w := (w.alloc chan0).alloc chan0) (W := (w.alloc chan0).alloc chan0) (x := .agg #[.chan (some w.heap.size), .chan (some (w.heap.size + 1)), .bool false, .bool false]) rfl (by rfl) (fun d => run_eq_of (fun K hK => by go_simp; exact hK)) (fun d => DR.quiet (fun e he => by have hm := mem_listed he; simp [go_sem, *] at hm)) (fun d => ⟨trivial, ?_⟩)
      walk_nrm
      refine anyCH_all (rs := [3]) (by first | kernel_rfl | decide +kernel) (by simp) (fun i hi => ?_)
      obtain rfl : i = 3 := by simpa using hi
      refine opC_new (w := (w.alloc chan0).alloc chan0) (W := standW w w.heap.size (w.heap.size + 1)) (x := .pointer (some ⟨w.heap.size + 2, 0, none⟩)) rfl (by rfl) (fun d => run_eq_of (fun K hK => by go_simp; exact hK)) (fun d => DR.alloc' d _ (fun e he => by have hm := mem_listed he; simp [go_sem, *] at hm)) (fun d => ⟨trivial, ?_⟩)
      walk_nrm
      refine anyCH_all (rs := [4]) (by first | kernel_rfl | decide +kernel) (by simp) (fun i hi => ?_)
      obtain rfl : i = 4 := by simpa using hi
      refine opC_new (w := standW w w.heap.size (w.heap.size + 1)) (W := standW w w.heap.size (w.heap.size + 1)) (x := .pointer (some ⟨w.heap.size + 2, 0, none⟩)) rfl (by rfl) (fun d => run_eq_of (fun K hK => by go_simp; exact hK)) (fun d => DR.quiet (fun e he => by have hm := mem_listed he; simp [go_sem, *] at hm)) (fun d => ⟨trivial, ?_⟩)
      walk_nrm
      refine anyCH_done (by first | kernel_rfl | decide +kernel) ⟨rfl, ⟨_, _, ?_, .inl ⟨rfl, rfl⟩, _, rfl⟩, rfl⟩ _
      simp
    · refine opC_new (w := w) (W := (w).alloc chan0) rfl (by rfl) (fun d => (run_chan (V := V) rfl 77 _ _ d).1) (fun d => (run_chan rfl 77 _ _ d).2) (fun d => ⟨trivial, ?_⟩)
      walk_nrm
      refine anyCH_all (rs := [0]) (by first | kernel_rfl | decide +kernel) (by simp) (fun i hi => ?_)
      obtain rfl : i = 0 := by simpa using hi
      refine opC_new (w := w.alloc chan0) (W := (w.alloc chan0).alloc chan0) rfl (by rfl) (fun d => (run_chan (V := V) rfl 77 _ _ d).1) (fun d => (run_chan rfl 77 _ _ d).2) (fun d => ⟨trivial, ?_⟩)
      walk_nrm
      simp only [hs1]
      refine anyCH_all (rs := [2]) (by first | kernel_rfl | decide +kernel) (by simp) (fun i hi => ?_)
      obtain rfl : i = 2 := by simpa using hi
      refine opC_new (w := (w.alloc chan0).alloc chan0) (W := (w.alloc chan0).alloc chan0) (x := .agg #[.chan (some (w.heap.size + 1)), .chan (some w.heap.size), .bool false, .bool false]) rfl (by rfl) (fun d => run_eq_of (fun K hK => by go_simp; exact hK)) (fun d => DR.quiet (fun e he => by have hm := mem_listed he; simp [go_sem, *] at hm)) (fun d => ⟨trivial, ?_⟩)
      walk_nrm
      refine anyCH_all (rs := [3]) (by first | kernel_rfl | decide +kernel) (by simp) (fun i hi => ?_)
      obtain rfl : i = 3 := by simpa using hi
      refine opC_new (w := (w.alloc chan0).alloc chan0) (W := standW w (w.heap.size + 1) w.heap.size) (x := .pointer (some ⟨w.heap.size + 2, 0, none⟩)) rfl (by rfl) (fun d => run_eq_of (fun K hK => by go_simp; exact hK)) (fun d => DR.alloc' d _ (fun e he => by have hm := mem_listed he; simp [go_sem, *] at hm)) (fun d => ⟨trivial, ?_⟩)
      walk_nrm
      refine anyCH_all (rs := [4]) (by first | kernel_rfl | decide +kernel) (by simp) (fun i hi => ?_)
      obtain rfl : i = 4 := by simpa using hi
      refine opC_new (w := standW w (w.heap.size + 1) w.heap.size) (W := standW w (w.heap.size + 1) w.heap.size) (x := .pointer (some ⟨w.heap.size + 2, 0, none⟩)) rfl (by rfl) (fun d => run_eq_of (fun K hK => by go_simp; exact hK)) (fun d => DR.quiet (fun e he => by have hm := mem_listed he; simp [go_sem, *] at hm)) (fun d => ⟨trivial, ?_⟩)
      walk_nrm
      refine anyCH_done (by first | kernel_rfl | decide +kernel) ⟨rfl, ⟨_, _, ?_, .inr ⟨rfl, rfl⟩, _, rfl⟩, rfl⟩ _
      simp
  · rintro a' w' ⟨⟨t, r, h, ht, d, rfl⟩, hd⟩
    repeat (first | (refine Walk.c rfl ?_) | (refine Walk.cReg ?_; simp only [List.size_toArray, List.length_cons, List.length_nil, Nat.reduceAdd, Nat.zero_add, List.range, List.range.loop]) | (refine Walk.cRet ?_) | (refine Walk.cEnd ?_) | (refine Walk.opq (ho_of (by conv => lhs; whnf) (by kernel_rfl)) (by rfl) (by decide) (fun dd e he => ?_) (fun dd K hK => ?_); (· (simp [go_sem, *] at he; try (subst he; exact evR_read _ _))); go_simp; refine hK _ ?_; clear hK K; try walk_nrm) | (refine Walk.ctl rfl (fun w => stepG_unwanted (ho_of (by conv => lhs; whnf) (by kernel_rfl)) (by rfl)) ?_; walk_nrm))
    exact Walk.ret1 rfl hd Try.func77 rfl fun d' => ⟨t, r, h, ht, d', rfl⟩
end Go.Proofs.Ytgiiicdpbdfemaa
end

/- Package turn's newTurnstile, in company: its drawn region, a theorem for each set of operations that have come up (made by tools/gen20.py). -/
section
namespace Go.Proofs.Ytgiiicdpbdfemaa
open Go.Conc Go.RowKit Go.Relay

variable {main : Bool} {V : Nat → Option Wait}

noncomputable def body53 : Code := match Try.f53.body with | some (.seq _ (.seq _ (.seq (.seq _ (.block _ (.loop c))) _))) => c | _ => .skip
noncomputable def ops53 : Array Oper := match body53 with | .seq _ (.seq _ (.seq (.block _ (.region _ ops _)) _)) => ops | _ => #[]
noncomputable def nt53 (B j n : Nat) (thr mo cl ag : Value) (u : Nat → Value) : Array Value := #[thr, mo, undef, undef, .pointer none, .pointer (some ⟨B, 0, none⟩), thr, .int .i64 n, mo, cl, ag, .pointer (some ⟨B, 0, none⟩), thr, .int .i64 n, .int .i64 j, .bool true, u 16, u 17, u 18, u 19, u 20, u 21, u 22, u 23, u 24, u 25, u 26, u 27]
/-- The channels of a new stand. -/
def TR (w : World) (t r : Nat) : Prop := (t = w.heap.size ∧ r = w.heap.size + 1) ∨ (t = w.heap.size + 1 ∧ r = w.heap.size)
/-- The turnstile while it gets its stands. -/
structure NT (V : Nat → Option Wait) (B : Nat) (oa : Option Addr) (on oc n0 : Nat) (xs : List Value) (w : World) : Prop where
  h0 : w.cell? ⟨B, 0, none⟩ = some (.slice oa on oc)
  hz : w.frozen? ⟨B, 0, none⟩ = false
  hf : Free V ⟨B, 0, none⟩
  own : w.ownsRow n0 161 1 (.slice oa on oc) on xs
  hn0 : n0 ≤ w.heap.size
  hon : on ≤ 64
  hap : ∀ g, (Value.slice oa on oc).ownBlock = some g → Apart V g ∧ g ≠ B
noncomputable def newW (w : World) (t r : Nat) : World := (standW w t r).alloc (.cells #[.pointer (some ⟨w.heap.size + 2, 0, none⟩)] 161)
structure NT7 (B : Nat) (oa : Option Addr) (on oc n0 : Nat) (xs : List Value) (w : World) (t r g cap : Nat) (w' : World) : Prop where
  own : w'.ownsRow n0 161 1 (.slice (some ⟨g, 0, none⟩) (on + 1) cap) (on + 1) (xs ++ [.pointer (some ⟨w.heap.size + 2, 0, none⟩)])
  grown : (newW w t r).grownBy w' (Value.slice oa on oc).ownBlock
  hat : (Value.slice oa on oc).ownBlock = some g ∨ g = (newW w t r).heap.size
  hlt : g < w'.heap.size
  h0 : w'.cell? ⟨B, 0, none⟩ = some (.slice oa on oc)
  hz : w'.frozen? ⟨B, 0, none⟩ = false

section
variable {B : Nat} {oa : Option Addr} {on oc n0 : Nat} {xs : List Value} {w : World}
theorem NT.stand (H : NT V B oa on oc n0 xs w) (t r : Nat) : (standW w t r).cell? ⟨B, 0, none⟩ = some (.slice oa on oc) ∧ (standW w t r).frozen? ⟨B, 0, none⟩ = false :=
  ⟨cell_alloc _ _ (cell_alloc _ _ (cell_alloc _ _ H.h0)), frozen_alloc _ _ (cell_alloc _ _ (cell_alloc _ _ H.h0)) (frozen_alloc _ _ (cell_alloc _ _ H.h0) (frozen_alloc _ _ H.h0 H.hz))⟩
theorem NT.new (H : NT V B oa on oc n0 xs w) (t r : Nat) : (newW w t r).cell? ⟨B, 0, none⟩ = some (.slice oa on oc) ∧ (newW w t r).frozen? ⟨B, 0, none⟩ = false :=
  ⟨cell_alloc _ _ (H.stand t r).1, frozen_alloc _ _ (H.stand t r).1 (H.stand t r).2⟩
theorem newW_size (w : World) (t r : Nat) : (newW w t r).heap.size = w.heap.size + 4 := by simp [newW, standW]
theorem standW_size (w : World) (t r : Nat) : (standW w t r).heap.size = w.heap.size + 3 := by simp [standW]
theorem newW_new (w : World) (t r : Nat) : (newW w t r).cell? ((⟨w.heap.size + 3, 0, none⟩ : Addr).add 0) = some (.pointer (some ⟨w.heap.size + 2, 0, none⟩)) := by
  have h := World.cell?_alloc_at (w := standW w t r) #[.pointer (some ⟨w.heap.size + 2, 0, none⟩)] 161 (w.heap.size + 3) 0 (standW_size w t r).symm
  simpa [Addr.add, newW] using h
theorem stand_new' (f : Operand → Value) (w : World) : CallW Try.prog main V 77 (Array.map f #[]) w (fun v w' => ∃ t r, v = .pointer (some ⟨w.heap.size + 2, 0, none⟩) ∧ TR w t r ∧ ∃ d, w' = (standW w t r).at d) := by
  rw [Array.map_empty]; exact stand_new w
theorem NT.owned (H : NT V B oa on oc n0 xs w) (t r : Nat) : (newW w t r).ownsRow n0 161 1 (.slice oa on oc) on xs :=
  (((H.own.alloc _).alloc _).alloc _).alloc _
end

variable {Stop : Goroutine → World → Prop} {k : List Item} {cs : List Frame}

set_option maxHeartbeats 8000000 in
set_option maxRecDepth 100000 in
theorem nt_0_1_2_3_4_5_6_7_8_9_10 (B j n : Nat) (thr mo cl ag : Value) (oa : Option Addr) (on oc n0 : Nat) (xs : List Value) (u : Nat → Value) (w : World) (H : NT V B oa on oc n0 xs w) (t r : Nat) (ht : TR w t r) (g cap : Nat) (w' : World) (h7 : NT7 B oa on oc n0 xs w t r g cap w') (d : Nat) :
    AnyW Try.prog main V Stop (base 53) k cs ops53 .any (fun a' w'' => ∃ t r g cap w' u', TR w t r ∧ NT7 B oa on oc n0 xs w t r g cap w' ∧ a' = ⟨nt53 B j n thr mo cl ag u', []⟩ ∧ ∃ d, w'' = (w'.setCell ⟨B, 0, none⟩ (.slice (some ⟨g, 0, none⟩) (on + 1) cap)).at d) 0 #[true, true, true, true, true, true, true, true, true, true, true] ⟨#[thr, mo, undef, undef, .pointer none, .pointer (some ⟨B, 0, none⟩), thr, .int .i64 n, mo, cl, ag, .pointer (some ⟨B, 0, none⟩), thr, .int .i64 n, .int .i64 j, .bool true, .pointer (some ⟨B, 0, none⟩), .pointer (some ⟨B, 0, none⟩), .pointer (some ⟨B, 0, none⟩), .pointer (some ⟨B, 0, none⟩), .slice oa on oc, .pointer (some ⟨w.heap.size + 2, 0, none⟩), .slice (some ⟨w.heap.size + 3, 0, none⟩) 1 1, .slice (some ⟨g, 0, none⟩) (on + 1) cap, .pointer (some ⟨B, 0, none⟩), .pointer (some ⟨B, 0, none⟩), u 26, u 27], []⟩ ((w'.setCell ⟨B, 0, none⟩ (.slice (some ⟨g, 0, none⟩) (on + 1) cap)).at d) := by
  have _ := H
  refine anyW_done (by first | kernel_rfl | decide +kernel) ⟨t, r, g, cap, w', fun x => ([u 0, u 1, u 2, u 3, u 4, u 5, u 6, u 7, u 8, u 9, u 10, u 11, u 12, u 13, u 14, u 15, .pointer (some ⟨B, 0, none⟩), .pointer (some ⟨B, 0, none⟩), .pointer (some ⟨B, 0, none⟩), .pointer (some ⟨B, 0, none⟩), .slice oa on oc, .pointer (some ⟨w.heap.size + 2, 0, none⟩), .slice (some ⟨w.heap.size + 3, 0, none⟩) 1 1, .slice (some ⟨g, 0, none⟩) (on + 1) cap, .pointer (some ⟨B, 0, none⟩), .pointer (some ⟨B, 0, none⟩), u 26, u 27] : List Value).getD x undef, ht, h7, ?_, d, rfl⟩ _
  rfl

set_option maxHeartbeats 8000000 in
set_option maxRecDepth 100000 in
theorem nt_0_1_2_3_4_5_6_7_8_9 (B j n : Nat) (thr mo cl ag : Value) (oa : Option Addr) (on oc n0 : Nat) (xs : List Value) (u : Nat → Value) (w : World) (H : NT V B oa on oc n0 xs w) (t r : Nat) (ht : TR w t r) (g cap : Nat) (w' : World) (h7 : NT7 B oa on oc n0 xs w t r g cap w') (d : Nat) :
    AnyW Try.prog main V Stop (base 53) k cs ops53 .any (fun a' w'' => ∃ t r g cap w' u', TR w t r ∧ NT7 B oa on oc n0 xs w t r g cap w' ∧ a' = ⟨nt53 B j n thr mo cl ag u', []⟩ ∧ ∃ d, w'' = (w'.setCell ⟨B, 0, none⟩ (.slice (some ⟨g, 0, none⟩) (on + 1) cap)).at d) 1 #[true, true, true, true, true, true, true, true, true, true, false] ⟨#[thr, mo, undef, undef, .pointer none, .pointer (some ⟨B, 0, none⟩), thr, .int .i64 n, mo, cl, ag, .pointer (some ⟨B, 0, none⟩), thr, .int .i64 n, .int .i64 j, .bool true, .pointer (some ⟨B, 0, none⟩), .pointer (some ⟨B, 0, none⟩), .pointer (some ⟨B, 0, none⟩), .pointer (some ⟨B, 0, none⟩), .slice oa on oc, .pointer (some ⟨w.heap.size + 2, 0, none⟩), .slice (some ⟨w.heap.size + 3, 0, none⟩) 1 1, .slice (some ⟨g, 0, none⟩) (on + 1) cap, .pointer (some ⟨B, 0, none⟩), .pointer (some ⟨B, 0, none⟩), u 26, u 27], []⟩ ((w').at d) := by
  refine anyW_all (rs := [10]) (by first | kernel_rfl | decide +kernel) (by simp) (fun i hi => ?_)
  obtain rfl : i = 10 := by simpa using hi
  · intro rest hr
    refine Walk.back ?_ d
    simp only [ops53, body53, Try.f53] at hr ⊢
    have hcf := H.hf
    have hc := h7.h0
    have hcz := h7.hz
    (co_applyP Walk.opw (ho_of (by conv => lhs; whnf) (by kernel_rfl)) (by rfl) (by decide) ?wev11 ?wdr11 ?wrun11; (case' wrun11 => (intro dd K hK; go_simp; simp only [alloc_at', setCell_at']; refine hK _ ?wmore11; clear hK K)); (case wdr11 => exact fun dd es hes => DR.set' hcf hc dd es hes); (case wev11 => (intro dd e he; simp [go_sem, storedEv, ev_store_bool, ev_store_int, ev_store_slice, ev_store_pointer, *] at he; subst he; exact evR_write _ _ hcf)); try walk_nrm)
    exact hr _ _ (nt_0_1_2_3_4_5_6_7_8_9_10 B j n thr mo cl ag oa on oc n0 xs u w H t r ht g cap w' h7 (w'.setCell ⟨B, 0, none⟩ (.slice (some ⟨g, 0, none⟩) (on + 1) cap)).drawn)

set_option maxHeartbeats 8000000 in
set_option maxRecDepth 100000 in
theorem nt_0_1_2_3_4_5_6_7_8 (B j n : Nat) (thr mo cl ag : Value) (oa : Option Addr) (on oc n0 : Nat) (xs : List Value) (u : Nat → Value) (w : World) (H : NT V B oa on oc n0 xs w) (t r : Nat) (ht : TR w t r) (g cap : Nat) (w' : World) (h7 : NT7 B oa on oc n0 xs w t r g cap w') (d : Nat) :
    AnyW Try.prog main V Stop (base 53) k cs ops53 .any (fun a' w'' => ∃ t r g cap w' u', TR w t r ∧ NT7 B oa on oc n0 xs w t r g cap w' ∧ a' = ⟨nt53 B j n thr mo cl ag u', []⟩ ∧ ∃ d, w'' = (w'.setCell ⟨B, 0, none⟩ (.slice (some ⟨g, 0, none⟩) (on + 1) cap)).at d) 2 #[true, true, true, true, true, true, true, true, true, false, false] ⟨#[thr, mo, undef, undef, .pointer none, .pointer (some ⟨B, 0, none⟩), thr, .int .i64 n, mo, cl, ag, .pointer (some ⟨B, 0, none⟩), thr, .int .i64 n, .int .i64 j, .bool true, .pointer (some ⟨B, 0, none⟩), .pointer (some ⟨B, 0, none⟩), .pointer (some ⟨B, 0, none⟩), .pointer (some ⟨B, 0, none⟩), .slice oa on oc, .pointer (some ⟨w.heap.size + 2, 0, none⟩), .slice (some ⟨w.heap.size + 3, 0, none⟩) 1 1, .slice (some ⟨g, 0, none⟩) (on + 1) cap, .pointer (some ⟨B, 0, none⟩), u 25, u 26, u 27], []⟩ ((w').at d) := by
  refine anyW_all (rs := [9]) (by first | kernel_rfl | decide +kernel) (by simp) (fun i hi => ?_)
  obtain rfl : i = 9 := by simpa using hi
  · intro rest hr
    refine Walk.back ?_ d
    simp only [ops53, body53, Try.f53] at hr ⊢
    (refine Walk.opq (ho_of (by conv => lhs; whnf) (by kernel_rfl)) (by rfl) (by decide) (fun dd e he => ?_) (fun dd K hK => ?_); (· (simp [go_sem, *] at he; try (subst he; exact evR_read _ _))); go_simp; refine hK _ ?_; clear hK K; try walk_nrm)
    exact hr _ _ (nt_0_1_2_3_4_5_6_7_8_9 B j n thr mo cl ag oa on oc n0 xs u w H t r ht g cap w' h7 (w').drawn)

set_option maxHeartbeats 8000000 in
set_option maxRecDepth 100000 in
theorem nt_0_1_2_3_4_5_6_7 (B j n : Nat) (thr mo cl ag : Value) (oa : Option Addr) (on oc n0 : Nat) (xs : List Value) (u : Nat → Value) (w : World) (H : NT V B oa on oc n0 xs w) (t r : Nat) (ht : TR w t r) (g cap : Nat) (w' : World) (h7 : NT7 B oa on oc n0 xs w t r g cap w') (d : Nat) :
    AnyW Try.prog main V Stop (base 53) k cs ops53 .any (fun a' w'' => ∃ t r g cap w' u', TR w t r ∧ NT7 B oa on oc n0 xs w t r g cap w' ∧ a' = ⟨nt53 B j n thr mo cl ag u', []⟩ ∧ ∃ d, w'' = (w'.setCell ⟨B, 0, none⟩ (.slice (some ⟨g, 0, none⟩) (on + 1) cap)).at d) 3 #[true, true, true, true, true, true, true, true, false, false, false] ⟨#[thr, mo, undef, undef, .pointer none, .pointer (some ⟨B, 0, none⟩), thr, .int .i64 n, mo, cl, ag, .pointer (some ⟨B, 0, none⟩), thr, .int .i64 n, .int .i64 j, .bool true, .pointer (some ⟨B, 0, none⟩), .pointer (some ⟨B, 0, none⟩), .pointer (some ⟨B, 0, none⟩), .pointer (some ⟨B, 0, none⟩), .slice oa on oc, .pointer (some ⟨w.heap.size + 2, 0, none⟩), .slice (some ⟨w.heap.size + 3, 0, none⟩) 1 1, .slice (some ⟨g, 0, none⟩) (on + 1) cap, u 24, u 25, u 26, u 27], []⟩ ((w').at d) := by
  refine anyW_all (rs := [8]) (by first | kernel_rfl | decide +kernel) (by simp) (fun i hi => ?_)
  obtain rfl : i = 8 := by simpa using hi
  · intro rest hr
    refine Walk.back ?_ d
    simp only [ops53, body53, Try.f53] at hr ⊢
    (refine Walk.opq (ho_of (by conv => lhs; whnf) (by kernel_rfl)) (by rfl) (by decide) (fun dd e he => ?_) (fun dd K hK => ?_); (· (simp [go_sem, *] at he; try (subst he; exact evR_read _ _))); go_simp; refine hK _ ?_; clear hK K; try walk_nrm)
    exact hr _ _ (nt_0_1_2_3_4_5_6_7_8 B j n thr mo cl ag oa on oc n0 xs u w H t r ht g cap w' h7 (w').drawn)

set_option maxHeartbeats 8000000 in
set_option maxRecDepth 100000 in
theorem nt_0_1_2_3_4_5_6 (B j n : Nat) (thr mo cl ag : Value) (oa : Option Addr) (on oc n0 : Nat) (xs : List Value) (u : Nat → Value) (w : World) (H : NT V B oa on oc n0 xs w) (t r : Nat) (ht : TR w t r) (d : Nat) :
    AnyW Try.prog main V Stop (base 53) k cs ops53 .any (fun a' w'' => ∃ t r g cap w' u', TR w t r ∧ NT7 B oa on oc n0 xs w t r g cap w' ∧ a' = ⟨nt53 B j n thr mo cl ag u', []⟩ ∧ ∃ d, w'' = (w'.setCell ⟨B, 0, none⟩ (.slice (some ⟨g, 0, none⟩) (on + 1) cap)).at d) 4 #[true, true, true, true, true, true, true, false, false, false, false] ⟨#[thr, mo, undef, undef, .pointer none, .pointer (some ⟨B, 0, none⟩), thr, .int .i64 n, mo, cl, ag, .pointer (some ⟨B, 0, none⟩), thr, .int .i64 n, .int .i64 j, .bool true, .pointer (some ⟨B, 0, none⟩), .pointer (some ⟨B, 0, none⟩), .pointer (some ⟨B, 0, none⟩), .pointer (some ⟨B, 0, none⟩), .slice oa on oc, .pointer (some ⟨w.heap.size + 2, 0, none⟩), .slice (some ⟨w.heap.size + 3, 0, none⟩) 1 1, u 23, u 24, u 25, u 26, u 27], []⟩ ((newW w t r).at d) := by
  refine anyW_all (rs := [7]) (by first | kernel_rfl | decide +kernel) (by simp) (fun i hi => ?_)
  obtain rfl : i = 7 := by simpa using hi
  · intro rest hr
    refine Walk.back ?_ d
    simp only [ops53, body53, Try.f53] at hr ⊢
    have hi161 := Option.some_get (show (Try.prog.info? 161).isSome = true by kernel_rfl)
    refine Walk.append (.tmp 20) (.tmp 22) 121 rfl (by rfl) (by decide) rfl n0 161 _ (.pointer none) 1 8 (by kernel_rfl) hi161.symm (by rfl) (by rfl) (by rfl) (by rfl) (by decide) (.slice oa on oc) on xs rfl (H.owned t r) ⟨w.heap.size + 3, 0, none⟩ 1 1 [.pointer (some ⟨w.heap.size + 2, 0, none⟩)] rfl (by rfl) (fun y v hv => ?_) (by simp [Value.oneCell']) (by decide) (by have := H.hon; simp [maxLen]; omega) (by have := H.hon; omega) (by have := H.hn0; rw [newW_size]; omega) (fun g hg => (H.hap g hg).1) (fun g cap w' hown hg hat hlt => ?_)
    · obtain rfl : y = 0 := by rcases y with _ | y <;> simp at hv ⊢
      simp at hv; subst hv; exact newW_new w t r
    have hB : some B ≠ (Value.slice oa on oc).ownBlock := fun e => (H.hap B e.symm).2 rfl
    have hn := H.new t r
    exact hr _ _ (nt_0_1_2_3_4_5_6_7 B j n thr mo cl ag oa on oc n0 xs u w H t r ht g cap w' ⟨hown, hg, hat, hlt, (hg.cell_far _ (cell_lt _ hn.1) hB).trans hn.1, (hg.frozen_far _ (cell_lt _ hn.1) hB).trans hn.2⟩ w'.drawn)

set_option maxHeartbeats 8000000 in
set_option maxRecDepth 100000 in
theorem nt_1_2_3_4_5_6_7 (B j n : Nat) (thr mo cl ag : Value) (oa : Option Addr) (on oc n0 : Nat) (xs : List Value) (u : Nat → Value) (w : World) (H : NT V B oa on oc n0 xs w) (t r : Nat) (ht : TR w t r) (g cap : Nat) (w' : World) (h7 : NT7 B oa on oc n0 xs w t r g cap w') (d : Nat) :
    AnyW Try.prog main V Stop (base 53) k cs ops53 .any (fun a' w'' => ∃ t r g cap w' u', TR w t r ∧ NT7 B oa on oc n0 xs w t r g cap w' ∧ a' = ⟨nt53 B j n thr mo cl ag u', []⟩ ∧ ∃ d, w'' = (w'.setCell ⟨B, 0, none⟩ (.slice (some ⟨g, 0, none⟩) (on + 1) cap)).at d) 4 #[false, true, true, true, true, true, true, true, false, false, false] ⟨#[thr, mo, undef, undef, .pointer none, .pointer (some ⟨B, 0, none⟩), thr, .int .i64 n, mo, cl, ag, .pointer (some ⟨B, 0, none⟩), thr, .int .i64 n, .int .i64 j, .bool true, u 16, .pointer (some ⟨B, 0, none⟩), .pointer (some ⟨B, 0, none⟩), .pointer (some ⟨B, 0, none⟩), .slice oa on oc, .pointer (some ⟨w.heap.size + 2, 0, none⟩), .slice (some ⟨w.heap.size + 3, 0, none⟩) 1 1, .slice (some ⟨g, 0, none⟩) (on + 1) cap, u 24, u 25, u 26, u 27], []⟩ ((w').at d) := by
  refine anyW_all (rs := [0]) (by first | kernel_rfl | decide +kernel) (by simp) (fun i hi => ?_)
  obtain rfl : i = 0 := by simpa using hi
  · intro rest hr
    refine Walk.back ?_ d
    simp only [ops53, body53, Try.f53] at hr ⊢
    (refine Walk.opq (ho_of (by conv => lhs; whnf) (by kernel_rfl)) (by rfl) (by decide) (fun dd e he => ?_) (fun dd K hK => ?_); (· (simp [go_sem, *] at he; try (subst he; exact evR_read _ _))); go_simp; refine hK _ ?_; clear hK K; try walk_nrm)
    exact hr _ _ (nt_0_1_2_3_4_5_6_7 B j n thr mo cl ag oa on oc n0 xs u w H t r ht g cap w' h7 (w').drawn)

set_option maxHeartbeats 8000000 in
set_option maxRecDepth 100000 in
theorem nt_0_1_2_3_4_5 (B j n : Nat) (thr mo cl ag : Value) (oa : Option Addr) (on oc n0 : Nat) (xs : List Value) (u : Nat → Value) (w : World) (H : NT V B oa on oc n0 xs w) (t r : Nat) (ht : TR w t r) (d : Nat) :
    AnyW Try.prog main V Stop (base 53) k cs ops53 .any (fun a' w'' => ∃ t r g cap w' u', TR w t r ∧ NT7 B oa on oc n0 xs w t r g cap w' ∧ a' = ⟨nt53 B j n thr mo cl ag u', []⟩ ∧ ∃ d, w'' = (w'.setCell ⟨B, 0, none⟩ (.slice (some ⟨g, 0, none⟩) (on + 1) cap)).at d) 5 #[true, true, true, true, true, true, false, false, false, false, false] ⟨#[thr, mo, undef, undef, .pointer none, .pointer (some ⟨B, 0, none⟩), thr, .int .i64 n, mo, cl, ag, .pointer (some ⟨B, 0, none⟩), thr, .int .i64 n, .int .i64 j, .bool true, .pointer (some ⟨B, 0, none⟩), .pointer (some ⟨B, 0, none⟩), .pointer (some ⟨B, 0, none⟩), .pointer (some ⟨B, 0, none⟩), .slice oa on oc, .pointer (some ⟨w.heap.size + 2, 0, none⟩), u 22, u 23, u 24, u 25, u 26, u 27], []⟩ ((standW w t r).at d) := by
  refine anyW_all (rs := [6]) (by first | kernel_rfl | decide +kernel) (by simp) (fun i hi => ?_)
  obtain rfl : i = 6 := by simpa using hi
  · intro rest hr
    refine Walk.back ?_ d
    simp only [ops53, body53, Try.f53] at hr ⊢
    have hsz := standW_size w t r
    (co_applyP Walk.opw (ho_of (by conv => lhs; whnf) (by kernel_rfl)) (by rfl) (by decide) ?wev1 ?wdr1 ?wrun1; (case' wrun1 => (intro dd K hK; go_simp; simp only [alloc_at', setCell_at']; refine hK _ ?wmore1; clear hK K)); (case wdr1 => exact fun dd es hes => DR.alloc' dd es hes); (case wev1 => (intro dd e he; simp [go_sem, *] at he)); try walk_nrm)
    try simp only [hsz]
    exact hr _ _ (nt_0_1_2_3_4_5_6 B j n thr mo cl ag oa on oc n0 xs u w H t r ht (newW w t r).drawn)

set_option maxHeartbeats 8000000 in
set_option maxRecDepth 100000 in
theorem nt_0_1_2_3_5_6 (B j n : Nat) (thr mo cl ag : Value) (oa : Option Addr) (on oc n0 : Nat) (xs : List Value) (u : Nat → Value) (w : World) (H : NT V B oa on oc n0 xs w) (t r : Nat) (ht : TR w t r) (d : Nat) :
    AnyW Try.prog main V Stop (base 53) k cs ops53 .any (fun a' w'' => ∃ t r g cap w' u', TR w t r ∧ NT7 B oa on oc n0 xs w t r g cap w' ∧ a' = ⟨nt53 B j n thr mo cl ag u', []⟩ ∧ ∃ d, w'' = (w'.setCell ⟨B, 0, none⟩ (.slice (some ⟨g, 0, none⟩) (on + 1) cap)).at d) 5 #[true, true, true, true, false, true, true, false, false, false, false] ⟨#[thr, mo, undef, undef, .pointer none, .pointer (some ⟨B, 0, none⟩), thr, .int .i64 n, mo, cl, ag, .pointer (some ⟨B, 0, none⟩), thr, .int .i64 n, .int .i64 j, .bool true, .pointer (some ⟨B, 0, none⟩), .pointer (some ⟨B, 0, none⟩), .pointer (some ⟨B, 0, none⟩), .pointer (some ⟨B, 0, none⟩), u 20, .pointer (some ⟨w.heap.size + 2, 0, none⟩), .slice (some ⟨w.heap.size + 3, 0, none⟩) 1 1, u 23, u 24, u 25, u 26, u 27], []⟩ ((newW w t r).at d) := by
  refine anyW_all (rs := [4]) (by first | kernel_rfl | decide +kernel) (by simp) (fun i hi => ?_)
  obtain rfl : i = 4 := by simpa using hi
  · intro rest hr
    refine Walk.back ?_ d
    simp only [ops53, body53, Try.f53] at hr ⊢
    have hc := (H.new t r).1
    (refine Walk.opq (ho_of (by conv => lhs; whnf) (by kernel_rfl)) (by rfl) (by decide) (fun dd e he => ?_) (fun dd K hK => ?_); (· (simp [go_sem, *] at he; try (subst he; exact evR_read _ _))); go_simp; refine hK _ ?_; clear hK K; try walk_nrm)
    exact hr _ _ (nt_0_1_2_3_4_5_6 B j n thr mo cl ag oa on oc n0 xs u w H t r ht (newW w t r).drawn)

set_option maxHeartbeats 8000000 in
set_option maxRecDepth 100000 in
theorem nt_1_2_3_4_5_6 (B j n : Nat) (thr mo cl ag : Value) (oa : Option Addr) (on oc n0 : Nat) (xs : List Value) (u : Nat → Value) (w : World) (H : NT V B oa on oc n0 xs w) (t r : Nat) (ht : TR w t r) (d : Nat) :
    AnyW Try.prog main V Stop (base 53) k cs ops53 .any (fun a' w'' => ∃ t r g cap w' u', TR w t r ∧ NT7 B oa on oc n0 xs w t r g cap w' ∧ a' = ⟨nt53 B j n thr mo cl ag u', []⟩ ∧ ∃ d, w'' = (w'.setCell ⟨B, 0, none⟩ (.slice (some ⟨g, 0, none⟩) (on + 1) cap)).at d) 5 #[false, true, true, true, true, true, true, false, false, false, false] ⟨#[thr, mo, undef, undef, .pointer none, .pointer (some ⟨B, 0, none⟩), thr, .int .i64 n, mo, cl, ag, .pointer (some ⟨B, 0, none⟩), thr, .int .i64 n, .int .i64 j, .bool true, u 16, .pointer (some ⟨B, 0, none⟩), .pointer (some ⟨B, 0, none⟩), .pointer (some ⟨B, 0, none⟩), .slice oa on oc, .pointer (some ⟨w.heap.size + 2, 0, none⟩), .slice (some ⟨w.heap.size + 3, 0, none⟩) 1 1, u 23, u 24, u 25, u 26, u 27], []⟩ ((newW w t r).at d) := by
  refine anyW_all (rs := [0, 7]) (by first | kernel_rfl | decide +kernel) (by simp) (fun i hi => ?_)
  obtain rfl | rfl : i = 0 ∨ i = 7 := by simpa using hi
  · intro rest hr
    refine Walk.back ?_ d
    simp only [ops53, body53, Try.f53] at hr ⊢
    (refine Walk.opq (ho_of (by conv => lhs; whnf) (by kernel_rfl)) (by rfl) (by decide) (fun dd e he => ?_) (fun dd K hK => ?_); (· (simp [go_sem, *] at he; try (subst he; exact evR_read _ _))); go_simp; refine hK _ ?_; clear hK K; try walk_nrm)
    exact hr _ _ (nt_0_1_2_3_4_5_6 B j n thr mo cl ag oa on oc n0 xs u w H t r ht (newW w t r).drawn)
  · intro rest hr
    refine Walk.back ?_ d
    simp only [ops53, body53, Try.f53] at hr ⊢
    have hi161 := Option.some_get (show (Try.prog.info? 161).isSome = true by kernel_rfl)
    refine Walk.append (.tmp 20) (.tmp 22) 121 rfl (by rfl) (by decide) rfl n0 161 _ (.pointer none) 1 8 (by kernel_rfl) hi161.symm (by rfl) (by rfl) (by rfl) (by rfl) (by decide) (.slice oa on oc) on xs rfl (H.owned t r) ⟨w.heap.size + 3, 0, none⟩ 1 1 [.pointer (some ⟨w.heap.size + 2, 0, none⟩)] rfl (by rfl) (fun y v hv => ?_) (by simp [Value.oneCell']) (by decide) (by have := H.hon; simp [maxLen]; omega) (by have := H.hon; omega) (by have := H.hn0; rw [newW_size]; omega) (fun g hg => (H.hap g hg).1) (fun g cap w' hown hg hat hlt => ?_)
    · obtain rfl : y = 0 := by rcases y with _ | y <;> simp at hv ⊢
      simp at hv; subst hv; exact newW_new w t r
    have hB : some B ≠ (Value.slice oa on oc).ownBlock := fun e => (H.hap B e.symm).2 rfl
    have hn := H.new t r
    exact hr _ _ (nt_1_2_3_4_5_6_7 B j n thr mo cl ag oa on oc n0 xs u w H t r ht g cap w' ⟨hown, hg, hat, hlt, (hg.cell_far _ (cell_lt _ hn.1) hB).trans hn.1, (hg.frozen_far _ (cell_lt _ hn.1) hB).trans hn.2⟩ w'.drawn)

set_option maxHeartbeats 8000000 in
set_option maxRecDepth 100000 in
theorem nt_0_1_2_3_4 (B j n : Nat) (thr mo cl ag : Value) (oa : Option Addr) (on oc n0 : Nat) (xs : List Value) (u : Nat → Value) (w : World) (H : NT V B oa on oc n0 xs w) (d : Nat) :
    AnyW Try.prog main V Stop (base 53) k cs ops53 .any (fun a' w'' => ∃ t r g cap w' u', TR w t r ∧ NT7 B oa on oc n0 xs w t r g cap w' ∧ a' = ⟨nt53 B j n thr mo cl ag u', []⟩ ∧ ∃ d, w'' = (w'.setCell ⟨B, 0, none⟩ (.slice (some ⟨g, 0, none⟩) (on + 1) cap)).at d) 6 #[true, true, true, true, true, false, false, false, false, false, false] ⟨#[thr, mo, undef, undef, .pointer none, .pointer (some ⟨B, 0, none⟩), thr, .int .i64 n, mo, cl, ag, .pointer (some ⟨B, 0, none⟩), thr, .int .i64 n, .int .i64 j, .bool true, .pointer (some ⟨B, 0, none⟩), .pointer (some ⟨B, 0, none⟩), .pointer (some ⟨B, 0, none⟩), .pointer (some ⟨B, 0, none⟩), .slice oa on oc, u 21, u 22, u 23, u 24, u 25, u 26, u 27], []⟩ ((w).at d) := by
  refine anyW_all (rs := [5]) (by first | kernel_rfl | decide +kernel) (by simp) (fun i hi => ?_)
  obtain rfl : i = 5 := by simpa using hi
  · intro rest hr
    refine Walk.back ?_ d
    simp only [ops53, body53, Try.f53] at hr ⊢
    refine Walk.callW (stand_new' _ w) rfl (by rfl) (by decide) rfl Try.func77 (by kernel_rfl) (by rfl) ?_
    rintro v w₁ ⟨t, r, rfl, ht, d₁, rfl⟩
    walk_nrm
    exact hr _ _ (nt_0_1_2_3_4_5 B j n thr mo cl ag oa on oc n0 xs u w H t r ht d₁)

set_option maxHeartbeats 8000000 in
set_option maxRecDepth 100000 in
theorem nt_0_1_2_3_5 (B j n : Nat) (thr mo cl ag : Value) (oa : Option Addr) (on oc n0 : Nat) (xs : List Value) (u : Nat → Value) (w : World) (H : NT V B oa on oc n0 xs w) (t r : Nat) (ht : TR w t r) (d : Nat) :
    AnyW Try.prog main V Stop (base 53) k cs ops53 .any (fun a' w'' => ∃ t r g cap w' u', TR w t r ∧ NT7 B oa on oc n0 xs w t r g cap w' ∧ a' = ⟨nt53 B j n thr mo cl ag u', []⟩ ∧ ∃ d, w'' = (w'.setCell ⟨B, 0, none⟩ (.slice (some ⟨g, 0, none⟩) (on + 1) cap)).at d) 6 #[true, true, true, true, false, true, false, false, false, false, false] ⟨#[thr, mo, undef, undef, .pointer none, .pointer (some ⟨B, 0, none⟩), thr, .int .i64 n, mo, cl, ag, .pointer (some ⟨B, 0, none⟩), thr, .int .i64 n, .int .i64 j, .bool true, .pointer (some ⟨B, 0, none⟩), .pointer (some ⟨B, 0, none⟩), .pointer (some ⟨B, 0, none⟩), .pointer (some ⟨B, 0, none⟩), u 20, .pointer (some ⟨w.heap.size + 2, 0, none⟩), u 22, u 23, u 24, u 25, u 26, u 27], []⟩ ((standW w t r).at d) := by
  refine anyW_all (rs := [4, 6]) (by first | kernel_rfl | decide +kernel) (by simp) (fun i hi => ?_)
  obtain rfl | rfl : i = 4 ∨ i = 6 := by simpa using hi
  · intro rest hr
    refine Walk.back ?_ d
    simp only [ops53, body53, Try.f53] at hr ⊢
    have hc := (H.stand t r).1
    (refine Walk.opq (ho_of (by conv => lhs; whnf) (by kernel_rfl)) (by rfl) (by decide) (fun dd e he => ?_) (fun dd K hK => ?_); (· (simp [go_sem, *] at he; try (subst he; exact evR_read _ _))); go_simp; refine hK _ ?_; clear hK K; try walk_nrm)
    exact hr _ _ (nt_0_1_2_3_4_5 B j n thr mo cl ag oa on oc n0 xs u w H t r ht (standW w t r).drawn)
  · intro rest hr
    refine Walk.back ?_ d
    simp only [ops53, body53, Try.f53] at hr ⊢
    have hsz := standW_size w t r
    (co_applyP Walk.opw (ho_of (by conv => lhs; whnf) (by kernel_rfl)) (by rfl) (by decide) ?wev2 ?wdr2 ?wrun2; (case' wrun2 => (intro dd K hK; go_simp; simp only [alloc_at', setCell_at']; refine hK _ ?wmore2; clear hK K)); (case wdr2 => exact fun dd es hes => DR.alloc' dd es hes); (case wev2 => (intro dd e he; simp [go_sem, *] at he)); try walk_nrm)
    try simp only [hsz]
    exact hr _ _ (nt_0_1_2_3_5_6 B j n thr mo cl ag oa on oc n0 xs u w H t r ht (newW w t r).drawn)

set_option maxHeartbeats 8000000 in
set_option maxRecDepth 100000 in
theorem nt_0_1_2_5_6 (B j n : Nat) (thr mo cl ag : Value) (oa : Option Addr) (on oc n0 : Nat) (xs : List Value) (u : Nat → Value) (w : World) (H : NT V B oa on oc n0 xs w) (t r : Nat) (ht : TR w t r) (d : Nat) :
    AnyW Try.prog main V Stop (base 53) k cs ops53 .any (fun a' w'' => ∃ t r g cap w' u', TR w t r ∧ NT7 B oa on oc n0 xs w t r g cap w' ∧ a' = ⟨nt53 B j n thr mo cl ag u', []⟩ ∧ ∃ d, w'' = (w'.setCell ⟨B, 0, none⟩ (.slice (some ⟨g, 0, none⟩) (on + 1) cap)).at d) 6 #[true, true, true, false, false, true, true, false, false, false, false] ⟨#[thr, mo, undef, undef, .pointer none, .pointer (some ⟨B, 0, none⟩), thr, .int .i64 n, mo, cl, ag, .pointer (some ⟨B, 0, none⟩), thr, .int .i64 n, .int .i64 j, .bool true, .pointer (some ⟨B, 0, none⟩), .pointer (some ⟨B, 0, none⟩), .pointer (some ⟨B, 0, none⟩), u 19, u 20, .pointer (some ⟨w.heap.size + 2, 0, none⟩), .slice (some ⟨w.heap.size + 3, 0, none⟩) 1 1, u 23, u 24, u 25, u 26, u 27], []⟩ ((newW w t r).at d) := by
  refine anyW_all (rs := [3]) (by first | kernel_rfl | decide +kernel) (by simp) (fun i hi => ?_)
  obtain rfl : i = 3 := by simpa using hi
  · intro rest hr
    refine Walk.back ?_ d
    simp only [ops53, body53, Try.f53] at hr ⊢
    (refine Walk.opq (ho_of (by conv => lhs; whnf) (by kernel_rfl)) (by rfl) (by decide) (fun dd e he => ?_) (fun dd K hK => ?_); (· (simp [go_sem, *] at he; try (subst he; exact evR_read _ _))); go_simp; refine hK _ ?_; clear hK K; try walk_nrm)
    exact hr _ _ (nt_0_1_2_3_5_6 B j n thr mo cl ag oa on oc n0 xs u w H t r ht (newW w t r).drawn)

set_option maxHeartbeats 8000000 in
set_option maxRecDepth 100000 in
theorem nt_1_2_3_4_5 (B j n : Nat) (thr mo cl ag : Value) (oa : Option Addr) (on oc n0 : Nat) (xs : List Value) (u : Nat → Value) (w : World) (H : NT V B oa on oc n0 xs w) (t r : Nat) (ht : TR w t r) (d : Nat) :
    AnyW Try.prog main V Stop (base 53) k cs ops53 .any (fun a' w'' => ∃ t r g cap w' u', TR w t r ∧ NT7 B oa on oc n0 xs w t r g cap w' ∧ a' = ⟨nt53 B j n thr mo cl ag u', []⟩ ∧ ∃ d, w'' = (w'.setCell ⟨B, 0, none⟩ (.slice (some ⟨g, 0, none⟩) (on + 1) cap)).at d) 6 #[false, true, true, true, true, true, false, false, false, false, false] ⟨#[thr, mo, undef, undef, .pointer none, .pointer (some ⟨B, 0, none⟩), thr, .int .i64 n, mo, cl, ag, .pointer (some ⟨B, 0, none⟩), thr, .int .i64 n, .int .i64 j, .bool true, u 16, .pointer (some ⟨B, 0, none⟩), .pointer (some ⟨B, 0, none⟩), .pointer (some ⟨B, 0, none⟩), .slice oa on oc, .pointer (some ⟨w.heap.size + 2, 0, none⟩), u 22, u 23, u 24, u 25, u 26, u 27], []⟩ ((standW w t r).at d) := by
  refine anyW_all (rs := [0, 6]) (by first | kernel_rfl | decide +kernel) (by simp) (fun i hi => ?_)
  obtain rfl | rfl : i = 0 ∨ i = 6 := by simpa using hi
  · intro rest hr
    refine Walk.back ?_ d
    simp only [ops53, body53, Try.f53] at hr ⊢
    (refine Walk.opq (ho_of (by conv => lhs; whnf) (by kernel_rfl)) (by rfl) (by decide) (fun dd e he => ?_) (fun dd K hK => ?_); (· (simp [go_sem, *] at he; try (subst he; exact evR_read _ _))); go_simp; refine hK _ ?_; clear hK K; try walk_nrm)
    exact hr _ _ (nt_0_1_2_3_4_5 B j n thr mo cl ag oa on oc n0 xs u w H t r ht (standW w t r).drawn)
  · intro rest hr
    refine Walk.back ?_ d
    simp only [ops53, body53, Try.f53] at hr ⊢
    have hsz := standW_size w t r
    (co_applyP Walk.opw (ho_of (by conv => lhs; whnf) (by kernel_rfl)) (by rfl) (by decide) ?wev3 ?wdr3 ?wrun3; (case' wrun3 => (intro dd K hK; go_simp; simp only [alloc_at', setCell_at']; refine hK _ ?wmore3; clear hK K)); (case wdr3 => exact fun dd es hes => DR.alloc' dd es hes); (case wev3 => (intro dd e he; simp [go_sem, *] at he)); try walk_nrm)
    try simp only [hsz]
    exact hr _ _ (nt_1_2_3_4_5_6 B j n thr mo cl ag oa on oc n0 xs u w H t r ht (newW w t r).drawn)

set_option maxHeartbeats 8000000 in
set_option maxRecDepth 100000 in
theorem nt_1_2_3_5_6 (B j n : Nat) (thr mo cl ag : Value) (oa : Option Addr) (on oc n0 : Nat) (xs : List Value) (u : Nat → Value) (w : World) (H : NT V B oa on oc n0 xs w) (t r : Nat) (ht : TR w t r) (d : Nat) :
    AnyW Try.prog main V Stop (base 53) k cs ops53 .any (fun a' w'' => ∃ t r g cap w' u', TR w t r ∧ NT7 B oa on oc n0 xs w t r g cap w' ∧ a' = ⟨nt53 B j n thr mo cl ag u', []⟩ ∧ ∃ d, w'' = (w'.setCell ⟨B, 0, none⟩ (.slice (some ⟨g, 0, none⟩) (on + 1) cap)).at d) 6 #[false, true, true, true, false, true, true, false, false, false, false] ⟨#[thr, mo, undef, undef, .pointer none, .pointer (some ⟨B, 0, none⟩), thr, .int .i64 n, mo, cl, ag, .pointer (some ⟨B, 0, none⟩), thr, .int .i64 n, .int .i64 j, .bool true, u 16, .pointer (some ⟨B, 0, none⟩), .pointer (some ⟨B, 0, none⟩), .pointer (some ⟨B, 0, none⟩), u 20, .pointer (some ⟨w.heap.size + 2, 0, none⟩), .slice (some ⟨w.heap.size + 3, 0, none⟩) 1 1, u 23, u 24, u 25, u 26, u 27], []⟩ ((newW w t r).at d) := by
  refine anyW_all (rs := [0, 4]) (by first | kernel_rfl | decide +kernel) (by simp) (fun i hi => ?_)
  obtain rfl | rfl : i = 0 ∨ i = 4 := by simpa using hi
  · intro rest hr
    refine Walk.back ?_ d
    simp only [ops53, body53, Try.f53] at hr ⊢
    (refine Walk.opq (ho_of (by conv => lhs; whnf) (by kernel_rfl)) (by rfl) (by decide) (fun dd e he => ?_) (fun dd K hK => ?_); (· (simp [go_sem, *] at he; try (subst he; exact evR_read _ _))); go_simp; refine hK _ ?_; clear hK K; try walk_nrm)
    exact hr _ _ (nt_0_1_2_3_5_6 B j n thr mo cl ag oa on oc n0 xs u w H t r ht (newW w t r).drawn)
  · intro rest hr
    refine Walk.back ?_ d
    simp only [ops53, body53, Try.f53] at hr ⊢
    have hc := (H.new t r).1
    (refine Walk.opq (ho_of (by conv => lhs; whnf) (by kernel_rfl)) (by rfl) (by decide) (fun dd e he => ?_) (fun dd K hK => ?_); (· (simp [go_sem, *] at he; try (subst he; exact evR_read _ _))); go_simp; refine hK _ ?_; clear hK K; try walk_nrm)
    exact hr _ _ (nt_1_2_3_4_5_6 B j n thr mo cl ag oa on oc n0 xs u w H t r ht (newW w t r).drawn)

set_option maxHeartbeats 8000000 in
set_option maxRecDepth 100000 in
theorem nt_0_1_2_3 (B j n : Nat) (thr mo cl ag : Value) (oa : Option Addr) (on oc n0 : Nat) (xs : List Value) (u : Nat → Value) (w : World) (H : NT V B oa on oc n0 xs w) (d : Nat) :
    AnyW Try.prog main V Stop (base 53) k cs ops53 .any (fun a' w'' => ∃ t r g cap w' u', TR w t r ∧ NT7 B oa on oc n0 xs w t r g cap w' ∧ a' = ⟨nt53 B j n thr mo cl ag u', []⟩ ∧ ∃ d, w'' = (w'.setCell ⟨B, 0, none⟩ (.slice (some ⟨g, 0, none⟩) (on + 1) cap)).at d) 7 #[true, true, true, true, false, false, false, false, false, false, false] ⟨#[thr, mo, undef, undef, .pointer none, .pointer (some ⟨B, 0, none⟩), thr, .int .i64 n, mo, cl, ag, .pointer (some ⟨B, 0, none⟩), thr, .int .i64 n, .int .i64 j, .bool true, .pointer (some ⟨B, 0, none⟩), .pointer (some ⟨B, 0, none⟩), .pointer (some ⟨B, 0, none⟩), .pointer (some ⟨B, 0, none⟩), u 20, u 21, u 22, u 23, u 24, u 25, u 26, u 27], []⟩ ((w).at d) := by
  refine anyW_all (rs := [4, 5]) (by first | kernel_rfl | decide +kernel) (by simp) (fun i hi => ?_)
  obtain rfl | rfl : i = 4 ∨ i = 5 := by simpa using hi
  · intro rest hr
    refine Walk.back ?_ d
    simp only [ops53, body53, Try.f53] at hr ⊢
    have hc := H.h0
    (refine Walk.opq (ho_of (by conv => lhs; whnf) (by kernel_rfl)) (by rfl) (by decide) (fun dd e he => ?_) (fun dd K hK => ?_); (· (simp [go_sem, *] at he; try (subst he; exact evR_read _ _))); go_simp; refine hK _ ?_; clear hK K; try walk_nrm)
    exact hr _ _ (nt_0_1_2_3_4 B j n thr mo cl ag oa on oc n0 xs u w H (w).drawn)
  · intro rest hr
    refine Walk.back ?_ d
    simp only [ops53, body53, Try.f53] at hr ⊢
    refine Walk.callW (stand_new' _ w) rfl (by rfl) (by decide) rfl Try.func77 (by kernel_rfl) (by rfl) ?_
    rintro v w₁ ⟨t, r, rfl, ht, d₁, rfl⟩
    walk_nrm
    exact hr _ _ (nt_0_1_2_3_5 B j n thr mo cl ag oa on oc n0 xs u w H t r ht d₁)

set_option maxHeartbeats 8000000 in
set_option maxRecDepth 100000 in
theorem nt_0_1_2_5 (B j n : Nat) (thr mo cl ag : Value) (oa : Option Addr) (on oc n0 : Nat) (xs : List Value) (u : Nat → Value) (w : World) (H : NT V B oa on oc n0 xs w) (t r : Nat) (ht : TR w t r) (d : Nat) :
    AnyW Try.prog main V Stop (base 53) k cs ops53 .any (fun a' w'' => ∃ t r g cap w' u', TR w t r ∧ NT7 B oa on oc n0 xs w t r g cap w' ∧ a' = ⟨nt53 B j n thr mo cl ag u', []⟩ ∧ ∃ d, w'' = (w'.setCell ⟨B, 0, none⟩ (.slice (some ⟨g, 0, none⟩) (on + 1) cap)).at d) 7 #[true, true, true, false, false, true, false, false, false, false, false] ⟨#[thr, mo, undef, undef, .pointer none, .pointer (some ⟨B, 0, none⟩), thr, .int .i64 n, mo, cl, ag, .pointer (some ⟨B, 0, none⟩), thr, .int .i64 n, .int .i64 j, .bool true, .pointer (some ⟨B, 0, none⟩), .pointer (some ⟨B, 0, none⟩), .pointer (some ⟨B, 0, none⟩), u 19, u 20, .pointer (some ⟨w.heap.size + 2, 0, none⟩), u 22, u 23, u 24, u 25, u 26, u 27], []⟩ ((standW w t r).at d) := by
  refine anyW_all (rs := [3, 6]) (by first | kernel_rfl | decide +kernel) (by simp) (fun i hi => ?_)
  obtain rfl | rfl : i = 3 ∨ i = 6 := by simpa using hi
  · intro rest hr
    refine Walk.back ?_ d
    simp only [ops53, body53, Try.f53] at hr ⊢
    (refine Walk.opq (ho_of (by conv => lhs; whnf) (by kernel_rfl)) (by rfl) (by decide) (fun dd e he => ?_) (fun dd K hK => ?_); (· (simp [go_sem, *] at he; try (subst he; exact evR_read _ _))); go_simp; refine hK _ ?_; clear hK K; try walk_nrm)
    exact hr _ _ (nt_0_1_2_3_5 B j n thr mo cl ag oa on oc n0 xs u w H t r ht (standW w t r).drawn)
  · intro rest hr
    refine Walk.back ?_ d
    simp only [ops53, body53, Try.f53] at hr ⊢
    have hsz := standW_size w t r
    (co_applyP Walk.opw (ho_of (by conv => lhs; whnf) (by kernel_rfl)) (by rfl) (by decide) ?wev4 ?wdr4 ?wrun4; (case' wrun4 => (intro dd K hK; go_simp; simp only [alloc_at', setCell_at']; refine hK _ ?wmore4; clear hK K)); (case wdr4 => exact fun dd es hes => DR.alloc' dd es hes); (case wev4 => (intro dd e he; simp [go_sem, *] at he)); try walk_nrm)
    try simp only [hsz]
    exact hr _ _ (nt_0_1_2_5_6 B j n thr mo cl ag oa on oc n0 xs u w H t r ht (newW w t r).drawn)

set_option maxHeartbeats 8000000 in
set_option maxRecDepth 100000 in
theorem nt_0_1_5_6 (B j n : Nat) (thr mo cl ag : Value) (oa : Option Addr) (on oc n0 : Nat) (xs : List Value) (u : Nat → Value) (w : World) (H : NT V B oa on oc n0 xs w) (t r : Nat) (ht : TR w t r) (d : Nat) :
    AnyW Try.prog main V Stop (base 53) k cs ops53 .any (fun a' w'' => ∃ t r g cap w' u', TR w t r ∧ NT7 B oa on oc n0 xs w t r g cap w' ∧ a' = ⟨nt53 B j n thr mo cl ag u', []⟩ ∧ ∃ d, w'' = (w'.setCell ⟨B, 0, none⟩ (.slice (some ⟨g, 0, none⟩) (on + 1) cap)).at d) 7 #[true, true, false, false, false, true, true, false, false, false, false] ⟨#[thr, mo, undef, undef, .pointer none, .pointer (some ⟨B, 0, none⟩), thr, .int .i64 n, mo, cl, ag, .pointer (some ⟨B, 0, none⟩), thr, .int .i64 n, .int .i64 j, .bool true, .pointer (some ⟨B, 0, none⟩), .pointer (some ⟨B, 0, none⟩), u 18, u 19, u 20, .pointer (some ⟨w.heap.size + 2, 0, none⟩), .slice (some ⟨w.heap.size + 3, 0, none⟩) 1 1, u 23, u 24, u 25, u 26, u 27], []⟩ ((newW w t r).at d) := by
  refine anyW_all (rs := [2]) (by first | kernel_rfl | decide +kernel) (by simp) (fun i hi => ?_)
  obtain rfl : i = 2 := by simpa using hi
  · intro rest hr
    refine Walk.back ?_ d
    simp only [ops53, body53, Try.f53] at hr ⊢
    (refine Walk.opq (ho_of (by conv => lhs; whnf) (by kernel_rfl)) (by rfl) (by decide) (fun dd e he => ?_) (fun dd K hK => ?_); (· (simp [go_sem, *] at he; try (subst he; exact evR_read _ _))); go_simp; refine hK _ ?_; clear hK K; try walk_nrm)
    exact hr _ _ (nt_0_1_2_5_6 B j n thr mo cl ag oa on oc n0 xs u w H t r ht (newW w t r).drawn)

set_option maxHeartbeats 8000000 in
set_option maxRecDepth 100000 in
theorem nt_1_2_3_4 (B j n : Nat) (thr mo cl ag : Value) (oa : Option Addr) (on oc n0 : Nat) (xs : List Value) (u : Nat → Value) (w : World) (H : NT V B oa on oc n0 xs w) (d : Nat) :
    AnyW Try.prog main V Stop (base 53) k cs ops53 .any (fun a' w'' => ∃ t r g cap w' u', TR w t r ∧ NT7 B oa on oc n0 xs w t r g cap w' ∧ a' = ⟨nt53 B j n thr mo cl ag u', []⟩ ∧ ∃ d, w'' = (w'.setCell ⟨B, 0, none⟩ (.slice (some ⟨g, 0, none⟩) (on + 1) cap)).at d) 7 #[false, true, true, true, true, false, false, false, false, false, false] ⟨#[thr, mo, undef, undef, .pointer none, .pointer (some ⟨B, 0, none⟩), thr, .int .i64 n, mo, cl, ag, .pointer (some ⟨B, 0, none⟩), thr, .int .i64 n, .int .i64 j, .bool true, u 16, .pointer (some ⟨B, 0, none⟩), .pointer (some ⟨B, 0, none⟩), .pointer (some ⟨B, 0, none⟩), .slice oa on oc, u 21, u 22, u 23, u 24, u 25, u 26, u 27], []⟩ ((w).at d) := by
  refine anyW_all (rs := [0, 5]) (by first | kernel_rfl | decide +kernel) (by simp) (fun i hi => ?_)
  obtain rfl | rfl : i = 0 ∨ i = 5 := by simpa using hi
  · intro rest hr
    refine Walk.back ?_ d
    simp only [ops53, body53, Try.f53] at hr ⊢
    (refine Walk.opq (ho_of (by conv => lhs; whnf) (by kernel_rfl)) (by rfl) (by decide) (fun dd e he => ?_) (fun dd K hK => ?_); (· (simp [go_sem, *] at he; try (subst he; exact evR_read _ _))); go_simp; refine hK _ ?_; clear hK K; try walk_nrm)
    exact hr _ _ (nt_0_1_2_3_4 B j n thr mo cl ag oa on oc n0 xs u w H (w).drawn)
  · intro rest hr
    refine Walk.back ?_ d
    simp only [ops53, body53, Try.f53] at hr ⊢
    refine Walk.callW (stand_new' _ w) rfl (by rfl) (by decide) rfl Try.func77 (by kernel_rfl) (by rfl) ?_
    rintro v w₁ ⟨t, r, rfl, ht, d₁, rfl⟩
    walk_nrm
    exact hr _ _ (nt_1_2_3_4_5 B j n thr mo cl ag oa on oc n0 xs u w H t r ht d₁)

set_option maxHeartbeats 8000000 in
set_option maxRecDepth 100000 in
theorem nt_1_2_3_5 (B j n : Nat) (thr mo cl ag : Value) (oa : Option Addr) (on oc n0 : Nat) (xs : List Value) (u : Nat → Value) (w : World) (H : NT V B oa on oc n0 xs w) (t r : Nat) (ht : TR w t r) (d : Nat) :
    AnyW Try.prog main V Stop (base 53) k cs ops53 .any (fun a' w'' => ∃ t r g cap w' u', TR w t r ∧ NT7 B oa on oc n0 xs w t r g cap w' ∧ a' = ⟨nt53 B j n thr mo cl ag u', []⟩ ∧ ∃ d, w'' = (w'.setCell ⟨B, 0, none⟩ (.slice (some ⟨g, 0, none⟩) (on + 1) cap)).at d) 7 #[false, true, true, true, false, true, false, false, false, false, false] ⟨#[thr, mo, undef, undef, .pointer none, .pointer (some ⟨B, 0, none⟩), thr, .int .i64 n, mo, cl, ag, .pointer (some ⟨B, 0, none⟩), thr, .int .i64 n, .int .i64 j, .bool true, u 16, .pointer (some ⟨B, 0, none⟩), .pointer (some ⟨B, 0, none⟩), .pointer (some ⟨B, 0, none⟩), u 20, .pointer (some ⟨w.heap.size + 2, 0, none⟩), u 22, u 23, u 24, u 25, u 26, u 27], []⟩ ((standW w t r).at d) := by
  refine anyW_all (rs := [0, 4, 6]) (by first | kernel_rfl | decide +kernel) (by simp) (fun i hi => ?_)
  obtain rfl | rfl | rfl : i = 0 ∨ i = 4 ∨ i = 6 := by simpa using hi
  · intro rest hr
    refine Walk.back ?_ d
    simp only [ops53, body53, Try.f53] at hr ⊢
    (refine Walk.opq (ho_of (by conv => lhs; whnf) (by kernel_rfl)) (by rfl) (by decide) (fun dd e he => ?_) (fun dd K hK => ?_); (· (simp [go_sem, *] at he; try (subst he; exact evR_read _ _))); go_simp; refine hK _ ?_; clear hK K; try walk_nrm)
    exact hr _ _ (nt_0_1_2_3_5 B j n thr mo cl ag oa on oc n0 xs u w H t r ht (standW w t r).drawn)
  · intro rest hr
    refine Walk.back ?_ d
    simp only [ops53, body53, Try.f53] at hr ⊢
    have hc := (H.stand t r).1
    (refine Walk.opq (ho_of (by conv => lhs; whnf) (by kernel_rfl)) (by rfl) (by decide) (fun dd e he => ?_) (fun dd K hK => ?_); (· (simp [go_sem, *] at he; try (subst he; exact evR_read _ _))); go_simp; refine hK _ ?_; clear hK K; try walk_nrm)
    exact hr _ _ (nt_1_2_3_4_5 B j n thr mo cl ag oa on oc n0 xs u w H t r ht (standW w t r).drawn)
  · intro rest hr
    refine Walk.back ?_ d
    simp only [ops53, body53, Try.f53] at hr ⊢
    have hsz := standW_size w t r
    (co_applyP Walk.opw (ho_of (by conv => lhs; whnf) (by kernel_rfl)) (by rfl) (by decide) ?wev5 ?wdr5 ?wrun5; (case' wrun5 => (intro dd K hK; go_simp; simp only [alloc_at', setCell_at']; refine hK _ ?wmore5; clear hK K)); (case wdr5 => exact fun dd es hes => DR.alloc' dd es hes); (case wev5 => (intro dd e he; simp [go_sem, *] at he)); try walk_nrm)
    try simp only [hsz]
    exact hr _ _ (nt_1_2_3_5_6 B j n thr mo cl ag oa on oc n0 xs u w H t r ht (newW w t r).drawn)

set_option maxHeartbeats 8000000 in
set_option maxRecDepth 100000 in
theorem nt_1_2_5_6 (B j n : Nat) (thr mo cl ag : Value) (oa : Option Addr) (on oc n0 : Nat) (xs : List Value) (u : Nat → Value) (w : World) (H : NT V B oa on oc n0 xs w) (t r : Nat) (ht : TR w t r) (d : Nat) :
    AnyW Try.prog main V Stop (base 53) k cs ops53 .any (fun a' w'' => ∃ t r g cap w' u', TR w t r ∧ NT7 B oa on oc n0 xs w t r g cap w' ∧ a' = ⟨nt53 B j n thr mo cl ag u', []⟩ ∧ ∃ d, w'' = (w'.setCell ⟨B, 0, none⟩ (.slice (some ⟨g, 0, none⟩) (on + 1) cap)).at d) 7 #[false, true, true, false, false, true, true, false, false, false, false] ⟨#[thr, mo, undef, undef, .pointer none, .pointer (some ⟨B, 0, none⟩), thr, .int .i64 n, mo, cl, ag, .pointer (some ⟨B, 0, none⟩), thr, .int .i64 n, .int .i64 j, .bool true, u 16, .pointer (some ⟨B, 0, none⟩), .pointer (some ⟨B, 0, none⟩), u 19, u 20, .pointer (some ⟨w.heap.size + 2, 0, none⟩), .slice (some ⟨w.heap.size + 3, 0, none⟩) 1 1, u 23, u 24, u 25, u 26, u 27], []⟩ ((newW w t r).at d) := by
  refine anyW_all (rs := [0, 3]) (by first | kernel_rfl | decide +kernel) (by simp) (fun i hi => ?_)
  obtain rfl | rfl : i = 0 ∨ i = 3 := by simpa using hi
  · intro rest hr
    refine Walk.back ?_ d
    simp only [ops53, body53, Try.f53] at hr ⊢
    (refine Walk.opq (ho_of (by conv => lhs; whnf) (by kernel_rfl)) (by rfl) (by decide) (fun dd e he => ?_) (fun dd K hK => ?_); (· (simp [go_sem, *] at he; try (subst he; exact evR_read _ _))); go_simp; refine hK _ ?_; clear hK K; try walk_nrm)
    exact hr _ _ (nt_0_1_2_5_6 B j n thr mo cl ag oa on oc n0 xs u w H t r ht (newW w t r).drawn)
  · intro rest hr
    refine Walk.back ?_ d
    simp only [ops53, body53, Try.f53] at hr ⊢
    (refine Walk.opq (ho_of (by conv => lhs; whnf) (by kernel_rfl)) (by rfl) (by decide) (fun dd e he => ?_) (fun dd K hK => ?_); (· (simp [go_sem, *] at he; try (subst he; exact evR_read _ _))); go_simp; refine hK _ ?_; clear hK K; try walk_nrm)
    exact hr _ _ (nt_1_2_3_5_6 B j n thr mo cl ag oa on oc n0 xs u w H t r ht (newW w t r).drawn)

set_option maxHeartbeats 8000000 in
set_option maxRecDepth 100000 in
theorem nt_0_1_2 (B j n : Nat) (thr mo cl ag : Value) (oa : Option Addr) (on oc n0 : Nat) (xs : List Value) (u : Nat → Value) (w : World) (H : NT V B oa on oc n0 xs w) (d : Nat) :
    AnyW Try.prog main V Stop (base 53) k cs ops53 .any (fun a' w'' => ∃ t r g cap w' u', TR w t r ∧ NT7 B oa on oc n0 xs w t r g cap w' ∧ a' = ⟨nt53 B j n thr mo cl ag u', []⟩ ∧ ∃ d, w'' = (w'.setCell ⟨B, 0, none⟩ (.slice (some ⟨g, 0, none⟩) (on + 1) cap)).at d) 8 #[true, true, true, false, false, false, false, false, false, false, false] ⟨#[thr, mo, undef, undef, .pointer none, .pointer (some ⟨B, 0, none⟩), thr, .int .i64 n, mo, cl, ag, .pointer (some ⟨B, 0, none⟩), thr, .int .i64 n, .int .i64 j, .bool true, .pointer (some ⟨B, 0, none⟩), .pointer (some ⟨B, 0, none⟩), .pointer (some ⟨B, 0, none⟩), u 19, u 20, u 21, u 22, u 23, u 24, u 25, u 26, u 27], []⟩ ((w).at d) := by
  refine anyW_all (rs := [3, 5]) (by first | kernel_rfl | decide +kernel) (by simp) (fun i hi => ?_)
  obtain rfl | rfl : i = 3 ∨ i = 5 := by simpa using hi
  · intro rest hr
    refine Walk.back ?_ d
    simp only [ops53, body53, Try.f53] at hr ⊢
    (refine Walk.opq (ho_of (by conv => lhs; whnf) (by kernel_rfl)) (by rfl) (by decide) (fun dd e he => ?_) (fun dd K hK => ?_); (· (simp [go_sem, *] at he; try (subst he; exact evR_read _ _))); go_simp; refine hK _ ?_; clear hK K; try walk_nrm)
    exact hr _ _ (nt_0_1_2_3 B j n thr mo cl ag oa on oc n0 xs u w H (w).drawn)
  · intro rest hr
    refine Walk.back ?_ d
    simp only [ops53, body53, Try.f53] at hr ⊢
    refine Walk.callW (stand_new' _ w) rfl (by rfl) (by decide) rfl Try.func77 (by kernel_rfl) (by rfl) ?_
    rintro v w₁ ⟨t, r, rfl, ht, d₁, rfl⟩
    walk_nrm
    exact hr _ _ (nt_0_1_2_5 B j n thr mo cl ag oa on oc n0 xs u w H t r ht d₁)

set_option maxHeartbeats 8000000 in
set_option maxRecDepth 100000 in
theorem nt_0_1_5 (B j n : Nat) (thr mo cl ag : Value) (oa : Option Addr) (on oc n0 : Nat) (xs : List Value) (u : Nat → Value) (w : World) (H : NT V B oa on oc n0 xs w) (t r : Nat) (ht : TR w t r) (d : Nat) :
    AnyW Try.prog main V Stop (base 53) k cs ops53 .any (fun a' w'' => ∃ t r g cap w' u', TR w t r ∧ NT7 B oa on oc n0 xs w t r g cap w' ∧ a' = ⟨nt53 B j n thr mo cl ag u', []⟩ ∧ ∃ d, w'' = (w'.setCell ⟨B, 0, none⟩ (.slice (some ⟨g, 0, none⟩) (on + 1) cap)).at d) 8 #[true, true, false, false, false, true, false, false, false, false, false] ⟨#[thr, mo, undef, undef, .pointer none, .pointer (some ⟨B, 0, none⟩), thr, .int .i64 n, mo, cl, ag, .pointer (some ⟨B, 0, none⟩), thr, .int .i64 n, .int .i64 j, .bool true, .pointer (some ⟨B, 0, none⟩), .pointer (some ⟨B, 0, none⟩), u 18, u 19, u 20, .pointer (some ⟨w.heap.size + 2, 0, none⟩), u 22, u 23, u 24, u 25, u 26, u 27], []⟩ ((standW w t r).at d) := by
  refine anyW_all (rs := [2, 6]) (by first | kernel_rfl | decide +kernel) (by simp) (fun i hi => ?_)
  obtain rfl | rfl : i = 2 ∨ i = 6 := by simpa using hi
  · intro rest hr
    refine Walk.back ?_ d
    simp only [ops53, body53, Try.f53] at hr ⊢
    (refine Walk.opq (ho_of (by conv => lhs; whnf) (by kernel_rfl)) (by rfl) (by decide) (fun dd e he => ?_) (fun dd K hK => ?_); (· (simp [go_sem, *] at he; try (subst he; exact evR_read _ _))); go_simp; refine hK _ ?_; clear hK K; try walk_nrm)
    exact hr _ _ (nt_0_1_2_5 B j n thr mo cl ag oa on oc n0 xs u w H t r ht (standW w t r).drawn)
  · intro rest hr
    refine Walk.back ?_ d
    simp only [ops53, body53, Try.f53] at hr ⊢
    have hsz := standW_size w t r
    (co_applyP Walk.opw (ho_of (by conv => lhs; whnf) (by kernel_rfl)) (by rfl) (by decide) ?wev6 ?wdr6 ?wrun6; (case' wrun6 => (intro dd K hK; go_simp; simp only [alloc_at', setCell_at']; refine hK _ ?wmore6; clear hK K)); (case wdr6 => exact fun dd es hes => DR.alloc' dd es hes); (case wev6 => (intro dd e he; simp [go_sem, *] at he)); try walk_nrm)
    try simp only [hsz]
    exact hr _ _ (nt_0_1_5_6 B j n thr mo cl ag oa on oc n0 xs u w H t r ht (newW w t r).drawn)

set_option maxHeartbeats 8000000 in
set_option maxRecDepth 100000 in
theorem nt_0_5_6 (B j n : Nat) (thr mo cl ag : Value) (oa : Option Addr) (on oc n0 : Nat) (xs : List Value) (u : Nat → Value) (w : World) (H : NT V B oa on oc n0 xs w) (t r : Nat) (ht : TR w t r) (d : Nat) :
    AnyW Try.prog main V Stop (base 53) k cs ops53 .any (fun a' w'' => ∃ t r g cap w' u', TR w t r ∧ NT7 B oa on oc n0 xs w t r g cap w' ∧ a' = ⟨nt53 B j n thr mo cl ag u', []⟩ ∧ ∃ d, w'' = (w'.setCell ⟨B, 0, none⟩ (.slice (some ⟨g, 0, none⟩) (on + 1) cap)).at d) 8 #[true, false, false, false, false, true, true, false, false, false, false] ⟨#[thr, mo, undef, undef, .pointer none, .pointer (some ⟨B, 0, none⟩), thr, .int .i64 n, mo, cl, ag, .pointer (some ⟨B, 0, none⟩), thr, .int .i64 n, .int .i64 j, .bool true, .pointer (some ⟨B, 0, none⟩), u 17, u 18, u 19, u 20, .pointer (some ⟨w.heap.size + 2, 0, none⟩), .slice (some ⟨w.heap.size + 3, 0, none⟩) 1 1, u 23, u 24, u 25, u 26, u 27], []⟩ ((newW w t r).at d) := by
  refine anyW_all (rs := [1]) (by first | kernel_rfl | decide +kernel) (by simp) (fun i hi => ?_)
  obtain rfl : i = 1 := by simpa using hi
  · intro rest hr
    refine Walk.back ?_ d
    simp only [ops53, body53, Try.f53] at hr ⊢
    (refine Walk.opq (ho_of (by conv => lhs; whnf) (by kernel_rfl)) (by rfl) (by decide) (fun dd e he => ?_) (fun dd K hK => ?_); (· (simp [go_sem, *] at he; try (subst he; exact evR_read _ _))); go_simp; refine hK _ ?_; clear hK K; try walk_nrm)
    exact hr _ _ (nt_0_1_5_6 B j n thr mo cl ag oa on oc n0 xs u w H t r ht (newW w t r).drawn)

set_option maxHeartbeats 8000000 in
set_option maxRecDepth 100000 in
theorem nt_1_2_3 (B j n : Nat) (thr mo cl ag : Value) (oa : Option Addr) (on oc n0 : Nat) (xs : List Value) (u : Nat → Value) (w : World) (H : NT V B oa on oc n0 xs w) (d : Nat) :
    AnyW Try.prog main V Stop (base 53) k cs ops53 .any (fun a' w'' => ∃ t r g cap w' u', TR w t r ∧ NT7 B oa on oc n0 xs w t r g cap w' ∧ a' = ⟨nt53 B j n thr mo cl ag u', []⟩ ∧ ∃ d, w'' = (w'.setCell ⟨B, 0, none⟩ (.slice (some ⟨g, 0, none⟩) (on + 1) cap)).at d) 8 #[false, true, true, true, false, false, false, false, false, false, false] ⟨#[thr, mo, undef, undef, .pointer none, .pointer (some ⟨B, 0, none⟩), thr, .int .i64 n, mo, cl, ag, .pointer (some ⟨B, 0, none⟩), thr, .int .i64 n, .int .i64 j, .bool true, u 16, .pointer (some ⟨B, 0, none⟩), .pointer (some ⟨B, 0, none⟩), .pointer (some ⟨B, 0, none⟩), u 20, u 21, u 22, u 23, u 24, u 25, u 26, u 27], []⟩ ((w).at d) := by
  refine anyW_all (rs := [0, 4, 5]) (by first | kernel_rfl | decide +kernel) (by simp) (fun i hi => ?_)
  obtain rfl | rfl | rfl : i = 0 ∨ i = 4 ∨ i = 5 := by simpa using hi
  · intro rest hr
    refine Walk.back ?_ d
    simp only [ops53, body53, Try.f53] at hr ⊢
    (refine Walk.opq (ho_of (by conv => lhs; whnf) (by kernel_rfl)) (by rfl) (by decide) (fun dd e he => ?_) (fun dd K hK => ?_); (· (simp [go_sem, *] at he; try (subst he; exact evR_read _ _))); go_simp; refine hK _ ?_; clear hK K; try walk_nrm)
    exact hr _ _ (nt_0_1_2_3 B j n thr mo cl ag oa on oc n0 xs u w H (w).drawn)
  · intro rest hr
    refine Walk.back ?_ d
    simp only [ops53, body53, Try.f53] at hr ⊢
    have hc := H.h0
    (refine Walk.opq (ho_of (by conv => lhs; whnf) (by kernel_rfl)) (by rfl) (by decide) (fun dd e he => ?_) (fun dd K hK => ?_); (· (simp [go_sem, *] at he; try (subst he; exact evR_read _ _))); go_simp; refine hK _ ?_; clear hK K; try walk_nrm)
    exact hr _ _ (nt_1_2_3_4 B j n thr mo cl ag oa on oc n0 xs u w H (w).drawn)
  · intro rest hr
    refine Walk.back ?_ d
    simp only [ops53, body53, Try.f53] at hr ⊢
    refine Walk.callW (stand_new' _ w) rfl (by rfl) (by decide) rfl Try.func77 (by kernel_rfl) (by rfl) ?_
    rintro v w₁ ⟨t, r, rfl, ht, d₁, rfl⟩
    walk_nrm
    exact hr _ _ (nt_1_2_3_5 B j n thr mo cl ag oa on oc n0 xs u w H t r ht d₁)

set_option maxHeartbeats 8000000 in
set_option maxRecDepth 100000 in
theorem nt_1_2_5 (B j n : Nat) (thr mo cl ag : Value) (oa : Option Addr) (on oc n0 : Nat) (xs : List Value) (u : Nat → Value) (w : World) (H : NT V B oa on oc n0 xs w) (t r : Nat) (ht : TR w t r) (d : Nat) :
    AnyW Try.prog main V Stop (base 53) k cs ops53 .any (fun a' w'' => ∃ t r g cap w' u', TR w t r ∧ NT7 B oa on oc n0 xs w t r g cap w' ∧ a' = ⟨nt53 B j n thr mo cl ag u', []⟩ ∧ ∃ d, w'' = (w'.setCell ⟨B, 0, none⟩ (.slice (some ⟨g, 0, none⟩) (on + 1) cap)).at d) 8 #[false, true, true, false, false, true, false, false, false, false, false] ⟨#[thr, mo, undef, undef, .pointer none, .pointer (some ⟨B, 0, none⟩), thr, .int .i64 n, mo, cl, ag, .pointer (some ⟨B, 0, none⟩), thr, .int .i64 n, .int .i64 j, .bool true, u 16, .pointer (some ⟨B, 0, none⟩), .pointer (some ⟨B, 0, none⟩), u 19, u 20, .pointer (some ⟨w.heap.size + 2, 0, none⟩), u 22, u 23, u 24, u 25, u 26, u 27], []⟩ ((standW w t r).at d) := by
  refine anyW_all (rs := [0, 3, 6]) (by first | kernel_rfl | decide +kernel) (by simp) (fun i hi => ?_)
  obtain rfl | rfl | rfl : i = 0 ∨ i = 3 ∨ i = 6 := by simpa using hi
  · intro rest hr
    refine Walk.back ?_ d
    simp only [ops53, body53, Try.f53] at hr ⊢
    (refine Walk.opq (ho_of (by conv => lhs; whnf) (by kernel_rfl)) (by rfl) (by decide) (fun dd e he => ?_) (fun dd K hK => ?_); (· (simp [go_sem, *] at he; try (subst he; exact evR_read _ _))); go_simp; refine hK _ ?_; clear hK K; try walk_nrm)
    exact hr _ _ (nt_0_1_2_5 B j n thr mo cl ag oa on oc n0 xs u w H t r ht (standW w t r).drawn)
  · intro rest hr
    refine Walk.back ?_ d
    simp only [ops53, body53, Try.f53] at hr ⊢
    (refine Walk.opq (ho_of (by conv => lhs; whnf) (by kernel_rfl)) (by rfl) (by decide) (fun dd e he => ?_) (fun dd K hK => ?_); (· (simp [go_sem, *] at he; try (subst he; exact evR_read _ _))); go_simp; refine hK _ ?_; clear hK K; try walk_nrm)
    exact hr _ _ (nt_1_2_3_5 B j n thr mo cl ag oa on oc n0 xs u w H t r ht (standW w t r).drawn)
  · intro rest hr
    refine Walk.back ?_ d
    simp only [ops53, body53, Try.f53] at hr ⊢
    have hsz := standW_size w t r
    (co_applyP Walk.opw (ho_of (by conv => lhs; whnf) (by kernel_rfl)) (by rfl) (by decide) ?wev7 ?wdr7 ?wrun7; (case' wrun7 => (intro dd K hK; go_simp; simp only [alloc_at', setCell_at']; refine hK _ ?wmore7; clear hK K)); (case wdr7 => exact fun dd es hes => DR.alloc' dd es hes); (case wev7 => (intro dd e he; simp [go_sem, *] at he)); try walk_nrm)
    try simp only [hsz]
    exact hr _ _ (nt_1_2_5_6 B j n thr mo cl ag oa on oc n0 xs u w H t r ht (newW w t r).drawn)

set_option maxHeartbeats 8000000 in
set_option maxRecDepth 100000 in
theorem nt_1_5_6 (B j n : Nat) (thr mo cl ag : Value) (oa : Option Addr) (on oc n0 : Nat) (xs : List Value) (u : Nat → Value) (w : World) (H : NT V B oa on oc n0 xs w) (t r : Nat) (ht : TR w t r) (d : Nat) :
    AnyW Try.prog main V Stop (base 53) k cs ops53 .any (fun a' w'' => ∃ t r g cap w' u', TR w t r ∧ NT7 B oa on oc n0 xs w t r g cap w' ∧ a' = ⟨nt53 B j n thr mo cl ag u', []⟩ ∧ ∃ d, w'' = (w'.setCell ⟨B, 0, none⟩ (.slice (some ⟨g, 0, none⟩) (on + 1) cap)).at d) 8 #[false, true, false, false, false, true, true, false, false, false, false] ⟨#[thr, mo, undef, undef, .pointer none, .pointer (some ⟨B, 0, none⟩), thr, .int .i64 n, mo, cl, ag, .pointer (some ⟨B, 0, none⟩), thr, .int .i64 n, .int .i64 j, .bool true, u 16, .pointer (some ⟨B, 0, none⟩), u 18, u 19, u 20, .pointer (some ⟨w.heap.size + 2, 0, none⟩), .slice (some ⟨w.heap.size + 3, 0, none⟩) 1 1, u 23, u 24, u 25, u 26, u 27], []⟩ ((newW w t r).at d) := by
  refine anyW_all (rs := [0, 2]) (by first | kernel_rfl | decide +kernel) (by simp) (fun i hi => ?_)
  obtain rfl | rfl : i = 0 ∨ i = 2 := by simpa using hi
  · intro rest hr
    refine Walk.back ?_ d
    simp only [ops53, body53, Try.f53] at hr ⊢
    (refine Walk.opq (ho_of (by conv => lhs; whnf) (by kernel_rfl)) (by rfl) (by decide) (fun dd e he => ?_) (fun dd K hK => ?_); (· (simp [go_sem, *] at he; try (subst he; exact evR_read _ _))); go_simp; refine hK _ ?_; clear hK K; try walk_nrm)
    exact hr _ _ (nt_0_1_5_6 B j n thr mo cl ag oa on oc n0 xs u w H t r ht (newW w t r).drawn)
  · intro rest hr
    refine Walk.back ?_ d
    simp only [ops53, body53, Try.f53] at hr ⊢
    (refine Walk.opq (ho_of (by conv => lhs; whnf) (by kernel_rfl)) (by rfl) (by decide) (fun dd e he => ?_) (fun dd K hK => ?_); (· (simp [go_sem, *] at he; try (subst he; exact evR_read _ _))); go_simp; refine hK _ ?_; clear hK K; try walk_nrm)
    exact hr _ _ (nt_1_2_5_6 B j n thr mo cl ag oa on oc n0 xs u w H t r ht (newW w t r).drawn)

set_option maxHeartbeats 8000000 in
set_option maxRecDepth 100000 in
theorem nt_0_1 (B j n : Nat) (thr mo cl ag : Value) (oa : Option Addr) (on oc n0 : Nat) (xs : List Value) (u : Nat → Value) (w : World) (H : NT V B oa on oc n0 xs w) (d : Nat) :
    AnyW Try.prog main V Stop (base 53) k cs ops53 .any (fun a' w'' => ∃ t r g cap w' u', TR w t r ∧ NT7 B oa on oc n0 xs w t r g cap w' ∧ a' = ⟨nt53 B j n thr mo cl ag u', []⟩ ∧ ∃ d, w'' = (w'.setCell ⟨B, 0, none⟩ (.slice (some ⟨g, 0, none⟩) (on + 1) cap)).at d) 9 #[true, true, false, false, false, false, false, false, false, false, false] ⟨#[thr, mo, undef, undef, .pointer none, .pointer (some ⟨B, 0, none⟩), thr, .int .i64 n, mo, cl, ag, .pointer (some ⟨B, 0, none⟩), thr, .int .i64 n, .int .i64 j, .bool true, .pointer (some ⟨B, 0, none⟩), .pointer (some ⟨B, 0, none⟩), u 18, u 19, u 20, u 21, u 22, u 23, u 24, u 25, u 26, u 27], []⟩ ((w).at d) := by
  refine anyW_all (rs := [2, 5]) (by first | kernel_rfl | decide +kernel) (by simp) (fun i hi => ?_)
  obtain rfl | rfl : i = 2 ∨ i = 5 := by simpa using hi
  · intro rest hr
    refine Walk.back ?_ d
    simp only [ops53, body53, Try.f53] at hr ⊢
    (refine Walk.opq (ho_of (by conv => lhs; whnf) (by kernel_rfl)) (by rfl) (by decide) (fun dd e he => ?_) (fun dd K hK => ?_); (· (simp [go_sem, *] at he; try (subst he; exact evR_read _ _))); go_simp; refine hK _ ?_; clear hK K; try walk_nrm)
    exact hr _ _ (nt_0_1_2 B j n thr mo cl ag oa on oc n0 xs u w H (w).drawn)
  · intro rest hr
    refine Walk.back ?_ d
    simp only [ops53, body53, Try.f53] at hr ⊢
    refine Walk.callW (stand_new' _ w) rfl (by rfl) (by decide) rfl Try.func77 (by kernel_rfl) (by rfl) ?_
    rintro v w₁ ⟨t, r, rfl, ht, d₁, rfl⟩
    walk_nrm
    exact hr _ _ (nt_0_1_5 B j n thr mo cl ag oa on oc n0 xs u w H t r ht d₁)

set_option maxHeartbeats 8000000 in
set_option maxRecDepth 100000 in
theorem nt_0_5 (B j n : Nat) (thr mo cl ag : Value) (oa : Option Addr) (on oc n0 : Nat) (xs : List Value) (u : Nat → Value) (w : World) (H : NT V B oa on oc n0 xs w) (t r : Nat) (ht : TR w t r) (d : Nat) :
    AnyW Try.prog main V Stop (base 53) k cs ops53 .any (fun a' w'' => ∃ t r g cap w' u', TR w t r ∧ NT7 B oa on oc n0 xs w t r g cap w' ∧ a' = ⟨nt53 B j n thr mo cl ag u', []⟩ ∧ ∃ d, w'' = (w'.setCell ⟨B, 0, none⟩ (.slice (some ⟨g, 0, none⟩) (on + 1) cap)).at d) 9 #[true, false, false, false, false, true, false, false, false, false, false] ⟨#[thr, mo, undef, undef, .pointer none, .pointer (some ⟨B, 0, none⟩), thr, .int .i64 n, mo, cl, ag, .pointer (some ⟨B, 0, none⟩), thr, .int .i64 n, .int .i64 j, .bool true, .pointer (some ⟨B, 0, none⟩), u 17, u 18, u 19, u 20, .pointer (some ⟨w.heap.size + 2, 0, none⟩), u 22, u 23, u 24, u 25, u 26, u 27], []⟩ ((standW w t r).at d) := by
  refine anyW_all (rs := [1, 6]) (by first | kernel_rfl | decide +kernel) (by simp) (fun i hi => ?_)
  obtain rfl | rfl : i = 1 ∨ i = 6 := by simpa using hi
  · intro rest hr
    refine Walk.back ?_ d
    simp only [ops53, body53, Try.f53] at hr ⊢
    (refine Walk.opq (ho_of (by conv => lhs; whnf) (by kernel_rfl)) (by rfl) (by decide) (fun dd e he => ?_) (fun dd K hK => ?_); (· (simp [go_sem, *] at he; try (subst he; exact evR_read _ _))); go_simp; refine hK _ ?_; clear hK K; try walk_nrm)
    exact hr _ _ (nt_0_1_5 B j n thr mo cl ag oa on oc n0 xs u w H t r ht (standW w t r).drawn)
  · intro rest hr
    refine Walk.back ?_ d
    simp only [ops53, body53, Try.f53] at hr ⊢
    have hsz := standW_size w t r
    (co_applyP Walk.opw (ho_of (by conv => lhs; whnf) (by kernel_rfl)) (by rfl) (by decide) ?wev8 ?wdr8 ?wrun8; (case' wrun8 => (intro dd K hK; go_simp; simp only [alloc_at', setCell_at']; refine hK _ ?wmore8; clear hK K)); (case wdr8 => exact fun dd es hes => DR.alloc' dd es hes); (case wev8 => (intro dd e he; simp [go_sem, *] at he)); try walk_nrm)
    try simp only [hsz]
    exact hr _ _ (nt_0_5_6 B j n thr mo cl ag oa on oc n0 xs u w H t r ht (newW w t r).drawn)

set_option maxHeartbeats 8000000 in
set_option maxRecDepth 100000 in
theorem nt_1_2 (B j n : Nat) (thr mo cl ag : Value) (oa : Option Addr) (on oc n0 : Nat) (xs : List Value) (u : Nat → Value) (w : World) (H : NT V B oa on oc n0 xs w) (d : Nat) :
    AnyW Try.prog main V Stop (base 53) k cs ops53 .any (fun a' w'' => ∃ t r g cap w' u', TR w t r ∧ NT7 B oa on oc n0 xs w t r g cap w' ∧ a' = ⟨nt53 B j n thr mo cl ag u', []⟩ ∧ ∃ d, w'' = (w'.setCell ⟨B, 0, none⟩ (.slice (some ⟨g, 0, none⟩) (on + 1) cap)).at d) 9 #[false, true, true, false, false, false, false, false, false, false, false] ⟨#[thr, mo, undef, undef, .pointer none, .pointer (some ⟨B, 0, none⟩), thr, .int .i64 n, mo, cl, ag, .pointer (some ⟨B, 0, none⟩), thr, .int .i64 n, .int .i64 j, .bool true, u 16, .pointer (some ⟨B, 0, none⟩), .pointer (some ⟨B, 0, none⟩), u 19, u 20, u 21, u 22, u 23, u 24, u 25, u 26, u 27], []⟩ ((w).at d) := by
  refine anyW_all (rs := [0, 3, 5]) (by first | kernel_rfl | decide +kernel) (by simp) (fun i hi => ?_)
  obtain rfl | rfl | rfl : i = 0 ∨ i = 3 ∨ i = 5 := by simpa using hi
  · intro rest hr
    refine Walk.back ?_ d
    simp only [ops53, body53, Try.f53] at hr ⊢
    (refine Walk.opq (ho_of (by conv => lhs; whnf) (by kernel_rfl)) (by rfl) (by decide) (fun dd e he => ?_) (fun dd K hK => ?_); (· (simp [go_sem, *] at he; try (subst he; exact evR_read _ _))); go_simp; refine hK _ ?_; clear hK K; try walk_nrm)
    exact hr _ _ (nt_0_1_2 B j n thr mo cl ag oa on oc n0 xs u w H (w).drawn)
  · intro rest hr
    refine Walk.back ?_ d
    simp only [ops53, body53, Try.f53] at hr ⊢
    (refine Walk.opq (ho_of (by conv => lhs; whnf) (by kernel_rfl)) (by rfl) (by decide) (fun dd e he => ?_) (fun dd K hK => ?_); (· (simp [go_sem, *] at he; try (subst he; exact evR_read _ _))); go_simp; refine hK _ ?_; clear hK K; try walk_nrm)
    exact hr _ _ (nt_1_2_3 B j n thr mo cl ag oa on oc n0 xs u w H (w).drawn)
  · intro rest hr
    refine Walk.back ?_ d
    simp only [ops53, body53, Try.f53] at hr ⊢
    refine Walk.callW (stand_new' _ w) rfl (by rfl) (by decide) rfl Try.func77 (by kernel_rfl) (by rfl) ?_
    rintro v w₁ ⟨t, r, rfl, ht, d₁, rfl⟩
    walk_nrm
    exact hr _ _ (nt_1_2_5 B j n thr mo cl ag oa on oc n0 xs u w H t r ht d₁)

set_option maxHeartbeats 8000000 in
set_option maxRecDepth 100000 in
theorem nt_1_5 (B j n : Nat) (thr mo cl ag : Value) (oa : Option Addr) (on oc n0 : Nat) (xs : List Value) (u : Nat → Value) (w : World) (H : NT V B oa on oc n0 xs w) (t r : Nat) (ht : TR w t r) (d : Nat) :
    AnyW Try.prog main V Stop (base 53) k cs ops53 .any (fun a' w'' => ∃ t r g cap w' u', TR w t r ∧ NT7 B oa on oc n0 xs w t r g cap w' ∧ a' = ⟨nt53 B j n thr mo cl ag u', []⟩ ∧ ∃ d, w'' = (w'.setCell ⟨B, 0, none⟩ (.slice (some ⟨g, 0, none⟩) (on + 1) cap)).at d) 9 #[false, true, false, false, false, true, false, false, false, false, false] ⟨#[thr, mo, undef, undef, .pointer none, .pointer (some ⟨B, 0, none⟩), thr, .int .i64 n, mo, cl, ag, .pointer (some ⟨B, 0, none⟩), thr, .int .i64 n, .int .i64 j, .bool true, u 16, .pointer (some ⟨B, 0, none⟩), u 18, u 19, u 20, .pointer (some ⟨w.heap.size + 2, 0, none⟩), u 22, u 23, u 24, u 25, u 26, u 27], []⟩ ((standW w t r).at d) := by
  refine anyW_all (rs := [0, 2, 6]) (by first | kernel_rfl | decide +kernel) (by simp) (fun i hi => ?_)
  obtain rfl | rfl | rfl : i = 0 ∨ i = 2 ∨ i = 6 := by simpa using hi
  · intro rest hr
    refine Walk.back ?_ d
    simp only [ops53, body53, Try.f53] at hr ⊢
    (refine Walk.opq (ho_of (by conv => lhs; whnf) (by kernel_rfl)) (by rfl) (by decide) (fun dd e he => ?_) (fun dd K hK => ?_); (· (simp [go_sem, *] at he; try (subst he; exact evR_read _ _))); go_simp; refine hK _ ?_; clear hK K; try walk_nrm)
    exact hr _ _ (nt_0_1_5 B j n thr mo cl ag oa on oc n0 xs u w H t r ht (standW w t r).drawn)
  · intro rest hr
    refine Walk.back ?_ d
    simp only [ops53, body53, Try.f53] at hr ⊢
    (refine Walk.opq (ho_of (by conv => lhs; whnf) (by kernel_rfl)) (by rfl) (by decide) (fun dd e he => ?_) (fun dd K hK => ?_); (· (simp [go_sem, *] at he; try (subst he; exact evR_read _ _))); go_simp; refine hK _ ?_; clear hK K; try walk_nrm)
    exact hr _ _ (nt_1_2_5 B j n thr mo cl ag oa on oc n0 xs u w H t r ht (standW w t r).drawn)
  · intro rest hr
    refine Walk.back ?_ d
    simp only [ops53, body53, Try.f53] at hr ⊢
    have hsz := standW_size w t r
    (co_applyP Walk.opw (ho_of (by conv => lhs; whnf) (by kernel_rfl)) (by rfl) (by decide) ?wev9 ?wdr9 ?wrun9; (case' wrun9 => (intro dd K hK; go_simp; simp only [alloc_at', setCell_at']; refine hK _ ?wmore9; clear hK K)); (case wdr9 => exact fun dd es hes => DR.alloc' dd es hes); (case wev9 => (intro dd e he; simp [go_sem, *] at he)); try walk_nrm)
    try simp only [hsz]
    exact hr _ _ (nt_1_5_6 B j n thr mo cl ag oa on oc n0 xs u w H t r ht (newW w t r).drawn)

set_option maxHeartbeats 8000000 in
set_option maxRecDepth 100000 in
theorem nt_5_6 (B j n : Nat) (thr mo cl ag : Value) (oa : Option Addr) (on oc n0 : Nat) (xs : List Value) (u : Nat → Value) (w : World) (H : NT V B oa on oc n0 xs w) (t r : Nat) (ht : TR w t r) (d : Nat) :
    AnyW Try.prog main V Stop (base 53) k cs ops53 .any (fun a' w'' => ∃ t r g cap w' u', TR w t r ∧ NT7 B oa on oc n0 xs w t r g cap w' ∧ a' = ⟨nt53 B j n thr mo cl ag u', []⟩ ∧ ∃ d, w'' = (w'.setCell ⟨B, 0, none⟩ (.slice (some ⟨g, 0, none⟩) (on + 1) cap)).at d) 9 #[false, false, false, false, false, true, true, false, false, false, false] ⟨#[thr, mo, undef, undef, .pointer none, .pointer (some ⟨B, 0, none⟩), thr, .int .i64 n, mo, cl, ag, .pointer (some ⟨B, 0, none⟩), thr, .int .i64 n, .int .i64 j, .bool true, u 16, u 17, u 18, u 19, u 20, .pointer (some ⟨w.heap.size + 2, 0, none⟩), .slice (some ⟨w.heap.size + 3, 0, none⟩) 1 1, u 23, u 24, u 25, u 26, u 27], []⟩ ((newW w t r).at d) := by
  refine anyW_all (rs := [0, 1]) (by first | kernel_rfl | decide +kernel) (by simp) (fun i hi => ?_)
  obtain rfl | rfl : i = 0 ∨ i = 1 := by simpa using hi
  · intro rest hr
    refine Walk.back ?_ d
    simp only [ops53, body53, Try.f53] at hr ⊢
    (refine Walk.opq (ho_of (by conv => lhs; whnf) (by kernel_rfl)) (by rfl) (by decide) (fun dd e he => ?_) (fun dd K hK => ?_); (· (simp [go_sem, *] at he; try (subst he; exact evR_read _ _))); go_simp; refine hK _ ?_; clear hK K; try walk_nrm)
    exact hr _ _ (nt_0_5_6 B j n thr mo cl ag oa on oc n0 xs u w H t r ht (newW w t r).drawn)
  · intro rest hr
    refine Walk.back ?_ d
    simp only [ops53, body53, Try.f53] at hr ⊢
    (refine Walk.opq (ho_of (by conv => lhs; whnf) (by kernel_rfl)) (by rfl) (by decide) (fun dd e he => ?_) (fun dd K hK => ?_); (· (simp [go_sem, *] at he; try (subst he; exact evR_read _ _))); go_simp; refine hK _ ?_; clear hK K; try walk_nrm)
    exact hr _ _ (nt_1_5_6 B j n thr mo cl ag oa on oc n0 xs u w H t r ht (newW w t r).drawn)

set_option maxHeartbeats 8000000 in
set_option maxRecDepth 100000 in
theorem nt_0 (B j n : Nat) (thr mo cl ag : Value) (oa : Option Addr) (on oc n0 : Nat) (xs : List Value) (u : Nat → Value) (w : World) (H : NT V B oa on oc n0 xs w) (d : Nat) :
    AnyW Try.prog main V Stop (base 53) k cs ops53 .any (fun a' w'' => ∃ t r g cap w' u', TR w t r ∧ NT7 B oa on oc n0 xs w t r g cap w' ∧ a' = ⟨nt53 B j n thr mo cl ag u', []⟩ ∧ ∃ d, w'' = (w'.setCell ⟨B, 0, none⟩ (.slice (some ⟨g, 0, none⟩) (on + 1) cap)).at d) 10 #[true, false, false, false, false, false, false, false, false, false, false] ⟨#[thr, mo, undef, undef, .pointer none, .pointer (some ⟨B, 0, none⟩), thr, .int .i64 n, mo, cl, ag, .pointer (some ⟨B, 0, none⟩), thr, .int .i64 n, .int .i64 j, .bool true, .pointer (some ⟨B, 0, none⟩), u 17, u 18, u 19, u 20, u 21, u 22, u 23, u 24, u 25, u 26, u 27], []⟩ ((w).at d) := by
  refine anyW_all (rs := [1, 5]) (by first | kernel_rfl | decide +kernel) (by simp) (fun i hi => ?_)
  obtain rfl | rfl : i = 1 ∨ i = 5 := by simpa using hi
  · intro rest hr
    refine Walk.back ?_ d
    simp only [ops53, body53, Try.f53] at hr ⊢
    (refine Walk.opq (ho_of (by conv => lhs; whnf) (by kernel_rfl)) (by rfl) (by decide) (fun dd e he => ?_) (fun dd K hK => ?_); (· (simp [go_sem, *] at he; try (subst he; exact evR_read _ _))); go_simp; refine hK _ ?_; clear hK K; try walk_nrm)
    exact hr _ _ (nt_0_1 B j n thr mo cl ag oa on oc n0 xs u w H (w).drawn)
  · intro rest hr
    refine Walk.back ?_ d
    simp only [ops53, body53, Try.f53] at hr ⊢
    refine Walk.callW (stand_new' _ w) rfl (by rfl) (by decide) rfl Try.func77 (by kernel_rfl) (by rfl) ?_
    rintro v w₁ ⟨t, r, rfl, ht, d₁, rfl⟩
    walk_nrm
    exact hr _ _ (nt_0_5 B j n thr mo cl ag oa on oc n0 xs u w H t r ht d₁)

set_option maxHeartbeats 8000000 in
set_option maxRecDepth 100000 in
theorem nt_1 (B j n : Nat) (thr mo cl ag : Value) (oa : Option Addr) (on oc n0 : Nat) (xs : List Value) (u : Nat → Value) (w : World) (H : NT V B oa on oc n0 xs w) (d : Nat) :
    AnyW Try.prog main V Stop (base 53) k cs ops53 .any (fun a' w'' => ∃ t r g cap w' u', TR w t r ∧ NT7 B oa on oc n0 xs w t r g cap w' ∧ a' = ⟨nt53 B j n thr mo cl ag u', []⟩ ∧ ∃ d, w'' = (w'.setCell ⟨B, 0, none⟩ (.slice (some ⟨g, 0, none⟩) (on + 1) cap)).at d) 10 #[false, true, false, false, false, false, false, false, false, false, false] ⟨#[thr, mo, undef, undef, .pointer none, .pointer (some ⟨B, 0, none⟩), thr, .int .i64 n, mo, cl, ag, .pointer (some ⟨B, 0, none⟩), thr, .int .i64 n, .int .i64 j, .bool true, u 16, .pointer (some ⟨B, 0, none⟩), u 18, u 19, u 20, u 21, u 22, u 23, u 24, u 25, u 26, u 27], []⟩ ((w).at d) := by
  refine anyW_all (rs := [0, 2, 5]) (by first | kernel_rfl | decide +kernel) (by simp) (fun i hi => ?_)
  obtain rfl | rfl | rfl : i = 0 ∨ i = 2 ∨ i = 5 := by simpa using hi
  · intro rest hr
    refine Walk.back ?_ d
    simp only [ops53, body53, Try.f53] at hr ⊢
    (refine Walk.opq (ho_of (by conv => lhs; whnf) (by kernel_rfl)) (by rfl) (by decide) (fun dd e he => ?_) (fun dd K hK => ?_); (· (simp [go_sem, *] at he; try (subst he; exact evR_read _ _))); go_simp; refine hK _ ?_; clear hK K; try walk_nrm)
    exact hr _ _ (nt_0_1 B j n thr mo cl ag oa on oc n0 xs u w H (w).drawn)
  · intro rest hr
    refine Walk.back ?_ d
    simp only [ops53, body53, Try.f53] at hr ⊢
    (refine Walk.opq (ho_of (by conv => lhs; whnf) (by kernel_rfl)) (by rfl) (by decide) (fun dd e he => ?_) (fun dd K hK => ?_); (· (simp [go_sem, *] at he; try (subst he; exact evR_read _ _))); go_simp; refine hK _ ?_; clear hK K; try walk_nrm)
    exact hr _ _ (nt_1_2 B j n thr mo cl ag oa on oc n0 xs u w H (w).drawn)
  · intro rest hr
    refine Walk.back ?_ d
    simp only [ops53, body53, Try.f53] at hr ⊢
    refine Walk.callW (stand_new' _ w) rfl (by rfl) (by decide) rfl Try.func77 (by kernel_rfl) (by rfl) ?_
    rintro v w₁ ⟨t, r, rfl, ht, d₁, rfl⟩
    walk_nrm
    exact hr _ _ (nt_1_5 B j n thr mo cl ag oa on oc n0 xs u w H t r ht d₁)

set_option maxHeartbeats 8000000 in
set_option maxRecDepth 100000 in
theorem nt_5 (B j n : Nat) (thr mo cl ag : Value) (oa : Option Addr) (on oc n0 : Nat) (xs : List Value) (u : Nat → Value) (w : World) (H : NT V B oa on oc n0 xs w) (t r : Nat) (ht : TR w t r) (d : Nat) :
    AnyW Try.prog main V Stop (base 53) k cs ops53 .any (fun a' w'' => ∃ t r g cap w' u', TR w t r ∧ NT7 B oa on oc n0 xs w t r g cap w' ∧ a' = ⟨nt53 B j n thr mo cl ag u', []⟩ ∧ ∃ d, w'' = (w'.setCell ⟨B, 0, none⟩ (.slice (some ⟨g, 0, none⟩) (on + 1) cap)).at d) 10 #[false, false, false, false, false, true, false, false, false, false, false] ⟨#[thr, mo, undef, undef, .pointer none, .pointer (some ⟨B, 0, none⟩), thr, .int .i64 n, mo, cl, ag, .pointer (some ⟨B, 0, none⟩), thr, .int .i64 n, .int .i64 j, .bool true, u 16, u 17, u 18, u 19, u 20, .pointer (some ⟨w.heap.size + 2, 0, none⟩), u 22, u 23, u 24, u 25, u 26, u 27], []⟩ ((standW w t r).at d) := by
  refine anyW_all (rs := [0, 1, 6]) (by first | kernel_rfl | decide +kernel) (by simp) (fun i hi => ?_)
  obtain rfl | rfl | rfl : i = 0 ∨ i = 1 ∨ i = 6 := by simpa using hi
  · intro rest hr
    refine Walk.back ?_ d
    simp only [ops53, body53, Try.f53] at hr ⊢
    (refine Walk.opq (ho_of (by conv => lhs; whnf) (by kernel_rfl)) (by rfl) (by decide) (fun dd e he => ?_) (fun dd K hK => ?_); (· (simp [go_sem, *] at he; try (subst he; exact evR_read _ _))); go_simp; refine hK _ ?_; clear hK K; try walk_nrm)
    exact hr _ _ (nt_0_5 B j n thr mo cl ag oa on oc n0 xs u w H t r ht (standW w t r).drawn)
  · intro rest hr
    refine Walk.back ?_ d
    simp only [ops53, body53, Try.f53] at hr ⊢
    (refine Walk.opq (ho_of (by conv => lhs; whnf) (by kernel_rfl)) (by rfl) (by decide) (fun dd e he => ?_) (fun dd K hK => ?_); (· (simp [go_sem, *] at he; try (subst he; exact evR_read _ _))); go_simp; refine hK _ ?_; clear hK K; try walk_nrm)
    exact hr _ _ (nt_1_5 B j n thr mo cl ag oa on oc n0 xs u w H t r ht (standW w t r).drawn)
  · intro rest hr
    refine Walk.back ?_ d
    simp only [ops53, body53, Try.f53] at hr ⊢
    have hsz := standW_size w t r
    (co_applyP Walk.opw (ho_of (by conv => lhs; whnf) (by kernel_rfl)) (by rfl) (by decide) ?wev10 ?wdr10 ?wrun10; (case' wrun10 => (intro dd K hK; go_simp; simp only [alloc_at', setCell_at']; refine hK _ ?wmore10; clear hK K)); (case wdr10 => exact fun dd es hes => DR.alloc' dd es hes); (case wev10 => (intro dd e he; simp [go_sem, *] at he)); try walk_nrm)
    try simp only [hsz]
    exact hr _ _ (nt_5_6 B j n thr mo cl ag oa on oc n0 xs u w H t r ht (newW w t r).drawn)

set_option maxHeartbeats 8000000 in
set_option maxRecDepth 100000 in
theorem nt_x (B j n : Nat) (thr mo cl ag : Value) (oa : Option Addr) (on oc n0 : Nat) (xs : List Value) (u : Nat → Value) (w : World) (H : NT V B oa on oc n0 xs w) (d : Nat) :
    AnyW Try.prog main V Stop (base 53) k cs ops53 .any (fun a' w'' => ∃ t r g cap w' u', TR w t r ∧ NT7 B oa on oc n0 xs w t r g cap w' ∧ a' = ⟨nt53 B j n thr mo cl ag u', []⟩ ∧ ∃ d, w'' = (w'.setCell ⟨B, 0, none⟩ (.slice (some ⟨g, 0, none⟩) (on + 1) cap)).at d) 11 #[false, false, false, false, false, false, false, false, false, false, false] ⟨#[thr, mo, undef, undef, .pointer none, .pointer (some ⟨B, 0, none⟩), thr, .int .i64 n, mo, cl, ag, .pointer (some ⟨B, 0, none⟩), thr, .int .i64 n, .int .i64 j, .bool true, u 16, u 17, u 18, u 19, u 20, u 21, u 22, u 23, u 24, u 25, u 26, u 27], []⟩ ((w).at d) := by
  refine anyW_all (rs := [0, 1, 5]) (by first | kernel_rfl | decide +kernel) (by simp) (fun i hi => ?_)
  obtain rfl | rfl | rfl : i = 0 ∨ i = 1 ∨ i = 5 := by simpa using hi
  · intro rest hr
    refine Walk.back ?_ d
    simp only [ops53, body53, Try.f53] at hr ⊢
    (refine Walk.opq (ho_of (by conv => lhs; whnf) (by kernel_rfl)) (by rfl) (by decide) (fun dd e he => ?_) (fun dd K hK => ?_); (· (simp [go_sem, *] at he; try (subst he; exact evR_read _ _))); go_simp; refine hK _ ?_; clear hK K; try walk_nrm)
    exact hr _ _ (nt_0 B j n thr mo cl ag oa on oc n0 xs u w H (w).drawn)
  · intro rest hr
    refine Walk.back ?_ d
    simp only [ops53, body53, Try.f53] at hr ⊢
    (refine Walk.opq (ho_of (by conv => lhs; whnf) (by kernel_rfl)) (by rfl) (by decide) (fun dd e he => ?_) (fun dd K hK => ?_); (· (simp [go_sem, *] at he; try (subst he; exact evR_read _ _))); go_simp; refine hK _ ?_; clear hK K; try walk_nrm)
    exact hr _ _ (nt_1 B j n thr mo cl ag oa on oc n0 xs u w H (w).drawn)
  · intro rest hr
    refine Walk.back ?_ d
    simp only [ops53, body53, Try.f53] at hr ⊢
    refine Walk.callW (stand_new' _ w) rfl (by rfl) (by decide) rfl Try.func77 (by kernel_rfl) (by rfl) ?_
    rintro v w₁ ⟨t, r, rfl, ht, d₁, rfl⟩
    walk_nrm
    exact hr _ _ (nt_5 B j n thr mo cl ag oa on oc n0 xs u w H t r ht d₁)
end Go.Proofs.Ytgiiicdpbdfemaa
end

/- Package turn's newTurnstile, in company: its loop. -/
section
namespace Go.Proofs.Ytgiiicdpbdfemaa
open Go.Conc Go.RowKit Go.Relay

variable {main : Bool} {V : Nat → Option Wait}

noncomputable def rest53 : Code := match Try.f53.body with | some (.seq _ (.seq _ (.seq _ c))) => c | _ => .skip
/-- The head of newTurnstile's loop. -/
noncomputable def hd53 (B j n tcap : Nat) (ta : Option Addr) (most : Int) (u : Nat → Value) : Frame :=
  (base 53).at { tmps := #[.slice ta n tcap, .int .i64 most, undef, undef, .pointer none, .pointer (some ⟨B, 0, none⟩), .slice ta n tcap, .int .i64 n, .int .i64 most, .int .i64 (min (max most 0) 1048576), .agg #[.slice none 0 0, .int .i64 n, .int .i64 (min (max most 0) 1048576), .slice none 0 0], .pointer (some ⟨B, 0, none⟩), .slice ta n tcap, .int .i64 n, .int .i64 j, u 15, u 16, u 17, u 18, u 19, u 20, u 21, u 22, u 23, u 24, u 25, u 26, u 27], defers := [] } [.code body53, .inLoop body53, .inBlock 0, .code rest53]
/-- The world behind the turnstile's own allocation. -/
noncomputable def turnW (w : World) (n : Nat) (most : Int) : World := w.alloc (.cells #[.slice none 0 0, .int .i64 n, .int .i64 (min (max most 0) 1048576), .slice none 0 0] 123)

set_option maxHeartbeats 8000000 in
set_option maxRecDepth 100000 in
theorem nt_in (n tcap : Nat) (ta : Option Addr) (most : Int) (cs : List Frame) (w : World) :
    Walk Try.prog main (DR V) (fun g w' => g = G (hd53 w.heap.size 0 n tcap ta most (fun _ => undef)) cs ∧ ∃ d, w' = (turnW w n most).at d) (G (Frame.enter Try.prog 53 #[.slice ta n tcap, .int .i64 most] .normal) cs) w := by
  rw [enter_at _ Try.func53 rfl]
  simp only [Try.f53, List.size_toArray, List.length_cons, List.length_nil, Nat.reduceAdd, Nat.reduceSub, Array.replicate_succ, Array.replicate_zero, List.push_toArray, List.append_toArray, List.nil_append, List.cons_append]
  repeat (first | (refine Walk.c rfl ?_) | (refine Walk.cReg ?_; simp only [List.size_toArray, List.length_cons, List.length_nil, Nat.reduceAdd, Nat.zero_add, List.range, List.range.loop]) | (refine Walk.cRet ?_) | (refine Walk.cEnd ?_) | (refine Walk.opq (ho_of (by conv => lhs; whnf) (by kernel_rfl)) (by rfl) (by decide) (fun dd e he => ?_) (fun dd K hK => ?_); (· (simp [go_sem, *] at he; try (subst he; exact evR_read _ _))); go_simp; refine hK _ ?_; clear hK K; try walk_nrm) | (refine Walk.ctl rfl (fun w => stepG_unwanted (ho_of (by conv => lhs; whnf) (by kernel_rfl)) (by rfl)) ?_; walk_nrm))
  refine Walk.callV (x := .int .i64 (min (max most 0) 1048576)) (W := w) ?_ rfl (by rfl) (by decide) rfl Try.func62 (by kernel_rfl) (by rfl) ?_
  · walk_nrm
    exact clampMost_w most w
  walk_nrm
  repeat (first | (refine Walk.c rfl ?_) | (refine Walk.cReg ?_; simp only [List.size_toArray, List.length_cons, List.length_nil, Nat.reduceAdd, Nat.zero_add, List.range, List.range.loop]) | (refine Walk.cRet ?_) | (refine Walk.cEnd ?_) | (refine Walk.opq (ho_of (by conv => lhs; whnf) (by kernel_rfl)) (by rfl) (by decide) (fun dd e he => ?_) (fun dd K hK => ?_); (· (simp [go_sem, *] at he; try (subst he; exact evR_read _ _))); go_simp; refine hK _ ?_; clear hK K; try walk_nrm) | (refine Walk.ctl rfl (fun w => stepG_unwanted (ho_of (by conv => lhs; whnf) (by kernel_rfl)) (by rfl)) ?_; walk_nrm))
  (co_applyP Walk.opw (ho_of (by conv => lhs; whnf) (by kernel_rfl)) (by rfl) (by decide) ?wev1 ?wdr1 ?wrun1; (case' wrun1 => (intro dd K hK; go_simp; simp only [alloc_at', setCell_at']; refine hK _ ?wmore1; clear hK K)); (case wdr1 => exact fun dd es hes => DR.alloc' dd es hes); (case wev1 => (intro dd e he; simp [go_sem, *] at he)); try walk_nrm)
  repeat (first | (refine Walk.c rfl ?_) | (refine Walk.cReg ?_; simp only [List.size_toArray, List.length_cons, List.length_nil, Nat.reduceAdd, Nat.zero_add, List.range, List.range.loop]) | (refine Walk.cRet ?_) | (refine Walk.cEnd ?_) | (refine Walk.opq (ho_of (by conv => lhs; whnf) (by kernel_rfl)) (by rfl) (by decide) (fun dd e he => ?_) (fun dd K hK => ?_); (· (simp [go_sem, *] at he; try (subst he; exact evR_read _ _))); go_simp; refine hK _ ?_; clear hK K; try walk_nrm) | (refine Walk.ctl rfl (fun w => stepG_unwanted (ho_of (by conv => lhs; whnf) (by kernel_rfl)) (by rfl)) ?_; walk_nrm))
  refine Walk.ctl rfl (fun w => stepG_loop) ?_
  refine .stop fun d => ⟨?_, d, rfl⟩
  simp only [hd53, body53, rest53, Try.f53]
  rfl

set_option maxHeartbeats 8000000 in
set_option maxRecDepth 100000 in
theorem nt_go (B j n tcap : Nat) (ta : Option Addr) (most : Int) (oa : Option Addr) (on oc n0 : Nat) (xs : List Value) (u : Nat → Value) (cs : List Frame) (w : World) (hj : j < n) (hn : n ≤ 64) (H : NT V B oa on oc n0 xs w) :
    Walk Try.prog main (DR V) (fun g w'' => ∃ t r g' cap w' u', TR w t r ∧ NT7 B oa on oc n0 xs w t r g' cap w' ∧ g = G (hd53 B (j + 1) n tcap ta most u') cs ∧ ∃ d, w'' = (w'.setCell ⟨B, 0, none⟩ (.slice (some ⟨g', 0, none⟩) (on + 1) cap)).at d) (G (hd53 B j n tcap ta most u) cs) w := by
  unfold hd53
  simp only [body53, rest53, Try.f53]
  have hi1 : decide ((j : Int) < n) = true := by simp; omega
  have hi3 : decide (j < n) = true := by simp; omega
  have hw1 : IntKind.wrap .i64 ((j : Int) + 1) = (j : Int) + 1 := by rw [IntKind.wrap_i64]; omega
  repeat (first | (refine Walk.c rfl ?_) | (refine Walk.cReg ?_; simp only [List.size_toArray, List.length_cons, List.length_nil, Nat.reduceAdd, Nat.zero_add, List.range, List.range.loop]) | (refine Walk.cRet ?_) | (refine Walk.cEnd ?_) | (refine Walk.opq (ho_of (by conv => lhs; whnf) (by kernel_rfl)) (by rfl) (by decide) (fun dd e he => ?_) (fun dd K hK => ?_); (· (simp [go_sem, *] at he; try (subst he; exact evR_read _ _))); go_simp; refine hK _ ?_; clear hK K; try walk_nrm) | (refine Walk.ctl rfl (fun w => stepG_unwanted (ho_of (by conv => lhs; whnf) (by kernel_rfl)) (by rfl)) ?_; walk_nrm))
  refine Walk.drawnW (by kernel_rfl) (fun d => nt_x B j n (.slice ta n tcap) (.int .i64 most) (.int .i64 (min (max most 0) 1048576)) (.agg #[.slice none 0 0, .int .i64 n, .int .i64 (min (max most 0) 1048576), .slice none 0 0]) oa on oc n0 xs u w H d) ?_
  rintro a' w'' ⟨t, r, g, cap, w', u', ht, h7, rfl, d, rfl⟩
  refine Walk.back ?_ d
  simp only [nt53]
  repeat (first | (refine Walk.c rfl ?_) | (refine Walk.cReg ?_; simp only [List.size_toArray, List.length_cons, List.length_nil, Nat.reduceAdd, Nat.zero_add, List.range, List.range.loop]) | (refine Walk.cRet ?_) | (refine Walk.cEnd ?_) | (refine Walk.opq (ho_of (by conv => lhs; whnf) (by kernel_rfl)) (by rfl) (by decide) (fun dd e he => ?_) (fun dd K hK => ?_); (· (simp [go_sem, *] at he; try (subst he; exact evR_read _ _))); go_simp; refine hK _ ?_; clear hK K; try walk_nrm) | (refine Walk.ctl rfl (fun w => stepG_unwanted (ho_of (by conv => lhs; whnf) (by kernel_rfl)) (by rfl)) ?_; walk_nrm))
  refine Walk.ctl rfl (fun w => stepG_inLoop) ?_
  refine .stop fun d' => ⟨t, r, g, cap, w', fun k => ([.slice ta n tcap, .int .i64 most, undef, undef, .pointer none, .pointer (some ⟨B, 0, none⟩), .slice ta n tcap, .int .i64 n, .int .i64 most, .int .i64 (min (max most 0) 1048576), .agg #[.slice none 0 0, .int .i64 n, .int .i64 (min (max most 0) 1048576), .slice none 0 0], .pointer (some ⟨B, 0, none⟩), .slice ta n tcap, .int .i64 n, .int .i64 ((j : Int) + 1), .bool true, u' 16, u' 17, u' 18, u' 19, u' 20, u' 21, u' 22, u' 23, u' 24, u' 25, .int .i64 ((j : Int) + 1), u' 27] : List Value).getD k undef, ht, h7, ?_, d', rfl⟩
  have hc : ((j + 1 : Nat) : Int) = (j : Int) + 1 := by simp
  simp only [hd53, body53, rest53, Try.f53, hc]
  rfl

set_option maxHeartbeats 8000000 in
set_option maxRecDepth 100000 in
theorem nt_out (B n tcap : Nat) (ta : Option Addr) (most : Int) (u : Nat → Value) (c : Frame) (cs : List Frame) (w : World) :
    Walk Try.prog main (DR V) (fun g w' => g = G (c.finish (.pointer (some ⟨B, 0, none⟩))) cs ∧ ∃ d, w' = w.at d) (G (hd53 B n n tcap ta most u) (c :: cs)) w := by
  unfold hd53
  simp only [body53, rest53, Try.f53]
  have hi1 : decide ((n : Int) < n) = false := by simp
  have hi3 : decide (n < n) = false := by simp
  repeat (first | (refine Walk.c rfl ?_) | (refine Walk.cReg ?_; simp only [List.size_toArray, List.length_cons, List.length_nil, Nat.reduceAdd, Nat.zero_add, List.range, List.range.loop]) | (refine Walk.cRet ?_) | (refine Walk.cEnd ?_) | (refine Walk.opq (ho_of (by conv => lhs; whnf) (by kernel_rfl)) (by rfl) (by decide) (fun dd e he => ?_) (fun dd K hK => ?_); (· (simp [go_sem, *] at he; try (subst he; exact evR_read _ _))); go_simp; refine hK _ ?_; clear hK K; try walk_nrm) | (refine Walk.ctl rfl (fun w => stepG_unwanted (ho_of (by conv => lhs; whnf) (by kernel_rfl)) (by rfl)) ?_; walk_nrm))
  exact (Walk.ret1 (Post := fun v w' => v = .pointer (some ⟨B, 0, none⟩) ∧ ∃ d, w' = w.at d) rfl rfl Try.func53 rfl fun d => ⟨by simp, d, rfl⟩).mono fun g w' ⟨v, ⟨e, d, e'⟩, hg⟩ => ⟨by rw [hg, e], d, e'⟩
end Go.Proofs.Ytgiiicdpbdfemaa
end
