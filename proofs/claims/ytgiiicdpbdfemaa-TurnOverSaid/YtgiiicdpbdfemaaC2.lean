/- Part 2. -/
import Derived.Test.YtgiiicdpbdfemaaC1
import Derived.Lib.MinMax
import Derived.Test.YtgiiicdpbdfemaaProg
import Derived.KernelRfl
import Derived.Handy
import Derived.Conc.DeferLaws
import Derived.Conc.AppendWalk
import Derived.Conc.AppendEvents2
import Derived.Deep.AppendLies
import Derived.Conc.SmallLaws
import Derived.Laws.Tables
import Derived.Laws.Cells
import Derived.Conc.AppendEvents
import Derived.Conc.TokenWalk
set_option linter.unusedSimpArgs false
/- Small laws on what operations list (min, max of two integers: nothing). -/
section
namespace Go.Relay
open Go.Conc Go.RowKit
section
variable {P : Program} (w : World)
theorem events_max_ints (ts : Array TypeId) (t : TypeId) (k k' : IntKind) (x y : Int) (es : Array Event) : (Builtin.max_ ts t #[.int k x, .int k' y]).events P w es = es := by
  simp [Builtin.max_, Builtin.max2]
theorem events_min_ints (ts : Array TypeId) (t : TypeId) (k k' : IntKind) (x y : Int) (es : Array Event) : (Builtin.min_ ts t #[.int k x, .int k' y]).events P w es = es := by
  simp [Builtin.min_, Builtin.min2]
theorem ev_store_bool (P : Program) (es : Array Event) (a : Addr) (x : Bool) (m : Mode) : (store a (.bool x) m).events P w es = storedEv P w es a (.bool x) m := events_store P w es a _ m rfl
theorem ev_store_int (P : Program) (es : Array Event) (a : Addr) (k : IntKind) (x : Int) (m : Mode) : (store a (.int k x) m).events P w es = storedEv P w es a (.int k x) m := events_store P w es a _ m rfl
theorem ev_store_slice (P : Program) (es : Array Event) (a : Addr) (b : Option Addr) (n c : Nat) (m : Mode) : (store a (.slice b n c) m).events P w es = storedEv P w es a (.slice b n c) m := events_store P w es a _ m rfl
theorem ev_store_pointer (P : Program) (es : Array Event) (a : Addr) (b : Option Addr) (m : Mode) : (store a (.pointer b) m).events P w es = storedEv P w es a (.pointer b) m := events_store P w es a _ m rfl
theorem cell_lt {a : Addr} {v : Value} (h : w.cell? a = some v) : a.block < w.heap.size := by
  unfold World.cell? at h
  split at h
  · rename_i h'; exact (Array.getElem?_eq_some_iff.1 h').1
  · cases h
theorem cell_alloc {a : Addr} {v : Value} (o : Obj) (h : w.cell? a = some v) : (w.alloc o).cell? a = some v := (World.cell?_alloc_lt _ _ _ (cell_lt w h)).trans h
theorem frozen_alloc {a : Addr} {v : Value} {x : Bool} (o : Obj) (h : w.cell? a = some v) (hz : w.frozen? a = x) : (w.alloc o).frozen? a = x := by
  have hlt := cell_lt w h
  rw [← hz]
  unfold World.frozen?
  rw [Below.heap_alloc _ _ _ hlt]
end
end Go.Relay
end

/- Package turn's smaller functions, in company: clampMost. -/
section
namespace Go.Proofs.Ytgiiicdpbdfemaa
open Go.Conc Go.RowKit Go.Relay

variable {main : Bool} {V : Nat → Option Wait}

set_option maxHeartbeats 4000000 in
set_option maxRecDepth 100000 in
theorem clampMost_w (m : Int) (w : World) : CallV Try.prog main V 62 #[.int .i64 m] w (.int .i64 (min (max m 0) 1048576)) w := by
  refine callW_in Try.func62 rfl fun fr cs => ?_
  simp only [Try.ntmps62, List.size_toArray, List.length_cons, List.length_nil, Nat.reduceAdd, Nat.reduceSub, Array.replicate_succ, Array.replicate_zero, List.push_toArray, List.append_toArray, List.nil_append, List.cons_append]
  have hmx := @events_max_ints Try.prog
  have hmn := @events_min_ints Try.prog
  repeat (first | (refine Walk.c rfl ?_) | (refine Walk.cReg ?_; simp only [List.size_toArray, List.length_cons, List.length_nil, Nat.reduceAdd, Nat.zero_add, List.range, List.range.loop]) | (refine Walk.cRet ?_) | (refine Walk.cEnd ?_) | (refine Walk.opq (ho_of (by conv => lhs; whnf) (by kernel_rfl)) (by rfl) (by decide) (fun dd e he => ?_) (fun dd K hK => ?_); (· (simp [go_sem, *] at he; try (subst he; exact evR_read _ _))); go_simp; refine hK _ ?_; clear hK K; try walk_nrm) | (refine Walk.ctl rfl (fun w => stepG_unwanted (ho_of (by conv => lhs; whnf) (by kernel_rfl)) (by rfl)) ?_; walk_nrm))
  exact Walk.ret1 rfl rfl Try.func62 rfl fun d => ⟨by simp, d, rfl⟩

set_option maxHeartbeats 4000000 in
set_option maxRecDepth 100000 in
theorem over_w (B : Nat) (going most : Int) (sa : Option Addr) (n cap : Nat) (w : World) (h1 : w.cell? ⟨B, 1, none⟩ = some (.int .i64 going)) (h2 : w.cell? ⟨B, 2, none⟩ = some (.int .i64 most)) (h3 : w.cell? ⟨B, 3, none⟩ = some (.slice sa n cap)) :
    CallV Try.prog main V 80 #[.pointer (some ⟨B, 0, none⟩)] w (.bool (decide (going = 0) || decide (most ≤ n))) w := by
  refine callW_in Try.func80 rfl fun fr cs => ?_
  simp only [Try.ntmps80, List.size_toArray, List.length_cons, List.length_nil, Nat.reduceAdd, Nat.reduceSub, Array.replicate_succ, Array.replicate_zero, List.push_toArray, List.append_toArray, List.nil_append, List.cons_append]
  repeat (first | (refine Walk.c rfl ?_) | (refine Walk.cReg ?_; simp only [List.size_toArray, List.length_cons, List.length_nil, Nat.reduceAdd, Nat.zero_add, List.range, List.range.loop]) | (refine Walk.cRet ?_) | (refine Walk.cEnd ?_) | (refine Walk.opq (ho_of (by conv => lhs; whnf) (by kernel_rfl)) (by rfl) (by decide) (fun dd e he => ?_) (fun dd K hK => ?_); (· (simp [go_sem, *] at he; try (subst he; exact evR_read _ _))); go_simp; refine hK _ ?_; clear hK K; try walk_nrm) | (refine Walk.ctl rfl (fun w => stepG_unwanted (ho_of (by conv => lhs; whnf) (by kernel_rfl)) (by rfl)) ?_; walk_nrm))
  let S : World → Prop := fun w' => ∃ d, w' = w.at d
  have hrl : ∀ w₁ w₂, S w₁ → AtRel w₁ w₂ → S w₂ := by
    rintro _ _ ⟨d, rfl⟩ ⟨d', rfl⟩; exact ⟨d', rfl⟩
  have hF : S w := ⟨w.drawn, rfl⟩
  refine Walk.held S hrl hF (by kernel_rfl) (by decide) (Q := fun a' => a'.tmps.getD 2 undef = .bool (decide (going = 0) || decide (most ≤ n)) ∧ a'.defers = []) (fun w₁ hF => ?_) ?_
  · simp only [List.size_toArray, List.length_cons, List.length_nil, Nat.reduceAdd, Nat.zero_add]
    by_cases hg : going = 0
    · (co_applyP anyCH_take termsR (fun _ _ h r => hrl _ _ h r) (fun _ _ _ h r => ⟨h.1, hrl _ _ h.2.1 r, h.2.2⟩) (i := 0) rfl (by first | kernel_rfl | decide +kernel) (by first | kernel_rfl | decide +kernel) (by first | kernel_rfl | decide +kernel) (.inl ⟨by rfl, fun _ hw => ⟨run_eq_of ?run1, ?guar1⟩⟩) hF ?rest1; (case run1 => (intro K hK; obtain ⟨dx, hdx⟩ := hw; subst hdx; go_simp; exact hK)); (case guar1 => (obtain ⟨dx, hdx⟩ := hw; subst hdx; refine DR.quiet (fun e he => ?_); have hm := mem_listed he; simp [go_sem, *] at hm; try (subst hm; exact evR_read _ _))); try walk_nrm)
      (co_applyP anyCH_take termsR (fun _ _ h r => hrl _ _ h r) (fun _ _ _ h r => ⟨h.1, hrl _ _ h.2.1 r, h.2.2⟩) (i := 1) rfl (by first | kernel_rfl | decide +kernel) (by first | kernel_rfl | decide +kernel) (by first | kernel_rfl | decide +kernel) (.inl ⟨by rfl, fun _ hw => ⟨run_eq_of ?run2, ?guar2⟩⟩) hF ?rest2; (case run2 => (intro K hK; obtain ⟨dx, hdx⟩ := hw; subst hdx; go_simp; exact hK)); (case guar2 => (obtain ⟨dx, hdx⟩ := hw; subst hdx; refine DR.quiet (fun e he => ?_); have hm := mem_listed he; simp [go_sem, *] at hm; try (subst hm; exact evR_read _ _))); try walk_nrm)
      (co_applyP anyCH_take termsR (fun _ _ h r => hrl _ _ h r) (fun _ _ _ h r => ⟨h.1, hrl _ _ h.2.1 r, h.2.2⟩) (i := 2) rfl (by first | kernel_rfl | decide +kernel) (by first | kernel_rfl | decide +kernel) (by first | kernel_rfl | decide +kernel) (.inl ⟨by rfl, fun _ hw => ⟨run_eq_of ?run3, ?guar3⟩⟩) hF ?rest3; (case run3 => (intro K hK; obtain ⟨dx, hdx⟩ := hw; subst hdx; go_simp; exact hK)); (case guar3 => (obtain ⟨dx, hdx⟩ := hw; subst hdx; refine DR.quiet (fun e he => ?_); have hm := mem_listed he; simp [go_sem, *] at hm; try (subst hm; exact evR_read _ _))); try walk_nrm)
      (co_applyP anyCH_take termsR (fun _ _ h r => hrl _ _ h r) (fun _ _ _ h r => ⟨h.1, hrl _ _ h.2.1 r, h.2.2⟩) (i := 3) rfl (by first | kernel_rfl | decide +kernel) (by first | kernel_rfl | decide +kernel) (by first | kernel_rfl | decide +kernel) (.inl ⟨by rfl, fun _ hw => ⟨run_eq_of ?run4, ?guar4⟩⟩) hF ?rest4; (case run4 => (intro K hK; obtain ⟨dx, hdx⟩ := hw; subst hdx; go_simp; exact hK)); (case guar4 => (obtain ⟨dx, hdx⟩ := hw; subst hdx; refine DR.quiet (fun e he => ?_); have hm := mem_listed he; simp [go_sem, *] at hm; try (subst hm; exact evR_read _ _))); try walk_nrm)
      (co_applyP anyCH_take termsR (fun _ _ h r => hrl _ _ h r) (fun _ _ _ h r => ⟨h.1, hrl _ _ h.2.1 r, h.2.2⟩) (i := 4) rfl (by first | kernel_rfl | decide +kernel) (by first | kernel_rfl | decide +kernel) (by first | kernel_rfl | decide +kernel) (.inl ⟨by rfl, fun _ hw => ⟨run_eq_of ?run5, ?guar5⟩⟩) hF ?rest5; (case run5 => (intro K hK; obtain ⟨dx, hdx⟩ := hw; subst hdx; go_simp; exact hK)); (case guar5 => (obtain ⟨dx, hdx⟩ := hw; subst hdx; refine DR.quiet (fun e he => ?_); have hm := mem_listed he; simp [go_sem, *] at hm; try (subst hm; exact evR_read _ _))); try walk_nrm)
      (co_applyP anyCH_take termsR (fun _ _ h r => hrl _ _ h r) (fun _ _ _ h r => ⟨h.1, hrl _ _ h.2.1 r, h.2.2⟩) (i := 5) rfl (by first | kernel_rfl | decide +kernel) (by first | kernel_rfl | decide +kernel) (by first | kernel_rfl | decide +kernel) (.inl ⟨by rfl, fun _ hw => ⟨run_eq_of ?run6, ?guar6⟩⟩) hF ?rest6; (case run6 => (intro K hK; obtain ⟨dx, hdx⟩ := hw; subst hdx; go_simp; exact hK)); (case guar6 => (obtain ⟨dx, hdx⟩ := hw; subst hdx; refine DR.quiet (fun e he => ?_); have hm := mem_listed he; simp [go_sem, *] at hm; try (subst hm; exact evR_read _ _))); try walk_nrm)
      (co_applyP anyCH_take termsR (fun _ _ h r => hrl _ _ h r) (fun _ _ _ h r => ⟨h.1, hrl _ _ h.2.1 r, h.2.2⟩) (i := 6) rfl (by first | kernel_rfl | decide +kernel) (by first | kernel_rfl | decide +kernel) (by first | kernel_rfl | decide +kernel) (.inr ⟨by rfl, rfl⟩) hF ?rest27; try walk_nrm)
      (co_applyP anyCH_take termsR (fun _ _ h r => hrl _ _ h r) (fun _ _ _ h r => ⟨h.1, hrl _ _ h.2.1 r, h.2.2⟩) (i := 7) rfl (by first | kernel_rfl | decide +kernel) (by first | kernel_rfl | decide +kernel) (by first | kernel_rfl | decide +kernel) (.inr ⟨by rfl, rfl⟩) hF ?rest28; try walk_nrm)
      (co_applyP anyCH_take termsR (fun _ _ h r => hrl _ _ h r) (fun _ _ _ h r => ⟨h.1, hrl _ _ h.2.1 r, h.2.2⟩) (i := 8) rfl (by first | kernel_rfl | decide +kernel) (by first | kernel_rfl | decide +kernel) (by first | kernel_rfl | decide +kernel) (.inr ⟨by rfl, rfl⟩) hF ?rest29; try walk_nrm)
      (co_applyP anyCH_take termsR (fun _ _ h r => hrl _ _ h r) (fun _ _ _ h r => ⟨h.1, hrl _ _ h.2.1 r, h.2.2⟩) (i := 9) rfl (by first | kernel_rfl | decide +kernel) (by first | kernel_rfl | decide +kernel) (by first | kernel_rfl | decide +kernel) (.inr ⟨by rfl, rfl⟩) hF ?rest30; try walk_nrm)
      (co_applyP anyCH_take termsR (fun _ _ h r => hrl _ _ h r) (fun _ _ _ h r => ⟨h.1, hrl _ _ h.2.1 r, h.2.2⟩) (i := 10) rfl (by first | kernel_rfl | decide +kernel) (by first | kernel_rfl | decide +kernel) (by first | kernel_rfl | decide +kernel) (.inr ⟨by rfl, rfl⟩) hF ?rest31; try walk_nrm)
      (co_applyP anyCH_take termsR (fun _ _ h r => hrl _ _ h r) (fun _ _ _ h r => ⟨h.1, hrl _ _ h.2.1 r, h.2.2⟩) (i := 11) rfl (by first | kernel_rfl | decide +kernel) (by first | kernel_rfl | decide +kernel) (by first | kernel_rfl | decide +kernel) (.inr ⟨by rfl, rfl⟩) hF ?rest32; try walk_nrm)
      (co_applyP anyCH_take termsR (fun _ _ h r => hrl _ _ h r) (fun _ _ _ h r => ⟨h.1, hrl _ _ h.2.1 r, h.2.2⟩) (i := 12) rfl (by first | kernel_rfl | decide +kernel) (by first | kernel_rfl | decide +kernel) (by first | kernel_rfl | decide +kernel) (.inr ⟨by rfl, rfl⟩) hF ?rest33; try walk_nrm)
      (co_applyP anyCH_take termsR (fun _ _ h r => hrl _ _ h r) (fun _ _ _ h r => ⟨h.1, hrl _ _ h.2.1 r, h.2.2⟩) (i := 13) rfl (by first | kernel_rfl | decide +kernel) (by first | kernel_rfl | decide +kernel) (by first | kernel_rfl | decide +kernel) (.inr ⟨by rfl, rfl⟩) hF ?rest34; try walk_nrm)
      (co_applyP anyCH_take termsR (fun _ _ h r => hrl _ _ h r) (fun _ _ _ h r => ⟨h.1, hrl _ _ h.2.1 r, h.2.2⟩) (i := 14) rfl (by first | kernel_rfl | decide +kernel) (by first | kernel_rfl | decide +kernel) (by first | kernel_rfl | decide +kernel) (.inr ⟨by rfl, rfl⟩) hF ?rest35; try walk_nrm)
      (co_applyP anyCH_take termsR (fun _ _ h r => hrl _ _ h r) (fun _ _ _ h r => ⟨h.1, hrl _ _ h.2.1 r, h.2.2⟩) (i := 15) rfl (by first | kernel_rfl | decide +kernel) (by first | kernel_rfl | decide +kernel) (by first | kernel_rfl | decide +kernel) (.inr ⟨by rfl, rfl⟩) hF ?rest36; try walk_nrm)
      (co_applyP anyCH_take termsR (fun _ _ h r => hrl _ _ h r) (fun _ _ _ h r => ⟨h.1, hrl _ _ h.2.1 r, h.2.2⟩) (i := 16) rfl (by first | kernel_rfl | decide +kernel) (by first | kernel_rfl | decide +kernel) (by first | kernel_rfl | decide +kernel) (.inl ⟨by rfl, fun _ hw => ⟨run_eq_of ?run7, ?guar7⟩⟩) hF ?rest7; (case run7 => (intro K hK; obtain ⟨dx, hdx⟩ := hw; subst hdx; go_simp; exact hK)); (case guar7 => (obtain ⟨dx, hdx⟩ := hw; subst hdx; refine DR.quiet (fun e he => ?_); have hm := mem_listed he; simp [go_sem, *] at hm; try (subst hm; exact evR_read _ _))); try walk_nrm)
      (co_applyP anyCH_take termsR (fun _ _ h r => hrl _ _ h r) (fun _ _ _ h r => ⟨h.1, hrl _ _ h.2.1 r, h.2.2⟩) (i := 17) rfl (by first | kernel_rfl | decide +kernel) (by first | kernel_rfl | decide +kernel) (by first | kernel_rfl | decide +kernel) (.inl ⟨by rfl, fun _ hw => ⟨run_eq_of ?run8, ?guar8⟩⟩) hF ?rest8; (case run8 => (intro K hK; obtain ⟨dx, hdx⟩ := hw; subst hdx; go_simp; exact hK)); (case guar8 => (obtain ⟨dx, hdx⟩ := hw; subst hdx; refine DR.quiet (fun e he => ?_); have hm := mem_listed he; simp [go_sem, *] at hm; try (subst hm; exact evR_read _ _))); try walk_nrm)
      refine anyCH_done (by first | kernel_rfl | decide +kernel) ⟨rfl, hF, by simp [hg], rfl⟩ _
    · have hg1 : decide (going = 0) = false := by simpa using hg
      have hg2 : (going == 0) = false := by simpa using hg
      (co_applyP anyCH_take termsR (fun _ _ h r => hrl _ _ h r) (fun _ _ _ h r => ⟨h.1, hrl _ _ h.2.1 r, h.2.2⟩) (i := 0) rfl (by first | kernel_rfl | decide +kernel) (by first | kernel_rfl | decide +kernel) (by first | kernel_rfl | decide +kernel) (.inl ⟨by rfl, fun _ hw => ⟨run_eq_of ?run9, ?guar9⟩⟩) hF ?rest9; (case run9 => (intro K hK; obtain ⟨dx, hdx⟩ := hw; subst hdx; go_simp; exact hK)); (case guar9 => (obtain ⟨dx, hdx⟩ := hw; subst hdx; refine DR.quiet (fun e he => ?_); have hm := mem_listed he; simp [go_sem, *] at hm; try (subst hm; exact evR_read _ _))); try walk_nrm)
      (co_applyP anyCH_take termsR (fun _ _ h r => hrl _ _ h r) (fun _ _ _ h r => ⟨h.1, hrl _ _ h.2.1 r, h.2.2⟩) (i := 1) rfl (by first | kernel_rfl | decide +kernel) (by first | kernel_rfl | decide +kernel) (by first | kernel_rfl | decide +kernel) (.inl ⟨by rfl, fun _ hw => ⟨run_eq_of ?run10, ?guar10⟩⟩) hF ?rest10; (case run10 => (intro K hK; obtain ⟨dx, hdx⟩ := hw; subst hdx; go_simp; exact hK)); (case guar10 => (obtain ⟨dx, hdx⟩ := hw; subst hdx; refine DR.quiet (fun e he => ?_); have hm := mem_listed he; simp [go_sem, *] at hm; try (subst hm; exact evR_read _ _))); try walk_nrm)
      (co_applyP anyCH_take termsR (fun _ _ h r => hrl _ _ h r) (fun _ _ _ h r => ⟨h.1, hrl _ _ h.2.1 r, h.2.2⟩) (i := 2) rfl (by first | kernel_rfl | decide +kernel) (by first | kernel_rfl | decide +kernel) (by first | kernel_rfl | decide +kernel) (.inl ⟨by rfl, fun _ hw => ⟨run_eq_of ?run11, ?guar11⟩⟩) hF ?rest11; (case run11 => (intro K hK; obtain ⟨dx, hdx⟩ := hw; subst hdx; go_simp; exact hK)); (case guar11 => (obtain ⟨dx, hdx⟩ := hw; subst hdx; refine DR.quiet (fun e he => ?_); have hm := mem_listed he; simp [go_sem, *] at hm; try (subst hm; exact evR_read _ _))); try walk_nrm)
      (co_applyP anyCH_take termsR (fun _ _ h r => hrl _ _ h r) (fun _ _ _ h r => ⟨h.1, hrl _ _ h.2.1 r, h.2.2⟩) (i := 3) rfl (by first | kernel_rfl | decide +kernel) (by first | kernel_rfl | decide +kernel) (by first | kernel_rfl | decide +kernel) (.inl ⟨by rfl, fun _ hw => ⟨run_eq_of ?run12, ?guar12⟩⟩) hF ?rest12; (case run12 => (intro K hK; obtain ⟨dx, hdx⟩ := hw; subst hdx; go_simp; exact hK)); (case guar12 => (obtain ⟨dx, hdx⟩ := hw; subst hdx; refine DR.quiet (fun e he => ?_); have hm := mem_listed he; simp [go_sem, *] at hm; try (subst hm; exact evR_read _ _))); try walk_nrm)
      (co_applyP anyCH_take termsR (fun _ _ h r => hrl _ _ h r) (fun _ _ _ h r => ⟨h.1, hrl _ _ h.2.1 r, h.2.2⟩) (i := 4) rfl (by first | kernel_rfl | decide +kernel) (by first | kernel_rfl | decide +kernel) (by first | kernel_rfl | decide +kernel) (.inl ⟨by rfl, fun _ hw => ⟨run_eq_of ?run13, ?guar13⟩⟩) hF ?rest13; (case run13 => (intro K hK; obtain ⟨dx, hdx⟩ := hw; subst hdx; go_simp; exact hK)); (case guar13 => (obtain ⟨dx, hdx⟩ := hw; subst hdx; refine DR.quiet (fun e he => ?_); have hm := mem_listed he; simp [go_sem, *] at hm; try (subst hm; exact evR_read _ _))); try walk_nrm)
      (co_applyP anyCH_take termsR (fun _ _ h r => hrl _ _ h r) (fun _ _ _ h r => ⟨h.1, hrl _ _ h.2.1 r, h.2.2⟩) (i := 5) rfl (by first | kernel_rfl | decide +kernel) (by first | kernel_rfl | decide +kernel) (by first | kernel_rfl | decide +kernel) (.inl ⟨by rfl, fun _ hw => ⟨run_eq_of ?run14, ?guar14⟩⟩) hF ?rest14; (case run14 => (intro K hK; obtain ⟨dx, hdx⟩ := hw; subst hdx; go_simp; exact hK)); (case guar14 => (obtain ⟨dx, hdx⟩ := hw; subst hdx; refine DR.quiet (fun e he => ?_); have hm := mem_listed he; simp [go_sem, *] at hm; try (subst hm; exact evR_read _ _))); try walk_nrm)
      (co_applyP anyCH_take termsR (fun _ _ h r => hrl _ _ h r) (fun _ _ _ h r => ⟨h.1, hrl _ _ h.2.1 r, h.2.2⟩) (i := 6) rfl (by first | kernel_rfl | decide +kernel) (by first | kernel_rfl | decide +kernel) (by first | kernel_rfl | decide +kernel) (.inl ⟨by rfl, fun _ hw => ⟨run_eq_of ?run15, ?guar15⟩⟩) hF ?rest15; (case run15 => (intro K hK; obtain ⟨dx, hdx⟩ := hw; subst hdx; go_simp; exact hK)); (case guar15 => (obtain ⟨dx, hdx⟩ := hw; subst hdx; refine DR.quiet (fun e he => ?_); have hm := mem_listed he; simp [go_sem, *] at hm; try (subst hm; exact evR_read _ _))); try walk_nrm)
      (co_applyP anyCH_take termsR (fun _ _ h r => hrl _ _ h r) (fun _ _ _ h r => ⟨h.1, hrl _ _ h.2.1 r, h.2.2⟩) (i := 7) rfl (by first | kernel_rfl | decide +kernel) (by first | kernel_rfl | decide +kernel) (by first | kernel_rfl | decide +kernel) (.inl ⟨by rfl, fun _ hw => ⟨run_eq_of ?run16, ?guar16⟩⟩) hF ?rest16; (case run16 => (intro K hK; obtain ⟨dx, hdx⟩ := hw; subst hdx; go_simp; exact hK)); (case guar16 => (obtain ⟨dx, hdx⟩ := hw; subst hdx; refine DR.quiet (fun e he => ?_); have hm := mem_listed he; simp [go_sem, *] at hm; try (subst hm; exact evR_read _ _))); try walk_nrm)
      (co_applyP anyCH_take termsR (fun _ _ h r => hrl _ _ h r) (fun _ _ _ h r => ⟨h.1, hrl _ _ h.2.1 r, h.2.2⟩) (i := 8) rfl (by first | kernel_rfl | decide +kernel) (by first | kernel_rfl | decide +kernel) (by first | kernel_rfl | decide +kernel) (.inl ⟨by rfl, fun _ hw => ⟨run_eq_of ?run17, ?guar17⟩⟩) hF ?rest17; (case run17 => (intro K hK; obtain ⟨dx, hdx⟩ := hw; subst hdx; go_simp; exact hK)); (case guar17 => (obtain ⟨dx, hdx⟩ := hw; subst hdx; refine DR.quiet (fun e he => ?_); have hm := mem_listed he; simp [go_sem, *] at hm; try (subst hm; exact evR_read _ _))); try walk_nrm)
      (co_applyP anyCH_take termsR (fun _ _ h r => hrl _ _ h r) (fun _ _ _ h r => ⟨h.1, hrl _ _ h.2.1 r, h.2.2⟩) (i := 9) rfl (by first | kernel_rfl | decide +kernel) (by first | kernel_rfl | decide +kernel) (by first | kernel_rfl | decide +kernel) (.inl ⟨by rfl, fun _ hw => ⟨run_eq_of ?run18, ?guar18⟩⟩) hF ?rest18; (case run18 => (intro K hK; obtain ⟨dx, hdx⟩ := hw; subst hdx; go_simp; exact hK)); (case guar18 => (obtain ⟨dx, hdx⟩ := hw; subst hdx; refine DR.quiet (fun e he => ?_); have hm := mem_listed he; simp [go_sem, *] at hm; try (subst hm; exact evR_read _ _))); try walk_nrm)
      (co_applyP anyCH_take termsR (fun _ _ h r => hrl _ _ h r) (fun _ _ _ h r => ⟨h.1, hrl _ _ h.2.1 r, h.2.2⟩) (i := 10) rfl (by first | kernel_rfl | decide +kernel) (by first | kernel_rfl | decide +kernel) (by first | kernel_rfl | decide +kernel) (.inl ⟨by rfl, fun _ hw => ⟨run_eq_of ?run19, ?guar19⟩⟩) hF ?rest19; (case run19 => (intro K hK; obtain ⟨dx, hdx⟩ := hw; subst hdx; go_simp; exact hK)); (case guar19 => (obtain ⟨dx, hdx⟩ := hw; subst hdx; refine DR.quiet (fun e he => ?_); have hm := mem_listed he; simp [go_sem, *] at hm; try (subst hm; exact evR_read _ _))); try walk_nrm)
      (co_applyP anyCH_take termsR (fun _ _ h r => hrl _ _ h r) (fun _ _ _ h r => ⟨h.1, hrl _ _ h.2.1 r, h.2.2⟩) (i := 11) rfl (by first | kernel_rfl | decide +kernel) (by first | kernel_rfl | decide +kernel) (by first | kernel_rfl | decide +kernel) (.inl ⟨by rfl, fun _ hw => ⟨run_eq_of ?run20, ?guar20⟩⟩) hF ?rest20; (case run20 => (intro K hK; obtain ⟨dx, hdx⟩ := hw; subst hdx; go_simp; exact hK)); (case guar20 => (obtain ⟨dx, hdx⟩ := hw; subst hdx; refine DR.quiet (fun e he => ?_); have hm := mem_listed he; simp [go_sem, *] at hm; try (subst hm; exact evR_read _ _))); try walk_nrm)
      (co_applyP anyCH_take termsR (fun _ _ h r => hrl _ _ h r) (fun _ _ _ h r => ⟨h.1, hrl _ _ h.2.1 r, h.2.2⟩) (i := 12) rfl (by first | kernel_rfl | decide +kernel) (by first | kernel_rfl | decide +kernel) (by first | kernel_rfl | decide +kernel) (.inl ⟨by rfl, fun _ hw => ⟨run_eq_of ?run21, ?guar21⟩⟩) hF ?rest21; (case run21 => (intro K hK; obtain ⟨dx, hdx⟩ := hw; subst hdx; go_simp; exact hK)); (case guar21 => (obtain ⟨dx, hdx⟩ := hw; subst hdx; refine DR.quiet (fun e he => ?_); have hm := mem_listed he; simp [go_sem, *] at hm; try (subst hm; exact evR_read _ _))); try walk_nrm)
      (co_applyP anyCH_take termsR (fun _ _ h r => hrl _ _ h r) (fun _ _ _ h r => ⟨h.1, hrl _ _ h.2.1 r, h.2.2⟩) (i := 13) rfl (by first | kernel_rfl | decide +kernel) (by first | kernel_rfl | decide +kernel) (by first | kernel_rfl | decide +kernel) (.inl ⟨by rfl, fun _ hw => ⟨run_eq_of ?run22, ?guar22⟩⟩) hF ?rest22; (case run22 => (intro K hK; obtain ⟨dx, hdx⟩ := hw; subst hdx; go_simp; exact hK)); (case guar22 => (obtain ⟨dx, hdx⟩ := hw; subst hdx; refine DR.quiet (fun e he => ?_); have hm := mem_listed he; simp [go_sem, *] at hm; try (subst hm; exact evR_read _ _))); try walk_nrm)
      (co_applyP anyCH_take termsR (fun _ _ h r => hrl _ _ h r) (fun _ _ _ h r => ⟨h.1, hrl _ _ h.2.1 r, h.2.2⟩) (i := 14) rfl (by first | kernel_rfl | decide +kernel) (by first | kernel_rfl | decide +kernel) (by first | kernel_rfl | decide +kernel) (.inl ⟨by rfl, fun _ hw => ⟨run_eq_of ?run23, ?guar23⟩⟩) hF ?rest23; (case run23 => (intro K hK; obtain ⟨dx, hdx⟩ := hw; subst hdx; go_simp; exact hK)); (case guar23 => (obtain ⟨dx, hdx⟩ := hw; subst hdx; refine DR.quiet (fun e he => ?_); have hm := mem_listed he; simp [go_sem, *] at hm; try (subst hm; exact evR_read _ _))); try walk_nrm)
      (co_applyP anyCH_take termsR (fun _ _ h r => hrl _ _ h r) (fun _ _ _ h r => ⟨h.1, hrl _ _ h.2.1 r, h.2.2⟩) (i := 15) rfl (by first | kernel_rfl | decide +kernel) (by first | kernel_rfl | decide +kernel) (by first | kernel_rfl | decide +kernel) (.inl ⟨by rfl, fun _ hw => ⟨run_eq_of ?run24, ?guar24⟩⟩) hF ?rest24; (case run24 => (intro K hK; obtain ⟨dx, hdx⟩ := hw; subst hdx; go_simp; exact hK)); (case guar24 => (obtain ⟨dx, hdx⟩ := hw; subst hdx; refine DR.quiet (fun e he => ?_); have hm := mem_listed he; simp [go_sem, *] at hm; try (subst hm; exact evR_read _ _))); try walk_nrm)
      (co_applyP anyCH_take termsR (fun _ _ h r => hrl _ _ h r) (fun _ _ _ h r => ⟨h.1, hrl _ _ h.2.1 r, h.2.2⟩) (i := 16) rfl (by first | kernel_rfl | decide +kernel) (by first | kernel_rfl | decide +kernel) (by first | kernel_rfl | decide +kernel) (.inl ⟨by rfl, fun _ hw => ⟨run_eq_of ?run25, ?guar25⟩⟩) hF ?rest25; (case run25 => (intro K hK; obtain ⟨dx, hdx⟩ := hw; subst hdx; go_simp; exact hK)); (case guar25 => (obtain ⟨dx, hdx⟩ := hw; subst hdx; refine DR.quiet (fun e he => ?_); have hm := mem_listed he; simp [go_sem, *] at hm; try (subst hm; exact evR_read _ _))); try walk_nrm)
      (co_applyP anyCH_take termsR (fun _ _ h r => hrl _ _ h r) (fun _ _ _ h r => ⟨h.1, hrl _ _ h.2.1 r, h.2.2⟩) (i := 17) rfl (by first | kernel_rfl | decide +kernel) (by first | kernel_rfl | decide +kernel) (by first | kernel_rfl | decide +kernel) (.inl ⟨by rfl, fun _ hw => ⟨run_eq_of ?run26, ?guar26⟩⟩) hF ?rest26; (case run26 => (intro K hK; obtain ⟨dx, hdx⟩ := hw; subst hdx; go_simp; exact hK)); (case guar26 => (obtain ⟨dx, hdx⟩ := hw; subst hdx; refine DR.quiet (fun e he => ?_); have hm := mem_listed he; simp [go_sem, *] at hm; try (subst hm; exact evR_read _ _))); try walk_nrm)
      refine anyCH_done (by first | kernel_rfl | decide +kernel) ⟨rfl, hF, by simp [hg], rfl⟩ _
  · rintro a' w' ⟨d, rfl⟩ ⟨h, hd⟩
    repeat (first | (refine Walk.c rfl ?_) | (refine Walk.cReg ?_; simp only [List.size_toArray, List.length_cons, List.length_nil, Nat.reduceAdd, Nat.zero_add, List.range, List.range.loop]) | (refine Walk.cRet ?_) | (refine Walk.cEnd ?_) | (refine Walk.opq (ho_of (by conv => lhs; whnf) (by kernel_rfl)) (by rfl) (by decide) (fun dd e he => ?_) (fun dd K hK => ?_); (· (simp [go_sem, *] at he; try (subst he; exact evR_read _ _))); go_simp; refine hK _ ?_; clear hK K; try walk_nrm) | (refine Walk.ctl rfl (fun w => stepG_unwanted (ho_of (by conv => lhs; whnf) (by kernel_rfl)) (by rfl)) ?_; walk_nrm))
    exact Walk.ret1 rfl hd Try.func80 rfl fun d' => ⟨h, d', rfl⟩
end Go.Proofs.Ytgiiicdpbdfemaa
end

/- The relay's walk through a panic: it is raised, frames are left, a deferred call is made, it recovers, the frame returns; step by step, under what each step asks of the frame. -/
section
namespace Go.Relay
open Go.Conc Go.RowKit

section
variable {P : Program} {main : Bool} {V : Nat → Option Wait} {Stop : Goroutine → World → Prop} {w : World} {b fr c : Frame} {a : Act} {k : List Item} {cs : List Frame} {ops : Array Oper} {i : Nat} {rest : List Nat} {o : Oper}

theorem stepG_raise {x : Value} (ho : ops[i]? = some o) (hw : Region.wanted o (yielded ops a.tmps) = true) (hk : b.kind ≠ .early) (hr : (execOp a.eval o).run P w = .halt (.panic x) w) (he : (execOp a.eval o).events P w #[] = #[]) :
    stepG P main (G (b.at a (.inRegion ops (i :: rest) :: k)) cs) w = .go (G { b.at a (.inRegion ops (i :: rest) :: k) with mode := .panicking [{ v := x, recovered := false }] } cs) w := by
  have hk' : (b.kind == CallKind.early) = false := by simpa using hk
  rw [stepG_oper ho hw]
  simp [stepG.apply, hr, he, G, Frame.at, Frame.raise, hk', GStep.after, seen_none]

theorem stepG_pop {chain : List PanicEntry} (hm : fr.mode = .panicking chain) (hd : fr.defers = []) (hc : fr.catches P = false) : stepG P main (G fr (c :: cs)) w = .go (G (c.raise chain) cs) w := by
  simp [G, stepG, unwind, hm, hd, hc]

theorem stepG_deferred {d : Deferred} {ds : List Deferred} {f : FuncId} {fn : Func} {cap : Array Value} (hm : fr.mode ≠ .run) (hd : fr.defers = d :: ds) (ht : d.target = .fn (.func f) cap) (hf : P.funcs[f]? = some fn)
    (hname : (fn.name == "runtime.NumGoroutine") = false) (hb : fn.body.isNone = false) :
    stepG P main (G fr cs) w = .go (G (Frame.enter P f (d.args ++ cap) .deferred) ({ fr with defers := ds } :: cs)) w := by
  have h1 : ¬ fn.name = "runtime.NumGoroutine" := by simpa using hname
  have h2 : ¬ fn.body = none := by cases hx : fn.body <;> simp_all
  obtain ⟨t, ars⟩ := d
  subst ht
  have hs : stepG P main (G fr cs) w = unwind P main fr cs none w := by
    cases hmm : fr.mode <;> simp_all [G, stepG]
  rw [hs]
  simp [unwind, hd, callDeferred, invoke, callFunc, hf, h1, h2, GStep.after, seen_none, G]

theorem stepG_recover {v : Value} {older : List PanicEntry} {ats : Array TypeId} (ho : ops[i]? = some o) (hw : Region.wanted o (yielded ops a.tmps) = true) (hk : b.kind = .deferred) (hop : o.op = .call { callee := .builtin .recover, args := #[], argTypes := ats })
    (hc : c.mode = .panicking ({ v, recovered := false, goexit := false } :: older)) :
    stepG P main (G (b.at a (.inRegion ops (i :: rest) :: k)) (c :: cs)) w = .go (G (b.at (a.put o.dst v) (.inRegion ops rest :: k)) ({ c with mode := .panicking ({ v, recovered := true } :: older) } :: cs)) w := by
  have hrun : (execOp a.eval o).run P w = .ok .recover w := by
    unfold execOp
    simp [hop, resolve, invoke, builtin]
  have hev : (execOp a.eval o).events P w #[] = #[] := by
    unfold execOp
    simp [hop, resolve, invoke, builtin]
  have hfin : (b.at a (.inRegion ops (i :: rest) :: k)).finish v = b.at (a.put o.dst v) (.inRegion ops rest :: k) := by rw [Frame.finish_at, ho]; rfl
  rw [stepG_oper ho hw, ← hfin]

  simp [stepG.apply, hrun, hev, G, Frame.at, hk, GStep.after, seen_none, tryRecover, hc]

theorem stepG_recoverNone {ats : Array TypeId} (ho : ops[i]? = some o) (hw : Region.wanted o (yielded ops a.tmps) = true) (hk : b.kind = .deferred) (hop : o.op = .call { callee := .builtin .recover, args := #[], argTypes := ats })
    (hc : c.mode = .returning) :
    stepG P main (G (b.at a (.inRegion ops (i :: rest) :: k)) (c :: cs)) w = .go (G (b.at (a.put o.dst .nilIface) (.inRegion ops rest :: k)) (c :: cs)) w := by
  have hrun : (execOp a.eval o).run P w = .ok .recover w := by
    unfold execOp
    simp [hop, resolve, invoke, builtin]
  have hev : (execOp a.eval o).events P w #[] = #[] := by
    unfold execOp
    simp [hop, resolve, invoke, builtin]
  have hfin : (b.at a (.inRegion ops (i :: rest) :: k)).finish .nilIface = b.at (a.put o.dst .nilIface) (.inRegion ops rest :: k) := by rw [Frame.finish_at, ho]; rfl
  rw [stepG_oper ho hw, ← hfin]

  simp [stepG.apply, hrun, hev, G, Frame.at, hk, GStep.after, seen_none, tryRecover, hc]

/-- A deferred call's return, its caller unwinding: recovered, the caller returns. -/
theorem stepG_leaveRecovered {todo : List Item} {fn : Func} {v x : Value} (hn : b.kind = .deferred) (hd : a.defers = []) (hf : P.funcs[b.fn]? = some fn) (hr : (results fn a.tmps).run P w = .ok x w) (he : (results fn a.tmps).events P w #[] = #[])
    (hc : c.mode = .panicking [{ v, recovered := true }]) :
    stepG P main (G { b.at a todo with mode := .returning } (c :: cs)) w = .go (G { c with mode := .returning } cs) w := by
  simp [G, stepG, unwind, doReturn, Frame.at, hn, hd, hf, hr, he, hc, seen, GStep.after]

theorem stepG_leaveReturning {todo : List Item} {fn : Func} {x : Value} (hn : b.kind = .deferred) (hd : a.defers = []) (hf : P.funcs[b.fn]? = some fn) (hr : (results fn a.tmps).run P w = .ok x w) (he : (results fn a.tmps).events P w #[] = #[]) (hc : c.mode = .returning) :
    stepG P main (G { b.at a todo with mode := .returning } (c :: cs)) w = .go (G c cs) w := by
  simp [G, stepG, unwind, doReturn, Frame.at, hn, hd, hf, hr, he, hc, seen, GStep.after]

/-- The deferred close of an open channel. -/
theorem stepG_deferClose {ds : List Deferred} {ats : Array TypeId} {t : TypeId} {cons : Array Bool} {ch : Nat} {kk : Nat} (hm : fr.mode = .returning) (hd : fr.defers = { target := .builtin .close ats t cons, args := #[.chan (some ch)] } :: ds)
    (hq : (P.funcs[fr.fn]?).any (·.norace) = false) (hc : w.heap[ch]? = some (.chan 0 #[] false kk kk false)) :
    stepG P main (G fr cs) w = .go (G { fr with defers := ds } cs) (w.setChan ch 0 #[] true kk kk false) (closeEvents ch) := by
  have hr : (invoke (.builtin .close ats t cons) #[.chan (some ch)]).run P w = .ok (.value (.tuple #[])) (w.setChan ch 0 #[] true kk kk false) := by
    simp [invoke, builtin, run_close_open _ _ hc, World.setChan]
  have he : (invoke (.builtin .close ats t cons) #[.chan (some ch)]).events P w #[] = closeEvents ch := by
    simp [invoke, builtin, events_close_open _ _ hc, closeEvents]
  have hs : seen P fr.fn (closeEvents ch) = closeEvents ch := seen_eq hq (by intro e he f; simp only [closeEvents, List.mem_toArray, List.mem_cons, List.not_mem_nil, or_false] at he; rcases he with rfl | rfl <;> simp)
  simp [G, stepG, unwind, hm, hd, callDeferred, hr, he, hs, GStep.after]
/-- A deferring operation. -/
theorem stepG_deferOp {d : Deferred} (ho : ops[i]? = some o) (hw : Region.wanted o (yielded ops a.tmps) = true) (hk : b.kind ≠ .early) (hr : (execOp a.eval o).run P w = .ok (.defer d) w) (he : (execOp a.eval o).events P w #[] = #[]) :
    stepG P main (G (b.at a (.inRegion ops (i :: rest) :: k)) cs) w = .go (G (b.at (Act.put ⟨a.tmps, d :: a.defers⟩ o.dst undef) (.inRegion ops rest :: k)) cs) w #[] := by
  have hfin : (b.at ⟨a.tmps, d :: a.defers⟩ (.inRegion ops (i :: rest) :: k)).finish undef = b.at (Act.put ⟨a.tmps, d :: a.defers⟩ o.dst undef) (.inRegion ops rest :: k) := by rw [Frame.finish_at, ho]; rfl
  have hk' : (b.kind == CallKind.early) = false := by simpa using hk
  rw [stepG_oper ho hw, ← hfin]
  simp [stepG.apply, hr, he, G, Frame.at, hk', GStep.after, seen_none]

/-- A call of a function value. -/
theorem stepG_callValue {f : FuncId} {fn : Func} {x : Operand} {args : Array Operand} {ats : Array TypeId} {first cap : Array Value} (ho : ops[i]? = some o) (hw : Region.wanted o (yielded ops a.tmps) = true) (hk : b.kind ≠ .early)
    (hop : o.op = .call { callee := .value x, args, argTypes := ats }) (hx : a.eval x = .func (.func f) first cap) (hf : P.funcs[f]? = some fn) (hname : (fn.name == "runtime.NumGoroutine") = false) (hb : fn.body.isNone = false) :
    stepG P main (G (b.at a (.inRegion ops (i :: rest) :: k)) cs) w = .go (G (Frame.enter P f (first ++ args.map a.eval ++ cap) .normal) (b.at a (.inRegion ops (i :: rest) :: k) :: cs)) w := by
  have h1 : ¬ fn.name = "runtime.NumGoroutine" := by simpa using hname
  have h2 : ¬ fn.body = none := by cases hx : fn.body <;> simp_all
  have hr : (execOp a.eval o).run P w = .ok (.enter f (first ++ args.map a.eval ++ cap)) w := by
    unfold execOp
    simp [hop, resolve, Deferred.ofValue, invoke, callFunc, hf, h1, h2, hx]
  have he : (execOp a.eval o).events P w #[] = #[] := by
    unfold execOp
    simp [hop, resolve, Deferred.ofValue, invoke, callFunc, hf, h1, h2, hx]
  rw [stepG_enter ho hw hk hr]
  have : listed P b.fn a o w = #[] := by unfold listed; rw [he]; exact seen_none P _
  rw [this]

/-- A return that reads its results: what the reading lists. -/
theorem stepG_leaveE {fn : Func} {todo : List Item} {v : Value} (hn : b.kind = .normal) (hd : a.defers = []) (hf : P.funcs[b.fn]? = some fn) (hr : (results fn a.tmps).run P w = .ok v w) :
    stepG P main (G { b.at a todo with mode := .returning } (c :: cs)) w = .go (G (c.finish v) cs) w (seen P b.fn ((results fn a.tmps).events P w #[])) := by
  simp [G, stepG, unwind, doReturn, Frame.at, hn, hd, hf, hr, GStep.after]

theorem run_assert_same (t s : TypeId) (v : Value) {u : TypeDesc} (hu : P.underlying t = some u) (h : ∀ ms, u ≠ .interface ms) : (Instr.typeAssert (.iface t v) s t true).run P w = .ok (.tuple #[v, .bool true]) w := by
  cases u <;> first | (exact absurd rfl (h _)) | simp [Instr.typeAssert, run_underlying hu]
theorem run_assert_other (t t' s : TypeId) (v z : Value) {u : TypeDesc} (hu : P.underlying t = some u) (h : ∀ ms, u ≠ .interface ms) (ht : t' ≠ t) (hz : (zeroValue t).run P w = .ok z w) : (Instr.typeAssert (.iface t' v) s t true).run P w = .ok (.tuple #[z, .bool false]) w := by
  cases u <;> first | (exact absurd rfl (h _)) | simp [Instr.typeAssert, run_underlying hu, ht, hz]
theorem ev_assert_same (t s : TypeId) (v : Value) (es : Array Event) {u : TypeDesc} (hu : P.underlying t = some u) (h : ∀ ms, u ≠ .interface ms) : (Instr.typeAssert (.iface t v) s t true).events P w es = es := by
  cases u <;> first | (exact absurd rfl (h _)) | simp [Instr.typeAssert, run_underlying hu]
theorem ev_assert_other (t t' s : TypeId) (v : Value) (es : Array Event) {u : TypeDesc} (hu : P.underlying t = some u) (h : ∀ ms, u ≠ .interface ms) (ht : t' ≠ t) (hze : (zeroValue t).events P w es = es) : (Instr.typeAssert (.iface t' v) s t true).events P w es = es := by
  cases u <;> first | (exact absurd rfl (h _)) | simp [Instr.typeAssert, run_underlying hu, ht, hze]
theorem stepG_leaveF {fn : Func} {v : Value} (hm : fr.mode = .returning) (hn : fr.kind = .normal) (hd : fr.defers = []) (hf : P.funcs[fr.fn]? = some fn) (hr : (results fn fr.tmps).run P w = .ok v w) :
    stepG P main (G fr (c :: cs)) w = .go (G (c.finish v) cs) w (seen P fr.fn ((results fn fr.tmps).events P w #[])) := by
  simp [G, stepG, unwind, doReturn, hm, hn, hd, hf, hr, GStep.after]

/-- A step that turns nothing and lists what is well. -/
theorem Walk.evs {g g' : Goroutine} (E : Nat → Array Event) (hr : g.status = .running) (hs : ∀ d, stepG P main g (w.at d) = .go g' (w.at d) (E d)) (he : ∀ d, ∀ e ∈ E d, EvR V e) (h : Walk P main (DR V) Stop g' w) : Walk P main (DR V) Stop g w :=
  .step hr (fun _ => g') (fun d => w.at d) E hs (fun d => DR.quiet (he d)) fun d => h.back d

theorem run_eqIn_func (d : Nat) (t : TypeId) (f : Fn) (x y : Array Value) {a b c} (hu : P.underlying t = some (.func a b c)) : (Op.equalIn (d + 1) t (.func f x y) .nilFunc).run P w = .ok false w := by simp [Op.equalIn, run_underlying hu]
theorem ev_eqIn_func (d : Nat) (t : TypeId) (f : Fn) (x y : Array Value) (es : Array Event) {a b c} (hu : P.underlying t = some (.func a b c)) : (Op.equalIn (d + 1) t (.func f x y) .nilFunc).events P w es = es := by simp [Op.equalIn, run_underlying hu]
theorem run_neq_func (t : TypeId) (f : Fn) (x y : Array Value) {a b c} (hu : P.underlying t = some (.func a b c)) : (binOp .neq t (.func f x y) .nilFunc).run P w = .ok (.bool true) w := by
  simp only [binOp]
  simp [Op.equal, Op.maxDepth, run_eqIn_func (w := w) 9999 t f x y hu]
theorem ev_neq_func (t : TypeId) (f : Fn) (x y : Array Value) (es : Array Event) {a b c} (hu : P.underlying t = some (.func a b c)) : (binOp .neq t (.func f x y) .nilFunc).events P w es = es := by
  simp only [binOp]
  simp [Op.equal, Op.maxDepth, run_eqIn_func (w := w) 9999 t f x y hu, ev_eqIn_func (w := w) 9999 t f x y es hu]
theorem run_eqIn_nilFunc (d : Nat) (t : TypeId)  {a b c} (hu : P.underlying t = some (.func a b c)) : (Op.equalIn (d + 1) t .nilFunc .nilFunc).run P w = .ok true w := by simp [Op.equalIn, run_underlying hu]
theorem ev_eqIn_nilFunc (d : Nat) (t : TypeId)  (es : Array Event) {a b c} (hu : P.underlying t = some (.func a b c)) : (Op.equalIn (d + 1) t .nilFunc .nilFunc).events P w es = es := by simp [Op.equalIn, run_underlying hu]
theorem run_neq_nilFunc (t : TypeId)  {a b c} (hu : P.underlying t = some (.func a b c)) : (binOp .neq t .nilFunc .nilFunc).run P w = .ok (.bool false) w := by
  simp only [binOp]
  simp [Op.equal, Op.maxDepth, run_eqIn_nilFunc (w := w) 9999 t  hu]
theorem ev_neq_nilFunc (t : TypeId)  (es : Array Event) {a b c} (hu : P.underlying t = some (.func a b c)) : (binOp .neq t .nilFunc .nilFunc).events P w es = es := by
  simp only [binOp]
  simp [Op.equal, Op.maxDepth, run_eqIn_nilFunc (w := w) 9999 t  hu, ev_eqIn_nilFunc (w := w) 9999 t  es hu]
theorem run_eqIn_iface (d : Nat) (t : TypeId) (s : TypeId) (x : Value) {ms} (hu : P.underlying t = some (.interface ms)) : (Op.equalIn (d + 1) t (.iface s x) .nilIface).run P w = .ok false w := by simp [Op.equalIn, run_underlying hu]
theorem ev_eqIn_iface (d : Nat) (t : TypeId) (s : TypeId) (x : Value) (es : Array Event) {ms} (hu : P.underlying t = some (.interface ms)) : (Op.equalIn (d + 1) t (.iface s x) .nilIface).events P w es = es := by simp [Op.equalIn, run_underlying hu]
theorem run_neq_iface (t : TypeId) (s : TypeId) (x : Value) {ms} (hu : P.underlying t = some (.interface ms)) : (binOp .neq t (.iface s x) .nilIface).run P w = .ok (.bool true) w := by
  simp only [binOp]
  simp [Op.equal, Op.maxDepth, run_eqIn_iface (w := w) 9999 t s x hu]
theorem ev_neq_iface (t : TypeId) (s : TypeId) (x : Value) (es : Array Event) {ms} (hu : P.underlying t = some (.interface ms)) : (binOp .neq t (.iface s x) .nilIface).events P w es = es := by
  simp only [binOp]
  simp [Op.equal, Op.maxDepth, run_eqIn_iface (w := w) 9999 t s x hu, ev_eqIn_iface (w := w) 9999 t s x es hu]
theorem run_eqIn_nilIface (d : Nat) (t : TypeId)  {ms} (hu : P.underlying t = some (.interface ms)) : (Op.equalIn (d + 1) t .nilIface .nilIface).run P w = .ok true w := by simp [Op.equalIn, run_underlying hu]
theorem ev_eqIn_nilIface (d : Nat) (t : TypeId)  (es : Array Event) {ms} (hu : P.underlying t = some (.interface ms)) : (Op.equalIn (d + 1) t .nilIface .nilIface).events P w es = es := by simp [Op.equalIn, run_underlying hu]
theorem run_neq_nilIface (t : TypeId)  {ms} (hu : P.underlying t = some (.interface ms)) : (binOp .neq t .nilIface .nilIface).run P w = .ok (.bool false) w := by
  simp only [binOp]
  simp [Op.equal, Op.maxDepth, run_eqIn_nilIface (w := w) 9999 t  hu]
theorem ev_neq_nilIface (t : TypeId)  (es : Array Event) {ms} (hu : P.underlying t = some (.interface ms)) : (binOp .neq t .nilIface .nilIface).events P w es = es := by
  simp only [binOp]
  simp [Op.equal, Op.maxDepth, run_eqIn_nilIface (w := w) 9999 t  hu, ev_eqIn_nilIface (w := w) 9999 t  es hu]
end
end Go.Relay
end

/- The relay's walk through an append of a slice's elements to a slice that is nil or the call's own: the new value and the new world are not known, what they are good for is; under the bounds of the library's law, where no other goroutine reads the block. -/
section
namespace Go.Relay
open Go.Conc Go.RowKit

/-- No waiting goroutine has anything to do with this block. -/
def Apart (V : Nat → Option Wait) (g : Nat) : Prop := (∀ a : Addr, a.block = g → Free V a) ∧ ∀ i u, V i = some u → u.ch ≠ g

section
variable {P : Program} {main : Bool} {V : Nat → Option Wait} {Stop : Goroutine → World → Prop} {w : World} {b : Frame} {a : Act} {k : List Item} {cs : List Frame} {ops : Array Oper} {i : Nat} {rest : List Nat} {o : Oper}

theorem evR_isRead {e : Event} (h : e.isRead) : EvR V e := by
  obtain ⟨ad, hl, hw⟩ := h
  obtain ⟨l, wr, s⟩ := e
  simp only at hl hw
  subst hl; subst hw
  exact evR_read ad s
theorem evR_cell {e : Event} {ad : Addr} (h : e.loc = .cell ad) (hf : Free V ad) : EvR V e := by
  obtain ⟨l, wr, s⟩ := e
  simp only at h
  subst h
  cases wr with
  | true => exact evR_write ad s hf
  | false => exact evR_read ad s
theorem evR_noRoom : EvR V ⟨.mark .noRoom, false, true⟩ := ⟨fun x hx => (by simp [MemAct.ofEvent, MemAct.touch?] at hx), by simp, by simp⟩

theorem DR.grown {w w' : World} {es : Array Event} {row : Option Nat} (hg : w.grownBy w' row) (hr : ∀ g, row = some g → Apart V g) (he : ∀ e ∈ es, EvR V e) : DR V w w' es := by
  refine ⟨fun i v e hK ad z hz => ?_, fun i v o e ho _ => ?_, he, ⟨hg.os, hg.output⟩⟩
  · have hc := hK ad z hz
    have hlt := cell_lt w hc
    rw [World.cell?_of_block (hg.block _ hlt fun e' => ?_)]
    · exact hc
    · rw [(hr _ e'.symm).1 ad rfl i v e] at hz; cases hz
  · rw [hg.block _ (Array.getElem?_eq_some_iff.1 ho).1 fun e' => (hr _ e'.symm).2 i v e rfl]
    exact ho

theorem Walk.append (s x : Operand) (t : TypeId) (ho : ops[i]? = some o) (hw : Region.wanted o (yielded ops a.tmps) = true) (hk : b.kind ≠ .early) (hop : o.op = .call { callee := .builtin .append, args := #[s, x], argTypes := #[t, t] })
    (base : Nat) (e : TypeId) (ti : TypeInfo) (z : Value) (size bytes : Nat) (ht : P.underlying t = some (.slice e)) (hi : P.info? e = some ti) (hz : ti.zero = some z) (hsize : ti.size = size) (hby : ti.bytes = bytes) (hzs : z.cells.size = size) (hsz : 0 < size)
    (v : Value) (n : Nat) (xs : List Value) (hs : a.eval s = v) (hown : w.ownsRow base e size v n xs)
    (ad : Addr) (m c : Nat) (news : List Value) (hx : a.eval x = .slice (some ad) m c) (hl : news.length = m * size) (hnews : ∀ j u, news[j]? = some u → w.cell? (ad.add j) = some u) (h1 : ∀ u ∈ news, u.oneCell' = true)
    (hm : 0 < m) (h63 : n + m ≤ maxLen) (hbytes : (n + m) * bytes ≤ 140737488355328) (hbase : base ≤ w.heap.size) (hap : ∀ g, v.ownBlock = some g → Apart V g)
    (h : ∀ g cap w', w'.ownsRow base e size (.slice (some ⟨g, 0, none⟩) (n + m) cap) (n + m) (xs ++ news) → w.grownBy w' v.ownBlock → (v.ownBlock = some g ∨ g = w.heap.size) → g < w'.heap.size →
      Walk P main (DR V) Stop (G (b.at (a.put o.dst (.slice (some ⟨g, 0, none⟩) (n + m) cap)) (.inRegion ops rest :: k)) cs) w') :
    Walk P main (DR V) Stop (G (b.at a (.inRegion ops (i :: rest) :: k)) cs) w := by
  refine Walk.go rfl fun d => goes_oper_k ho hw hk fun K hK => ?_
  obtain ⟨g, cap, w', hr, hown', hg, hat, hlt⟩ := run_append_lies (P := P) (w := w.at d) t o.type base e ti z size bytes ht hi hz hsize hby hzs hsz v n xs hown ad m c news hl hnews h1 hm h63 hbytes hbase w.heap.size rfl
  refine uponK_append s x t hop hs hx hr (hK _ _ ⟨DR.grown hg hap fun ev hev => ?_, h g cap w' hown' ⟨hg.os, hg.tape, hg.output, hg.size, hg.block⟩ hat hlt⟩)
  have hm' := mem_listed hev
  rw [events_append_op s x t hop hs hx] at hm'
  rcases events_append_own (w.at d) base t o.type e ti z size bytes ht hi hz hsize hby v n xs hown ad m c news hl hnews h1 h63 hbytes ev hm' with h' | ⟨ad', h', hb⟩ | ⟨mk, h', hn⟩
  · exact evR_isRead h'
  · exact evR_cell h' ((hap _ hb.symm).1 ad' rfl)
  · rw [h', show mk = .noRoom from hn]; exact evR_noRoom
end
end Go.Relay
end

/- The relay's walk through a make of a slice and of a channel. -/
section
namespace Go.Relay
open Go.Conc Go.RowKit

section
variable {P : Program} {main : Bool} {V : Nat → Option Wait} {Stop : Goroutine → World → Prop} {w : World} {b : Frame} {a : Act} {k : List Item} {cs : List Frame} {ops : Array Oper} {i : Nat} {rest : List Nat} {o : Oper}

theorem Walk.make (t : TypeId) (l c : Operand) (ho : ops[i]? = some o) (hw : Region.wanted o (yielded ops a.tmps) = true) (hk : b.kind ≠ .early) (hop : o.op = .makeSlice t l c)
    (e : TypeId) (ti : TypeInfo) (z : Value) (size bytes : Nat) (ht : P.underlying t = some (.slice e)) (hi : P.info? e = some ti) (hz : ti.zero = some z) (hsize : ti.size = size) (hby : ti.bytes = bytes)
    (n : Nat) (hl : a.eval l = .int .i64 n) (hc : a.eval c = .int .i64 n) (hbytes : n * bytes ≤ 140737488355328) (h63 : n ≤ 1048576)
    (h : Walk P main (DR V) Stop (G (b.at (a.put o.dst (.slice (some ⟨w.heap.size, 0, none⟩) n n)) (.inRegion ops rest :: k)) cs) (w.alloc (.cells (madeCells z.cells (n * size)) e))) :
    Walk P main (DR V) Stop (G (b.at a (.inRegion ops (i :: rest) :: k)) cs) w := by
  subst hsize
  subst hby
  have hb' : (ti.bytes : Int) * (n : Int) ≤ 281474976710656 := by
    have h : ((ti.bytes * n : Nat) : Int) ≤ 281474976710656 := by rw [Nat.mul_comm]; omega
    rwa [Int.natCast_mul] at h
  refine Walk.go rfl fun d => goes_oper_k ho hw hk fun K hK => ?_
  have hr := run_make (P := P) (w.at d) t e ti z ht hi hz .i64 .i64 n n (by omega) (Int.le_refl _) hb' (by omega)
  have he := events_make (P := P) (w.at d) t e ti z ht hi hz .i64 .i64 n n (by omega) (Int.le_refl _) hb' (by omega) (by simpa using hbytes) #[]
  simp only [Int.toNat_natCast] at hr
  have hx : (execOp a.eval o).run P (w.at d) = .ok (.value (.slice (some ⟨w.heap.size, 0, none⟩) n n)) ((w.alloc (.cells (madeCells z.cells (n * ti.size)) e)).at d) := by
    simp only [execOp, hop, hl, hc, Sem.run_bind, hr]
    rfl
  have hv : (execOp a.eval o).events P (w.at d) #[] = #[] := by
    simp only [execOp, hop, hl, hc, Sem.events_bind, hr, he]
    rfl
  rw [hx]
  refine hK _ _ ⟨DR.alloc' d _ fun ev hm => ?_, h.back d⟩
  have hm' := mem_listed hm
  rw [hv] at hm'
  exact absurd hm' (by simp)

theorem Walk.chan (t : TypeId) (n : Operand) (ho : ops[i]? = some o) (hw : Region.wanted o (yielded ops a.tmps) = true) (hk : b.kind ≠ .early) (hop : o.op = .makeChan t n)
    (dir : ChanDir) (e : TypeId) (ti : TypeInfo) (ht : P.underlying t = some (.chan dir e)) (hi : P.info? e = some ti) (hn : a.eval n = .int .i64 0)
    (h : Walk P main (DR V) Stop (G (b.at (a.put o.dst (.chan (some w.heap.size))) (.inRegion ops rest :: k)) cs) (w.alloc (.chan 0 #[] false 0 0 false))) :
    Walk P main (DR V) Stop (G (b.at a (.inRegion ops (i :: rest) :: k)) cs) w := by
  refine Walk.go rfl fun d => goes_oper_k ho hw hk fun K hK => ?_
  have hr := run_makeChan (P := P) (w := w.at d) ht hi .i64 0 (by decide) (by simp)
  have he := events_makeChan (P := P) (w := w.at d) ht hi .i64 0 (by decide) (by simp) #[]
  simp only [Int.ofNat_zero, Int.natCast_zero, Int.cast_ofNat_Int] at hr he
  have hx : (execOp a.eval o).run P (w.at d) = .ok (.value (.chan (some w.heap.size))) ((w.alloc (.chan 0 #[] false 0 0 false)).at d) := by
    simp only [execOp, hop, hn, Sem.run_bind, hr]
    rfl
  have hv : (execOp a.eval o).events P (w.at d) #[] = #[] := by
    simp only [execOp, hop, hn, Sem.events_bind, hr, he]
    rfl
  rw [hx]
  refine hK _ _ ⟨DR.alloc' d _ fun ev hm => ?_, h.back d⟩
  have hm' := mem_listed hm
  rw [hv] at hm'
  exact absurd hm' (by simp)

/-- Into a call. -/
theorem Walk.callE {f : FuncId} {fn : Func} {args : Array Operand} {ats : Array TypeId} (ho : ops[i]? = some o) (hw : Region.wanted o (yielded ops a.tmps) = true) (hk : b.kind ≠ .early) (hop : o.op = .call { callee := .value (.func f), args, argTypes := ats })
    (hf : P.funcs[f]? = some fn) (hname : (fn.name == "runtime.NumGoroutine") = false) (hb : fn.body.isNone = false)
    (h : Walk P main (DR V) Stop (G (Frame.enter P f (args.map a.eval) .normal) (b.at a (.inRegion ops (i :: rest) :: k) :: cs)) w) :
    Walk P main (DR V) Stop (G (b.at a (.inRegion ops (i :: rest) :: k)) cs) w := by
  refine Walk.ctl rfl (fun w => ?_) h
  rw [stepG_enter ho hw hk (run_call_body hop hf hname hb)]
  have : listed P b.fn a o w = #[] := by unfold listed; rw [events_call_body hop hf hname hb]; exact seen_none P _
  rw [this]

/-- A region that draws its order, its operations turning the world as they come. -/
theorem Walk.drawn {id : Nat} (hm : P.follows .mixedOrders = true) (hk : b.kind ≠ .early) {Q : Act → World → Prop}
    (h : ∀ d, AnyCH P AtRel (DR V) b.fn .any ops (fun e a' w' => e = .normal ∧ Q a' w') (fun _ => True) ops.size (Array.replicate ops.size false) a (w.at d))
    (hc : ∀ a' w', Q a' w' → Walk P main (DR V) Stop (G (b.at a' k) cs) w') : Walk P main (DR V) Stop (G (b.at a (.code (.region id ops true) :: k)) cs) w :=
  Walk.code (n := ops.size + 1 + 1) (Q := Q) (wpC_region_held termsR drawsR hm fun _ hr => by obtain ⟨d, rfl⟩ := hr; exact h (d + 1)) hk hc

/-- An operation of it that makes the world W. -/
theorem opC_new {W : World} {x : Value} {fn : FuncId} {d0 : Nat} {K : Act → World → Prop} (ho : ops[i]? = some o) (hw : Region.wanted o (yielded ops a.tmps) = true) (hr : ∀ d, (execOp a.eval o).run P (w.at d) = .ok (.value x) (W.at d)) (hd : ∀ d, DR V (w.at d) (W.at d) (listed P fn a o (w.at d)))
    (h : ∀ d, K (a.put o.dst x) (W.at d)) : OpC P AtRel (DR V) fn ops i K a (w.at d0) := by
  unfold OpC
  simp only [ho, hw, if_true]
  rintro _ ⟨d, rfl⟩
  have := hr d
  show uponK o a _ ((execOp a.eval o).run P (w.at d))
  rw [this]
  exact ⟨hd d, h d⟩
end
end Go.Relay
end

/- The statement's side: slots; adder. -/
section
namespace Go.Proofs.Ytgiiicdpbdfemaa
open Go.Conc Go.RowKit Go.Relay
open Go.ConcN (upd upd_ne upd_same)

variable {main : Bool} {V : Nat → Option Wait}

/-- A frame's slots, as a loop's head has them. -/
theorem at_slots {b : Frame} {A : Array Value} {todo : List Item} {cs : List Frame} {F : (Nat → Value) → Goroutine} (h : G (b.at ⟨A, []⟩ todo) cs = F (fun k => A.getD k undef)) : ∃ u, G (b.at ⟨A, []⟩ todo) cs = F u := ⟨_, h⟩

/-- The five codes of one that adds one. -/
def adderCells : Array Value := #[.int .i64 7, .int .i64 0, .int .i64 0, .int .i64 0, .int .i64 0, .int .i64 1, .int .i64 1, .int .i64 0, .int .i64 0, .int .i64 1, .int .i64 3, .int .i64 0, .int .i64 0, .int .i64 1, .int .i64 0, .int .i64 8, .int .i64 0, .int .i64 0, .int .i64 0, .int .i64 0, .int .i64 6, .int .i64 0, .int .i64 0, .int .i64 0, .int .i64 0]

set_option maxHeartbeats 8000000 in
set_option maxRecDepth 100000 in
theorem adder_w (w : World) : CallV Try.prog main V 38 #[] w (.slice (some ⟨w.heap.size, 0, none⟩) 5 5) (w.alloc (.cells adderCells 96)) := by
  refine callW_in Try.func38 rfl fun fr cs => ?_
  simp only [Try.ntmps38, List.size_toArray, List.length_cons, List.length_nil, Nat.reduceAdd, Nat.reduceSub, Array.replicate_succ, Array.replicate_zero, List.push_toArray, List.append_toArray, List.nil_append, List.cons_append]
  repeat (first | (refine Walk.c rfl ?_) | (refine Walk.cReg ?_; simp only [List.size_toArray, List.length_cons, List.length_nil, Nat.reduceAdd, Nat.zero_add, List.range, List.range.loop]) | (refine Walk.cRet ?_) | (refine Walk.cEnd ?_) | (refine Walk.opq (ho_of (by conv => lhs; whnf) (by kernel_rfl)) (by rfl) (by decide) (fun dd e he => ?_) (fun dd K hK => ?_); (· (simp [go_sem, *] at he; try (subst he; exact evR_read _ _))); go_simp; refine hK _ ?_; clear hK K; try walk_nrm) | (refine Walk.ctl rfl (fun w => stepG_unwanted (ho_of (by conv => lhs; whnf) (by kernel_rfl)) (by rfl)) ?_; walk_nrm))
  (co_applyP Walk.opw (ho_of (by conv => lhs; whnf) (by kernel_rfl)) (by rfl) (by decide) ?wev1 ?wdr1 ?wrun1; (case' wrun1 => (intro dd K hK; go_simp; simp only [alloc_at', setCell_at']; refine hK _ ?wmore1; clear hK K)); (case wdr1 => exact fun dd es hes => DR.alloc' dd es hes); (case wev1 => (intro dd e he; simp [go_sem, *] at he)); try walk_nrm)
  repeat (first | (refine Walk.c rfl ?_) | (refine Walk.cReg ?_; simp only [List.size_toArray, List.length_cons, List.length_nil, Nat.reduceAdd, Nat.zero_add, List.range, List.range.loop]) | (refine Walk.cRet ?_) | (refine Walk.cEnd ?_) | (refine Walk.opq (ho_of (by conv => lhs; whnf) (by kernel_rfl)) (by rfl) (by decide) (fun dd e he => ?_) (fun dd K hK => ?_); (· (simp [go_sem, *] at he; try (subst he; exact evR_read _ _))); go_simp; refine hK _ ?_; clear hK K; try walk_nrm) | (refine Walk.ctl rfl (fun w => stepG_unwanted (ho_of (by conv => lhs; whnf) (by kernel_rfl)) (by rfl)) ?_; walk_nrm))
  exact Walk.ret1 rfl rfl Try.func38 rfl fun d => ⟨rfl, d, rfl⟩
end Go.Proofs.Ytgiiicdpbdfemaa
end

/- The relay's walk: a struct is loaded whole; a struct is stored whole into a block of its own. -/
section
namespace Go.Relay
open Go.Conc Go.RowKit

variable {P : Program} {main : Bool} {V : Nat → Option Wait} {Stop : Goroutine → World → Prop} {w : World} {b : Frame} {a : Act} {k : List Item} {cs : List Frame} {ops : Array Oper} {i : Nat} {rest : List Nat} {o : Oper}

theorem add_none (g o j : Nat) : (⟨g, o, none⟩ : Addr).add j = ⟨g, o + j, none⟩ := by unfold Addr.add; split <;> simp_all

theorem run_loadVar_at (w : World) (g o : Nat) (ty : TypeId) (cs : List Value) (d : TypeDesc) (hc : ∀ j v, cs[j]? = some v → w.cell? ⟨g, o + j, none⟩ = some v)
    (hu : P.underlying ty = some d) (hd : (match d with | .struct _ | .array _ _ => true | _ => false) = true) (hi : (P.info? ty).map (·.size) = some cs.length) :
    (loadVar ty ⟨g, o, none⟩).run P w = .ok (.agg cs.toArray) w := by
  have hl : (loadCells ⟨g, o, none⟩ cs.length).run P w = .ok cs.toArray w := run_loadCells_list (P := P) w ⟨g, o, none⟩ cs (fun j v hv => by rw [add_none]; exact hc j v hv)
  cases hq : P.info? ty with
  | none => simp [hq] at hi
  | some i =>
    have hs : i.size = cs.length := by simpa [hq] using hi
    have hagg : (isAgg ty).run P w = .ok true w := by
      unfold isAgg
      rw [Sem.run_bind, run_underlying hu w]
      cases d <;> simp_all
    simp [loadVar, Sem.run_bind, hagg, sizeOf, typeInfo, hq, hs, hl]

theorem events_loadVar_reads (w : World) (ad : Addr) (ty : TypeId) {d : TypeDesc} (hu : P.underlying ty = some d) (hd : (match d with | .struct _ | .array _ _ => true | _ => false) = true) {n : Nat} (hi : (P.info? ty).map (·.size) = some n) :
    ∀ e ∈ (loadVar ty ad).events P w #[], e.isRead := by
  cases hq : P.info? ty with
  | none => simp [hq] at hi
  | some i =>
    have hagg : (isAgg ty).run P w = .ok true w := by
      unfold isAgg
      rw [Sem.run_bind, run_underlying hu w]
      cases d <;> simp_all
    have hagge : ∀ es, (isAgg ty).events P w es = es := fun es => by
      unfold isAgg
      simp only [Sem.events_bind, run_underlying hu w, events_underlying, Result.evThen_ok]
      cases d <;> simp
    intro e he
    have hsz : ∀ es, (sizeOf ty).events P w es = es := fun es => by simp [sizeOf, typeInfo, hq]
    have hszr : (sizeOf ty).run P w = .ok i.size w := by simp [sizeOf, typeInfo, hq]
    simp only [loadVar, Sem.events_bind, hagg, hagge, Result.evThen_ok, if_true, hszr, hsz, loadCells] at he
    have : e ∈ (loadCellsFrom ad 0 i.size #[]).events P w #[] := by
      revert he
      cases (loadCellsFrom ad 0 i.size #[]).run P w <;> simp
    rcases events_loadCellsFrom_reads _ _ _ _ _ _ e this with h | h
    · simp at h
    · exact h

theorem Walk.loadS (t : TypeId) (x : Operand) (ho : ops[i]? = some o) (hw : Region.wanted o (yielded ops a.tmps) = true) (hk : b.kind ≠ .early) (hop : o.op = .load t x) (g off : Nat) (vals : List Value) (d : TypeDesc) (hx : a.eval x = .pointer (some ⟨g, off, none⟩)) (hc : ∀ j v, vals[j]? = some v → w.cell? ⟨g, off + j, none⟩ = some v)
    (hu : P.underlying t = some d) (hd : (match d with | .struct _ | .array _ _ => true | _ => false) = true) (hi : (P.info? t).map (·.size) = some vals.length)
    (h : Walk P main (DR V) Stop (G (b.at (a.put o.dst (.agg vals.toArray)) (.inRegion ops rest :: k)) cs) w) : Walk P main (DR V) Stop (G (b.at a (.inRegion ops (i :: rest) :: k)) cs) w := by
  refine Walk.opq ho hw hk (fun dd e he => ?_) (fun dd K hK => ?_)
  · refine evR_isRead (events_loadVar_reads (P := P) (w.at dd) ⟨g, off, none⟩ t hu hd hi e ?_)
    unfold execOp at he
    simpa [hop, hx, Instr.loadAt, Instr.sureAddr, Sem.events_bind] using he
  · unfold execOp
    simp only [hop, hx, Instr.loadAt, Instr.sureAddr, Sem.run_bind, Sem.run_pure, Result.andThen_ok, run_loadVar_at (P := P) (w.at dd) g off t vals d hc hu hd hi]
    exact hK _ h

theorem events_storeVar_at (w : World) (g : Nat) (t ty : TypeId) (old cells : Array Value) (hg : w.heap[g]? = some (.cells old t (0, 0))) (hi : (P.info? ty).map (·.size) = some cells.size) (ho : old.size = cells.size) (h1 : cells.all (·.oneCell') = true) :
    ∀ e ∈ (storeVar ty ⟨g, 0, none⟩ (.agg cells)).events P w #[], ∃ ad, e.loc = .cell ad ∧ ad.block = g := by
  cases hq : P.info? ty with
  | none => simp [hq] at hi
  | some i =>
    have hs : cells.size = i.size := by simp [hq] at hi; omega
    intro e he
    have : e ∈ (storeCells ⟨g, 0, none⟩ cells.toList 0).events P w #[] := by
      simpa [storeVar, sizeOf, typeInfo, hq, Value.cells, hs, Sem.events_bind] using he
    rcases events_storeCells_at g 0 t cells.toList 0 old w #[] hg (by simp; omega) (fun v hv => (Array.all_eq_true_iff_forall_mem.1 h1) v (by simpa using hv)) e this with h | h
    · simp at h
    · exact h

theorem Walk.storeS (t : TypeId) (x y : Operand) (ho : ops[i]? = some o) (hw : Region.wanted o (yielded ops a.tmps) = true) (hk : b.kind ≠ .early) (hop : o.op = .store t x y) (g : Nat) (cells old : Array Value) (tt : TypeId) (hx : a.eval x = .pointer (some ⟨g, 0, none⟩)) (hy : a.eval y = .agg cells)
    (hg : w.heap[g]? = some (.cells old tt (0, 0))) (hi : (P.info? t).map (·.size) = some cells.size) (hold : old.size = cells.size) (h1 : cells.all (·.oneCell') = true) (hap : Apart V g)
    (h : Walk P main (DR V) Stop (G (b.at (a.put o.dst undef) (.inRegion ops rest :: k)) cs) (w.setRow g cells)) : Walk P main (DR V) Stop (G (b.at a (.inRegion ops (i :: rest) :: k)) cs) w := by
  have hgr : ∀ d, (w.at d).grownBy ((w.setRow g cells).at d) (some g) := fun d => by
    refine ⟨rfl, rfl, rfl, ?_, fun k hk hne => ?_⟩
    · simp [World.setRow, World.at]
    · have : k ≠ g := fun e => hne (by rw [e])
      simp only [World.setRow, World.at]
      rw [Array.getElem?_modify, if_neg (Ne.symm this)]
  refine Walk.opw (W := w.setRow g cells) ho hw hk (fun dd e he => ?_) (fun dd es hes => DR.grown (hgr dd) (fun g' e => by cases e; exact hap) hes) (fun dd K hK => ?_)
  · obtain ⟨ad, h1', h2'⟩ := events_storeVar_at (P := P) (w.at dd) g tt t old cells hg hi hold h1 e (by
      unfold execOp at he
      have hr := run_storeVar_row (P := P) (w.at dd) g tt t old cells hg hi hold h1
      simpa [hop, hx, hy, Instr.storeAt, Instr.sureAddr, Sem.events_bind, hr] using he)
    exact evR_cell h1' (hap.1 ad h2')
  · unfold execOp
    simp only [hop, hx, hy, Instr.storeAt, Instr.sureAddr, Sem.run_bind, Sem.run_pure, Result.andThen_ok, run_storeVar_row (P := P) (w.at dd) g tt t old cells hg hi hold h1]
    exact hK _ h
end Go.Relay
end

/- The relay: the way to a receive, step by step, of one that does not work: moves of control, calls, reads of the cells on its list. -/
section
namespace Go.Relay
open Go.Conc Go.RowKit

section
variable {P : Program} {main : Bool} {v : Wait} {g : Goroutine}

/-- On the way, whatever the others do to the world while v's cells stand. -/
def Yonder (P : Program) (main : Bool) (v : Wait) (g : Goroutine) : Prop := ∃ B k, ∀ w, Goes P main (RK v.K) (DS v.S B) (fun g _ => ∃ g₂, AtIn P main v.K v.S B v.seat g g₂) k g w

theorem Yonder.waits (h : Yonder P main v g) : ∃ B k, Waits P main B v k g := by
  obtain ⟨B, k, h⟩ := h
  exact ⟨B, k + 1, .inl ⟨k, default, rfl, h default⟩⟩

theorem ds_mono {S : Loc → Prop} {B B' : Nat} (hB : B ≤ B') (w w' : World) (es : Array Event) (h : DS S B w w' es) : DS S B' w w' es := ⟨h.1, fun e he => evC_mono hB (h.2 e he)⟩

theorem Yonder.step (hr : g.status = .running) (h : ∃ g' B', Yonder P main v g' ∧ ∀ w, v.K w → ∃ es, stepG P main g w = .go g' w es ∧ ∀ e ∈ es, EvC v.S B' e) : Yonder P main v g := by
  obtain ⟨g', B', ⟨B, k, hW⟩, hs⟩ := h
  refine ⟨max B B', k + 1, fun w => Goes.step hr fun w₁ h₁ => ?_⟩
  obtain ⟨es, he, hes⟩ := hs w₁ h₁
  rw [he, goes_go]
  exact ⟨⟨rfl, fun e hm => evC_mono (Nat.le_max_right _ _) (hes e hm)⟩, goes_mono (ds_mono (Nat.le_max_left _ _)) (fun _ _ ⟨g₂, h⟩ => ⟨g₂, atIn_mono (Nat.le_max_left _ _) h⟩) (hW w₁)⟩

theorem Yonder.ctl {g' : Goroutine} (hr : g.status = .running) (hs : ∀ w, stepG P main g w = .go g' w) (h : Yonder P main v g') : Yonder P main v g :=
  .step hr ⟨g', 0, h, fun w _ => ⟨#[], hs w, by simp⟩⟩

variable {b : Frame} {a : Act} {k : List Item} {cs : List Frame} {ops : Array Oper} {i : Nat} {rest : List Nat} {o : Oper}

/-- An operation that yields x and reads only the cells on the list. -/
theorem Yonder.op {x : Value} {B : Nat} (ho : ops[i]? = some o) (hw : Region.wanted o (yielded ops a.tmps) = true) (hk : b.kind ≠ .early)
    (hr : ∀ w, v.K w → ∀ K : Result Next → Prop, K (.ok (.value x) w) → K ((execOp a.eval o).run P w)) (he : ∀ w, v.K w → ∀ e ∈ (execOp a.eval o).events P w #[], EvC v.S B e) (h : Yonder P main v (G (b.at (a.put o.dst x) (.inRegion ops rest :: k)) cs)) :
    Yonder P main v (G (b.at a (.inRegion ops (i :: rest) :: k)) cs) :=
  .step rfl ⟨_, B, h, fun w hK => ⟨_, stepG_value ho hw hk (run_eq_of (hr w hK)), fun e hm => he w hK e (mem_listed hm)⟩⟩

/-- .. that lists nothing. -/
theorem Yonder.opq {x : Value} (ho : ops[i]? = some o) (hw : Region.wanted o (yielded ops a.tmps) = true) (hk : b.kind ≠ .early)
    (hr : ∀ w, v.K w → ∀ K : Result Next → Prop, K (.ok (.value x) w) → K ((execOp a.eval o).run P w)) (he : ∀ w, v.K w → ∀ e ∈ (execOp a.eval o).events P w #[], False) (h : Yonder P main v (G (b.at (a.put o.dst x) (.inRegion ops rest :: k)) cs)) :
    Yonder P main v (G (b.at a (.inRegion ops (i :: rest) :: k)) cs) := Yonder.op (B := 0) ho hw hk hr (fun w hK e he' => (he w hK e he').elim) h
/-- .. a load of a cell on the list. -/
theorem Yonder.ld {x y : Value} (c : Addr) (hc : v.f c = some y) (ho : ops[i]? = some o) (hw : Region.wanted o (yielded ops a.tmps) = true) (hk : b.kind ≠ .early)
    (hr : ∀ w, v.K w → ∀ K : Result Next → Prop, K (.ok (.value x) w) → K ((execOp a.eval o).run P w)) (he : ∀ w, v.K w → ∀ e ∈ (execOp a.eval o).events P w #[], e = ⟨.cell c, false, false⟩) (h : Yonder P main v (G (b.at (a.put o.dst x) (.inRegion ops rest :: k)) cs)) :
    Yonder P main v (G (b.at a (.inRegion ops (i :: rest) :: k)) cs) := Yonder.op (B := c.block + 1) ho hw hk hr (fun w hK e he' => ⟨c, he w hK e he', ⟨c, y, rfl, hc⟩, Nat.lt_succ_self _⟩) h

/-- A call. -/
theorem Yonder.call {f : FuncId} {fn : Func} {c : Code} {args : Array Operand} {ats : Array TypeId} (ho : ops[i]? = some o) (hw : Region.wanted o (yielded ops a.tmps) = true) (hk : b.kind ≠ .early) (hop : o.op = .call { callee := .value (.func f), args, argTypes := ats })
    (hf : P.funcs[f]? = some fn) (hname : (fn.name == "runtime.NumGoroutine") = false) (hb : fn.body = some c)
    (h : Yonder P main v (G ((base f).at { tmps := args.map a.eval ++ Array.replicate (fn.ntmps - (args.map a.eval).size) undef, defers := [] } [.code c]) (b.at a (.inRegion ops (i :: rest) :: k) :: cs))) :
    Yonder P main v (G (b.at a (.inRegion ops (i :: rest) :: k)) cs) := by
  refine .ctl rfl (fun w => ?_) h
  have hb' : fn.body.isNone = false := by rw [hb]; rfl
  rw [stepG_enter ho hw hk (run_call_body hop hf hname hb'), enter_at _ hf hb]
  have : listed P b.fn a o w = #[] := by unfold listed; rw [events_call_body hop hf hname hb']; exact seen_none P _
  rw [this]

/-- A call, the callee's frame by its name. -/
theorem Yonder.callE {f : FuncId} {fn : Func} {args : Array Operand} {ats : Array TypeId} (ho : ops[i]? = some o) (hw : Region.wanted o (yielded ops a.tmps) = true) (hk : b.kind ≠ .early) (hop : o.op = .call { callee := .value (.func f), args, argTypes := ats })
    (hf : P.funcs[f]? = some fn) (hname : (fn.name == "runtime.NumGoroutine") = false) (hb : fn.body.isNone = false) (h : Yonder P main v (G (Frame.enter P f (args.map a.eval) .normal) (b.at a (.inRegion ops (i :: rest) :: k) :: cs))) :
    Yonder P main v (G (b.at a (.inRegion ops (i :: rest) :: k)) cs) := by
  refine .ctl rfl (fun w => ?_) h
  rw [stepG_enter ho hw hk (run_call_body hop hf hname hb)]
  have : listed P b.fn a o w = #[] := by unfold listed; rw [events_call_body hop hf hname hb]; exact seen_none P _
  rw [this]

/-- It has come there. -/
theorem Yonder.there (ho : ops[i]? = some o) (hw : Region.wanted o (yielded ops a.tmps) = true) (hk : b.kind ≠ .early)
    (hr : ∀ w, (execOp a.eval o).run P w = .ok (.comm #[rcase v.ch v.z] true (.recv v.ok)) w) (he : ∀ w, (execOp a.eval o).events P w #[] = #[]) (h : v.home (G (b.at a (.inRegion ops (i :: rest) :: k)) cs)) :
    Yonder P main v (G (b.at a (.inRegion ops (i :: rest) :: k)) cs) :=
  ⟨0, 0, fun _ _ _ => ⟨_, atIn_of (s := v.seat) ho hw hk (fun w => by rw [hr]; rfl) he h⟩⟩
end
end Go.Relay
end

/- Package turn's await, in company: the way to the receive, and what is done behind it. -/
section
namespace Go.Proofs.Ytgiiicdpbdfemaa
open Go.Conc Go.RowKit Go.Relay

variable {main : Bool} {V : Nat → Option Wait}

noncomputable def ops107 : Array Oper := match Try.f107.body with | some (.seq (.region _ ops _) _) => ops | _ => #[]
noncomputable def rest107 : Code := match Try.f107.body with | some (.seq _ c) => c | _ => .skip
/-- Where await's receive stands. -/
noncomputable def rec107 (p r : Nat) (cs : List Frame) : Goroutine :=
  G ((base 107).at { tmps := #[.pointer (some ⟨p, 0, none⟩), undef, undef, undef, undef, .pointer (some ⟨p, 0, none⟩), .pointer (some ⟨p, 0, none⟩), .pointer (some ⟨p, 1, none⟩), .chan (some r), undef, undef, undef, undef, undef, undef, undef, undef], defers := [] } [.inRegion ops107 [4, 5, 6, 7, 8, 9, 10], .code rest107]) cs

set_option maxHeartbeats 4000000 in
set_option maxRecDepth 100000 in
theorem way107 (p r : Nat) (cs : List Frame) (v : Wait) (hch : v.ch = r) (hz : v.z = .agg #[]) (hok : v.ok = true) (hf : v.f ⟨p, 1, none⟩ = some (.chan (some r))) (hh : v.home (rec107 p r cs)) :
    Yonder Try.prog main v (G (Frame.enter Try.prog 107 #[.pointer (some ⟨p, 0, none⟩)] .normal) cs) := by
  rw [enter_at _ Try.func107 rfl]
  simp only [Try.f107, Option.getD_some, List.size_toArray, List.length_cons, List.length_nil, Nat.reduceAdd, Nat.reduceSub, Array.replicate_succ, Array.replicate_zero, List.push_toArray, List.append_toArray, List.nil_append, List.cons_append]
  try (first | (refine Yonder.ctl rfl (fun w => stepG_seq) ?_) | (refine Yonder.ctl rfl (fun w => stepG_region) ?_; simp only [List.size_toArray, List.length_cons, List.length_nil, Nat.reduceAdd, Nat.zero_add, List.range, List.range.loop]) | (refine Yonder.ctl rfl (fun w => stepG_region_end) ?_) | (refine Yonder.ctl rfl (fun w => stepG_block) ?_) | (refine Yonder.ctl rfl (fun w => stepG_skip) ?_) | (refine Yonder.ctl rfl (fun w => stepG_inBlock) ?_) | (refine Yonder.ctl rfl (fun w => stepG_ret') ?_) | (refine Yonder.ctl rfl (fun w => stepG_end) ?_) | (refine Yonder.ctl rfl (fun w => stepG_exit rfl) ?_) | (refine Yonder.ctl rfl (fun w => stepG_cond (t := true) rfl) ?_; simp only [if_true, if_false, reduceIte, Bool.false_eq_true]) | (refine Yonder.ctl rfl (fun w => stepG_cond (t := false) rfl) ?_; simp only [if_true, if_false, reduceIte, Bool.false_eq_true]) | (co_applyP Yonder.opq rfl (by rfl) (by decide) ?krun3 ?kev3 ?krest3; (case krun3 => (intro w hw K hK; go_simp; exact hK)); (case kev3 => (intro w hw e he; simp [go_sem, *] at he)); try walk_nrm))
  try (first | (refine Yonder.ctl rfl (fun w => stepG_seq) ?_) | (refine Yonder.ctl rfl (fun w => stepG_region) ?_; simp only [List.size_toArray, List.length_cons, List.length_nil, Nat.reduceAdd, Nat.zero_add, List.range, List.range.loop]) | (refine Yonder.ctl rfl (fun w => stepG_region_end) ?_) | (refine Yonder.ctl rfl (fun w => stepG_block) ?_) | (refine Yonder.ctl rfl (fun w => stepG_skip) ?_) | (refine Yonder.ctl rfl (fun w => stepG_inBlock) ?_) | (refine Yonder.ctl rfl (fun w => stepG_ret') ?_) | (refine Yonder.ctl rfl (fun w => stepG_end) ?_) | (refine Yonder.ctl rfl (fun w => stepG_exit rfl) ?_) | (refine Yonder.ctl rfl (fun w => stepG_cond (t := true) rfl) ?_; simp only [if_true, if_false, reduceIte, Bool.false_eq_true]) | (refine Yonder.ctl rfl (fun w => stepG_cond (t := false) rfl) ?_; simp only [if_true, if_false, reduceIte, Bool.false_eq_true]) | (co_applyP Yonder.opq rfl (by rfl) (by decide) ?krun4 ?kev4 ?krest4; (case krun4 => (intro w hw K hK; go_simp; exact hK)); (case kev4 => (intro w hw e he; simp [go_sem, *] at he)); try walk_nrm))
  try (first | (refine Yonder.ctl rfl (fun w => stepG_seq) ?_) | (refine Yonder.ctl rfl (fun w => stepG_region) ?_; simp only [List.size_toArray, List.length_cons, List.length_nil, Nat.reduceAdd, Nat.zero_add, List.range, List.range.loop]) | (refine Yonder.ctl rfl (fun w => stepG_region_end) ?_) | (refine Yonder.ctl rfl (fun w => stepG_block) ?_) | (refine Yonder.ctl rfl (fun w => stepG_skip) ?_) | (refine Yonder.ctl rfl (fun w => stepG_inBlock) ?_) | (refine Yonder.ctl rfl (fun w => stepG_ret') ?_) | (refine Yonder.ctl rfl (fun w => stepG_end) ?_) | (refine Yonder.ctl rfl (fun w => stepG_exit rfl) ?_) | (refine Yonder.ctl rfl (fun w => stepG_cond (t := true) rfl) ?_; simp only [if_true, if_false, reduceIte, Bool.false_eq_true]) | (refine Yonder.ctl rfl (fun w => stepG_cond (t := false) rfl) ?_; simp only [if_true, if_false, reduceIte, Bool.false_eq_true]) | (co_applyP Yonder.opq rfl (by rfl) (by decide) ?krun5 ?kev5 ?krest5; (case krun5 => (intro w hw K hK; go_simp; exact hK)); (case kev5 => (intro w hw e he; simp [go_sem, *] at he)); try walk_nrm))
  try (first | (refine Yonder.ctl rfl (fun w => stepG_seq) ?_) | (refine Yonder.ctl rfl (fun w => stepG_region) ?_; simp only [List.size_toArray, List.length_cons, List.length_nil, Nat.reduceAdd, Nat.zero_add, List.range, List.range.loop]) | (refine Yonder.ctl rfl (fun w => stepG_region_end) ?_) | (refine Yonder.ctl rfl (fun w => stepG_block) ?_) | (refine Yonder.ctl rfl (fun w => stepG_skip) ?_) | (refine Yonder.ctl rfl (fun w => stepG_inBlock) ?_) | (refine Yonder.ctl rfl (fun w => stepG_ret') ?_) | (refine Yonder.ctl rfl (fun w => stepG_end) ?_) | (refine Yonder.ctl rfl (fun w => stepG_exit rfl) ?_) | (refine Yonder.ctl rfl (fun w => stepG_cond (t := true) rfl) ?_; simp only [if_true, if_false, reduceIte, Bool.false_eq_true]) | (refine Yonder.ctl rfl (fun w => stepG_cond (t := false) rfl) ?_; simp only [if_true, if_false, reduceIte, Bool.false_eq_true]) | (co_applyP Yonder.opq rfl (by rfl) (by decide) ?krun6 ?kev6 ?krest6; (case krun6 => (intro w hw K hK; go_simp; exact hK)); (case kev6 => (intro w hw e he; simp [go_sem, *] at he)); try walk_nrm))
  try (first | (refine Yonder.ctl rfl (fun w => stepG_seq) ?_) | (refine Yonder.ctl rfl (fun w => stepG_region) ?_; simp only [List.size_toArray, List.length_cons, List.length_nil, Nat.reduceAdd, Nat.zero_add, List.range, List.range.loop]) | (refine Yonder.ctl rfl (fun w => stepG_region_end) ?_) | (refine Yonder.ctl rfl (fun w => stepG_block) ?_) | (refine Yonder.ctl rfl (fun w => stepG_skip) ?_) | (refine Yonder.ctl rfl (fun w => stepG_inBlock) ?_) | (refine Yonder.ctl rfl (fun w => stepG_ret') ?_) | (refine Yonder.ctl rfl (fun w => stepG_end) ?_) | (refine Yonder.ctl rfl (fun w => stepG_exit rfl) ?_) | (refine Yonder.ctl rfl (fun w => stepG_cond (t := true) rfl) ?_; simp only [if_true, if_false, reduceIte, Bool.false_eq_true]) | (refine Yonder.ctl rfl (fun w => stepG_cond (t := false) rfl) ?_; simp only [if_true, if_false, reduceIte, Bool.false_eq_true]) | (co_applyP Yonder.opq rfl (by rfl) (by decide) ?krun7 ?kev7 ?krest7; (case krun7 => (intro w hw K hK; go_simp; exact hK)); (case kev7 => (intro w hw e he; simp [go_sem, *] at he)); try walk_nrm))
  try (first | (refine Yonder.ctl rfl (fun w => stepG_seq) ?_) | (refine Yonder.ctl rfl (fun w => stepG_region) ?_; simp only [List.size_toArray, List.length_cons, List.length_nil, Nat.reduceAdd, Nat.zero_add, List.range, List.range.loop]) | (refine Yonder.ctl rfl (fun w => stepG_region_end) ?_) | (refine Yonder.ctl rfl (fun w => stepG_block) ?_) | (refine Yonder.ctl rfl (fun w => stepG_skip) ?_) | (refine Yonder.ctl rfl (fun w => stepG_inBlock) ?_) | (refine Yonder.ctl rfl (fun w => stepG_ret') ?_) | (refine Yonder.ctl rfl (fun w => stepG_end) ?_) | (refine Yonder.ctl rfl (fun w => stepG_exit rfl) ?_) | (refine Yonder.ctl rfl (fun w => stepG_cond (t := true) rfl) ?_; simp only [if_true, if_false, reduceIte, Bool.false_eq_true]) | (refine Yonder.ctl rfl (fun w => stepG_cond (t := false) rfl) ?_; simp only [if_true, if_false, reduceIte, Bool.false_eq_true]) | (co_applyP Yonder.opq rfl (by rfl) (by decide) ?krun8 ?kev8 ?krest8; (case krun8 => (intro w hw K hK; go_simp; exact hK)); (case kev8 => (intro w hw e he; simp [go_sem, *] at he)); try walk_nrm))
  co_applyP Yonder.ld _ hf rfl (by rfl) (by decide) ?krun9 ?kev9 ?krest9; (case krun9 => (intro w hw K hK; have hcx := hw _ _ hf; go_simp; exact hK)); (case kev9 => (intro w hw e he; have hcx := hw _ _ hf; simp [go_sem, *] at he; exact he)); try walk_nrm
  exact Yonder.there rfl (by rfl) (by decide) (fun w => by simp [go_sem, execOp, rcase, Act.eval, hch, hz, hok]) (fun w => by simp [go_sem, execOp, Act.eval]) hh

set_option maxHeartbeats 4000000 in
set_option maxRecDepth 100000 in
/-- Served, await notes whether the thread has ended, and returns. -/
theorem serve107 (p r : Nat) (c : Frame) (cs : List Frame) (ok e0 : Bool) (w : World) (h2 : w.cell? ⟨p, 2, none⟩ = some (.bool e0)) (hz2 : w.frozen? ⟨p, 2, none⟩ = false) (hfr : Free V ⟨p, 2, none⟩) :
    Walk Try.prog main (DR V) (fun g w' => g = G (c.finish (.tuple #[])) cs ∧ ∃ d, w' = ((w.alloc (.cells #[] 129)).setCell ⟨p, 2, none⟩ (.bool (!ok))).at d) (Go.Conc.served (rec107 p r (c :: cs)) (recvd true (.agg #[]) ok)) w := by
  unfold rec107
  rw [served_fr, Frame.finish_at]
  simp only [ops107, rest107, Try.f107, recvd, if_true]
  walk_nrm
  repeat (first | (refine Walk.c rfl ?_) | (refine Walk.cReg ?_; simp only [List.size_toArray, List.length_cons, List.length_nil, Nat.reduceAdd, Nat.zero_add, List.range, List.range.loop]) | (refine Walk.cRet ?_) | (refine Walk.cEnd ?_) | (refine Walk.opq (ho_of (by conv => lhs; whnf) (by kernel_rfl)) (by rfl) (by decide) (fun dd e he => ?_) (fun dd K hK => ?_); (· (simp [go_sem, *] at he; try (subst he; exact evR_read _ _))); go_simp; refine hK _ ?_; clear hK K; try walk_nrm) | (refine Walk.ctl rfl (fun w => stepG_unwanted (ho_of (by conv => lhs; whnf) (by kernel_rfl)) (by rfl)) ?_; walk_nrm))
  (co_applyP Walk.opw (ho_of (by conv => lhs; whnf) (by kernel_rfl)) (by rfl) (by decide) ?wev1 ?wdr1 ?wrun1; (case' wrun1 => (intro dd K hK; go_simp; simp only [alloc_at', setCell_at']; refine hK _ ?wmore1; clear hK K)); (case wdr1 => exact fun dd es hes => DR.alloc' dd es hes); (case wev1 => (intro dd e he; simp [go_sem, *] at he)); try walk_nrm)
  have h2' := cell_alloc w (.cells #[] 129) h2
  have hz2' := frozen_alloc w (.cells #[] 129) h2 hz2
  repeat (first | (refine Walk.c rfl ?_) | (refine Walk.cReg ?_; simp only [List.size_toArray, List.length_cons, List.length_nil, Nat.reduceAdd, Nat.zero_add, List.range, List.range.loop]) | (refine Walk.cRet ?_) | (refine Walk.cEnd ?_) | (refine Walk.opq (ho_of (by conv => lhs; whnf) (by kernel_rfl)) (by rfl) (by decide) (fun dd e he => ?_) (fun dd K hK => ?_); (· (simp [go_sem, *] at he; try (subst he; exact evR_read _ _))); go_simp; refine hK _ ?_; clear hK K; try walk_nrm) | (refine Walk.ctl rfl (fun w => stepG_unwanted (ho_of (by conv => lhs; whnf) (by kernel_rfl)) (by rfl)) ?_; walk_nrm))
  (co_applyP Walk.opw (ho_of (by conv => lhs; whnf) (by kernel_rfl)) (by rfl) (by decide) ?wev2 ?wdr2 ?wrun2; (case' wrun2 => (intro dd K hK; go_simp; simp only [alloc_at', setCell_at']; refine hK _ ?wmore2; clear hK K)); (case wdr2 => exact fun dd es hes => DR.set' hfr h2' dd es hes); (case wev2 => (intro dd e he; simp [go_sem, storedEv, ev_store_bool, ev_store_int, ev_store_slice, ev_store_pointer, *] at he; subst he; exact evR_write _ _ hfr)); try walk_nrm)
  repeat (first | (refine Walk.c rfl ?_) | (refine Walk.cReg ?_; simp only [List.size_toArray, List.length_cons, List.length_nil, Nat.reduceAdd, Nat.zero_add, List.range, List.range.loop]) | (refine Walk.cRet ?_) | (refine Walk.cEnd ?_) | (refine Walk.opq (ho_of (by conv => lhs; whnf) (by kernel_rfl)) (by rfl) (by decide) (fun dd e he => ?_) (fun dd K hK => ?_); (· (simp [go_sem, *] at he; try (subst he; exact evR_read _ _))); go_simp; refine hK _ ?_; clear hK K; try walk_nrm) | (refine Walk.ctl rfl (fun w => stepG_unwanted (ho_of (by conv => lhs; whnf) (by kernel_rfl)) (by rfl)) ?_; walk_nrm))
  exact Walk.ctl rfl (fun w => stepG_leave rfl rfl Try.func107 (results_none rfl _ _ w) (events_results_none rfl _ _)) (.stop fun d => ⟨rfl, d, rfl⟩)
end Go.Proofs.Ytgiiicdpbdfemaa
end

/- Package turn's stand.end, in company: to the close, from there to the receive, and what is done behind it. -/
section
namespace Go.Proofs.Ytgiiicdpbdfemaa
open Go.Conc Go.RowKit Go.Relay

variable {main : Bool} {V : Nat → Option Wait}

noncomputable def ops82 : Array Oper := match Try.f82.body with | some (.seq (.region _ ops _) _) => ops | _ => #[]
noncomputable def rest82 : Code := match Try.f82.body with | some (.seq _ c) => c | _ => .skip
noncomputable def body82 : Code := match rest82 with | .block _ (.loop c) => c | _ => .skip
noncomputable def ops82w : Array Oper := match body82 with | .seq _ (.block _ (.region _ ops _)) => ops | _ => #[]
/-- Where end's close stands; end behind the close; its frame while it is in stand.await. -/
noncomputable def rec82 (p t : Nat) (cs : List Frame) : Goroutine :=
  G ((base 82).at { tmps := #[.pointer (some ⟨p, 0, none⟩), undef, .pointer (some ⟨p, 0, none⟩), .pointer (some ⟨p, 0, none⟩), .pointer (some ⟨p, 0, none⟩), .chan (some t), undef, undef, undef, undef, undef, undef, undef], defers := [] } [.inRegion ops82 [4], .code rest82]) cs
noncomputable def rec82a (p t : Nat) (cs : List Frame) : Goroutine :=
  G ((base 82).at { tmps := #[.pointer (some ⟨p, 0, none⟩), undef, .pointer (some ⟨p, 0, none⟩), .pointer (some ⟨p, 0, none⟩), .pointer (some ⟨p, 0, none⟩), .chan (some t), undef, undef, undef, undef, undef, undef, undef], defers := [] } [.inRegion ops82 [], .code rest82]) cs
noncomputable def fr82 (p t : Nat) : Frame :=
  (base 82).at { tmps := #[.pointer (some ⟨p, 0, none⟩), undef, .pointer (some ⟨p, 0, none⟩), .pointer (some ⟨p, 0, none⟩), .pointer (some ⟨p, 0, none⟩), .chan (some t), .pointer (some ⟨p, 0, none⟩), .pointer (some ⟨p, 0, none⟩), .pointer (some ⟨p, 2, none⟩), .bool false, .bool true, .pointer (some ⟨p, 0, none⟩), undef], defers := [] } [.inRegion ops82w [1], .inBlock 1, .inLoop body82, .inBlock 0]

set_option maxHeartbeats 8000000 in
set_option maxRecDepth 100000 in
theorem end1_in (p t : Nat) (cs : List Frame) (w : World) (h0 : w.cell? ⟨p, 0, none⟩ = some (.chan (some t))) :
    Walk Try.prog main (DR V) (fun g w' => g = rec82 p t cs ∧ ∃ d, w' = w.at d) (G (Frame.enter Try.prog 82 #[.pointer (some ⟨p, 0, none⟩)] .normal) cs) w := by
  rw [enter_at _ Try.func82 rfl]
  simp only [Try.f82, List.size_toArray, List.length_cons, List.length_nil, Nat.reduceAdd, Nat.reduceSub, Array.replicate_succ, Array.replicate_zero, List.push_toArray, List.append_toArray, List.nil_append, List.cons_append]
  repeat (first | (refine Walk.c rfl ?_) | (refine Walk.cReg ?_; simp only [List.size_toArray, List.length_cons, List.length_nil, Nat.reduceAdd, Nat.zero_add, List.range, List.range.loop]) | (refine Walk.cRet ?_) | (refine Walk.cEnd ?_) | (refine Walk.opq (ho_of (by conv => lhs; whnf) (by kernel_rfl)) (by rfl) (by decide) (fun dd e he => ?_) (fun dd K hK => ?_); (· (simp [go_sem, *] at he; try (subst he; exact evR_read _ _))); go_simp; refine hK _ ?_; clear hK K; try walk_nrm) | (refine Walk.ctl rfl (fun w => stepG_unwanted (ho_of (by conv => lhs; whnf) (by kernel_rfl)) (by rfl)) ?_; walk_nrm))
  refine .stop fun d => ⟨?_, d, rfl⟩
  simp only [rec82, ops82, rest82, Try.f82]

theorem close82 (p t : Nat) (cs : List Frame) (w : World) (k : Nat) (hc : w.heap[t]? = some (.chan 0 #[] false k k false)) :
    stepG Try.prog main (rec82 p t cs) w = .go (rec82a p t cs) (w.setChan t 0 #[] true k k false) (closeEvents t) := by
  unfold rec82 rec82a
  simp only [ops82, rest82, Try.f82]
  rw [stepG_close (c := t) (cap := 0) (buf := #[]) (s := k) (r := k) (tm := false) rfl (by rfl) (by decide) rfl rfl hc (by kernel_rfl)]
  rfl

theorem wake82 (p t : Nat) (cs : List Frame) : mayWake Try.prog (rec82 p t cs) = true := by
  unfold rec82
  simp only [ops82, rest82, Try.f82]
  rfl

set_option maxHeartbeats 8000000 in
set_option maxRecDepth 100000 in
theorem end1_way (p t r : Nat) (cs : List Frame) (v : Wait) (hch : v.ch = r) (hz : v.z = .agg #[]) (hok : v.ok = true) (hf : v.f ⟨p, 1, none⟩ = some (.chan (some r))) (hf2 : v.f ⟨p, 2, none⟩ = some (.bool false)) (hh : v.home (rec107 p r (fr82 p t :: cs))) :
    Yonder Try.prog main v (rec82a p t cs) := by
  unfold rec82a
  simp only [ops82, rest82, Try.f82]
  try (first | (refine Yonder.ctl rfl (fun w => stepG_seq) ?_) | (refine Yonder.ctl rfl (fun w => stepG_region) ?_; simp only [List.size_toArray, List.length_cons, List.length_nil, Nat.reduceAdd, Nat.zero_add, List.range, List.range.loop]) | (refine Yonder.ctl rfl (fun w => stepG_region_end) ?_) | (refine Yonder.ctl rfl (fun w => stepG_block) ?_) | (refine Yonder.ctl rfl (fun w => stepG_skip) ?_) | (refine Yonder.ctl rfl (fun w => stepG_inBlock) ?_) | (refine Yonder.ctl rfl (fun w => stepG_ret') ?_) | (refine Yonder.ctl rfl (fun w => stepG_end) ?_) | (refine Yonder.ctl rfl (fun w => stepG_exit rfl) ?_) | (refine Yonder.ctl rfl (fun w => stepG_cond (t := true) rfl) ?_; simp only [if_true, if_false, reduceIte, Bool.false_eq_true]) | (refine Yonder.ctl rfl (fun w => stepG_cond (t := false) rfl) ?_; simp only [if_true, if_false, reduceIte, Bool.false_eq_true]) | (co_applyP Yonder.opq rfl (by rfl) (by decide) ?krun1 ?kev1 ?krest1; (case krun1 => (intro w hw K hK; go_simp; exact hK)); (case kev1 => (intro w hw e he; simp [go_sem, *] at he)); try walk_nrm))
  try (first | (refine Yonder.ctl rfl (fun w => stepG_seq) ?_) | (refine Yonder.ctl rfl (fun w => stepG_region) ?_; simp only [List.size_toArray, List.length_cons, List.length_nil, Nat.reduceAdd, Nat.zero_add, List.range, List.range.loop]) | (refine Yonder.ctl rfl (fun w => stepG_region_end) ?_) | (refine Yonder.ctl rfl (fun w => stepG_block) ?_) | (refine Yonder.ctl rfl (fun w => stepG_skip) ?_) | (refine Yonder.ctl rfl (fun w => stepG_inBlock) ?_) | (refine Yonder.ctl rfl (fun w => stepG_ret') ?_) | (refine Yonder.ctl rfl (fun w => stepG_end) ?_) | (refine Yonder.ctl rfl (fun w => stepG_exit rfl) ?_) | (refine Yonder.ctl rfl (fun w => stepG_cond (t := true) rfl) ?_; simp only [if_true, if_false, reduceIte, Bool.false_eq_true]) | (refine Yonder.ctl rfl (fun w => stepG_cond (t := false) rfl) ?_; simp only [if_true, if_false, reduceIte, Bool.false_eq_true]) | (co_applyP Yonder.opq rfl (by rfl) (by decide) ?krun2 ?kev2 ?krest2; (case krun2 => (intro w hw K hK; go_simp; exact hK)); (case kev2 => (intro w hw e he; simp [go_sem, *] at he)); try walk_nrm))
  refine Yonder.ctl rfl (fun w => stepG_loop) ?_
  try (first | (refine Yonder.ctl rfl (fun w => stepG_seq) ?_) | (refine Yonder.ctl rfl (fun w => stepG_region) ?_; simp only [List.size_toArray, List.length_cons, List.length_nil, Nat.reduceAdd, Nat.zero_add, List.range, List.range.loop]) | (refine Yonder.ctl rfl (fun w => stepG_region_end) ?_) | (refine Yonder.ctl rfl (fun w => stepG_block) ?_) | (refine Yonder.ctl rfl (fun w => stepG_skip) ?_) | (refine Yonder.ctl rfl (fun w => stepG_inBlock) ?_) | (refine Yonder.ctl rfl (fun w => stepG_ret') ?_) | (refine Yonder.ctl rfl (fun w => stepG_end) ?_) | (refine Yonder.ctl rfl (fun w => stepG_exit rfl) ?_) | (refine Yonder.ctl rfl (fun w => stepG_cond (t := true) rfl) ?_; simp only [if_true, if_false, reduceIte, Bool.false_eq_true]) | (refine Yonder.ctl rfl (fun w => stepG_cond (t := false) rfl) ?_; simp only [if_true, if_false, reduceIte, Bool.false_eq_true]) | (co_applyP Yonder.opq rfl (by rfl) (by decide) ?krun3 ?kev3 ?krest3; (case krun3 => (intro w hw K hK; go_simp; exact hK)); (case kev3 => (intro w hw e he; simp [go_sem, *] at he)); try walk_nrm))
  try (first | (refine Yonder.ctl rfl (fun w => stepG_seq) ?_) | (refine Yonder.ctl rfl (fun w => stepG_region) ?_; simp only [List.size_toArray, List.length_cons, List.length_nil, Nat.reduceAdd, Nat.zero_add, List.range, List.range.loop]) | (refine Yonder.ctl rfl (fun w => stepG_region_end) ?_) | (refine Yonder.ctl rfl (fun w => stepG_block) ?_) | (refine Yonder.ctl rfl (fun w => stepG_skip) ?_) | (refine Yonder.ctl rfl (fun w => stepG_inBlock) ?_) | (refine Yonder.ctl rfl (fun w => stepG_ret') ?_) | (refine Yonder.ctl rfl (fun w => stepG_end) ?_) | (refine Yonder.ctl rfl (fun w => stepG_exit rfl) ?_) | (refine Yonder.ctl rfl (fun w => stepG_cond (t := true) rfl) ?_; simp only [if_true, if_false, reduceIte, Bool.false_eq_true]) | (refine Yonder.ctl rfl (fun w => stepG_cond (t := false) rfl) ?_; simp only [if_true, if_false, reduceIte, Bool.false_eq_true]) | (co_applyP Yonder.opq rfl (by rfl) (by decide) ?krun4 ?kev4 ?krest4; (case krun4 => (intro w hw K hK; go_simp; exact hK)); (case kev4 => (intro w hw e he; simp [go_sem, *] at he)); try walk_nrm))
  try (first | (refine Yonder.ctl rfl (fun w => stepG_seq) ?_) | (refine Yonder.ctl rfl (fun w => stepG_region) ?_; simp only [List.size_toArray, List.length_cons, List.length_nil, Nat.reduceAdd, Nat.zero_add, List.range, List.range.loop]) | (refine Yonder.ctl rfl (fun w => stepG_region_end) ?_) | (refine Yonder.ctl rfl (fun w => stepG_block) ?_) | (refine Yonder.ctl rfl (fun w => stepG_skip) ?_) | (refine Yonder.ctl rfl (fun w => stepG_inBlock) ?_) | (refine Yonder.ctl rfl (fun w => stepG_ret') ?_) | (refine Yonder.ctl rfl (fun w => stepG_end) ?_) | (refine Yonder.ctl rfl (fun w => stepG_exit rfl) ?_) | (refine Yonder.ctl rfl (fun w => stepG_cond (t := true) rfl) ?_; simp only [if_true, if_false, reduceIte, Bool.false_eq_true]) | (refine Yonder.ctl rfl (fun w => stepG_cond (t := false) rfl) ?_; simp only [if_true, if_false, reduceIte, Bool.false_eq_true]) | (co_applyP Yonder.opq rfl (by rfl) (by decide) ?krun5 ?kev5 ?krest5; (case krun5 => (intro w hw K hK; go_simp; exact hK)); (case kev5 => (intro w hw e he; simp [go_sem, *] at he)); try walk_nrm))
  try (first | (refine Yonder.ctl rfl (fun w => stepG_seq) ?_) | (refine Yonder.ctl rfl (fun w => stepG_region) ?_; simp only [List.size_toArray, List.length_cons, List.length_nil, Nat.reduceAdd, Nat.zero_add, List.range, List.range.loop]) | (refine Yonder.ctl rfl (fun w => stepG_region_end) ?_) | (refine Yonder.ctl rfl (fun w => stepG_block) ?_) | (refine Yonder.ctl rfl (fun w => stepG_skip) ?_) | (refine Yonder.ctl rfl (fun w => stepG_inBlock) ?_) | (refine Yonder.ctl rfl (fun w => stepG_ret') ?_) | (refine Yonder.ctl rfl (fun w => stepG_end) ?_) | (refine Yonder.ctl rfl (fun w => stepG_exit rfl) ?_) | (refine Yonder.ctl rfl (fun w => stepG_cond (t := true) rfl) ?_; simp only [if_true, if_false, reduceIte, Bool.false_eq_true]) | (refine Yonder.ctl rfl (fun w => stepG_cond (t := false) rfl) ?_; simp only [if_true, if_false, reduceIte, Bool.false_eq_true]) | (co_applyP Yonder.opq rfl (by rfl) (by decide) ?krun6 ?kev6 ?krest6; (case krun6 => (intro w hw K hK; go_simp; exact hK)); (case kev6 => (intro w hw e he; simp [go_sem, *] at he)); try walk_nrm))
  try (first | (refine Yonder.ctl rfl (fun w => stepG_seq) ?_) | (refine Yonder.ctl rfl (fun w => stepG_region) ?_; simp only [List.size_toArray, List.length_cons, List.length_nil, Nat.reduceAdd, Nat.zero_add, List.range, List.range.loop]) | (refine Yonder.ctl rfl (fun w => stepG_region_end) ?_) | (refine Yonder.ctl rfl (fun w => stepG_block) ?_) | (refine Yonder.ctl rfl (fun w => stepG_skip) ?_) | (refine Yonder.ctl rfl (fun w => stepG_inBlock) ?_) | (refine Yonder.ctl rfl (fun w => stepG_ret') ?_) | (refine Yonder.ctl rfl (fun w => stepG_end) ?_) | (refine Yonder.ctl rfl (fun w => stepG_exit rfl) ?_) | (refine Yonder.ctl rfl (fun w => stepG_cond (t := true) rfl) ?_; simp only [if_true, if_false, reduceIte, Bool.false_eq_true]) | (refine Yonder.ctl rfl (fun w => stepG_cond (t := false) rfl) ?_; simp only [if_true, if_false, reduceIte, Bool.false_eq_true]) | (co_applyP Yonder.opq rfl (by rfl) (by decide) ?krun7 ?kev7 ?krest7; (case krun7 => (intro w hw K hK; go_simp; exact hK)); (case kev7 => (intro w hw e he; simp [go_sem, *] at he)); try walk_nrm))
  try (first | (refine Yonder.ctl rfl (fun w => stepG_seq) ?_) | (refine Yonder.ctl rfl (fun w => stepG_region) ?_; simp only [List.size_toArray, List.length_cons, List.length_nil, Nat.reduceAdd, Nat.zero_add, List.range, List.range.loop]) | (refine Yonder.ctl rfl (fun w => stepG_region_end) ?_) | (refine Yonder.ctl rfl (fun w => stepG_block) ?_) | (refine Yonder.ctl rfl (fun w => stepG_skip) ?_) | (refine Yonder.ctl rfl (fun w => stepG_inBlock) ?_) | (refine Yonder.ctl rfl (fun w => stepG_ret') ?_) | (refine Yonder.ctl rfl (fun w => stepG_end) ?_) | (refine Yonder.ctl rfl (fun w => stepG_exit rfl) ?_) | (refine Yonder.ctl rfl (fun w => stepG_cond (t := true) rfl) ?_; simp only [if_true, if_false, reduceIte, Bool.false_eq_true]) | (refine Yonder.ctl rfl (fun w => stepG_cond (t := false) rfl) ?_; simp only [if_true, if_false, reduceIte, Bool.false_eq_true]) | (co_applyP Yonder.opq rfl (by rfl) (by decide) ?krun8 ?kev8 ?krest8; (case krun8 => (intro w hw K hK; go_simp; exact hK)); (case kev8 => (intro w hw e he; simp [go_sem, *] at he)); try walk_nrm))
  co_applyP Yonder.ld _ hf2 rfl (by rfl) (by decide) ?krun17 ?kev17 ?krest17; (case krun17 => (intro w hw K hK; have hcx := hw _ _ hf2; go_simp; exact hK)); (case kev17 => (intro w hw e he; have hcx := hw _ _ hf2; simp [go_sem, *] at he; exact he)); try walk_nrm
  try (first | (refine Yonder.ctl rfl (fun w => stepG_seq) ?_) | (refine Yonder.ctl rfl (fun w => stepG_region) ?_; simp only [List.size_toArray, List.length_cons, List.length_nil, Nat.reduceAdd, Nat.zero_add, List.range, List.range.loop]) | (refine Yonder.ctl rfl (fun w => stepG_region_end) ?_) | (refine Yonder.ctl rfl (fun w => stepG_block) ?_) | (refine Yonder.ctl rfl (fun w => stepG_skip) ?_) | (refine Yonder.ctl rfl (fun w => stepG_inBlock) ?_) | (refine Yonder.ctl rfl (fun w => stepG_ret') ?_) | (refine Yonder.ctl rfl (fun w => stepG_end) ?_) | (refine Yonder.ctl rfl (fun w => stepG_exit rfl) ?_) | (refine Yonder.ctl rfl (fun w => stepG_cond (t := true) rfl) ?_; simp only [if_true, if_false, reduceIte, Bool.false_eq_true]) | (refine Yonder.ctl rfl (fun w => stepG_cond (t := false) rfl) ?_; simp only [if_true, if_false, reduceIte, Bool.false_eq_true]) | (co_applyP Yonder.opq rfl (by rfl) (by decide) ?krun9 ?kev9 ?krest9; (case krun9 => (intro w hw K hK; go_simp; exact hK)); (case kev9 => (intro w hw e he; simp [go_sem, *] at he)); try walk_nrm))
  try (first | (refine Yonder.ctl rfl (fun w => stepG_seq) ?_) | (refine Yonder.ctl rfl (fun w => stepG_region) ?_; simp only [List.size_toArray, List.length_cons, List.length_nil, Nat.reduceAdd, Nat.zero_add, List.range, List.range.loop]) | (refine Yonder.ctl rfl (fun w => stepG_region_end) ?_) | (refine Yonder.ctl rfl (fun w => stepG_block) ?_) | (refine Yonder.ctl rfl (fun w => stepG_skip) ?_) | (refine Yonder.ctl rfl (fun w => stepG_inBlock) ?_) | (refine Yonder.ctl rfl (fun w => stepG_ret') ?_) | (refine Yonder.ctl rfl (fun w => stepG_end) ?_) | (refine Yonder.ctl rfl (fun w => stepG_exit rfl) ?_) | (refine Yonder.ctl rfl (fun w => stepG_cond (t := true) rfl) ?_; simp only [if_true, if_false, reduceIte, Bool.false_eq_true]) | (refine Yonder.ctl rfl (fun w => stepG_cond (t := false) rfl) ?_; simp only [if_true, if_false, reduceIte, Bool.false_eq_true]) | (co_applyP Yonder.opq rfl (by rfl) (by decide) ?krun10 ?kev10 ?krest10; (case krun10 => (intro w hw K hK; go_simp; exact hK)); (case kev10 => (intro w hw e he; simp [go_sem, *] at he)); try walk_nrm))
  try (first | (refine Yonder.ctl rfl (fun w => stepG_seq) ?_) | (refine Yonder.ctl rfl (fun w => stepG_region) ?_; simp only [List.size_toArray, List.length_cons, List.length_nil, Nat.reduceAdd, Nat.zero_add, List.range, List.range.loop]) | (refine Yonder.ctl rfl (fun w => stepG_region_end) ?_) | (refine Yonder.ctl rfl (fun w => stepG_block) ?_) | (refine Yonder.ctl rfl (fun w => stepG_skip) ?_) | (refine Yonder.ctl rfl (fun w => stepG_inBlock) ?_) | (refine Yonder.ctl rfl (fun w => stepG_ret') ?_) | (refine Yonder.ctl rfl (fun w => stepG_end) ?_) | (refine Yonder.ctl rfl (fun w => stepG_exit rfl) ?_) | (refine Yonder.ctl rfl (fun w => stepG_cond (t := true) rfl) ?_; simp only [if_true, if_false, reduceIte, Bool.false_eq_true]) | (refine Yonder.ctl rfl (fun w => stepG_cond (t := false) rfl) ?_; simp only [if_true, if_false, reduceIte, Bool.false_eq_true]) | (co_applyP Yonder.opq rfl (by rfl) (by decide) ?krun11 ?kev11 ?krest11; (case krun11 => (intro w hw K hK; go_simp; exact hK)); (case kev11 => (intro w hw e he; simp [go_sem, *] at he)); try walk_nrm))
  try (first | (refine Yonder.ctl rfl (fun w => stepG_seq) ?_) | (refine Yonder.ctl rfl (fun w => stepG_region) ?_; simp only [List.size_toArray, List.length_cons, List.length_nil, Nat.reduceAdd, Nat.zero_add, List.range, List.range.loop]) | (refine Yonder.ctl rfl (fun w => stepG_region_end) ?_) | (refine Yonder.ctl rfl (fun w => stepG_block) ?_) | (refine Yonder.ctl rfl (fun w => stepG_skip) ?_) | (refine Yonder.ctl rfl (fun w => stepG_inBlock) ?_) | (refine Yonder.ctl rfl (fun w => stepG_ret') ?_) | (refine Yonder.ctl rfl (fun w => stepG_end) ?_) | (refine Yonder.ctl rfl (fun w => stepG_exit rfl) ?_) | (refine Yonder.ctl rfl (fun w => stepG_cond (t := true) rfl) ?_; simp only [if_true, if_false, reduceIte, Bool.false_eq_true]) | (refine Yonder.ctl rfl (fun w => stepG_cond (t := false) rfl) ?_; simp only [if_true, if_false, reduceIte, Bool.false_eq_true]) | (co_applyP Yonder.opq rfl (by rfl) (by decide) ?krun12 ?kev12 ?krest12; (case krun12 => (intro w hw K hK; go_simp; exact hK)); (case kev12 => (intro w hw e he; simp [go_sem, *] at he)); try walk_nrm))
  try (first | (refine Yonder.ctl rfl (fun w => stepG_seq) ?_) | (refine Yonder.ctl rfl (fun w => stepG_region) ?_; simp only [List.size_toArray, List.length_cons, List.length_nil, Nat.reduceAdd, Nat.zero_add, List.range, List.range.loop]) | (refine Yonder.ctl rfl (fun w => stepG_region_end) ?_) | (refine Yonder.ctl rfl (fun w => stepG_block) ?_) | (refine Yonder.ctl rfl (fun w => stepG_skip) ?_) | (refine Yonder.ctl rfl (fun w => stepG_inBlock) ?_) | (refine Yonder.ctl rfl (fun w => stepG_ret') ?_) | (refine Yonder.ctl rfl (fun w => stepG_end) ?_) | (refine Yonder.ctl rfl (fun w => stepG_exit rfl) ?_) | (refine Yonder.ctl rfl (fun w => stepG_cond (t := true) rfl) ?_; simp only [if_true, if_false, reduceIte, Bool.false_eq_true]) | (refine Yonder.ctl rfl (fun w => stepG_cond (t := false) rfl) ?_; simp only [if_true, if_false, reduceIte, Bool.false_eq_true]) | (co_applyP Yonder.opq rfl (by rfl) (by decide) ?krun13 ?kev13 ?krest13; (case krun13 => (intro w hw K hK; go_simp; exact hK)); (case kev13 => (intro w hw e he; simp [go_sem, *] at he)); try walk_nrm))
  try (first | (refine Yonder.ctl rfl (fun w => stepG_seq) ?_) | (refine Yonder.ctl rfl (fun w => stepG_region) ?_; simp only [List.size_toArray, List.length_cons, List.length_nil, Nat.reduceAdd, Nat.zero_add, List.range, List.range.loop]) | (refine Yonder.ctl rfl (fun w => stepG_region_end) ?_) | (refine Yonder.ctl rfl (fun w => stepG_block) ?_) | (refine Yonder.ctl rfl (fun w => stepG_skip) ?_) | (refine Yonder.ctl rfl (fun w => stepG_inBlock) ?_) | (refine Yonder.ctl rfl (fun w => stepG_ret') ?_) | (refine Yonder.ctl rfl (fun w => stepG_end) ?_) | (refine Yonder.ctl rfl (fun w => stepG_exit rfl) ?_) | (refine Yonder.ctl rfl (fun w => stepG_cond (t := true) rfl) ?_; simp only [if_true, if_false, reduceIte, Bool.false_eq_true]) | (refine Yonder.ctl rfl (fun w => stepG_cond (t := false) rfl) ?_; simp only [if_true, if_false, reduceIte, Bool.false_eq_true]) | (co_applyP Yonder.opq rfl (by rfl) (by decide) ?krun14 ?kev14 ?krest14; (case krun14 => (intro w hw K hK; go_simp; exact hK)); (case kev14 => (intro w hw e he; simp [go_sem, *] at he)); try walk_nrm))
  try (first | (refine Yonder.ctl rfl (fun w => stepG_seq) ?_) | (refine Yonder.ctl rfl (fun w => stepG_region) ?_; simp only [List.size_toArray, List.length_cons, List.length_nil, Nat.reduceAdd, Nat.zero_add, List.range, List.range.loop]) | (refine Yonder.ctl rfl (fun w => stepG_region_end) ?_) | (refine Yonder.ctl rfl (fun w => stepG_block) ?_) | (refine Yonder.ctl rfl (fun w => stepG_skip) ?_) | (refine Yonder.ctl rfl (fun w => stepG_inBlock) ?_) | (refine Yonder.ctl rfl (fun w => stepG_ret') ?_) | (refine Yonder.ctl rfl (fun w => stepG_end) ?_) | (refine Yonder.ctl rfl (fun w => stepG_exit rfl) ?_) | (refine Yonder.ctl rfl (fun w => stepG_cond (t := true) rfl) ?_; simp only [if_true, if_false, reduceIte, Bool.false_eq_true]) | (refine Yonder.ctl rfl (fun w => stepG_cond (t := false) rfl) ?_; simp only [if_true, if_false, reduceIte, Bool.false_eq_true]) | (co_applyP Yonder.opq rfl (by rfl) (by decide) ?krun15 ?kev15 ?krest15; (case krun15 => (intro w hw K hK; go_simp; exact hK)); (case kev15 => (intro w hw e he; simp [go_sem, *] at he)); try walk_nrm))
  try (first | (refine Yonder.ctl rfl (fun w => stepG_seq) ?_) | (refine Yonder.ctl rfl (fun w => stepG_region) ?_; simp only [List.size_toArray, List.length_cons, List.length_nil, Nat.reduceAdd, Nat.zero_add, List.range, List.range.loop]) | (refine Yonder.ctl rfl (fun w => stepG_region_end) ?_) | (refine Yonder.ctl rfl (fun w => stepG_block) ?_) | (refine Yonder.ctl rfl (fun w => stepG_skip) ?_) | (refine Yonder.ctl rfl (fun w => stepG_inBlock) ?_) | (refine Yonder.ctl rfl (fun w => stepG_ret') ?_) | (refine Yonder.ctl rfl (fun w => stepG_end) ?_) | (refine Yonder.ctl rfl (fun w => stepG_exit rfl) ?_) | (refine Yonder.ctl rfl (fun w => stepG_cond (t := true) rfl) ?_; simp only [if_true, if_false, reduceIte, Bool.false_eq_true]) | (refine Yonder.ctl rfl (fun w => stepG_cond (t := false) rfl) ?_; simp only [if_true, if_false, reduceIte, Bool.false_eq_true]) | (co_applyP Yonder.opq rfl (by rfl) (by decide) ?krun16 ?kev16 ?krest16; (case krun16 => (intro w hw K hK; go_simp; exact hK)); (case kev16 => (intro w hw e he; simp [go_sem, *] at he)); try walk_nrm))
  refine Yonder.callE rfl (by rfl) (by decide) rfl Try.func107 (by kernel_rfl) (by rfl) ?_
  walk_nrm
  refine way107 p r _ v hch hz hok hf ?_
  simp only [fr82, ops82w, body82, rest82, Try.f82] at hh
  exact hh

set_option maxHeartbeats 8000000 in
set_option maxRecDepth 100000 in
theorem end1_back (p t r : Nat) (c : Frame) (cs : List Frame) (e0 : Bool) (w : World) (h2 : w.cell? ⟨p, 2, none⟩ = some (.bool e0)) (hz2 : w.frozen? ⟨p, 2, none⟩ = false) (hfr : Free V ⟨p, 2, none⟩) :
    Walk Try.prog main (DR V) (fun g w' => g = G (c.finish (.tuple #[])) cs ∧ ∃ d, w' = ((w.alloc (.cells #[] 129)).setCell ⟨p, 2, none⟩ (.bool true)).at d) (Go.Conc.served (rec107 p r (fr82 p t :: c :: cs)) (recvd true (.agg #[]) false)) w := by
  refine (serve107 p r (fr82 p t) (c :: cs) false e0 w h2 hz2 hfr).then ?_
  rintro g w' ⟨rfl, d, rfl⟩
  refine Walk.back ?_ d
  have g2 := World.cell?_setCell_same (w.alloc (.cells #[] 129)) ⟨p, 2, none⟩ (.bool true) (cell_alloc w (.cells #[] 129) h2)
  simp only [Bool.not_false]
  unfold fr82
  rw [Frame.finish_at]
  simp only [ops82w, body82, rest82, Try.f82]
  walk_nrm
  repeat (first | (refine Walk.c rfl ?_) | (refine Walk.cReg ?_; simp only [List.size_toArray, List.length_cons, List.length_nil, Nat.reduceAdd, Nat.zero_add, List.range, List.range.loop]) | (refine Walk.cRet ?_) | (refine Walk.cEnd ?_) | (refine Walk.opq (ho_of (by conv => lhs; whnf) (by kernel_rfl)) (by rfl) (by decide) (fun dd e he => ?_) (fun dd K hK => ?_); (· (simp [go_sem, *] at he; try (subst he; exact evR_read _ _))); go_simp; refine hK _ ?_; clear hK K; try walk_nrm) | (refine Walk.ctl rfl (fun w => stepG_unwanted (ho_of (by conv => lhs; whnf) (by kernel_rfl)) (by rfl)) ?_; walk_nrm))
  refine Walk.ctl rfl (fun w => stepG_inLoop) ?_
  repeat (first | (refine Walk.c rfl ?_) | (refine Walk.cReg ?_; simp only [List.size_toArray, List.length_cons, List.length_nil, Nat.reduceAdd, Nat.zero_add, List.range, List.range.loop]) | (refine Walk.cRet ?_) | (refine Walk.cEnd ?_) | (refine Walk.opq (ho_of (by conv => lhs; whnf) (by kernel_rfl)) (by rfl) (by decide) (fun dd e he => ?_) (fun dd K hK => ?_); (· (simp [go_sem, *] at he; try (subst he; exact evR_read _ _))); go_simp; refine hK _ ?_; clear hK K; try walk_nrm) | (refine Walk.ctl rfl (fun w => stepG_unwanted (ho_of (by conv => lhs; whnf) (by kernel_rfl)) (by rfl)) ?_; walk_nrm))
  exact Walk.ctl rfl (fun w => stepG_leave rfl rfl Try.func82 (results_none rfl _ _ w) (events_results_none rfl _ _)) (.stop fun d => ⟨rfl, d, rfl⟩)
end Go.Proofs.Ytgiiicdpbdfemaa
end
