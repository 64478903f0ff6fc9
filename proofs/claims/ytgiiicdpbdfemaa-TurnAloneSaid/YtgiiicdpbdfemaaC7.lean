/- Part 7. -/
import Derived.Test.YtgiiicdpbdfemaaC6
set_option linter.unusedSimpArgs false
/- Package turn's programs, in company: reach: DoCompare that hits. -/
section
namespace Go.Proofs.Ytgiiicdpbdfemaa
open Go.Conc Go.RowKit Go.Relay
open Go.ConcN (upd upd_ne upd_same)

variable {main : Bool} {V : Nat → Option Wait}


set_option maxHeartbeats 8000000 in
set_option maxRecDepth 100000 in
theorem reach_hit (W : Nat) (cr cb cv : Int) (sw len cap ca : Nat) (x : Value) (z v : Int) (w : World) (h0 : w.cell? ⟨W, 0, none⟩ = some (.slice (some ⟨sw, 0, none⟩) len cap)) (hlt : ca < len) (hc : w.cell? ⟨W, 2 + (cr % 4).toNat, none⟩ = some x) (hz : w.frozen? ⟨W, 2 + (cr % 4).toNat, none⟩ = false) (hf : Free V ⟨W, 2 + (cr % 4).toNat, none⟩) (hz2 : w.cell? ⟨W, 2 + (cb % 4).toNat, none⟩ = some (.int .i64 z)) (hv : w.cell? ⟨sw, ca, none⟩ = some (.int .i64 v)) (hvz : w.frozen? ⟨sw, ca, none⟩ = false) (hvf : Free V ⟨sw, ca, none⟩) (hne : sw ≠ W) (heq : v = z) :
    CallV Try.prog main V 72 #[.pointer (some ⟨W, 0, none⟩), codeV 11 cr ca cb cv] w (.tuple #[]) ((((boxW w 11 cr ca cb cv).setCell ⟨sw, ca, none⟩ (.int .i64 cv)).setCell ⟨W, 2 + (cr % 4).toNat, none⟩ (.int .i64 0)).setCell ⟨W, 2 + (cr % 4).toNat, none⟩ (.int .i64 1)) := by
  refine callW_in Try.func72 rfl fun fr cs => ?_
  refine head72 W 11 cr cb cv sw len cap ca (fr :: cs) w h0 hlt fun u e4 e5 => ?_
  obtain ⟨b0, b1, b2, b3, b4⟩ := box_cells w 11 cr ca cb cv
  obtain ⟨c1, c2⟩ := box_reg 11 cr ca cb cv hc
  rw [hz] at c2
  obtain ⟨cvv, cvz⟩ := box_reg 11 cr ca cb cv hv
  rw [hvz] at cvz
  have c3 := (box_reg 11 cr ca cb cv hz2).1
  generalize boxW w 11 cr ca cb cv = w1 at *
  simp only [tm72, rest72, Try.f72]
  rw [e4, e5]
  clear e4 e5
  repeat (first | (refine Walk.c rfl ?_) | (refine Walk.cReg ?_; simp only [List.size_toArray, List.length_cons, List.length_nil, Nat.reduceAdd, Nat.zero_add, List.range, List.range.loop]) | (refine Walk.cRet ?_) | (refine Walk.cEnd ?_) | (refine Walk.opq (ho_of (by conv => lhs; whnf) (by kernel_rfl)) (by rfl) (by decide) (fun dd e he => ?_) (fun dd K hK => ?_); (· (simp [go_sem, *] at he; try (subst he; exact evR_read _ _))); go_simp; refine hK _ ?_; clear hK K; try walk_nrm) | (refine Walk.ctl rfl (fun w => stepG_unwanted (ho_of (by conv => lhs; whnf) (by kernel_rfl)) (by rfl)) ?_; walk_nrm))
  have hcas : CallV Try.prog main V 64 #[.pointer (some ⟨sw, ca, none⟩), .int .i64 z, .int .i64 cv] w1 (.bool true) (w1.setCell ⟨sw, ca, none⟩ (.int .i64 cv)) := by subst heq; exact cas64_hit _ v cv w1 cvv cvz hvf
  have c1' := (World.cell?_setCell_other w1 ⟨sw, ca, none⟩ ⟨W, 2 + (cr % 4).toNat, none⟩ (.int .i64 cv) (by simp [hne])).trans c1
  have c2' : (w1.setCell ⟨sw, ca, none⟩ (.int .i64 cv)).frozen? ⟨W, 2 + (cr % 4).toNat, none⟩ = false := by rw [World.frozen?_setCell]; exact c2
  refine reg72c_walk W w.heap.size (codeV 11 cr ca cb cv) cr cb cv sw ca _ _ (fun k => ([undef, undef, undef, undef, undef, undef, u 6, u 7, u 8, u 9, u 10, u 11, u 12, u 13, u 14, u 15, u 16, u 17, .pointer (some ⟨w.heap.size, 0, none⟩), .int .i64 11, .bool false, .bool false, u 22, u 23, u 24, u 25, .bool false, .bool false, u 28, u 29, u 30, u 31, u 32, .bool false, .bool false, u 35, u 36, u 37, u 38, u 39, u 40, .bool false, .bool false, u 43, u 44, u 45, u 46, u 47, u 48, u 49, .bool true, .bool true, u 52, u 53, u 54, u 55, u 56, u 57, u 58, u 59, u 60, u 61, u 62, u 63, u 64, u 65, u 66] : List Value).getD k undef) w1 _ z true b3 b4 c3 hcas fun u e6 => ?_
  simp only [tm72c]
  rw [e6]
  clear e6
  generalize w1.setCell ⟨sw, ca, none⟩ (.int .i64 cv) = w2 at *
  repeat (first | (refine Walk.c rfl ?_) | (refine Walk.cReg ?_; simp only [List.size_toArray, List.length_cons, List.length_nil, Nat.reduceAdd, Nat.zero_add, List.range, List.range.loop]) | (refine Walk.cRet ?_) | (refine Walk.cEnd ?_) | (refine Walk.opq (ho_of (by conv => lhs; whnf) (by kernel_rfl)) (by rfl) (by decide) (fun dd e he => ?_) (fun dd K hK => ?_); (· (simp [go_sem, *] at he; try (subst he; exact evR_read _ _))); go_simp; refine hK _ ?_; clear hK K; try walk_nrm) | (refine Walk.ctl rfl (fun w => stepG_unwanted (ho_of (by conv => lhs; whnf) (by kernel_rfl)) (by rfl)) ?_; walk_nrm))
  (co_applyP Walk.opw (ho_of (by conv => lhs; whnf) (by kernel_rfl)) (by rfl) (by decide) ?wev1 ?wdr1 ?wrun1; (case' wrun1 => (intro dd K hK; go_simp; simp only [alloc_at', setCell_at']; refine hK _ ?wmore1; clear hK K)); (case wdr1 => exact fun dd es hes => DR.set' hf c1' dd es hes); (case wev1 => (intro dd e he; simp [go_sem, storedEv, ev_store_bool, ev_store_int, ev_store_slice, ev_store_pointer, *] at he; subst he; exact evR_write _ _ hf)); try walk_nrm)
  have c3' := World.cell?_setCell_same w2 ⟨W, 2 + (cr % 4).toNat, none⟩ (.int .i64 0) c1'
  have c4' : (w2.setCell ⟨W, 2 + (cr % 4).toNat, none⟩ (.int .i64 0)).frozen? ⟨W, 2 + (cr % 4).toNat, none⟩ = false := by rw [World.frozen?_setCell]; exact c2'
  generalize w2.setCell ⟨W, 2 + (cr % 4).toNat, none⟩ (.int .i64 0) = w3 at *
  repeat (first | (refine Walk.c rfl ?_) | (refine Walk.cReg ?_; simp only [List.size_toArray, List.length_cons, List.length_nil, Nat.reduceAdd, Nat.zero_add, List.range, List.range.loop]) | (refine Walk.cRet ?_) | (refine Walk.cEnd ?_) | (refine Walk.opq (ho_of (by conv => lhs; whnf) (by kernel_rfl)) (by rfl) (by decide) (fun dd e he => ?_) (fun dd K hK => ?_); (· (simp [go_sem, *] at he; try (subst he; exact evR_read _ _))); go_simp; refine hK _ ?_; clear hK K; try walk_nrm) | (refine Walk.ctl rfl (fun w => stepG_unwanted (ho_of (by conv => lhs; whnf) (by kernel_rfl)) (by rfl)) ?_; walk_nrm))
  (co_applyP Walk.opw (ho_of (by conv => lhs; whnf) (by kernel_rfl)) (by rfl) (by decide) ?wev2 ?wdr2 ?wrun2; (case' wrun2 => (intro dd K hK; go_simp; simp only [alloc_at', setCell_at']; refine hK _ ?wmore2; clear hK K)); (case wdr2 => exact fun dd es hes => DR.set' hf c3' dd es hes); (case wev2 => (intro dd e he; simp [go_sem, storedEv, ev_store_bool, ev_store_int, ev_store_slice, ev_store_pointer, *] at he; subst he; exact evR_write _ _ hf)); try walk_nrm)
  repeat (first | (refine Walk.c rfl ?_) | (refine Walk.cReg ?_; simp only [List.size_toArray, List.length_cons, List.length_nil, Nat.reduceAdd, Nat.zero_add, List.range, List.range.loop]) | (refine Walk.cRet ?_) | (refine Walk.cEnd ?_) | (refine Walk.opq (ho_of (by conv => lhs; whnf) (by kernel_rfl)) (by rfl) (by decide) (fun dd e he => ?_) (fun dd K hK => ?_); (· (simp [go_sem, *] at he; try (subst he; exact evR_read _ _))); go_simp; refine hK _ ?_; clear hK K; try walk_nrm) | (refine Walk.ctl rfl (fun w => stepG_unwanted (ho_of (by conv => lhs; whnf) (by kernel_rfl)) (by rfl)) ?_; walk_nrm))
  exact Walk.ret0 rfl rfl Try.func72 rfl fun d => ⟨rfl, d, rfl⟩
end Go.Proofs.Ytgiiicdpbdfemaa
end

/- Package turn's programs, in company: a code above the steps. -/
section
namespace Go.Proofs.Ytgiiicdpbdfemaa
open Go.Conc Go.RowKit Go.Relay
open Go.ConcN (upd upd_ne upd_same)

variable {main : Bool} {V : Nat → Option Wait}

set_option maxHeartbeats 8000000 in
set_option maxRecDepth 100000 in
theorem isStep_high (W : Nat) (cd cr ca cb cv : Int) (w : World) (g1 : 11 < cd) :
    CallV Try.prog main V 71 #[.pointer (some ⟨W, 0, none⟩), .agg #[.int .i64 cd, .int .i64 cr, .int .i64 ca, .int .i64 cb, .int .i64 cv]] w (.bool false) (w.alloc (.cells #[.int .i64 cd, .int .i64 cr, .int .i64 ca, .int .i64 cb, .int .i64 cv] 99)) := by
  refine callW_in Try.func71 rfl fun fr cs => ?_
  simp only [Try.ntmps71, List.size_toArray, List.length_cons, List.length_nil, Nat.reduceAdd, Nat.reduceSub, Array.replicate_succ, Array.replicate_zero, List.push_toArray, List.append_toArray, List.nil_append, List.cons_append]
  repeat (first | (refine Walk.c rfl ?_) | (refine Walk.cReg ?_; simp only [List.size_toArray, List.length_cons, List.length_nil, Nat.reduceAdd, Nat.zero_add, List.range, List.range.loop]) | (refine Walk.cRet ?_) | (refine Walk.cEnd ?_) | (refine Walk.opq (ho_of (by conv => lhs; whnf) (by kernel_rfl)) (by rfl) (by decide) (fun dd e he => ?_) (fun dd K hK => ?_); (· (simp [go_sem, *] at he; try (subst he; exact evR_read _ _))); go_simp; refine hK _ ?_; clear hK K; try walk_nrm) | (refine Walk.ctl rfl (fun w => stepG_unwanted (ho_of (by conv => lhs; whnf) (by kernel_rfl)) (by rfl)) ?_; walk_nrm))
  (co_applyP Walk.opw (ho_of (by conv => lhs; whnf) (by kernel_rfl)) (by rfl) (by decide) ?wev1 ?wdr1 ?wrun1; (case' wrun1 => (intro dd K hK; go_simp; simp only [alloc_at', setCell_at']; refine hK _ ?wmore1; clear hK K)); (case wdr1 => exact fun dd es hes => DR.alloc' dd es hes); (case wev1 => (intro dd e he; simp [go_sem, *] at he)); try walk_nrm)
  repeat (first | (refine Walk.c rfl ?_) | (refine Walk.cReg ?_; simp only [List.size_toArray, List.length_cons, List.length_nil, Nat.reduceAdd, Nat.zero_add, List.range, List.range.loop]) | (refine Walk.cRet ?_) | (refine Walk.cEnd ?_) | (refine Walk.opq (ho_of (by conv => lhs; whnf) (by kernel_rfl)) (by rfl) (by decide) (fun dd e he => ?_) (fun dd K hK => ?_); (· (simp [go_sem, *] at he; try (subst he; exact evR_read _ _))); go_simp; refine hK _ ?_; clear hK K; try walk_nrm) | (refine Walk.ctl rfl (fun w => stepG_unwanted (ho_of (by conv => lhs; whnf) (by kernel_rfl)) (by rfl)) ?_; walk_nrm))
  have b0 := World.cell?_alloc_at (w := w) #[.int .i64 cd, .int .i64 cr, .int .i64 ca, .int .i64 cb, .int .i64 cv] 99 w.heap.size 0 rfl
  have b2 := World.cell?_alloc_at (w := w) #[.int .i64 cd, .int .i64 cr, .int .i64 ca, .int .i64 cb, .int .i64 cv] 99 w.heap.size 2 rfl
  replace b0 : (w.alloc (.cells #[.int .i64 cd, .int .i64 cr, .int .i64 ca, .int .i64 cb, .int .i64 cv] 99)).cell? ⟨w.heap.size, 0, none⟩ = some (.int .i64 cd) := b0
  replace b2 : (w.alloc (.cells #[.int .i64 cd, .int .i64 cr, .int .i64 ca, .int .i64 cb, .int .i64 cv] 99)).cell? ⟨w.heap.size, 2, none⟩ = some (.int .i64 ca) := b2
  generalize w.alloc (.cells #[.int .i64 cd, .int .i64 cr, .int .i64 ca, .int .i64 cb, .int .i64 cv] 99) = w1 at *
  generalize w.heap.size = X at *
  have d1 : decide (7 ≤ cd) = true := decide_eq_true (by omega)
  have d2 : decide (cd ≤ 11) = false := decide_eq_false (by omega)
  let S : World → Prop := fun w' => ∃ d, w' = w1.at d
  have hrl : ∀ w₁ w₂, S w₁ → AtRel w₁ w₂ → S w₂ := by
    rintro _ _ ⟨d, rfl⟩ ⟨d', rfl⟩; exact ⟨d', rfl⟩
  have hF : S w1 := ⟨w1.drawn, rfl⟩
  refine Walk.held S hrl hF (by kernel_rfl) (by decide) (Q := fun a' => a'.tmps.getD 4 undef = .bool false ∧ a'.defers = []) (fun w₁ hF => ?_) ?_
  · simp only [List.size_toArray, List.length_cons, List.length_nil, Nat.reduceAdd, Nat.zero_add]
    (co_applyP anyCH_take termsR (fun _ _ h r => hrl _ _ h r) (fun _ _ _ h r => ⟨h.1, hrl _ _ h.2.1 r, h.2.2⟩) (i := 0) rfl (by first | kernel_rfl | decide +kernel) (by first | kernel_rfl | decide +kernel) (by first | kernel_rfl | decide +kernel) (.inl ⟨by rfl, fun _ hw => ⟨run_eq_of ?run2, ?guar2⟩⟩) hF ?rest2; (case run2 => (intro K hK; obtain ⟨dx, hdx⟩ := hw; subst hdx; go_simp; exact hK)); (case guar2 => (obtain ⟨dx, hdx⟩ := hw; subst hdx; refine DR.quiet (fun e he => ?_); have hm := mem_listed he; simp [go_sem, *] at hm; try (subst hm; exact evR_read _ _))); try walk_nrm)
    (co_applyP anyCH_take termsR (fun _ _ h r => hrl _ _ h r) (fun _ _ _ h r => ⟨h.1, hrl _ _ h.2.1 r, h.2.2⟩) (i := 1) rfl (by first | kernel_rfl | decide +kernel) (by first | kernel_rfl | decide +kernel) (by first | kernel_rfl | decide +kernel) (.inl ⟨by rfl, fun _ hw => ⟨run_eq_of ?run3, ?guar3⟩⟩) hF ?rest3; (case run3 => (intro K hK; obtain ⟨dx, hdx⟩ := hw; subst hdx; go_simp; exact hK)); (case guar3 => (obtain ⟨dx, hdx⟩ := hw; subst hdx; refine DR.quiet (fun e he => ?_); have hm := mem_listed he; simp [go_sem, *] at hm; try (subst hm; exact evR_read _ _))); try walk_nrm)
    (co_applyP anyCH_take termsR (fun _ _ h r => hrl _ _ h r) (fun _ _ _ h r => ⟨h.1, hrl _ _ h.2.1 r, h.2.2⟩) (i := 2) rfl (by first | kernel_rfl | decide +kernel) (by first | kernel_rfl | decide +kernel) (by first | kernel_rfl | decide +kernel) (.inl ⟨by rfl, fun _ hw => ⟨run_eq_of ?run4, ?guar4⟩⟩) hF ?rest4; (case run4 => (intro K hK; obtain ⟨dx, hdx⟩ := hw; subst hdx; go_simp; exact hK)); (case guar4 => (obtain ⟨dx, hdx⟩ := hw; subst hdx; refine DR.quiet (fun e he => ?_); have hm := mem_listed he; simp [go_sem, *] at hm; try (subst hm; exact evR_read _ _))); try walk_nrm)
    (co_applyP anyCH_take termsR (fun _ _ h r => hrl _ _ h r) (fun _ _ _ h r => ⟨h.1, hrl _ _ h.2.1 r, h.2.2⟩) (i := 3) rfl (by first | kernel_rfl | decide +kernel) (by first | kernel_rfl | decide +kernel) (by first | kernel_rfl | decide +kernel) (.inl ⟨by rfl, fun _ hw => ⟨run_eq_of ?run5, ?guar5⟩⟩) hF ?rest5; (case run5 => (intro K hK; obtain ⟨dx, hdx⟩ := hw; subst hdx; go_simp; exact hK)); (case guar5 => (obtain ⟨dx, hdx⟩ := hw; subst hdx; refine DR.quiet (fun e he => ?_); have hm := mem_listed he; simp [go_sem, *] at hm; try (subst hm; exact evR_read _ _))); try walk_nrm)
    (co_applyP anyCH_take termsR (fun _ _ h r => hrl _ _ h r) (fun _ _ _ h r => ⟨h.1, hrl _ _ h.2.1 r, h.2.2⟩) (i := 4) rfl (by first | kernel_rfl | decide +kernel) (by first | kernel_rfl | decide +kernel) (by first | kernel_rfl | decide +kernel) (.inl ⟨by rfl, fun _ hw => ⟨run_eq_of ?run6, ?guar6⟩⟩) hF ?rest6; (case run6 => (intro K hK; obtain ⟨dx, hdx⟩ := hw; subst hdx; go_simp; exact hK)); (case guar6 => (obtain ⟨dx, hdx⟩ := hw; subst hdx; refine DR.quiet (fun e he => ?_); have hm := mem_listed he; simp [go_sem, *] at hm; try (subst hm; exact evR_read _ _))); try walk_nrm)
    (co_applyP anyCH_take termsR (fun _ _ h r => hrl _ _ h r) (fun _ _ _ h r => ⟨h.1, hrl _ _ h.2.1 r, h.2.2⟩) (i := 5) rfl (by first | kernel_rfl | decide +kernel) (by first | kernel_rfl | decide +kernel) (by first | kernel_rfl | decide +kernel) (.inl ⟨by rfl, fun _ hw => ⟨run_eq_of ?run7, ?guar7⟩⟩) hF ?rest7; (case run7 => (intro K hK; obtain ⟨dx, hdx⟩ := hw; subst hdx; go_simp; exact hK)); (case guar7 => (obtain ⟨dx, hdx⟩ := hw; subst hdx; refine DR.quiet (fun e he => ?_); have hm := mem_listed he; simp [go_sem, *] at hm; try (subst hm; exact evR_read _ _))); try walk_nrm)
    (co_applyP anyCH_take termsR (fun _ _ h r => hrl _ _ h r) (fun _ _ _ h r => ⟨h.1, hrl _ _ h.2.1 r, h.2.2⟩) (i := 6) rfl (by first | kernel_rfl | decide +kernel) (by first | kernel_rfl | decide +kernel) (by first | kernel_rfl | decide +kernel) (.inl ⟨by rfl, fun _ hw => ⟨run_eq_of ?run8, ?guar8⟩⟩) hF ?rest8; (case run8 => (intro K hK; obtain ⟨dx, hdx⟩ := hw; subst hdx; go_simp; exact hK)); (case guar8 => (obtain ⟨dx, hdx⟩ := hw; subst hdx; refine DR.quiet (fun e he => ?_); have hm := mem_listed he; simp [go_sem, *] at hm; try (subst hm; exact evR_read _ _))); try walk_nrm)
    (co_applyP anyCH_take termsR (fun _ _ h r => hrl _ _ h r) (fun _ _ _ h r => ⟨h.1, hrl _ _ h.2.1 r, h.2.2⟩) (i := 7) rfl (by first | kernel_rfl | decide +kernel) (by first | kernel_rfl | decide +kernel) (by first | kernel_rfl | decide +kernel) (.inl ⟨by rfl, fun _ hw => ⟨run_eq_of ?run9, ?guar9⟩⟩) hF ?rest9; (case run9 => (intro K hK; obtain ⟨dx, hdx⟩ := hw; subst hdx; go_simp; exact hK)); (case guar9 => (obtain ⟨dx, hdx⟩ := hw; subst hdx; refine DR.quiet (fun e he => ?_); have hm := mem_listed he; simp [go_sem, *] at hm; try (subst hm; exact evR_read _ _))); try walk_nrm)
    (co_applyP anyCH_take termsR (fun _ _ h r => hrl _ _ h r) (fun _ _ _ h r => ⟨h.1, hrl _ _ h.2.1 r, h.2.2⟩) (i := 8) rfl (by first | kernel_rfl | decide +kernel) (by first | kernel_rfl | decide +kernel) (by first | kernel_rfl | decide +kernel) (.inl ⟨by rfl, fun _ hw => ⟨run_eq_of ?run10, ?guar10⟩⟩) hF ?rest10; (case run10 => (intro K hK; obtain ⟨dx, hdx⟩ := hw; subst hdx; go_simp; exact hK)); (case guar10 => (obtain ⟨dx, hdx⟩ := hw; subst hdx; refine DR.quiet (fun e he => ?_); have hm := mem_listed he; simp [go_sem, *] at hm; try (subst hm; exact evR_read _ _))); try walk_nrm)
    (co_applyP anyCH_take termsR (fun _ _ h r => hrl _ _ h r) (fun _ _ _ h r => ⟨h.1, hrl _ _ h.2.1 r, h.2.2⟩) (i := 9) rfl (by first | kernel_rfl | decide +kernel) (by first | kernel_rfl | decide +kernel) (by first | kernel_rfl | decide +kernel) (.inr ⟨by rfl, rfl⟩) hF ?rest15; try walk_nrm)
    (co_applyP anyCH_take termsR (fun _ _ h r => hrl _ _ h r) (fun _ _ _ h r => ⟨h.1, hrl _ _ h.2.1 r, h.2.2⟩) (i := 10) rfl (by first | kernel_rfl | decide +kernel) (by first | kernel_rfl | decide +kernel) (by first | kernel_rfl | decide +kernel) (.inr ⟨by rfl, rfl⟩) hF ?rest16; try walk_nrm)
    (co_applyP anyCH_take termsR (fun _ _ h r => hrl _ _ h r) (fun _ _ _ h r => ⟨h.1, hrl _ _ h.2.1 r, h.2.2⟩) (i := 11) rfl (by first | kernel_rfl | decide +kernel) (by first | kernel_rfl | decide +kernel) (by first | kernel_rfl | decide +kernel) (.inr ⟨by rfl, rfl⟩) hF ?rest17; try walk_nrm)
    (co_applyP anyCH_take termsR (fun _ _ h r => hrl _ _ h r) (fun _ _ _ h r => ⟨h.1, hrl _ _ h.2.1 r, h.2.2⟩) (i := 12) rfl (by first | kernel_rfl | decide +kernel) (by first | kernel_rfl | decide +kernel) (by first | kernel_rfl | decide +kernel) (.inl ⟨by rfl, fun _ hw => ⟨run_eq_of ?run11, ?guar11⟩⟩) hF ?rest11; (case run11 => (intro K hK; obtain ⟨dx, hdx⟩ := hw; subst hdx; go_simp; exact hK)); (case guar11 => (obtain ⟨dx, hdx⟩ := hw; subst hdx; refine DR.quiet (fun e he => ?_); have hm := mem_listed he; simp [go_sem, *] at hm; try (subst hm; exact evR_read _ _))); try walk_nrm)
    (co_applyP anyCH_take termsR (fun _ _ h r => hrl _ _ h r) (fun _ _ _ h r => ⟨h.1, hrl _ _ h.2.1 r, h.2.2⟩) (i := 13) rfl (by first | kernel_rfl | decide +kernel) (by first | kernel_rfl | decide +kernel) (by first | kernel_rfl | decide +kernel) (.inl ⟨by rfl, fun _ hw => ⟨run_eq_of ?run12, ?guar12⟩⟩) hF ?rest12; (case run12 => (intro K hK; obtain ⟨dx, hdx⟩ := hw; subst hdx; go_simp; exact hK)); (case guar12 => (obtain ⟨dx, hdx⟩ := hw; subst hdx; refine DR.quiet (fun e he => ?_); have hm := mem_listed he; simp [go_sem, *] at hm; try (subst hm; exact evR_read _ _))); try walk_nrm)
    (co_applyP anyCH_take termsR (fun _ _ h r => hrl _ _ h r) (fun _ _ _ h r => ⟨h.1, hrl _ _ h.2.1 r, h.2.2⟩) (i := 14) rfl (by first | kernel_rfl | decide +kernel) (by first | kernel_rfl | decide +kernel) (by first | kernel_rfl | decide +kernel) (.inr ⟨by rfl, rfl⟩) hF ?rest18; try walk_nrm)
    (co_applyP anyCH_take termsR (fun _ _ h r => hrl _ _ h r) (fun _ _ _ h r => ⟨h.1, hrl _ _ h.2.1 r, h.2.2⟩) (i := 15) rfl (by first | kernel_rfl | decide +kernel) (by first | kernel_rfl | decide +kernel) (by first | kernel_rfl | decide +kernel) (.inr ⟨by rfl, rfl⟩) hF ?rest19; try walk_nrm)
    (co_applyP anyCH_take termsR (fun _ _ h r => hrl _ _ h r) (fun _ _ _ h r => ⟨h.1, hrl _ _ h.2.1 r, h.2.2⟩) (i := 16) rfl (by first | kernel_rfl | decide +kernel) (by first | kernel_rfl | decide +kernel) (by first | kernel_rfl | decide +kernel) (.inr ⟨by rfl, rfl⟩) hF ?rest20; try walk_nrm)
    (co_applyP anyCH_take termsR (fun _ _ h r => hrl _ _ h r) (fun _ _ _ h r => ⟨h.1, hrl _ _ h.2.1 r, h.2.2⟩) (i := 17) rfl (by first | kernel_rfl | decide +kernel) (by first | kernel_rfl | decide +kernel) (by first | kernel_rfl | decide +kernel) (.inr ⟨by rfl, rfl⟩) hF ?rest21; try walk_nrm)
    (co_applyP anyCH_take termsR (fun _ _ h r => hrl _ _ h r) (fun _ _ _ h r => ⟨h.1, hrl _ _ h.2.1 r, h.2.2⟩) (i := 18) rfl (by first | kernel_rfl | decide +kernel) (by first | kernel_rfl | decide +kernel) (by first | kernel_rfl | decide +kernel) (.inr ⟨by rfl, rfl⟩) hF ?rest22; try walk_nrm)
    (co_applyP anyCH_take termsR (fun _ _ h r => hrl _ _ h r) (fun _ _ _ h r => ⟨h.1, hrl _ _ h.2.1 r, h.2.2⟩) (i := 19) rfl (by first | kernel_rfl | decide +kernel) (by first | kernel_rfl | decide +kernel) (by first | kernel_rfl | decide +kernel) (.inr ⟨by rfl, rfl⟩) hF ?rest23; try walk_nrm)
    (co_applyP anyCH_take termsR (fun _ _ h r => hrl _ _ h r) (fun _ _ _ h r => ⟨h.1, hrl _ _ h.2.1 r, h.2.2⟩) (i := 20) rfl (by first | kernel_rfl | decide +kernel) (by first | kernel_rfl | decide +kernel) (by first | kernel_rfl | decide +kernel) (.inr ⟨by rfl, rfl⟩) hF ?rest24; try walk_nrm)
    (co_applyP anyCH_take termsR (fun _ _ h r => hrl _ _ h r) (fun _ _ _ h r => ⟨h.1, hrl _ _ h.2.1 r, h.2.2⟩) (i := 21) rfl (by first | kernel_rfl | decide +kernel) (by first | kernel_rfl | decide +kernel) (by first | kernel_rfl | decide +kernel) (.inr ⟨by rfl, rfl⟩) hF ?rest25; try walk_nrm)
    (co_applyP anyCH_take termsR (fun _ _ h r => hrl _ _ h r) (fun _ _ _ h r => ⟨h.1, hrl _ _ h.2.1 r, h.2.2⟩) (i := 22) rfl (by first | kernel_rfl | decide +kernel) (by first | kernel_rfl | decide +kernel) (by first | kernel_rfl | decide +kernel) (.inl ⟨by rfl, fun _ hw => ⟨run_eq_of ?run13, ?guar13⟩⟩) hF ?rest13; (case run13 => (intro K hK; obtain ⟨dx, hdx⟩ := hw; subst hdx; go_simp; exact hK)); (case guar13 => (obtain ⟨dx, hdx⟩ := hw; subst hdx; refine DR.quiet (fun e he => ?_); have hm := mem_listed he; simp [go_sem, *] at hm; try (subst hm; exact evR_read _ _))); try walk_nrm)
    (co_applyP anyCH_take termsR (fun _ _ h r => hrl _ _ h r) (fun _ _ _ h r => ⟨h.1, hrl _ _ h.2.1 r, h.2.2⟩) (i := 23) rfl (by first | kernel_rfl | decide +kernel) (by first | kernel_rfl | decide +kernel) (by first | kernel_rfl | decide +kernel) (.inl ⟨by rfl, fun _ hw => ⟨run_eq_of ?run14, ?guar14⟩⟩) hF ?rest14; (case run14 => (intro K hK; obtain ⟨dx, hdx⟩ := hw; subst hdx; go_simp; exact hK)); (case guar14 => (obtain ⟨dx, hdx⟩ := hw; subst hdx; refine DR.quiet (fun e he => ?_); have hm := mem_listed he; simp [go_sem, *] at hm; try (subst hm; exact evR_read _ _))); try walk_nrm)
    refine anyCH_done (by first | kernel_rfl | decide +kernel) ⟨rfl, hF, by simp, rfl⟩ _
  · rintro a' w' ⟨d, rfl⟩ ⟨h, hd⟩
    repeat (first | (refine Walk.c rfl ?_) | (refine Walk.cReg ?_; simp only [List.size_toArray, List.length_cons, List.length_nil, Nat.reduceAdd, Nat.zero_add, List.range, List.range.loop]) | (refine Walk.cRet ?_) | (refine Walk.cEnd ?_) | (refine Walk.opq (ho_of (by conv => lhs; whnf) (by kernel_rfl)) (by rfl) (by decide) (fun dd e he => ?_) (fun dd K hK => ?_); (· (simp [go_sem, *] at he; try (subst he; exact evR_read _ _))); go_simp; refine hK _ ?_; clear hK K; try walk_nrm) | (refine Walk.ctl rfl (fun w => stepG_unwanted (ho_of (by conv => lhs; whnf) (by kernel_rfl)) (by rfl)) ?_; walk_nrm))
    exact Walk.ret1 rfl hd Try.func71 rfl fun d' => ⟨h, d', rfl⟩
end Go.Proofs.Ytgiiicdpbdfemaa
end

/- Package turn's programs, in company: a step at no word. -/
section
namespace Go.Proofs.Ytgiiicdpbdfemaa
open Go.Conc Go.RowKit Go.Relay
open Go.ConcN (upd upd_ne upd_same)

variable {main : Bool} {V : Nat → Option Wait}

set_option maxHeartbeats 8000000 in
set_option maxRecDepth 100000 in
theorem isStep_neg (W : Nat) (cd cr ca cb cv : Int) (w : World) (g1 : 7 ≤ cd) (g2 : cd ≤ 11) (g3 : ca < 0) :
    CallV Try.prog main V 71 #[.pointer (some ⟨W, 0, none⟩), .agg #[.int .i64 cd, .int .i64 cr, .int .i64 ca, .int .i64 cb, .int .i64 cv]] w (.bool false) (w.alloc (.cells #[.int .i64 cd, .int .i64 cr, .int .i64 ca, .int .i64 cb, .int .i64 cv] 99)) := by
  refine callW_in Try.func71 rfl fun fr cs => ?_
  simp only [Try.ntmps71, List.size_toArray, List.length_cons, List.length_nil, Nat.reduceAdd, Nat.reduceSub, Array.replicate_succ, Array.replicate_zero, List.push_toArray, List.append_toArray, List.nil_append, List.cons_append]
  repeat (first | (refine Walk.c rfl ?_) | (refine Walk.cReg ?_; simp only [List.size_toArray, List.length_cons, List.length_nil, Nat.reduceAdd, Nat.zero_add, List.range, List.range.loop]) | (refine Walk.cRet ?_) | (refine Walk.cEnd ?_) | (refine Walk.opq (ho_of (by conv => lhs; whnf) (by kernel_rfl)) (by rfl) (by decide) (fun dd e he => ?_) (fun dd K hK => ?_); (· (simp [go_sem, *] at he; try (subst he; exact evR_read _ _))); go_simp; refine hK _ ?_; clear hK K; try walk_nrm) | (refine Walk.ctl rfl (fun w => stepG_unwanted (ho_of (by conv => lhs; whnf) (by kernel_rfl)) (by rfl)) ?_; walk_nrm))
  (co_applyP Walk.opw (ho_of (by conv => lhs; whnf) (by kernel_rfl)) (by rfl) (by decide) ?wev1 ?wdr1 ?wrun1; (case' wrun1 => (intro dd K hK; go_simp; simp only [alloc_at', setCell_at']; refine hK _ ?wmore1; clear hK K)); (case wdr1 => exact fun dd es hes => DR.alloc' dd es hes); (case wev1 => (intro dd e he; simp [go_sem, *] at he)); try walk_nrm)
  repeat (first | (refine Walk.c rfl ?_) | (refine Walk.cReg ?_; simp only [List.size_toArray, List.length_cons, List.length_nil, Nat.reduceAdd, Nat.zero_add, List.range, List.range.loop]) | (refine Walk.cRet ?_) | (refine Walk.cEnd ?_) | (refine Walk.opq (ho_of (by conv => lhs; whnf) (by kernel_rfl)) (by rfl) (by decide) (fun dd e he => ?_) (fun dd K hK => ?_); (· (simp [go_sem, *] at he; try (subst he; exact evR_read _ _))); go_simp; refine hK _ ?_; clear hK K; try walk_nrm) | (refine Walk.ctl rfl (fun w => stepG_unwanted (ho_of (by conv => lhs; whnf) (by kernel_rfl)) (by rfl)) ?_; walk_nrm))
  have b0 := World.cell?_alloc_at (w := w) #[.int .i64 cd, .int .i64 cr, .int .i64 ca, .int .i64 cb, .int .i64 cv] 99 w.heap.size 0 rfl
  have b2 := World.cell?_alloc_at (w := w) #[.int .i64 cd, .int .i64 cr, .int .i64 ca, .int .i64 cb, .int .i64 cv] 99 w.heap.size 2 rfl
  replace b0 : (w.alloc (.cells #[.int .i64 cd, .int .i64 cr, .int .i64 ca, .int .i64 cb, .int .i64 cv] 99)).cell? ⟨w.heap.size, 0, none⟩ = some (.int .i64 cd) := b0
  replace b2 : (w.alloc (.cells #[.int .i64 cd, .int .i64 cr, .int .i64 ca, .int .i64 cb, .int .i64 cv] 99)).cell? ⟨w.heap.size, 2, none⟩ = some (.int .i64 ca) := b2
  generalize w.alloc (.cells #[.int .i64 cd, .int .i64 cr, .int .i64 ca, .int .i64 cb, .int .i64 cv] 99) = w1 at *
  generalize w.heap.size = X at *
  have d1 : decide (7 ≤ cd) = true := decide_eq_true (by omega)
  have d2 : decide (cd ≤ 11) = true := decide_eq_true (by omega)
  have d3 : decide (0 ≤ ca) = false := decide_eq_false (by omega)
  let S : World → Prop := fun w' => ∃ d, w' = w1.at d
  have hrl : ∀ w₁ w₂, S w₁ → AtRel w₁ w₂ → S w₂ := by
    rintro _ _ ⟨d, rfl⟩ ⟨d', rfl⟩; exact ⟨d', rfl⟩
  have hF : S w1 := ⟨w1.drawn, rfl⟩
  refine Walk.held S hrl hF (by kernel_rfl) (by decide) (Q := fun a' => a'.tmps.getD 4 undef = .bool false ∧ a'.defers = []) (fun w₁ hF => ?_) ?_
  · simp only [List.size_toArray, List.length_cons, List.length_nil, Nat.reduceAdd, Nat.zero_add]
    (co_applyP anyCH_take termsR (fun _ _ h r => hrl _ _ h r) (fun _ _ _ h r => ⟨h.1, hrl _ _ h.2.1 r, h.2.2⟩) (i := 0) rfl (by first | kernel_rfl | decide +kernel) (by first | kernel_rfl | decide +kernel) (by first | kernel_rfl | decide +kernel) (.inl ⟨by rfl, fun _ hw => ⟨run_eq_of ?run2, ?guar2⟩⟩) hF ?rest2; (case run2 => (intro K hK; obtain ⟨dx, hdx⟩ := hw; subst hdx; go_simp; exact hK)); (case guar2 => (obtain ⟨dx, hdx⟩ := hw; subst hdx; refine DR.quiet (fun e he => ?_); have hm := mem_listed he; simp [go_sem, *] at hm; try (subst hm; exact evR_read _ _))); try walk_nrm)
    (co_applyP anyCH_take termsR (fun _ _ h r => hrl _ _ h r) (fun _ _ _ h r => ⟨h.1, hrl _ _ h.2.1 r, h.2.2⟩) (i := 1) rfl (by first | kernel_rfl | decide +kernel) (by first | kernel_rfl | decide +kernel) (by first | kernel_rfl | decide +kernel) (.inl ⟨by rfl, fun _ hw => ⟨run_eq_of ?run3, ?guar3⟩⟩) hF ?rest3; (case run3 => (intro K hK; obtain ⟨dx, hdx⟩ := hw; subst hdx; go_simp; exact hK)); (case guar3 => (obtain ⟨dx, hdx⟩ := hw; subst hdx; refine DR.quiet (fun e he => ?_); have hm := mem_listed he; simp [go_sem, *] at hm; try (subst hm; exact evR_read _ _))); try walk_nrm)
    (co_applyP anyCH_take termsR (fun _ _ h r => hrl _ _ h r) (fun _ _ _ h r => ⟨h.1, hrl _ _ h.2.1 r, h.2.2⟩) (i := 2) rfl (by first | kernel_rfl | decide +kernel) (by first | kernel_rfl | decide +kernel) (by first | kernel_rfl | decide +kernel) (.inl ⟨by rfl, fun _ hw => ⟨run_eq_of ?run4, ?guar4⟩⟩) hF ?rest4; (case run4 => (intro K hK; obtain ⟨dx, hdx⟩ := hw; subst hdx; go_simp; exact hK)); (case guar4 => (obtain ⟨dx, hdx⟩ := hw; subst hdx; refine DR.quiet (fun e he => ?_); have hm := mem_listed he; simp [go_sem, *] at hm; try (subst hm; exact evR_read _ _))); try walk_nrm)
    (co_applyP anyCH_take termsR (fun _ _ h r => hrl _ _ h r) (fun _ _ _ h r => ⟨h.1, hrl _ _ h.2.1 r, h.2.2⟩) (i := 3) rfl (by first | kernel_rfl | decide +kernel) (by first | kernel_rfl | decide +kernel) (by first | kernel_rfl | decide +kernel) (.inl ⟨by rfl, fun _ hw => ⟨run_eq_of ?run5, ?guar5⟩⟩) hF ?rest5; (case run5 => (intro K hK; obtain ⟨dx, hdx⟩ := hw; subst hdx; go_simp; exact hK)); (case guar5 => (obtain ⟨dx, hdx⟩ := hw; subst hdx; refine DR.quiet (fun e he => ?_); have hm := mem_listed he; simp [go_sem, *] at hm; try (subst hm; exact evR_read _ _))); try walk_nrm)
    (co_applyP anyCH_take termsR (fun _ _ h r => hrl _ _ h r) (fun _ _ _ h r => ⟨h.1, hrl _ _ h.2.1 r, h.2.2⟩) (i := 4) rfl (by first | kernel_rfl | decide +kernel) (by first | kernel_rfl | decide +kernel) (by first | kernel_rfl | decide +kernel) (.inl ⟨by rfl, fun _ hw => ⟨run_eq_of ?run6, ?guar6⟩⟩) hF ?rest6; (case run6 => (intro K hK; obtain ⟨dx, hdx⟩ := hw; subst hdx; go_simp; exact hK)); (case guar6 => (obtain ⟨dx, hdx⟩ := hw; subst hdx; refine DR.quiet (fun e he => ?_); have hm := mem_listed he; simp [go_sem, *] at hm; try (subst hm; exact evR_read _ _))); try walk_nrm)
    (co_applyP anyCH_take termsR (fun _ _ h r => hrl _ _ h r) (fun _ _ _ h r => ⟨h.1, hrl _ _ h.2.1 r, h.2.2⟩) (i := 5) rfl (by first | kernel_rfl | decide +kernel) (by first | kernel_rfl | decide +kernel) (by first | kernel_rfl | decide +kernel) (.inl ⟨by rfl, fun _ hw => ⟨run_eq_of ?run7, ?guar7⟩⟩) hF ?rest7; (case run7 => (intro K hK; obtain ⟨dx, hdx⟩ := hw; subst hdx; go_simp; exact hK)); (case guar7 => (obtain ⟨dx, hdx⟩ := hw; subst hdx; refine DR.quiet (fun e he => ?_); have hm := mem_listed he; simp [go_sem, *] at hm; try (subst hm; exact evR_read _ _))); try walk_nrm)
    (co_applyP anyCH_take termsR (fun _ _ h r => hrl _ _ h r) (fun _ _ _ h r => ⟨h.1, hrl _ _ h.2.1 r, h.2.2⟩) (i := 6) rfl (by first | kernel_rfl | decide +kernel) (by first | kernel_rfl | decide +kernel) (by first | kernel_rfl | decide +kernel) (.inl ⟨by rfl, fun _ hw => ⟨run_eq_of ?run8, ?guar8⟩⟩) hF ?rest8; (case run8 => (intro K hK; obtain ⟨dx, hdx⟩ := hw; subst hdx; go_simp; exact hK)); (case guar8 => (obtain ⟨dx, hdx⟩ := hw; subst hdx; refine DR.quiet (fun e he => ?_); have hm := mem_listed he; simp [go_sem, *] at hm; try (subst hm; exact evR_read _ _))); try walk_nrm)
    (co_applyP anyCH_take termsR (fun _ _ h r => hrl _ _ h r) (fun _ _ _ h r => ⟨h.1, hrl _ _ h.2.1 r, h.2.2⟩) (i := 7) rfl (by first | kernel_rfl | decide +kernel) (by first | kernel_rfl | decide +kernel) (by first | kernel_rfl | decide +kernel) (.inl ⟨by rfl, fun _ hw => ⟨run_eq_of ?run9, ?guar9⟩⟩) hF ?rest9; (case run9 => (intro K hK; obtain ⟨dx, hdx⟩ := hw; subst hdx; go_simp; exact hK)); (case guar9 => (obtain ⟨dx, hdx⟩ := hw; subst hdx; refine DR.quiet (fun e he => ?_); have hm := mem_listed he; simp [go_sem, *] at hm; try (subst hm; exact evR_read _ _))); try walk_nrm)
    (co_applyP anyCH_take termsR (fun _ _ h r => hrl _ _ h r) (fun _ _ _ h r => ⟨h.1, hrl _ _ h.2.1 r, h.2.2⟩) (i := 8) rfl (by first | kernel_rfl | decide +kernel) (by first | kernel_rfl | decide +kernel) (by first | kernel_rfl | decide +kernel) (.inl ⟨by rfl, fun _ hw => ⟨run_eq_of ?run10, ?guar10⟩⟩) hF ?rest10; (case run10 => (intro K hK; obtain ⟨dx, hdx⟩ := hw; subst hdx; go_simp; exact hK)); (case guar10 => (obtain ⟨dx, hdx⟩ := hw; subst hdx; refine DR.quiet (fun e he => ?_); have hm := mem_listed he; simp [go_sem, *] at hm; try (subst hm; exact evR_read _ _))); try walk_nrm)
    (co_applyP anyCH_take termsR (fun _ _ h r => hrl _ _ h r) (fun _ _ _ h r => ⟨h.1, hrl _ _ h.2.1 r, h.2.2⟩) (i := 9) rfl (by first | kernel_rfl | decide +kernel) (by first | kernel_rfl | decide +kernel) (by first | kernel_rfl | decide +kernel) (.inl ⟨by rfl, fun _ hw => ⟨run_eq_of ?run11, ?guar11⟩⟩) hF ?rest11; (case run11 => (intro K hK; obtain ⟨dx, hdx⟩ := hw; subst hdx; go_simp; exact hK)); (case guar11 => (obtain ⟨dx, hdx⟩ := hw; subst hdx; refine DR.quiet (fun e he => ?_); have hm := mem_listed he; simp [go_sem, *] at hm; try (subst hm; exact evR_read _ _))); try walk_nrm)
    (co_applyP anyCH_take termsR (fun _ _ h r => hrl _ _ h r) (fun _ _ _ h r => ⟨h.1, hrl _ _ h.2.1 r, h.2.2⟩) (i := 10) rfl (by first | kernel_rfl | decide +kernel) (by first | kernel_rfl | decide +kernel) (by first | kernel_rfl | decide +kernel) (.inl ⟨by rfl, fun _ hw => ⟨run_eq_of ?run12, ?guar12⟩⟩) hF ?rest12; (case run12 => (intro K hK; obtain ⟨dx, hdx⟩ := hw; subst hdx; go_simp; exact hK)); (case guar12 => (obtain ⟨dx, hdx⟩ := hw; subst hdx; refine DR.quiet (fun e he => ?_); have hm := mem_listed he; simp [go_sem, *] at hm; try (subst hm; exact evR_read _ _))); try walk_nrm)
    (co_applyP anyCH_take termsR (fun _ _ h r => hrl _ _ h r) (fun _ _ _ h r => ⟨h.1, hrl _ _ h.2.1 r, h.2.2⟩) (i := 11) rfl (by first | kernel_rfl | decide +kernel) (by first | kernel_rfl | decide +kernel) (by first | kernel_rfl | decide +kernel) (.inl ⟨by rfl, fun _ hw => ⟨run_eq_of ?run13, ?guar13⟩⟩) hF ?rest13; (case run13 => (intro K hK; obtain ⟨dx, hdx⟩ := hw; subst hdx; go_simp; exact hK)); (case guar13 => (obtain ⟨dx, hdx⟩ := hw; subst hdx; refine DR.quiet (fun e he => ?_); have hm := mem_listed he; simp [go_sem, *] at hm; try (subst hm; exact evR_read _ _))); try walk_nrm)
    (co_applyP anyCH_take termsR (fun _ _ h r => hrl _ _ h r) (fun _ _ _ h r => ⟨h.1, hrl _ _ h.2.1 r, h.2.2⟩) (i := 12) rfl (by first | kernel_rfl | decide +kernel) (by first | kernel_rfl | decide +kernel) (by first | kernel_rfl | decide +kernel) (.inl ⟨by rfl, fun _ hw => ⟨run_eq_of ?run14, ?guar14⟩⟩) hF ?rest14; (case run14 => (intro K hK; obtain ⟨dx, hdx⟩ := hw; subst hdx; go_simp; exact hK)); (case guar14 => (obtain ⟨dx, hdx⟩ := hw; subst hdx; refine DR.quiet (fun e he => ?_); have hm := mem_listed he; simp [go_sem, *] at hm; try (subst hm; exact evR_read _ _))); try walk_nrm)
    (co_applyP anyCH_take termsR (fun _ _ h r => hrl _ _ h r) (fun _ _ _ h r => ⟨h.1, hrl _ _ h.2.1 r, h.2.2⟩) (i := 13) rfl (by first | kernel_rfl | decide +kernel) (by first | kernel_rfl | decide +kernel) (by first | kernel_rfl | decide +kernel) (.inl ⟨by rfl, fun _ hw => ⟨run_eq_of ?run15, ?guar15⟩⟩) hF ?rest15; (case run15 => (intro K hK; obtain ⟨dx, hdx⟩ := hw; subst hdx; go_simp; exact hK)); (case guar15 => (obtain ⟨dx, hdx⟩ := hw; subst hdx; refine DR.quiet (fun e he => ?_); have hm := mem_listed he; simp [go_sem, *] at hm; try (subst hm; exact evR_read _ _))); try walk_nrm)
    (co_applyP anyCH_take termsR (fun _ _ h r => hrl _ _ h r) (fun _ _ _ h r => ⟨h.1, hrl _ _ h.2.1 r, h.2.2⟩) (i := 14) rfl (by first | kernel_rfl | decide +kernel) (by first | kernel_rfl | decide +kernel) (by first | kernel_rfl | decide +kernel) (.inr ⟨by rfl, rfl⟩) hF ?rest18; try walk_nrm)
    (co_applyP anyCH_take termsR (fun _ _ h r => hrl _ _ h r) (fun _ _ _ h r => ⟨h.1, hrl _ _ h.2.1 r, h.2.2⟩) (i := 15) rfl (by first | kernel_rfl | decide +kernel) (by first | kernel_rfl | decide +kernel) (by first | kernel_rfl | decide +kernel) (.inr ⟨by rfl, rfl⟩) hF ?rest19; try walk_nrm)
    (co_applyP anyCH_take termsR (fun _ _ h r => hrl _ _ h r) (fun _ _ _ h r => ⟨h.1, hrl _ _ h.2.1 r, h.2.2⟩) (i := 16) rfl (by first | kernel_rfl | decide +kernel) (by first | kernel_rfl | decide +kernel) (by first | kernel_rfl | decide +kernel) (.inr ⟨by rfl, rfl⟩) hF ?rest20; try walk_nrm)
    (co_applyP anyCH_take termsR (fun _ _ h r => hrl _ _ h r) (fun _ _ _ h r => ⟨h.1, hrl _ _ h.2.1 r, h.2.2⟩) (i := 17) rfl (by first | kernel_rfl | decide +kernel) (by first | kernel_rfl | decide +kernel) (by first | kernel_rfl | decide +kernel) (.inr ⟨by rfl, rfl⟩) hF ?rest21; try walk_nrm)
    (co_applyP anyCH_take termsR (fun _ _ h r => hrl _ _ h r) (fun _ _ _ h r => ⟨h.1, hrl _ _ h.2.1 r, h.2.2⟩) (i := 18) rfl (by first | kernel_rfl | decide +kernel) (by first | kernel_rfl | decide +kernel) (by first | kernel_rfl | decide +kernel) (.inr ⟨by rfl, rfl⟩) hF ?rest22; try walk_nrm)
    (co_applyP anyCH_take termsR (fun _ _ h r => hrl _ _ h r) (fun _ _ _ h r => ⟨h.1, hrl _ _ h.2.1 r, h.2.2⟩) (i := 19) rfl (by first | kernel_rfl | decide +kernel) (by first | kernel_rfl | decide +kernel) (by first | kernel_rfl | decide +kernel) (.inr ⟨by rfl, rfl⟩) hF ?rest23; try walk_nrm)
    (co_applyP anyCH_take termsR (fun _ _ h r => hrl _ _ h r) (fun _ _ _ h r => ⟨h.1, hrl _ _ h.2.1 r, h.2.2⟩) (i := 20) rfl (by first | kernel_rfl | decide +kernel) (by first | kernel_rfl | decide +kernel) (by first | kernel_rfl | decide +kernel) (.inr ⟨by rfl, rfl⟩) hF ?rest24; try walk_nrm)
    (co_applyP anyCH_take termsR (fun _ _ h r => hrl _ _ h r) (fun _ _ _ h r => ⟨h.1, hrl _ _ h.2.1 r, h.2.2⟩) (i := 21) rfl (by first | kernel_rfl | decide +kernel) (by first | kernel_rfl | decide +kernel) (by first | kernel_rfl | decide +kernel) (.inr ⟨by rfl, rfl⟩) hF ?rest25; try walk_nrm)
    (co_applyP anyCH_take termsR (fun _ _ h r => hrl _ _ h r) (fun _ _ _ h r => ⟨h.1, hrl _ _ h.2.1 r, h.2.2⟩) (i := 22) rfl (by first | kernel_rfl | decide +kernel) (by first | kernel_rfl | decide +kernel) (by first | kernel_rfl | decide +kernel) (.inl ⟨by rfl, fun _ hw => ⟨run_eq_of ?run16, ?guar16⟩⟩) hF ?rest16; (case run16 => (intro K hK; obtain ⟨dx, hdx⟩ := hw; subst hdx; go_simp; exact hK)); (case guar16 => (obtain ⟨dx, hdx⟩ := hw; subst hdx; refine DR.quiet (fun e he => ?_); have hm := mem_listed he; simp [go_sem, *] at hm; try (subst hm; exact evR_read _ _))); try walk_nrm)
    (co_applyP anyCH_take termsR (fun _ _ h r => hrl _ _ h r) (fun _ _ _ h r => ⟨h.1, hrl _ _ h.2.1 r, h.2.2⟩) (i := 23) rfl (by first | kernel_rfl | decide +kernel) (by first | kernel_rfl | decide +kernel) (by first | kernel_rfl | decide +kernel) (.inl ⟨by rfl, fun _ hw => ⟨run_eq_of ?run17, ?guar17⟩⟩) hF ?rest17; (case run17 => (intro K hK; obtain ⟨dx, hdx⟩ := hw; subst hdx; go_simp; exact hK)); (case guar17 => (obtain ⟨dx, hdx⟩ := hw; subst hdx; refine DR.quiet (fun e he => ?_); have hm := mem_listed he; simp [go_sem, *] at hm; try (subst hm; exact evR_read _ _))); try walk_nrm)
    refine anyCH_done (by first | kernel_rfl | decide +kernel) ⟨rfl, hF, by simp, rfl⟩ _
  · rintro a' w' ⟨d, rfl⟩ ⟨h, hd⟩
    repeat (first | (refine Walk.c rfl ?_) | (refine Walk.cReg ?_; simp only [List.size_toArray, List.length_cons, List.length_nil, Nat.reduceAdd, Nat.zero_add, List.range, List.range.loop]) | (refine Walk.cRet ?_) | (refine Walk.cEnd ?_) | (refine Walk.opq (ho_of (by conv => lhs; whnf) (by kernel_rfl)) (by rfl) (by decide) (fun dd e he => ?_) (fun dd K hK => ?_); (· (simp [go_sem, *] at he; try (subst he; exact evR_read _ _))); go_simp; refine hK _ ?_; clear hK K; try walk_nrm) | (refine Walk.ctl rfl (fun w => stepG_unwanted (ho_of (by conv => lhs; whnf) (by kernel_rfl)) (by rfl)) ?_; walk_nrm))
    exact Walk.ret1 rfl hd Try.func71 rfl fun d' => ⟨h, d', rfl⟩
end Go.Proofs.Ytgiiicdpbdfemaa
end

/- Package turn's programs: what a step does, and that reach and isStep do it, in company. -/
section
namespace Go.Proofs.Ytgiiicdpbdfemaa
open Go.Conc Go.RowKit Go.Relay
open Go.ConcN (upd upd_ne upd_same)

def isStepX (nw : Nat) (c : Cd) : Bool := decide (7 ≤ c.d) && decide (c.d ≤ 11) && decide (0 ≤ c.a) && decide (c.a < nw)

/-- A code that is a step: the words, and the thread's own state (but for where it is). -/
def reachX (c : Cd) (words : Nat → Int) (t : Th) : (Nat → Int) × Th :=
  if c.d = 7 then (words, { t with regs := upd t.regs (regN c.r) (words c.a.toNat) })
  else if c.d = 8 then (upd words c.a.toNat (t.regs (regN c.r)), t)
  else if c.d = 9 then (upd words c.a.toNat (IntKind.i64.wrap (words c.a.toNat + c.v)), { t with regs := upd t.regs (regN c.r) (IntKind.i64.wrap (words c.a.toNat + c.v)) })
  else if c.d = 10 then (upd words c.a.toNat (t.regs (regN c.r)), { t with regs := upd t.regs (regN c.r) (words c.a.toNat) })
  else if words c.a.toNat = t.regs (regN c.b) then (upd words c.a.toNat c.v, { t with regs := upd (upd t.regs (regN c.r) 0) (regN c.r) 1 })
  else (words, { t with regs := upd t.regs (regN c.r) 0 })

/-- The words' block. -/
def WsIs (sw nw : Nat) (words : Nat → Int) (w : World) : Prop := ∃ arr, w.heap[sw]? = some (.cells arr 143 (0, 0)) ∧ ∀ j, j < nw → arr[j]? = some (.int .i64 (words j))

structure Both (W sw nw : Nat) (sv cv : Value) (words : Nat → Int) (t : Th) (ta : Option Addr) (tc : Nat) (w : World) : Prop where
  wk : WkIs W sv cv t ta tc w
  ws : WsIs sw nw words w
  ne : sw ≠ W
  no : (Value.slice ta t.told.length tc).ownBlock ≠ some sw

structure Only (W sw : Nat) (w w' : World) : Prop where
  size : w.heap.size ≤ w'.heap.size
  same : ∀ b, b < w.heap.size → b ≠ W → b ≠ sw → w'.heap[b]? = w.heap[b]?

section
variable {main : Bool} {V : Nat → Option Wait} {W sw nw : Nat} {sv cv : Value} {words : Nat → Int} {t : Th} {ta : Option Addr} {tc : Nat} {w w' w'' : World}
theorem Only.trans (h : Only W sw w w') (k : Only W sw w' w'') : Only W sw w w'' := ⟨Nat.le_trans h.size k.size, fun b hb h1 h2 => (k.same b (Nat.lt_of_lt_of_le hb h.size) h1 h2).trans (h.same b hb h1 h2)⟩
theorem Only.box (cd cr ca cb cvv : Int) : Only W sw w (boxW w cd cr ca cb cvv) := ⟨by simp [boxW], fun b hb _ _ => heap_new_lt w _ hb⟩
theorem Only.reg (i : Nat) (v : Value) : Only W sw w (w.setCell ⟨W, i, none⟩ v) := ⟨Nat.le_of_eq (size_set ..).symm, fun b _ h _ => heap_set_other w _ b _ h⟩
theorem Only.word (i : Nat) (v : Value) : Only W sw w (w.setCell ⟨sw, i, none⟩ v) := ⟨Nat.le_of_eq (size_set ..).symm, fun b _ _ h => heap_set_other w _ b _ h⟩

theorem Both.swlt (H : Both W sw nw sv cv words t ta tc w) : sw < w.heap.size := by
  obtain ⟨arr, h, _⟩ := H.ws
  exact (Array.getElem?_eq_some_iff.1 h).1
theorem Both.word (H : Both W sw nw sv cv words t ta tc w) {j : Nat} (hj : j < nw) : w.cell? ⟨sw, j, none⟩ = some (.int .i64 (words j)) := by
  obtain ⟨arr, h, ha⟩ := H.ws
  exact (cell_of h j).trans (ha j hj)
theorem Both.wordz (H : Both W sw nw sv cv words t ta tc w) (j : Nat) : w.frozen? ⟨sw, j, none⟩ = false := by
  obtain ⟨arr, h, _⟩ := H.ws
  exact frozen_of h j
theorem Both.boxed (H : Both W sw nw sv cv words t ta tc w) (cd cr ca cb cvv : Int) : Both W sw nw sv cv words t ta tc (boxW w cd cr ca cb cvv) := by
  obtain ⟨arr, h, ha⟩ := H.ws
  exact ⟨⟨(heap_new_lt w _ H.wk.lt).trans H.wk.blk, row_same H.wk.row fun g hg => heap_new_lt w _ (H.wk.row.lt g hg).2, H.wk.own⟩, ⟨arr, (heap_new_lt w _ H.swlt).trans h, ha⟩, H.ne, H.no⟩
theorem Both.setReg (H : Both W sw nw sv cv words t ta tc w) (n x : Int) : Both W sw nw sv cv words { t with regs := upd t.regs (regN n) x } ta tc (w.setCell ⟨W, 2 + (n % 4).toNat, none⟩ (.int .i64 x)) := by
  obtain ⟨arr, h, ha⟩ := H.ws
  refine ⟨⟨?_, row_same H.wk.row fun g hg => heap_set_other _ _ _ _ fun e => H.wk.own (by rw [hg]; exact congrArg some e), H.wk.own⟩, ⟨arr, (heap_set_other _ _ _ _ H.ne).trans h, ha⟩, H.ne, H.no⟩
  rw [heap_set_self _ _ H.wk.blk]
  exact congrArg (fun a => some (Obj.cells a 156)) (wk_set sv cv t.regs _ (regN_lt n) x)
theorem Both.setWord (H : Both W sw nw sv cv words t ta tc w) {A : Nat} (hA : A < nw) (x : Int) : Both W sw nw sv cv (upd words A x) t ta tc (w.setCell ⟨sw, A, none⟩ (.int .i64 x)) := by
  obtain ⟨arr, h, ha⟩ := H.ws
  refine ⟨⟨(heap_set_other _ _ _ _ (Ne.symm H.ne)).trans H.wk.blk, row_same H.wk.row fun g hg => heap_set_other _ _ _ _ fun e => H.no (by rw [hg]; exact congrArg some e), H.wk.own⟩, ⟨_, heap_set_self _ _ h, fun j hj => ?_⟩, H.ne, H.no⟩
  have hl : A < arr.size := (Array.getElem?_eq_some_iff.1 (ha A hA)).1
  by_cases e : j = A
  · subst e; rw [Array.getElem?_setIfInBounds_self_of_lt hl, upd_same]
  · rw [Array.getElem?_setIfInBounds_ne (Ne.symm e), upd_ne _ _ e]; exact ha j hj

theorem isStep_any (c : Cd) (sa : Option Addr) (cap : Nat) (h0 : w.cell? ⟨W, 0, none⟩ = some (.slice sa nw cap)) :
    CallV Try.prog main V 71 #[.pointer (some ⟨W, 0, none⟩), codeV c.d c.r c.a c.b c.v] w (.bool (isStepX nw c)) (boxW w c.d c.r c.a c.b c.v) := by
  obtain ⟨cd, cr, ca, cb, cvv⟩ := c
  unfold isStepX
  by_cases h1 : 7 ≤ cd
  · by_cases h2 : cd ≤ 11
    · by_cases h3 : 0 ≤ ca
      · have := isStep_yes (main := main) (V := V) W cd cr ca cb cvv sa nw cap w h0 h1 h2 h3
        simp only [decide_eq_true h1, decide_eq_true h2, decide_eq_true h3, Bool.true_and]
        exact this
      · have := isStep_neg (main := main) (V := V) W cd cr ca cb cvv w h1 h2 (by omega)
        simp only [decide_eq_false h3, Bool.and_false, Bool.false_and]
        exact this
    · have := isStep_high (main := main) (V := V) W cd cr ca cb cvv w (by omega)
      simp only [decide_eq_false h2, Bool.and_false, Bool.false_and]
      exact this
  · have := isStep_low (main := main) (V := V) W cd cr ca cb cvv w (by omega)
    simp only [decide_eq_false h1, Bool.false_and]
    exact this

/-- reach does what the step says. -/
theorem reach_any (c : Cd) (cap : Nat) (hsv : sv = .slice (some ⟨sw, 0, none⟩) nw cap) (H : Both W sw nw sv cv words t ta tc w) (hs : isStepX nw c = true) (hF : ∀ i, Free V ⟨W, i, none⟩) (hFw : ∀ i, Free V ⟨sw, i, none⟩) :
    ∃ w', CallV Try.prog main V 72 #[.pointer (some ⟨W, 0, none⟩), codeV c.d c.r c.a c.b c.v] w (.tuple #[]) w' ∧ Both W sw nw sv cv (reachX c words t).1 (reachX c words t).2 ta tc w' ∧ Only W sw w w' := by
  have h0 : w.cell? ⟨W, 0, none⟩ = some (.slice (some ⟨sw, 0, none⟩) nw cap) := (cell_of H.wk.blk 0).trans (by rw [← hsv]; rfl)
  obtain ⟨cd, cr, ca, cb, cvv⟩ := c
  simp only [isStepX, Bool.and_eq_true, decide_eq_true_eq] at hs
  obtain ⟨⟨⟨g1, g2⟩, g3⟩, g4⟩ := hs
  obtain ⟨A, rfl⟩ : ∃ A : Nat, ca = A := ⟨ca.toNat, by omega⟩
  have hA : A < nw := by omega
  have hAA : (A : Int).toNat = A := by omega
  have hB := fun d => H.boxed d cr A cb cvv
  unfold reachX
  simp only [hAA]
  by_cases h7 : cd = 7
  · subst h7
    exact ⟨_, reach_load W cr cb cvv sw nw cap A _ _ w h0 hA (H.wk.reg cr) (H.wk.regz _) (hF _) (H.word hA), (hB 7).setReg cr _, (Only.box ..).trans (Only.reg _ _)⟩
  by_cases h8 : cd = 8
  · subst h8
    exact ⟨_, reach_store W cr cb cvv sw nw cap A _ _ w h0 hA (H.wk.reg cr) (H.word hA) (H.wordz _) (hFw _), (hB 8).setWord hA _, (Only.box ..).trans (Only.word _ _)⟩
  by_cases h9 : cd = 9
  · subst h9
    exact ⟨_, reach_add W cr cb cvv sw nw cap A _ _ w h0 hA (H.wk.reg cr) (H.wk.regz _) (hF _) (H.word hA) (H.wordz _) (hFw _) H.ne, ((hB 9).setWord hA _).setReg cr _, ((Only.box ..).trans (Only.word _ _)).trans (Only.reg _ _)⟩
  by_cases h10 : cd = 10
  · subst h10
    exact ⟨_, reach_swap W cr cb cvv sw nw cap A _ _ w h0 hA (H.wk.reg cr) (H.wk.regz _) (hF _) (H.word hA) (H.wordz _) (hFw _) H.ne, ((hB 10).setWord hA _).setReg cr _, ((Only.box ..).trans (Only.word _ _)).trans (Only.reg _ _)⟩
  have h11 : cd = 11 := by omega
  subst h11
  by_cases he : words A = t.regs (regN cb)
  · refine ⟨_, reach_hit W cr cb cvv sw nw cap A _ _ _ w h0 hA (H.wk.reg cr) (H.wk.regz _) (hF _) (H.wk.reg cb) (H.word hA) (H.wordz _) (hFw _) H.ne he, ?_, (((Only.box ..).trans (Only.word _ _)).trans (Only.reg _ _)).trans (Only.reg _ _)⟩
    have := (((hB 11).setWord hA cvv).setReg cr 0).setReg cr 1
    simpa [he] using this
  · refine ⟨_, reach_miss W cr cb cvv sw nw cap A _ _ _ w h0 hA (H.wk.reg cr) (H.wk.regz _) (hF _) (H.wk.reg cb) (H.word hA) (H.wordz _) he, ?_, (Only.box ..).trans (Only.reg _ _)⟩
    have := (hB 11).setReg cr 0
    simpa [he] using this
end
end Go.Proofs.Ytgiiicdpbdfemaa
end

/- Package turn's programs, in company: walk takes a code. -/
section
namespace Go.Proofs.Ytgiiicdpbdfemaa
open Go.Conc Go.RowKit Go.Relay
open Go.ConcN (upd upd_ne upd_same)

variable {main : Bool} {V : Nat → Option Wait}

set_option maxHeartbeats 8000000 in
set_option maxRecDepth 100000 in
theorem walk_take (W : Nat) (S : Value) (own next cb len cap : Nat) (u : Nat → Value) (cs : List Frame) (w : World) (h1 : w.cell? ⟨W, 1, none⟩ = some (.slice (some ⟨cb, 0, none⟩) len cap)) (hlt : next < len) (cd cr ca cbb cv : Int) (hap : Apart V w.heap.size)
    (hc : ∀ j v, (codeCells cd cr ca cbb cv)[j]? = some v → w.cell? ⟨cb, next * 5 + j, none⟩ = some v) :
    Walk Try.prog main (DR V) (fun g w' => (∃ u', g = G (cd41 W w.heap.size S own next u') cs) ∧ ∃ d, w' = (boxW w cd cr ca cbb cv).at d) (G (hd41 W S own next u) cs) w := by
  unfold hd41
  simp only [body41, Try.f41]
  repeat (first | (refine Walk.c rfl ?_) | (refine Walk.cReg ?_; simp only [List.size_toArray, List.length_cons, List.length_nil, Nat.reduceAdd, Nat.zero_add, List.range, List.range.loop]) | (refine Walk.cRet ?_) | (refine Walk.cEnd ?_) | (refine Walk.opq (ho_of (by conv => lhs; whnf) (by kernel_rfl)) (by rfl) (by decide) (fun dd e he => ?_) (fun dd K hK => ?_); (· (simp [go_sem, *] at he; try (subst he; exact evR_read _ _))); go_simp; refine hK _ ?_; clear hK K; try walk_nrm) | (refine Walk.ctl rfl (fun w => stepG_unwanted (ho_of (by conv => lhs; whnf) (by kernel_rfl)) (by rfl)) ?_; walk_nrm))
  obtain ⟨fs, hu99⟩ := und99
  refine Walk.loadS 99 (.tmp 23) rfl (by rfl) (by decide) rfl cb (next * 5) (codeCells cd cr ca cbb cv) _ rfl hc hu99 rfl (by kernel_rfl) ?_
  walk_nrm
  (co_applyP Walk.opw (ho_of (by conv => lhs; whnf) (by kernel_rfl)) (by rfl) (by decide) ?wev1 ?wdr1 ?wrun1; (case' wrun1 => (intro dd K hK; go_simp; simp only [alloc_at', setCell_at']; refine hK _ ?wmore1; clear hK K)); (case wdr1 => exact fun dd es hes => DR.alloc' dd es hes); (case wev1 => (intro dd e he; simp [go_sem, *] at he)); try walk_nrm)
  refine Walk.storeS 99 (.tmp 6) (.tmp 24) rfl (by rfl) (by decide) rfl w.heap.size (codeCells cd cr ca cbb cv).toArray _ 99 rfl rfl (heap_alloc_new w _) (by kernel_rfl) (by rfl) (by simp [codeCells, Value.oneCell']) hap ?_
  rw [setRow_alloc]
  walk_nrm
  refine Walk.ctl rfl (fun w => stepG_region_end) ?_
  exact .stop fun d => ⟨⟨fun k => ([undef, undef, undef, undef, undef, undef, undef, .int .i64 next, .bool true, .bool true, .int .i64 next, .pointer (some ⟨W, 0, none⟩), .pointer (some ⟨W, 0, none⟩), .pointer (some ⟨W, 1, none⟩), .slice (some ⟨cb, 0, none⟩) len cap, .int .i64 len, .bool true, .bool true, .pointer (some ⟨W, 0, none⟩), .pointer (some ⟨W, 0, none⟩), .pointer (some ⟨W, 1, none⟩), .slice (some ⟨cb, 0, none⟩) len cap, .int .i64 next, .pointer (some ⟨cb, next * 5, none⟩), .agg (codeCells cd cr ca cbb cv).toArray, u 25, u 26, u 27, u 28, u 29, u 30, u 31, u 32, u 33, u 34, u 35, u 36, u 37, u 38, u 39, u 40, u 41, u 42] : List Value).getD k undef, rfl⟩, d, rfl⟩
end Go.Proofs.Ytgiiicdpbdfemaa
end

/- Package turn's stand.run, in company: from its birth into ride, and from ride's return to the close. -/
section
namespace Go.Proofs.Ytgiiicdpbdfemaa
open Go.Conc Go.RowKit Go.Relay

variable {main : Bool} {V : Nat → Option Wait}

/-- The frame below all others of a goroutine that a go statement has started. -/
noncomputable def bornfr : Frame := { (default : Frame) with fn := Try.prog.funcs.size, defers := [], mode := .panicking [goexitEntry] }
noncomputable def def78 (r : Nat) : Deferred := { target := .builtin .close #[128] 0 #[false], args := #[.chan (some r)] }
noncomputable def ops78 : Array Oper := match Try.f78.body with | some (.seq _ (.region _ ops _)) => ops | _ => #[]
noncomputable def fr78 (p r : Nat) (F : Value) : Frame :=
  (baseD 78).at { tmps := #[.pointer (some ⟨p, 0, none⟩), F, undef, undef, .pointer (some ⟨p, 0, none⟩), .pointer (some ⟨p, 0, none⟩), .pointer (some ⟨p, 1, none⟩), .chan (some r), undef, .pointer (some ⟨p, 0, none⟩), F, .pointer (some ⟨p, 0, none⟩), .iface 161 (.pointer (some ⟨p, 0, none⟩)), undef, undef, undef, undef, undef], defers := [def78 r] } [.inRegion ops78 [4, 5, 6, 7, 8, 9, 10]]
/-- Where run stands at its close. -/
noncomputable def rec78 (p r : Nat) (F : Value) (back broken : Bool) : Goroutine :=
  G { (baseD 78).at { tmps := #[.pointer (some ⟨p, 0, none⟩), F, undef, undef, .pointer (some ⟨p, 0, none⟩), .pointer (some ⟨p, 0, none⟩), .pointer (some ⟨p, 1, none⟩), .chan (some r), .tuple #[.bool back, .bool broken], .pointer (some ⟨p, 0, none⟩), F, .pointer (some ⟨p, 0, none⟩), .iface 161 (.pointer (some ⟨p, 0, none⟩)), .tuple #[.bool back, .bool broken], .bool back, .bool broken, .pointer (some ⟨p, 0, none⟩), .pointer (some ⟨p, 3, none⟩)], defers := [def78 r] } [] with mode := .returning } [bornfr]

theorem und161 : Try.prog.underlying 161 = some (.pointer 166) := by kernel_rfl
theorem run_iface161 (a : Option Addr) (w : World) : (Instr.makeInterface 161 (.pointer a)).run Try.prog w = .ok (.iface 161 (.pointer a)) w := by simp [Instr.makeInterface, run_underlying und161]
theorem ev_iface161 (a : Option Addr) (w : World) (es : Array Event) : (Instr.makeInterface 161 (.pointer a)).events Try.prog w es = es := by simp [Instr.makeInterface, run_underlying und161]

set_option maxHeartbeats 8000000 in
set_option maxRecDepth 100000 in
theorem run_enters {Stop : Goroutine → World → Prop} (p r : Nat) (F : Value) (w : World) (h1 : w.cell? ⟨p, 1, none⟩ = some (.chan (some r)))
    (hk : Walk Try.prog main (DR V) Stop (G (Frame.enter Try.prog 60 #[F, .iface 161 (.pointer (some ⟨p, 0, none⟩))] .normal) [fr78 p r F, bornfr]) w) :
    Walk Try.prog main (DR V) Stop (born Try.prog { target := .fn (.func 78) #[], args := #[.pointer (some ⟨p, 0, none⟩), F] }) w := by
  simp only [fr78, ops78, Try.f78] at hk
  refine Walk.ctl rfl (fun w => stepG_deferred (d := { target := .fn (.func 78) #[], args := #[.pointer (some ⟨p, 0, none⟩), F] }) (ds := []) (fr := { (default : Frame) with fn := Try.prog.funcs.size, defers := [{ target := .fn (.func 78) #[], args := #[.pointer (some ⟨p, 0, none⟩), F] }], mode := .panicking [goexitEntry] }) (cs := []) (by simp) rfl rfl Try.func78 (by kernel_rfl) (by rfl)) ?_
  simp only [Array.append_empty]
  rw [enter_atD _ Try.func78 rfl]
  simp only [Try.f78, List.size_toArray, List.length_cons, List.length_nil, Nat.reduceAdd, Nat.reduceSub, Array.replicate_succ, Array.replicate_zero, List.push_toArray, List.append_toArray, List.nil_append, List.cons_append]
  have hi1 := run_iface161
  have hi2 := ev_iface161
  repeat (first | (refine Walk.c rfl ?_) | (refine Walk.cReg ?_; simp only [List.size_toArray, List.length_cons, List.length_nil, Nat.reduceAdd, Nat.zero_add, List.range, List.range.loop]) | (refine Walk.cRet ?_) | (refine Walk.cEnd ?_) | (refine Walk.opq (ho_of (by conv => lhs; whnf) (by kernel_rfl)) (by rfl) (by decide) (fun dd e he => ?_) (fun dd K hK => ?_); (· (simp [go_sem, *] at he; try (subst he; exact evR_read _ _))); go_simp; refine hK _ ?_; clear hK K; try walk_nrm) | (refine Walk.ctl rfl (fun w => stepG_unwanted (ho_of (by conv => lhs; whnf) (by kernel_rfl)) (by rfl)) ?_; walk_nrm))
  refine Walk.ctl rfl (fun w' => stepG_deferOp (d := def78 r) rfl (by rfl) (by decide) (by simp [go_sem, execOp, Deferred.ofValue, def78]) (by simp [go_sem, execOp, Deferred.ofValue])) ?_
  walk_nrm
  repeat (first | (refine Walk.c rfl ?_) | (refine Walk.cReg ?_; simp only [List.size_toArray, List.length_cons, List.length_nil, Nat.reduceAdd, Nat.zero_add, List.range, List.range.loop]) | (refine Walk.cRet ?_) | (refine Walk.cEnd ?_) | (refine Walk.opq (ho_of (by conv => lhs; whnf) (by kernel_rfl)) (by rfl) (by decide) (fun dd e he => ?_) (fun dd K hK => ?_); (· (simp [go_sem, *] at he; try (subst he; exact evR_read _ _))); go_simp; refine hK _ ?_; clear hK K; try walk_nrm) | (refine Walk.ctl rfl (fun w => stepG_unwanted (ho_of (by conv => lhs; whnf) (by kernel_rfl)) (by rfl)) ?_; walk_nrm))
  refine Walk.ctl rfl (fun w => stepG_callValue (f := 60) (first := #[]) (cap := #[]) rfl (by rfl) (by decide) rfl rfl Try.func60 (by kernel_rfl) (by rfl)) ?_
  walk_nrm
  try simp only [Array.append_empty, Array.empty_append]
  exact hk

set_option maxHeartbeats 8000000 in
set_option maxRecDepth 100000 in
theorem run_out (p r : Nat) (F : Value) (back broken x : Bool) (w : World) (h3 : w.cell? ⟨p, 3, none⟩ = some (.bool x)) (hz : w.frozen? ⟨p, 3, none⟩ = false) (hfr : Free V ⟨p, 3, none⟩) :
    Walk Try.prog main (DR V) (fun g w' => g = rec78 p r F back broken ∧ ∃ d, w' = (w.setCell ⟨p, 3, none⟩ (.bool broken)).at d) (G ((fr78 p r F).finish (.tuple #[.bool back, .bool broken])) [bornfr]) w := by
  unfold fr78
  rw [Frame.finish_at]
  simp only [ops78, Try.f78]
  walk_nrm
  repeat (first | (refine Walk.c rfl ?_) | (refine Walk.cReg ?_; simp only [List.size_toArray, List.length_cons, List.length_nil, Nat.reduceAdd, Nat.zero_add, List.range, List.range.loop]) | (refine Walk.cRet ?_) | (refine Walk.cEnd ?_) | (refine Walk.opq (ho_of (by conv => lhs; whnf) (by kernel_rfl)) (by rfl) (by decide) (fun dd e he => ?_) (fun dd K hK => ?_); (· (simp [go_sem, *] at he; try (subst he; exact evR_read _ _))); go_simp; refine hK _ ?_; clear hK K; try walk_nrm) | (refine Walk.ctl rfl (fun w => stepG_unwanted (ho_of (by conv => lhs; whnf) (by kernel_rfl)) (by rfl)) ?_; walk_nrm))
  (co_applyP Walk.opw (ho_of (by conv => lhs; whnf) (by kernel_rfl)) (by rfl) (by decide) ?wev1 ?wdr1 ?wrun1; (case' wrun1 => (intro dd K hK; go_simp; simp only [alloc_at', setCell_at']; refine hK _ ?wmore1; clear hK K)); (case wdr1 => exact fun dd es hes => DR.set' hfr h3 dd es hes); (case wev1 => (intro dd e he; simp [go_sem, storedEv, ev_store_bool, ev_store_int, ev_store_slice, ev_store_pointer, *] at he; subst he; exact evR_write _ _ hfr)); try walk_nrm)
  repeat (first | (refine Walk.c rfl ?_) | (refine Walk.cReg ?_; simp only [List.size_toArray, List.length_cons, List.length_nil, Nat.reduceAdd, Nat.zero_add, List.range, List.range.loop]) | (refine Walk.cRet ?_) | (refine Walk.cEnd ?_) | (refine Walk.opq (ho_of (by conv => lhs; whnf) (by kernel_rfl)) (by rfl) (by decide) (fun dd e he => ?_) (fun dd K hK => ?_); (· (simp [go_sem, *] at he; try (subst he; exact evR_read _ _))); go_simp; refine hK _ ?_; clear hK K; try walk_nrm) | (refine Walk.ctl rfl (fun w => stepG_unwanted (ho_of (by conv => lhs; whnf) (by kernel_rfl)) (by rfl)) ?_; walk_nrm))
  exact .stop fun d => ⟨rfl, d, rfl⟩

theorem close78 (p r : Nat) (F : Value) (back broken : Bool) (w : World) (k : Nat) (hc : w.heap[r]? = some (.chan 0 #[] false k k false)) :
    stepG Try.prog main (rec78 p r F back broken) w = .go (G { (rec78 p r F back broken).frame with defers := [] } [bornfr]) (w.setChan r 0 #[] true k k false) (closeEvents r) := by
  unfold rec78
  exact stepG_deferClose (ds := []) rfl rfl (by kernel_rfl) hc

theorem wake78 (p r : Nat) (F : Value) (back broken : Bool) : mayWake Try.prog (rec78 p r F back broken) = true := rfl

theorem quit78 (p r : Nat) (F : Value) (back broken : Bool) : QuitsD Try.prog 2 0 (G { (rec78 p r F back broken).frame with defers := [] } [bornfr]) := by
  refine QuitsD.ctl rfl (g' := G bornfr []) (fun w => ?_) (QuitsD.ctl rfl (g' := { frame := bornfr, callers := [], status := .finished, dying := none }) (fun w => ?_) ⟨rfl, rfl⟩)
  · have hr : (results Try.f78 (rec78 p r F back broken).frame.tmps).run Try.prog w = .ok (.tuple #[]) w := results_none rfl _ _ w
    have he : (results Try.f78 (rec78 p r F back broken).frame.tmps).events Try.prog w #[] = #[] := events_results_none rfl _ _
    simp only [rec78, Frame.at, baseD, G] at hr he ⊢
    simp [stepG, unwind, doReturn, Try.func78, hr, he, bornfr, goexitEntry, seen, GStep.after]
  · have h0 : (default : Frame).todo = [] := rfl
    simp [G, stepG, unwind, bornfr, goexitEntry, Frame.catches, h0]
end Go.Proofs.Ytgiiicdpbdfemaa
end

/- Package turn's Stepper: a call of Step by the interface comes to the stand's Step. -/
section
namespace Go.Proofs.Ytgiiicdpbdfemaa
open Go.Conc Go.RowKit Go.Relay

variable {main : Bool} {V : Nat → Option Wait}

noncomputable def row161B : Bool := match Try.prog.info? 161 with
  | some ti => (match ti.methods.find? (·.name == "Step") with
    | some m => m.path.isEmpty && (m.func == some (139, true))
    | none => false)
  | none => false
theorem row161 : ∃ ti m, Try.prog.info? 161 = some ti ∧ ti.methods.find? (·.name == "Step") = some m ∧ m.path = #[] ∧ m.func = some (139, true) := by
  have h : row161B = true := by kernel_rfl
  unfold row161B at h
  revert h
  cases h1 : Try.prog.info? 161 with
  | none => simp
  | some ti =>
    simp only []
    cases h2 : ti.methods.find? (·.name == "Step") with
    | none => simp
    | some m =>
      simp only [Bool.and_eq_true, Array.isEmpty_iff, beq_iff_eq]
      exact fun h => ⟨ti, m, rfl, h2, h.1, h.2⟩

theorem method_step (p : Nat) (w : World) (es : Array Event) : (method (Try.prog.types.size + Made.depth) 161 (.pointer (some ⟨p, 0, none⟩)) "Step").run Try.prog w = .ok (139, .pointer (some ⟨p, 0, none⟩)) w ∧ (method (Try.prog.types.size + Made.depth) 161 (.pointer (some ⟨p, 0, none⟩)) "Step").events Try.prog w es = es := by
  obtain ⟨ti, m, h1, h2, h3, h4⟩ := row161
  obtain ⟨k, hk⟩ : ∃ k, Try.prog.types.size + Made.depth = k + 1 := ⟨Try.prog.types.size + (Made.depth - 1), by have : 1 ≤ Made.depth := by decide
                                                                                                                omega⟩
  rw [hk]
  unfold method
  refine ⟨?_, ?_⟩
  · simp [typeInfo, h1, h2, h3, h4, follow, receiverAt, run_underlying und161, Place.get]
  · simp [typeInfo, h1, h2, h3, h4, follow, receiverAt, run_underlying und161, Place.get]

section
variable {Stop : Goroutine → World → Prop} {w : World} {b : Frame} {a : Act} {k : List Item} {cs : List Frame} {ops : Array Oper} {i : Nat} {rest : List Nat} {o : Oper}
theorem stepG_invokeStep {x : Operand} {ats : Array TypeId} (p : Nat) (ho : ops[i]? = some o) (hw : Region.wanted o (yielded ops a.tmps) = true) (hk : b.kind ≠ .early) (hop : o.op = .call { callee := .invoke x "Step", args := #[], argTypes := ats }) (hx : a.eval x = .iface 161 (.pointer (some ⟨p, 0, none⟩))) :
    stepG Try.prog main (G (b.at a (.inRegion ops (i :: rest) :: k)) cs) w = .go (G (Frame.enter Try.prog 139 #[.pointer (some ⟨p, 0, none⟩)] .normal) (b.at a (.inRegion ops (i :: rest) :: k) :: cs)) w := by
  have h1 : ¬ Try.f139.name = "runtime.NumGoroutine" := by decide
  have h2 : ¬ Try.f139.body = none := by simp [Try.f139]
  have hm := method_step p w #[]
  rw [show Try.prog.types.size = 216 from by kernel_rfl] at hm
  have hr : (execOp a.eval o).run Try.prog w = .ok (.enter 139 #[.pointer (some ⟨p, 0, none⟩)]) w := by
    unfold execOp
    simp [hop, resolve, invoke, callMethod, callFunc, hm.1, Try.func139, h1, h2, hx]
  have he : (execOp a.eval o).events Try.prog w #[] = #[] := by
    unfold execOp
    simp [hop, resolve, invoke, callMethod, callFunc, hm.1, hm.2, Try.func139, h1, h2, hx]
  rw [stepG_enter ho hw hk hr]
  have : listed Try.prog b.fn a o w = #[] := by unfold listed; rw [he]; exact seen_none Try.prog _
  rw [this]

theorem Walk.invokeStep {x : Operand} {ats : Array TypeId} (p : Nat) (ho : ops[i]? = some o) (hw : Region.wanted o (yielded ops a.tmps) = true) (hk : b.kind ≠ .early) (hop : o.op = .call { callee := .invoke x "Step", args := #[], argTypes := ats }) (hx : a.eval x = .iface 161 (.pointer (some ⟨p, 0, none⟩)))
    (h : Walk Try.prog main (DR V) Stop (G (Frame.enter Try.prog 139 #[.pointer (some ⟨p, 0, none⟩)] .normal) (b.at a (.inRegion ops (i :: rest) :: k) :: cs)) w) : Walk Try.prog main (DR V) Stop (G (b.at a (.inRegion ops (i :: rest) :: k)) cs) w :=
  Walk.ctl rfl (fun _ => stepG_invokeStep p ho hw hk hop hx) h
end
end Go.Proofs.Ytgiiicdpbdfemaa
end

/- Package turn's programs, in company: walk asks for its turn. -/
section
namespace Go.Proofs.Ytgiiicdpbdfemaa
open Go.Conc Go.RowKit Go.Relay
open Go.ConcN (upd upd_ne upd_same)

variable {main : Bool} {V : Nat → Option Wait}

noncomputable def code41s : Code := match body41b with | .seq (.seq _ (.cond _ c _)) _ => c | _ => .skip
noncomputable def ops41s : Array Oper := match code41s with | .seq (.region _ ops _) _ => ops | _ => #[]
noncomputable def rest41s : Code := match code41s with | .seq _ c => c | _ => .skip
noncomputable def rest41 : Code := match body41b with | .seq _ c => c | _ => .skip
/-- walk's frame while it is in Step. -/
noncomputable def fr41s (W X : Nat) (S : Value) (own : Nat) (next : Int) (u : Nat → Value) : Frame :=
  (base 41).at { tmps := #[.pointer (some ⟨W, 0, none⟩), S, undef, undef, .int .i64 own, .int .i64 next, .pointer (some ⟨X, 0, none⟩), u 7, u 8, u 9, u 10, u 11, u 12, u 13, u 14, u 15, u 16, u 17, u 18, u 19, u 20, u 21, u 22, u 23, u 24, u 25, u 26, .bool true, S, u 29, u 30, u 31, u 32, u 33, u 34, u 35, u 36, u 37, u 38, u 39, u 40, u 41, u 42], defers := [] } [.inRegion ops41s [1], .code rest41s, .code rest41, .inBlock 1, .inLoop body41, .inBlock 0]

set_option maxHeartbeats 8000000 in
set_option maxRecDepth 100000 in
theorem walk_ask (W X p : Nat) (own next len cap ca : Nat) (sa : Option Addr) (cd cr cbb cv : Int) (u : Nat → Value) (cs : List Frame) (w : World) (h0 : w.cell? ⟨W, 0, none⟩ = some (.slice sa len cap)) (g1 : 7 ≤ cd) (g2 : cd ≤ 11) (hlt : ca < len)
    (hx : ∀ j v, (codeCells cd cr ca cbb cv)[j]? = some v → w.cell? ⟨X, 0 + j, none⟩ = some v) :
    Walk Try.prog main (DR V) (fun g w' => (∃ u', g = G (Frame.enter Try.prog 139 #[.pointer (some ⟨p, 0, none⟩)] .normal) (fr41s W X (.iface 161 (.pointer (some ⟨p, 0, none⟩))) own next u' :: cs)) ∧ ∃ d, w' = (boxW w cd cr ca cbb cv).at d) (G (cd41 W X (.iface 161 (.pointer (some ⟨p, 0, none⟩))) own next u) cs) w := by
  unfold cd41
  simp only [body41b, body41, Try.f41]
  repeat (first | (refine Walk.c rfl ?_) | (refine Walk.cReg ?_; simp only [List.size_toArray, List.length_cons, List.length_nil, Nat.reduceAdd, Nat.zero_add, List.range, List.range.loop]) | (refine Walk.cRet ?_) | (refine Walk.cEnd ?_) | (refine Walk.opq (ho_of (by conv => lhs; whnf) (by kernel_rfl)) (by rfl) (by decide) (fun dd e he => ?_) (fun dd K hK => ?_); (· (simp [go_sem, *] at he; try (subst he; exact evR_read _ _))); go_simp; refine hK _ ?_; clear hK K; try walk_nrm) | (refine Walk.ctl rfl (fun w => stepG_unwanted (ho_of (by conv => lhs; whnf) (by kernel_rfl)) (by rfl)) ?_; walk_nrm))
  obtain ⟨fs, hu99⟩ := und99
  refine Walk.loadS 99 (.tmp 6) rfl (by rfl) (by decide) rfl X 0 (codeCells cd cr ca cbb cv) _ rfl hx hu99 rfl (by kernel_rfl) ?_
  walk_nrm
  refine Walk.callV (x := .bool true) (W := boxW w cd cr ca cbb cv) ?_ rfl (by rfl) (by decide) rfl Try.func71 (by kernel_rfl) (by rfl) ?_
  · walk_nrm
    have := isStep_yes (main := main) (V := V) W cd cr ca cbb cv sa len cap w h0 g1 g2 (by omega)
    rw [decide_eq_true (show (ca : Int) < len by omega)] at this
    exact this
  walk_nrm
  repeat (first | (refine Walk.c rfl ?_) | (refine Walk.cReg ?_; simp only [List.size_toArray, List.length_cons, List.length_nil, Nat.reduceAdd, Nat.zero_add, List.range, List.range.loop]) | (refine Walk.cRet ?_) | (refine Walk.cEnd ?_) | (refine Walk.opq (ho_of (by conv => lhs; whnf) (by kernel_rfl)) (by rfl) (by decide) (fun dd e he => ?_) (fun dd K hK => ?_); (· (simp [go_sem, *] at he; try (subst he; exact evR_read _ _))); go_simp; refine hK _ ?_; clear hK K; try walk_nrm) | (refine Walk.ctl rfl (fun w => stepG_unwanted (ho_of (by conv => lhs; whnf) (by kernel_rfl)) (by rfl)) ?_; walk_nrm))
  refine Walk.invokeStep p rfl (by rfl) (by decide) rfl rfl ?_
  exact .stop fun d => ⟨⟨(fun k => ([undef, undef, undef, undef, undef, undef, undef, u 7, u 8, u 9, u 10, u 11, u 12, u 13, u 14, u 15, u 16, u 17, u 18, u 19, u 20, u 21, u 22, u 23, u 24, .pointer (some ⟨W, 0, none⟩), .agg (codeCells cd cr ca cbb cv).toArray, u 27, u 28, u 29, u 30, u 31, u 32, u 33, u 34, u 35, u 36, u 37, u 38, u 39, u 40, u 41, u 42] : List Value).getD k undef), rfl⟩, d, rfl⟩
end Go.Proofs.Ytgiiicdpbdfemaa
end

/- Package turn's programs, in company: walk has had its turn. -/
section
namespace Go.Proofs.Ytgiiicdpbdfemaa
open Go.Conc Go.RowKit Go.Relay
open Go.ConcN (upd upd_ne upd_same)

variable {main : Bool} {V : Nat → Option Wait}

set_option maxHeartbeats 8000000 in
set_option maxRecDepth 100000 in
theorem walk_did (W X : Nat) (S : Value) (own next : Nat) (cd cr ca cbb cv : Int) (u : Nat → Value) (cs : List Frame) (w w' : World) (hn : next < 4611686018427387904)
    (hx : ∀ j v, (codeCells cd cr ca cbb cv)[j]? = some v → w.cell? ⟨X, 0 + j, none⟩ = some v) (hr : CallV Try.prog main V 72 #[.pointer (some ⟨W, 0, none⟩), codeV cd cr ca cbb cv] w (.tuple #[]) w') :
    Walk Try.prog main (DR V) (fun g w'' => (∃ u', g = G (hd41 W S 0 (next + 1 : Nat) u') cs) ∧ ∃ d, w'' = w'.at d) (G ((fr41s W X S own next u).finish (.tuple #[])) cs) w := by
  unfold fr41s
  rw [Frame.finish_at]
  simp only [ops41s, rest41s, code41s, rest41, body41b, body41, Try.f41]
  walk_nrm
  repeat (first | (refine Walk.c rfl ?_) | (refine Walk.cReg ?_; simp only [List.size_toArray, List.length_cons, List.length_nil, Nat.reduceAdd, Nat.zero_add, List.range, List.range.loop]) | (refine Walk.cRet ?_) | (refine Walk.cEnd ?_) | (refine Walk.opq (ho_of (by conv => lhs; whnf) (by kernel_rfl)) (by rfl) (by decide) (fun dd e he => ?_) (fun dd K hK => ?_); (· (simp [go_sem, *] at he; try (subst he; exact evR_read _ _))); go_simp; refine hK _ ?_; clear hK K; try walk_nrm) | (refine Walk.ctl rfl (fun w => stepG_unwanted (ho_of (by conv => lhs; whnf) (by kernel_rfl)) (by rfl)) ?_; walk_nrm))
  obtain ⟨fs, hu99⟩ := und99
  refine Walk.loadS 99 (.tmp 6) rfl (by rfl) (by decide) rfl X 0 (codeCells cd cr ca cbb cv) _ rfl hx hu99 rfl (by kernel_rfl) ?_
  walk_nrm
  refine Walk.callV (x := .tuple #[]) (W := w') ?_ rfl (by rfl) (by decide) rfl Try.func72 (by kernel_rfl) (by rfl) ?_
  · walk_nrm
    exact hr
  walk_nrm
  repeat (first | (refine Walk.c rfl ?_) | (refine Walk.cReg ?_; simp only [List.size_toArray, List.length_cons, List.length_nil, Nat.reduceAdd, Nat.zero_add, List.range, List.range.loop]) | (refine Walk.cRet ?_) | (refine Walk.cEnd ?_) | (refine Walk.opq (ho_of (by conv => lhs; whnf) (by kernel_rfl)) (by rfl) (by decide) (fun dd e he => ?_) (fun dd K hK => ?_); (· (simp [go_sem, *] at he; try (subst he; exact evR_read _ _))); go_simp; refine hK _ ?_; clear hK K; try walk_nrm) | (refine Walk.ctl rfl (fun w => stepG_unwanted (ho_of (by conv => lhs; whnf) (by kernel_rfl)) (by rfl)) ?_; walk_nrm))
  have hwr : IntKind.i64.wrap ((next : Int) + 1) = ((next + 1 : Nat) : Int) := by rw [wrap_ok _ (by omega) (by omega)]; omega
  rw [hwr]
  refine Walk.ctl rfl (fun w => stepG_inLoop) ?_
  exact .stop fun d => ⟨⟨(fun k => ([undef, undef, undef, undef, undef, undef, .pointer (some ⟨X, 0, none⟩), u 7, u 8, u 9, u 10, u 11, u 12, u 13, u 14, u 15, u 16, u 17, u 18, u 19, u 20, u 21, u 22, u 23, u 24, u 25, u 26, .bool true, S, .tuple #[], .pointer (some ⟨W, 0, none⟩), .agg (codeCells cd cr ca cbb cv).toArray, .tuple #[], .int .i64 next, .int .i64 (next + 1 : Nat), u 35, u 36, u 37, u 38, u 39, u 40, u 41, u 42] : List Value).getD k undef), rfl⟩, d, rfl⟩
end Go.Proofs.Ytgiiicdpbdfemaa
end

/- Package turn's programs, in company: a code that is no step. -/
section
namespace Go.Proofs.Ytgiiicdpbdfemaa
open Go.Conc Go.RowKit Go.Relay
open Go.ConcN (upd upd_ne upd_same)

variable {main : Bool} {V : Nat → Option Wait}

set_option maxHeartbeats 8000000 in
set_option maxRecDepth 100000 in
theorem walk_own (W X : Nat) (S : Value) (own next : Nat) (cd cr ca cbb cv : Int) (u : Nat → Value) (cs : List Frame) (w : World) (Post : Int → World → Prop) (hs : CallV Try.prog main V 71 #[.pointer (some ⟨W, 0, none⟩), codeV cd cr ca cbb cv] w (.bool false) (boxW w cd cr ca cbb cv)) (ho : own < 4096)
    (hx : ∀ j v, (codeCells cd cr ca cbb cv)[j]? = some v → w.cell? ⟨X, 0 + j, none⟩ = some v) (hr : CallW Try.prog main V 73 #[.pointer (some ⟨W, 0, none⟩), codeV cd cr ca cbb cv, .int .i64 next] (boxW w cd cr ca cbb cv) (fun v w' => ∃ nx : Int, v = .int .i64 nx ∧ Post nx w')) :
    Walk Try.prog main (DR V) (fun g w'' => ∃ u' nx d w', g = G (hd41 W S (own + 1) nx u') cs ∧ Post nx w' ∧ w'' = w'.at d) (G (cd41 W X S own next u) cs) w := by
  unfold cd41
  simp only [body41b, body41, Try.f41]
  repeat (first | (refine Walk.c rfl ?_) | (refine Walk.cReg ?_; simp only [List.size_toArray, List.length_cons, List.length_nil, Nat.reduceAdd, Nat.zero_add, List.range, List.range.loop]) | (refine Walk.cRet ?_) | (refine Walk.cEnd ?_) | (refine Walk.opq (ho_of (by conv => lhs; whnf) (by kernel_rfl)) (by rfl) (by decide) (fun dd e he => ?_) (fun dd K hK => ?_); (· (simp [go_sem, *] at he; try (subst he; exact evR_read _ _))); go_simp; refine hK _ ?_; clear hK K; try walk_nrm) | (refine Walk.ctl rfl (fun w => stepG_unwanted (ho_of (by conv => lhs; whnf) (by kernel_rfl)) (by rfl)) ?_; walk_nrm))
  obtain ⟨fs, hu99⟩ := und99
  refine Walk.loadS 99 (.tmp 6) rfl (by rfl) (by decide) rfl X 0 (codeCells cd cr ca cbb cv) _ rfl hx hu99 rfl (by kernel_rfl) ?_
  walk_nrm
  refine Walk.callV (x := .bool false) (W := boxW w cd cr ca cbb cv) ?_ rfl (by rfl) (by decide) rfl Try.func71 (by kernel_rfl) (by rfl) ?_
  · walk_nrm
    exact hs
  walk_nrm
  have h4 : decide ((own : Int) = 4096) = false := decide_eq_false (by omega)
  have h4' : decide (own = 4096) = false := decide_eq_false (by omega)
  have h4b : ((own : Int) == 4096) = false := by simp; omega
  repeat (first | (refine Walk.c rfl ?_) | (refine Walk.cReg ?_; simp only [List.size_toArray, List.length_cons, List.length_nil, Nat.reduceAdd, Nat.zero_add, List.range, List.range.loop]) | (refine Walk.cRet ?_) | (refine Walk.cEnd ?_) | (refine Walk.opq (ho_of (by conv => lhs; whnf) (by kernel_rfl)) (by rfl) (by decide) (fun dd e he => ?_) (fun dd K hK => ?_); (· (simp [go_sem, *] at he; try (subst he; exact evR_read _ _))); go_simp; refine hK _ ?_; clear hK K; try walk_nrm) | (refine Walk.ctl rfl (fun w => stepG_unwanted (ho_of (by conv => lhs; whnf) (by kernel_rfl)) (by rfl)) ?_; walk_nrm))
  have hx' : ∀ (j : Nat) (v : Value), (codeCells cd cr ca cbb cv)[j]? = some v → (boxW w cd cr ca cbb cv).cell? ⟨X, 0 + j, none⟩ = some v := fun j v h => cell_alloc w _ (hx j v h)
  refine Walk.loadS 99 (.tmp 6) rfl (by rfl) (by decide) rfl X 0 (codeCells cd cr ca cbb cv) _ rfl hx' hu99 rfl (by kernel_rfl) ?_
  walk_nrm
  repeat (first | (refine Walk.c rfl ?_) | (refine Walk.cReg ?_; simp only [List.size_toArray, List.length_cons, List.length_nil, Nat.reduceAdd, Nat.zero_add, List.range, List.range.loop]) | (refine Walk.cRet ?_) | (refine Walk.cEnd ?_) | (refine Walk.opq (ho_of (by conv => lhs; whnf) (by kernel_rfl)) (by rfl) (by decide) (fun dd e he => ?_) (fun dd K hK => ?_); (· (simp [go_sem, *] at he; try (subst he; exact evR_read _ _))); go_simp; refine hK _ ?_; clear hK K; try walk_nrm) | (refine Walk.ctl rfl (fun w => stepG_unwanted (ho_of (by conv => lhs; whnf) (by kernel_rfl)) (by rfl)) ?_; walk_nrm))
  refine Walk.callW (Post := fun v w' => ∃ nx : Int, v = .int .i64 nx ∧ Post nx w') ?_ rfl (by rfl) (by decide) rfl Try.func73 (by kernel_rfl) (by rfl) ?_
  · walk_nrm
    exact hr
  rintro v w' ⟨nx, rfl, hp⟩
  walk_nrm
  repeat (first | (refine Walk.c rfl ?_) | (refine Walk.cReg ?_; simp only [List.size_toArray, List.length_cons, List.length_nil, Nat.reduceAdd, Nat.zero_add, List.range, List.range.loop]) | (refine Walk.cRet ?_) | (refine Walk.cEnd ?_) | (refine Walk.opq (ho_of (by conv => lhs; whnf) (by kernel_rfl)) (by rfl) (by decide) (fun dd e he => ?_) (fun dd K hK => ?_); (· (simp [go_sem, *] at he; try (subst he; exact evR_read _ _))); go_simp; refine hK _ ?_; clear hK K; try walk_nrm) | (refine Walk.ctl rfl (fun w => stepG_unwanted (ho_of (by conv => lhs; whnf) (by kernel_rfl)) (by rfl)) ?_; walk_nrm))
  have hwo : IntKind.i64.wrap ((own : Int) + 1) = ((own + 1 : Nat) : Int) := by rw [wrap_ok _ (by omega) (by omega)]; omega
  rw [hwo]
  refine Walk.ctl rfl (fun w => stepG_inLoop) ?_
  exact .stop fun d => ⟨(fun k => ([undef, undef, undef, undef, undef, undef, .pointer (some ⟨X, 0, none⟩), u 7, u 8, u 9, u 10, u 11, u 12, u 13, u 14, u 15, u 16, u 17, u 18, u 19, u 20, u 21, u 22, u 23, u 24, .pointer (some ⟨W, 0, none⟩), .agg (codeCells cd cr ca cbb cv).toArray, .bool false, u 28, u 29, u 30, u 31, u 32, u 33, u 34, .int .i64 own, .bool false, .int .i64 own, .int .i64 (own + 1 : Nat), .pointer (some ⟨W, 0, none⟩), .agg (codeCells cd cr ca cbb cv).toArray, .int .i64 next, .int .i64 nx] : List Value).getD k undef), nx, d, w', rfl, hp, rfl⟩
end Go.Proofs.Ytgiiicdpbdfemaa
end

/- Package turn's programs, in company: a code too many. -/
section
namespace Go.Proofs.Ytgiiicdpbdfemaa
open Go.Conc Go.RowKit Go.Relay
open Go.ConcN (upd upd_ne upd_same)

variable {main : Bool} {V : Nat → Option Wait}

set_option maxHeartbeats 8000000 in
set_option maxRecDepth 100000 in
theorem walk_stop (W X : Nat) (S : Value) (next : Nat) (cd cr ca cbb cv : Int) (u : Nat → Value) (c : Frame) (cs : List Frame) (w : World) (hs : CallV Try.prog main V 71 #[.pointer (some ⟨W, 0, none⟩), codeV cd cr ca cbb cv] w (.bool false) (boxW w cd cr ca cbb cv))
    (hx : ∀ j v, (codeCells cd cr ca cbb cv)[j]? = some v → w.cell? ⟨X, 0 + j, none⟩ = some v) :
    Walk Try.prog main (DR V) (fun g w' => g = G (c.finish (.tuple #[])) cs ∧ ∃ d, w' = (boxW w cd cr ca cbb cv).at d) (G (cd41 W X S 4096 next u) (c :: cs)) w := by
  unfold cd41
  simp only [body41b, body41, Try.f41]
  repeat (first | (refine Walk.c rfl ?_) | (refine Walk.cReg ?_; simp only [List.size_toArray, List.length_cons, List.length_nil, Nat.reduceAdd, Nat.zero_add, List.range, List.range.loop]) | (refine Walk.cRet ?_) | (refine Walk.cEnd ?_) | (refine Walk.opq (ho_of (by conv => lhs; whnf) (by kernel_rfl)) (by rfl) (by decide) (fun dd e he => ?_) (fun dd K hK => ?_); (· (simp [go_sem, *] at he; try (subst he; exact evR_read _ _))); go_simp; refine hK _ ?_; clear hK K; try walk_nrm) | (refine Walk.ctl rfl (fun w => stepG_unwanted (ho_of (by conv => lhs; whnf) (by kernel_rfl)) (by rfl)) ?_; walk_nrm))
  obtain ⟨fs, hu99⟩ := und99
  refine Walk.loadS 99 (.tmp 6) rfl (by rfl) (by decide) rfl X 0 (codeCells cd cr ca cbb cv) _ rfl hx hu99 rfl (by kernel_rfl) ?_
  walk_nrm
  refine Walk.callV (x := .bool false) (W := boxW w cd cr ca cbb cv) ?_ rfl (by rfl) (by decide) rfl Try.func71 (by kernel_rfl) (by rfl) ?_
  · walk_nrm
    exact hs
  walk_nrm
  repeat (first | (refine Walk.c rfl ?_) | (refine Walk.cReg ?_; simp only [List.size_toArray, List.length_cons, List.length_nil, Nat.reduceAdd, Nat.zero_add, List.range, List.range.loop]) | (refine Walk.cRet ?_) | (refine Walk.cEnd ?_) | (refine Walk.opq (ho_of (by conv => lhs; whnf) (by kernel_rfl)) (by rfl) (by decide) (fun dd e he => ?_) (fun dd K hK => ?_); (· (simp [go_sem, *] at he; try (subst he; exact evR_read _ _))); go_simp; refine hK _ ?_; clear hK K; try walk_nrm) | (refine Walk.ctl rfl (fun w => stepG_unwanted (ho_of (by conv => lhs; whnf) (by kernel_rfl)) (by rfl)) ?_; walk_nrm))
  exact Walk.ctl rfl (fun w => stepG_leave rfl rfl Try.func41 (results_none rfl _ _ w) (events_results_none rfl _ _)) (.stop fun d => ⟨rfl, d, rfl⟩)
end Go.Proofs.Ytgiiicdpbdfemaa
end

/- Package turn's programs: a thread's own run, from its loop's head to its next step or its end, in company. -/
section
namespace Go.Proofs.Ytgiiicdpbdfemaa
open Go.Conc Go.RowKit Go.Relay
open Go.ConcN (upd upd_ne upd_same)

def codeAt (codes : List Cd) (pc : Int) : Option Cd := if pc < 0 then none else codes[pc.toNat]?
/-- A thread's own run; k: how many codes that are no steps it may still do. Whether it has ended. -/
def ownX (codes : List Cd) (nw : Nat) : Nat → Th → Bool × Th
  | 0, t => ((match codeAt codes t.pc with
    | some c => !isStepX nw c
    | none => true), t)
  | k + 1, t => match codeAt codes t.pc with
    | none => (true, t)
    | some c => if isStepX nw c then (false, t) else ownX codes nw k (reckonX c t)

def CodesAt (ca : Option Addr) (codes : List Cd) (w : World) : Prop := ∀ j c, codes[j]? = some c → ∃ cb, ca = some ⟨cb, 0, none⟩ ∧ ∀ m v, (codeCells c.d c.r c.a c.b c.v)[m]? = some v → w.cell? ⟨cb, j * 5 + m, none⟩ = some v
def BoxAt (X : Nat) (c : Cd) (w : World) : Prop := w.heap[X]? = some (.cells #[.int .i64 c.d, .int .i64 c.r, .int .i64 c.a, .int .i64 c.b, .int .i64 c.v] 99)

section
variable {main : Bool} {V : Nat → Option Wait} {W nw : Nat} {sv cv : Value} {t : Th} {ta : Option Addr} {tc : Nat} {w w' w'' : World}

theorem boxAt (c : Cd) (w : World) : BoxAt w.heap.size c (boxW w c.d c.r c.a c.b c.v) := heap_alloc_new w _
theorem BoxAt.cells {X : Nat} {c : Cd} (h : BoxAt X c w) : ∀ j v, (codeCells c.d c.r c.a c.b c.v)[j]? = some v → w.cell? ⟨X, 0 + j, none⟩ = some v := by
  intro j v hj
  rw [Nat.zero_add, cell_of h]
  simpa [codeCells] using hj
theorem BoxAt.alloc {X : Nat} {c : Cd} (h : BoxAt X c w) (o : Obj) : BoxAt X c (w.alloc o) := (heap_new_lt w o (Array.getElem?_eq_some_iff.1 h).1).trans h

theorem Reck.refl (H : WkIs W sv cv t ta tc w) : Reck W sv cv t ta t.told.length tc w w := ⟨⟨ta, tc, H, fun _ h => .inl h⟩, Nat.le_refl _, fun _ _ _ _ => rfl⟩
theorem Reck.trans {t1 t2 : Th} {ta1 : Option Addr} {n tc1 : Nat} (h1 : w.heap.size ≤ w'.heap.size) (hg : ∀ g, (Value.slice ta1 t1.told.length tc1).ownBlock = some g → (Value.slice ta n tc).ownBlock = some g ∨ w.heap.size ≤ g) (hs : ∀ b, b < w.heap.size → b ≠ W → (Value.slice ta n tc).ownBlock ≠ some b → w'.heap[b]? = w.heap[b]?)
    (K : Reck W sv cv t2 ta1 t1.told.length tc1 w' w'') : Reck W sv cv t2 ta n tc w w'' := by
  obtain ⟨ta2, tc2, h2, g2⟩ := K.is
  refine ⟨⟨ta2, tc2, h2, fun g hg2 => ?_⟩, Nat.le_trans h1 K.size, fun b hb hne hno => ?_⟩
  · rcases g2 g hg2 with h | h
    · exact hg g h
    · exact .inr (Nat.le_trans h1 h)
  · refine (K.same b (Nat.lt_of_lt_of_le hb h1) hne fun e => ?_).trans (hs b hb hne hno)
    rcases hg b e with h | h
    · exact hno h
    · omega

theorem CodesAt.same {ca : Option Addr} {codes : List Cd} (h : CodesAt ca codes w) (hs : ∀ cb, ca = some ⟨cb, 0, none⟩ → w'.heap[cb]? = w.heap[cb]?) : CodesAt ca codes w' := by
  intro j c hj
  obtain ⟨cb, e, hc⟩ := h j c hj
  exact ⟨cb, e, fun m v hm => (World.cell?_of_block (a := ⟨cb, j * 5 + m, none⟩) (hs cb e)).trans (hc m v hm)⟩

/-- The loop's head: the end, or a code. -/
theorem own_head {ca : Option Addr} {ccap : Nat} {codes : List Cd} (S : Value) (own : Nat) (u : Nat → Value) (c : Frame) (cs : List Frame) (H : WkIs W sv (.slice ca codes.length ccap) t ta tc w) (hc : CodesAt ca codes w) (hA : Apart V w.heap.size) :
    Walk Try.prog main (DR V) (fun g w' => (codeAt codes t.pc = none ∧ g = G (c.finish (.tuple #[])) cs ∧ ∃ d, w' = w.at d) ∨
      (∃ (n : Nat) (cd : Cd) (u' : Nat → Value), t.pc = n ∧ n < codes.length ∧ codeAt codes t.pc = some cd ∧ codes[n]? = some cd ∧ g = G (cd41 W w.heap.size S own n u') (c :: cs) ∧ ∃ d, w' = (boxW w cd.d cd.r cd.a cd.b cd.v).at d)) (G (hd41 W S own t.pc u) (c :: cs)) w := by
  have h1 : w.cell? ⟨W, 1, none⟩ = some (.slice ca codes.length ccap) := (cell_of H.blk 1).trans rfl
  by_cases h0 : t.pc < 0
  · refine (walk_below W S own t.pc u c cs w h0).mono fun g w' h => .inl ⟨?_, h⟩
    unfold codeAt; rw [if_pos h0]
  by_cases h2 : (codes.length : Int) ≤ t.pc
  · refine (walk_out W S own t.pc codes.length ccap ca u c cs w h1 h2).mono fun g w' h => .inl ⟨?_, h⟩
    unfold codeAt; rw [if_neg h0]; exact List.getElem?_eq_none (by omega)
  obtain ⟨n, hn⟩ : ∃ n : Nat, t.pc = n := ⟨t.pc.toNat, by omega⟩
  have hlt : n < codes.length := by omega
  have hcd : codes[n]? = some codes[n] := List.getElem?_eq_getElem hlt
  generalize codes[n] = cd at hcd
  obtain ⟨cb, rfl, hcc⟩ := hc n cd hcd
  rw [hn]
  refine (walk_take W S own n cb codes.length ccap u (c :: cs) w h1 hlt cd.d cd.r cd.a cd.b cd.v hA hcc).mono ?_
  rintro g w' ⟨⟨u', rfl⟩, d, rfl⟩
  refine .inr ⟨n, cd, u', rfl, hlt, ?_, hcd, rfl, d, rfl⟩
  unfold codeAt
  rw [if_neg (by omega)]
  simpa using hcd

theorem own_run {ca : Option Addr} {ccap scap : Nat} {sa : Option Addr} {codes : List Cd} (p : Nat) (c : Frame) (cs : List Frame) (hsv : sv = .slice sa nw scap) (hF : ∀ i, Free V ⟨W, i, none⟩) (hlen : codes.length < 4611686018427387904) :
    ∀ (k own : Nat) {t : Th} {ta : Option Addr} {tc : Nat} {u : Nat → Value} {w : World}, own + k = 4096 → WkIs W sv (.slice ca codes.length ccap) t ta tc w → CodesAt ca codes w → (∀ cb, ca = some ⟨cb, 0, none⟩ → cb < w.heap.size ∧ cb ≠ W ∧ (Value.slice ta t.told.length tc).ownBlock ≠ some cb) → (∀ b, w.heap.size ≤ b → Apart V b) →
      (∀ g, (Value.slice ta t.told.length tc).ownBlock = some g → Apart V g) → t.told.length + k < 1099511627776 →
      Walk Try.prog main (DR V) (fun g w' => Reck W sv (.slice ca codes.length ccap) (ownX codes nw k t).2 ta t.told.length tc w w' ∧ (((ownX codes nw k t).1 = true ∧ g = G (c.finish (.tuple #[])) cs) ∨
        ((ownX codes nw k t).1 = false ∧ ∃ (X own' n : Nat) (u' : Nat → Value) (cd : Cd), (ownX codes nw k t).2.pc = n ∧ codes[n]? = some cd ∧ isStepX nw cd = true ∧ w.heap.size ≤ X ∧ X < w'.heap.size ∧ X ≠ W ∧ BoxAt X cd w' ∧ g = G (Frame.enter Try.prog 139 #[.pointer (some ⟨p, 0, none⟩)] .normal) (fr41s W X (.iface 161 (.pointer (some ⟨p, 0, none⟩))) own' n u' :: c :: cs))))
        (G (hd41 W (.iface 161 (.pointer (some ⟨p, 0, none⟩))) own t.pc u) (c :: cs)) w := by
  intro k
  induction k with
  | zero =>
    intro own t ta tc u w hk H hc hcb hA hap htl
    have hown : own = 4096 := by omega
    subst hown
    refine (own_head (main := main) (.iface 161 (.pointer (some ⟨p, 0, none⟩))) 4096 u c cs H hc (hA _ (Nat.le_refl _))).then ?_
    rintro g w1 (⟨hn, rfl, d, rfl⟩ | ⟨n, cd, u', hpc, hlt, hca, hcd, rfl, d, rfl⟩)
    · exact .stop fun d' => ⟨(Reck.refl H).at _, .inl ⟨by simp only [ownX, hn], rfl⟩⟩
    · refine Walk.back ?_ d
      have hX := (boxAt cd w).cells
      have R1 := Reck.box H cd.d cd.r cd.a cd.b cd.v (pc := t.pc)
      have h0 : (boxW w cd.d cd.r cd.a cd.b cd.v).cell? ⟨W, 0, none⟩ = some (.slice sa nw scap) := (cell_of ((heap_new_lt w _ H.lt).trans H.blk) 0).trans (by rw [← hsv]; rfl)
      have hst := isStep_any (main := main) (V := V) (W := W) cd sa scap h0
      have hWX : w.heap.size ≠ W := by have := H.lt; omega
      have hs1 : (boxW w cd.d cd.r cd.a cd.b cd.v).heap.size = w.heap.size + 1 := by simp [boxW]
      have H1 : WkIs W sv (.slice ca codes.length ccap) t ta tc (boxW w cd.d cd.r cd.a cd.b cd.v) := ⟨(heap_new_lt w _ H.lt).trans H.blk, row_same H.row fun g hg => heap_new_lt w _ (H.row.lt g hg).2, H.own⟩
      have R2 : Reck W sv (.slice ca codes.length ccap) t ta t.told.length tc w (boxW (boxW w cd.d cd.r cd.a cd.b cd.v) cd.d cd.r cd.a cd.b cd.v) :=
        Reck.trans (w' := boxW w cd.d cd.r cd.a cd.b cd.v) (by omega) (fun g h => .inl h) (fun b hb _ _ => heap_new_lt w _ hb) (Reck.box H1 cd.d cd.r cd.a cd.b cd.v (pc := t.pc))
      cases hb : isStepX nw cd with
      | false =>
        rw [hb] at hst
        refine (walk_stop W w.heap.size _ n cd.d cd.r cd.a cd.b cd.v u' c cs _ hst hX).mono ?_
        rintro g w2 ⟨rfl, d2, rfl⟩
        exact ⟨R2.at d2, .inl ⟨by simp only [ownX, hca, hb, Bool.not_false], rfl⟩⟩
      | true =>
        have hb' := hb
        simp only [isStepX, Bool.and_eq_true, decide_eq_true_eq] at hb'
        obtain ⟨⟨⟨g1, g2⟩, g3⟩, g4⟩ := hb'
        obtain ⟨A, hA'⟩ : ∃ A : Nat, cd.a = A := ⟨cd.a.toNat, by omega⟩
        rw [hA'] at hX h0
        refine Walk.mono (Stop := _) (by
          have := walk_ask (main := main) (V := V) W w.heap.size p 4096 n nw scap A sa cd.d cd.r cd.b cd.v u' (c :: cs) (boxW w cd.d cd.r A cd.b cd.v) h0 g1 g2 (by omega) (by have := hX; exact this)
          rw [← hA'] at this
          exact this) ?_
        rintro g w2 ⟨⟨u2, rfl⟩, d2, rfl⟩
        refine ⟨R2.at d2, .inr ⟨by simp only [ownX, hca, hb, Bool.not_true], w.heap.size, 4096, n, u2, cd, hpc, hcd, hb, Nat.le_refl _, ?_, hWX, (boxAt cd w).alloc _, rfl⟩⟩
        show w.heap.size < (boxW (boxW w cd.d cd.r cd.a cd.b cd.v) cd.d cd.r cd.a cd.b cd.v).heap.size
        simp [boxW]
        omega
  | succ k ih =>
    intro own t ta tc u w hk H hc hcb hA hap htl
    refine (own_head (main := main) (.iface 161 (.pointer (some ⟨p, 0, none⟩))) own u c cs H hc (hA _ (Nat.le_refl _))).then ?_
    rintro g w1 (⟨hn, rfl, d, rfl⟩ | ⟨n, cd, u', hpc, hlt, hca, hcd, rfl, d, rfl⟩)
    · exact .stop fun d' => ⟨by simp only [ownX, hn]; exact (Reck.refl H).at _, .inl ⟨by simp only [ownX, hn], rfl⟩⟩
    · refine Walk.back ?_ d
      have hX := (boxAt cd w).cells
      have h0 : (boxW w cd.d cd.r cd.a cd.b cd.v).cell? ⟨W, 0, none⟩ = some (.slice sa nw scap) := (cell_of ((heap_new_lt w _ H.lt).trans H.blk) 0).trans (by rw [← hsv]; rfl)
      have hst := isStep_any (main := main) (V := V) (W := W) cd sa scap h0
      have hWX : w.heap.size ≠ W := by have := H.lt; omega
      have hs1 : (boxW w cd.d cd.r cd.a cd.b cd.v).heap.size = w.heap.size + 1 := by simp [boxW]
      have hs2 : (boxW (boxW w cd.d cd.r cd.a cd.b cd.v) cd.d cd.r cd.a cd.b cd.v).heap.size = w.heap.size + 2 := by simp [boxW]
      have hold : ∀ b, b < w.heap.size → (boxW (boxW w cd.d cd.r cd.a cd.b cd.v) cd.d cd.r cd.a cd.b cd.v).heap[b]? = w.heap[b]? := fun b hb => (heap_new_lt _ _ (by omega)).trans (heap_new_lt w _ hb)
      have H1 : WkIs W sv (.slice ca codes.length ccap) t ta tc (boxW w cd.d cd.r cd.a cd.b cd.v) := ⟨(heap_new_lt w _ H.lt).trans H.blk, row_same H.row fun g hg => heap_new_lt w _ (H.row.lt g hg).2, H.own⟩
      have H2 : WkIs W sv (.slice ca codes.length ccap) t ta tc (boxW (boxW w cd.d cd.r cd.a cd.b cd.v) cd.d cd.r cd.a cd.b cd.v) := ⟨(hold W H.lt).trans H.blk, row_same H.row fun g hg => hold g (H.row.lt g hg).2, H.own⟩
      cases hb : isStepX nw cd with
      | false =>
        rw [hb] at hst
        have hX2 := hX
        have hr := reckon_any (main := main) cd (n : Int) H2 hpc (by omega) (by omega) (by omega) hF hap
        refine (walk_own W w.heap.size _ own n cd.d cd.r cd.a cd.b cd.v u' (c :: cs) _ (fun nx w' => nx = (reckonX cd t).pc ∧ Reck W sv (.slice ca codes.length ccap) (reckonX cd t) ta t.told.length tc (boxW (boxW w cd.d cd.r cd.a cd.b cd.v) cd.d cd.r cd.a cd.b cd.v) w') hst (by omega) hX2 ?_).then ?_
        · exact fun fr cs' => (hr fr cs').mono fun g w' ⟨v, ⟨hv, hR⟩, hg⟩ => ⟨v, ⟨_, hv, rfl, hR⟩, hg⟩
        · rintro g w3 ⟨u3, nx, d3, w4, rfl, ⟨rfl, hR⟩, rfl⟩
          refine Walk.back ?_ d3
          obtain ⟨ta4, tc4, h4, g4⟩ := hR.is
          have hsz4 : w.heap.size ≤ w4.heap.size := by have := hR.size; omega
          have hg4 : ∀ g, (Value.slice ta4 (reckonX cd t).told.length tc4).ownBlock = some g → (Value.slice ta t.told.length tc).ownBlock = some g ∨ w.heap.size ≤ g := fun g hg => (g4 g hg).imp id fun h => by omega
          have hsame4 : ∀ b, b < w.heap.size → b ≠ W → (Value.slice ta t.told.length tc).ownBlock ≠ some b → w4.heap[b]? = w.heap[b]? := fun b hb hne hno => (hR.same b (by omega) hne hno).trans (hold b hb)
          have htl4 : (reckonX cd t).told.length ≤ t.told.length + 1 := by
            unfold reckonX
            repeat' split
            all_goals simp
          have hown : ownX codes nw (k + 1) t = ownX codes nw k (reckonX cd t) := by simp only [ownX, hca, hb, Bool.false_eq_true, if_false]
          rw [hown]
          refine (ih (own + 1) (by omega) h4 (hc.same fun cb e => hsame4 cb (hcb cb e).1 (hcb cb e).2.1 (hcb cb e).2.2) (fun cb e => ⟨Nat.lt_of_lt_of_le (hcb cb e).1 hsz4, (hcb cb e).2.1, fun e' => ?_⟩) (fun b hb => hA b (Nat.le_trans hsz4 hb)) (fun g hg => ?_) (by omega)).mono ?_
          · rcases hg4 cb e' with h | h
            · exact (hcb cb e).2.2 h
            · have := (hcb cb e).1; omega
          · rcases hg4 g hg with h | h
            · exact hap g h
            · exact hA g h
          · rintro g w5 ⟨hR5, hS⟩
            refine ⟨Reck.trans hsz4 hg4 hsame4 hR5, hS.imp id ?_⟩
            rintro ⟨h1, X, own', n', u5, cd5, e1, e2, e3, e4, e5, e6, e7, e8⟩
            exact ⟨h1, X, own', n', u5, cd5, e1, e2, e3, Nat.le_trans hsz4 e4, e5, e6, e7, e8⟩
      | true =>
        have R2 : Reck W sv (.slice ca codes.length ccap) t ta t.told.length tc w (boxW (boxW w cd.d cd.r cd.a cd.b cd.v) cd.d cd.r cd.a cd.b cd.v) :=
          Reck.trans (w' := boxW w cd.d cd.r cd.a cd.b cd.v) (by omega) (fun g h => .inl h) (fun b hb _ _ => heap_new_lt w _ hb) (Reck.box H1 cd.d cd.r cd.a cd.b cd.v (pc := t.pc))
        have hb' := hb
        simp only [isStepX, Bool.and_eq_true, decide_eq_true_eq] at hb'
        obtain ⟨⟨⟨g1, g2⟩, g3⟩, g4⟩ := hb'
        obtain ⟨A, hA'⟩ : ∃ A : Nat, cd.a = A := ⟨cd.a.toNat, by omega⟩
        rw [hA'] at hX h0
        refine Walk.mono (Stop := _) (by
          have := walk_ask (main := main) (V := V) W w.heap.size p own n nw scap A sa cd.d cd.r cd.b cd.v u' (c :: cs) (boxW w cd.d cd.r A cd.b cd.v) h0 g1 g2 (by omega) (by have := hX; exact this)
          rw [← hA'] at this
          exact this) ?_
        rintro g w2 ⟨⟨u2, rfl⟩, d2, rfl⟩
        have hown : ownX codes nw (k + 1) t = (false, t) := by simp only [ownX, hca, hb, if_true]
        rw [hown]
        refine ⟨R2.at d2, .inr ⟨rfl, w.heap.size, own, n, u2, cd, hpc, hcd, hb, Nat.le_refl _, ?_, hWX, (boxAt cd w).alloc _, rfl⟩⟩
        show w.heap.size < (boxW (boxW w cd.d cd.r cd.a cd.b cd.v) cd.d cd.r cd.a cd.b cd.v).heap.size
        omega
end
end Go.Proofs.Ytgiiicdpbdfemaa
end
