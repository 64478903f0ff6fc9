/- Part 7. -/
import Derived.Test.YtgiiicdpbdfemaaC6
set_option linter.unusedSimpArgs false
set_option maxHeartbeats 8000000
set_option maxRecDepth 100000
namespace Go.Proofs.Ytgiiicdpbdfemaa
open Go.Conc Go.RowKit Go.Relay
open Go.ConcN (upd upd_ne upd_same)
section
variable {main : Bool} {V : Nat → Option Wait}
theorem isStep_high (W : Nat) (cd cr ca cb cv : Int) (w : World) (g1 : 11 < cd) :
    CallV Try.prog main V 71 #[.pointer (some ⟨W, 0, none⟩), .agg #[.int .i64 cd, .int .i64 cr, .int .i64 ca, .int .i64 cb, .int .i64 cv]] w (.bool false) (w.alloc (.cells #[.int .i64 cd, .int .i64 cr, .int .i64 ca, .int .i64 cb, .int .i64 cv] 99)) := by
  refine callW_in Try.func71 rfl fun fr cs => ?_
  simp only [Try.ntmps71, List.size_toArray, List.length_cons, List.length_nil, Nat.reduceAdd, Nat.reduceSub, Array.replicate_succ, Array.replicate_zero, List.push_toArray, List.append_toArray, List.nil_append, List.cons_append]
  repeat (first | refine Walk.c rfl ?_ | refine Walk.cR ?_ | refine Walk.cRet ?_ | refine Walk.cEnd ?_ | (refine Walk.oq ?_; try walk_nrm) | (refine Walk.un ?_; walk_nrm))
  (refine Walk.oa ?_; try walk_nrm)
  repeat (first | refine Walk.c rfl ?_ | refine Walk.cR ?_ | refine Walk.cRet ?_ | refine Walk.cEnd ?_ | (refine Walk.oq ?_; try walk_nrm) | (refine Walk.un ?_; walk_nrm))
  have b0 := World.cell?_alloc_at (w := w) #[.int .i64 cd, .int .i64 cr, .int .i64 ca, .int .i64 cb, .int .i64 cv] 99 w.heap.size 0 rfl
  have b2 := World.cell?_alloc_at (w := w) #[.int .i64 cd, .int .i64 cr, .int .i64 ca, .int .i64 cb, .int .i64 cv] 99 w.heap.size 2 rfl
  replace b0 : (w.alloc (.cells #[.int .i64 cd, .int .i64 cr, .int .i64 ca, .int .i64 cb, .int .i64 cv] 99)).cell? ⟨w.heap.size, 0, none⟩ = some (.int .i64 cd) := b0
  replace b2 : (w.alloc (.cells #[.int .i64 cd, .int .i64 cr, .int .i64 ca, .int .i64 cb, .int .i64 cv] 99)).cell? ⟨w.heap.size, 2, none⟩ = some (.int .i64 ca) := b2
  generalize w.alloc (.cells #[.int .i64 cd, .int .i64 cr, .int .i64 ca, .int .i64 cb, .int .i64 cv] 99) = w1 at *
  generalize w.heap.size = X at *
  have d1 : decide (7 ≤ cd) = true := decide_eq_true (by omega)
  have d2 : decide (cd ≤ 11) = false := decide_eq_false (by omega)
  let S : World → Prop := fun w' => ∃ d, w' = w1.at d
  have hrl : ∀ w₁ w₂, S w₁ → AtRel w₁ w₂ → S w₂ := by
    rintro _ _ ⟨d, rfl⟩ ⟨d', rfl⟩; exact ⟨d', rfl⟩
  have hF : S w1 := ⟨w1.drawn, rfl⟩
  refine Walk.held S hrl hF (by kernel_rfl) (by decide) (Q := fun a' => a'.tmps.getD 4 undef = .bool false ∧ a'.defers = []) (fun w₁ hF => ?_) ?_
  · simp only [List.size_toArray, List.length_cons, List.length_nil, Nat.reduceAdd, Nat.zero_add]
    (co_applyP anyCH_take termsR (fun _ _ h r => hrl _ _ h r) (fun _ _ _ h r => ⟨h.1, hrl _ _ h.2.1 r, h.2.2⟩) (i := 0) rfl (by first | kernel_rfl | decide +kernel) (by first | kernel_rfl | decide +kernel) (by first | kernel_rfl | decide +kernel) (.inl ⟨by rfl, fun _ hw => ⟨run_eq_of ?run1, ?guar1⟩⟩) hF ?rest1; (case run1 => (intro K hK; obtain ⟨dx, hdx⟩ := hw; subst hdx; go_simp; exact hK)); (case guar1 => (obtain ⟨dx, hdx⟩ := hw; subst hdx; refine DR.quiet (fun e he => ?_); have hm := mem_listed he; simp [go_sem, *] at hm; try (subst hm; exact evR_read _ _))); try walk_nrm)
    (co_applyP anyCH_take termsR (fun _ _ h r => hrl _ _ h r) (fun _ _ _ h r => ⟨h.1, hrl _ _ h.2.1 r, h.2.2⟩) (i := 1) rfl (by first | kernel_rfl | decide +kernel) (by first | kernel_rfl | decide +kernel) (by first | kernel_rfl | decide +kernel) (.inl ⟨by rfl, fun _ hw => ⟨run_eq_of ?run2, ?guar2⟩⟩) hF ?rest2; (case run2 => (intro K hK; obtain ⟨dx, hdx⟩ := hw; subst hdx; go_simp; exact hK)); (case guar2 => (obtain ⟨dx, hdx⟩ := hw; subst hdx; refine DR.quiet (fun e he => ?_); have hm := mem_listed he; simp [go_sem, *] at hm; try (subst hm; exact evR_read _ _))); try walk_nrm)
    (co_applyP anyCH_take termsR (fun _ _ h r => hrl _ _ h r) (fun _ _ _ h r => ⟨h.1, hrl _ _ h.2.1 r, h.2.2⟩) (i := 2) rfl (by first | kernel_rfl | decide +kernel) (by first | kernel_rfl | decide +kernel) (by first | kernel_rfl | decide +kernel) (.inl ⟨by rfl, fun _ hw => ⟨run_eq_of ?run3, ?guar3⟩⟩) hF ?rest3; (case run3 => (intro K hK; obtain ⟨dx, hdx⟩ := hw; subst hdx; go_simp; exact hK)); (case guar3 => (obtain ⟨dx, hdx⟩ := hw; subst hdx; refine DR.quiet (fun e he => ?_); have hm := mem_listed he; simp [go_sem, *] at hm; try (subst hm; exact evR_read _ _))); try walk_nrm)
    (co_applyP anyCH_take termsR (fun _ _ h r => hrl _ _ h r) (fun _ _ _ h r => ⟨h.1, hrl _ _ h.2.1 r, h.2.2⟩) (i := 3) rfl (by first | kernel_rfl | decide +kernel) (by first | kernel_rfl | decide +kernel) (by first | kernel_rfl | decide +kernel) (.inl ⟨by rfl, fun _ hw => ⟨run_eq_of ?run4, ?guar4⟩⟩) hF ?rest4; (case run4 => (intro K hK; obtain ⟨dx, hdx⟩ := hw; subst hdx; go_simp; exact hK)); (case guar4 => (obtain ⟨dx, hdx⟩ := hw; subst hdx; refine DR.quiet (fun e he => ?_); have hm := mem_listed he; simp [go_sem, *] at hm; try (subst hm; exact evR_read _ _))); try walk_nrm)
    (co_applyP anyCH_take termsR (fun _ _ h r => hrl _ _ h r) (fun _ _ _ h r => ⟨h.1, hrl _ _ h.2.1 r, h.2.2⟩) (i := 4) rfl (by first | kernel_rfl | decide +kernel) (by first | kernel_rfl | decide +kernel) (by first | kernel_rfl | decide +kernel) (.inl ⟨by rfl, fun _ hw => ⟨run_eq_of ?run5, ?guar5⟩⟩) hF ?rest5; (case run5 => (intro K hK; obtain ⟨dx, hdx⟩ := hw; subst hdx; go_simp; exact hK)); (case guar5 => (obtain ⟨dx, hdx⟩ := hw; subst hdx; refine DR.quiet (fun e he => ?_); have hm := mem_listed he; simp [go_sem, *] at hm; try (subst hm; exact evR_read _ _))); try walk_nrm)
    (co_applyP anyCH_take termsR (fun _ _ h r => hrl _ _ h r) (fun _ _ _ h r => ⟨h.1, hrl _ _ h.2.1 r, h.2.2⟩) (i := 5) rfl (by first | kernel_rfl | decide +kernel) (by first | kernel_rfl | decide +kernel) (by first | kernel_rfl | decide +kernel) (.inl ⟨by rfl, fun _ hw => ⟨run_eq_of ?run6, ?guar6⟩⟩) hF ?rest6; (case run6 => (intro K hK; obtain ⟨dx, hdx⟩ := hw; subst hdx; go_simp; exact hK)); (case guar6 => (obtain ⟨dx, hdx⟩ := hw; subst hdx; refine DR.quiet (fun e he => ?_); have hm := mem_listed he; simp [go_sem, *] at hm; try (subst hm; exact evR_read _ _))); try walk_nrm)
    (co_applyP anyCH_take termsR (fun _ _ h r => hrl _ _ h r) (fun _ _ _ h r => ⟨h.1, hrl _ _ h.2.1 r, h.2.2⟩) (i := 6) rfl (by first | kernel_rfl | decide +kernel) (by first | kernel_rfl | decide +kernel) (by first | kernel_rfl | decide +kernel) (.inl ⟨by rfl, fun _ hw => ⟨run_eq_of ?run7, ?guar7⟩⟩) hF ?rest7; (case run7 => (intro K hK; obtain ⟨dx, hdx⟩ := hw; subst hdx; go_simp; exact hK)); (case guar7 => (obtain ⟨dx, hdx⟩ := hw; subst hdx; refine DR.quiet (fun e he => ?_); have hm := mem_listed he; simp [go_sem, *] at hm; try (subst hm; exact evR_read _ _))); try walk_nrm)
    (co_applyP anyCH_take termsR (fun _ _ h r => hrl _ _ h r) (fun _ _ _ h r => ⟨h.1, hrl _ _ h.2.1 r, h.2.2⟩) (i := 7) rfl (by first | kernel_rfl | decide +kernel) (by first | kernel_rfl | decide +kernel) (by first | kernel_rfl | decide +kernel) (.inl ⟨by rfl, fun _ hw => ⟨run_eq_of ?run8, ?guar8⟩⟩) hF ?rest8; (case run8 => (intro K hK; obtain ⟨dx, hdx⟩ := hw; subst hdx; go_simp; exact hK)); (case guar8 => (obtain ⟨dx, hdx⟩ := hw; subst hdx; refine DR.quiet (fun e he => ?_); have hm := mem_listed he; simp [go_sem, *] at hm; try (subst hm; exact evR_read _ _))); try walk_nrm)
    (co_applyP anyCH_take termsR (fun _ _ h r => hrl _ _ h r) (fun _ _ _ h r => ⟨h.1, hrl _ _ h.2.1 r, h.2.2⟩) (i := 8) rfl (by first | kernel_rfl | decide +kernel) (by first | kernel_rfl | decide +kernel) (by first | kernel_rfl | decide +kernel) (.inl ⟨by rfl, fun _ hw => ⟨run_eq_of ?run9, ?guar9⟩⟩) hF ?rest9; (case run9 => (intro K hK; obtain ⟨dx, hdx⟩ := hw; subst hdx; go_simp; exact hK)); (case guar9 => (obtain ⟨dx, hdx⟩ := hw; subst hdx; refine DR.quiet (fun e he => ?_); have hm := mem_listed he; simp [go_sem, *] at hm; try (subst hm; exact evR_read _ _))); try walk_nrm)
    (co_applyP anyCH_take termsR (fun _ _ h r => hrl _ _ h r) (fun _ _ _ h r => ⟨h.1, hrl _ _ h.2.1 r, h.2.2⟩) (i := 9) rfl (by first | kernel_rfl | decide +kernel) (by first | kernel_rfl | decide +kernel) (by first | kernel_rfl | decide +kernel) (.inr ⟨by rfl, rfl⟩) hF ?rest14; try walk_nrm)
    (co_applyP anyCH_take termsR (fun _ _ h r => hrl _ _ h r) (fun _ _ _ h r => ⟨h.1, hrl _ _ h.2.1 r, h.2.2⟩) (i := 10) rfl (by first | kernel_rfl | decide +kernel) (by first | kernel_rfl | decide +kernel) (by first | kernel_rfl | decide +kernel) (.inr ⟨by rfl, rfl⟩) hF ?rest15; try walk_nrm)
    (co_applyP anyCH_take termsR (fun _ _ h r => hrl _ _ h r) (fun _ _ _ h r => ⟨h.1, hrl _ _ h.2.1 r, h.2.2⟩) (i := 11) rfl (by first | kernel_rfl | decide +kernel) (by first | kernel_rfl | decide +kernel) (by first | kernel_rfl | decide +kernel) (.inr ⟨by rfl, rfl⟩) hF ?rest16; try walk_nrm)
    (co_applyP anyCH_take termsR (fun _ _ h r => hrl _ _ h r) (fun _ _ _ h r => ⟨h.1, hrl _ _ h.2.1 r, h.2.2⟩) (i := 12) rfl (by first | kernel_rfl | decide +kernel) (by first | kernel_rfl | decide +kernel) (by first | kernel_rfl | decide +kernel) (.inl ⟨by rfl, fun _ hw => ⟨run_eq_of ?run10, ?guar10⟩⟩) hF ?rest10; (case run10 => (intro K hK; obtain ⟨dx, hdx⟩ := hw; subst hdx; go_simp; exact hK)); (case guar10 => (obtain ⟨dx, hdx⟩ := hw; subst hdx; refine DR.quiet (fun e he => ?_); have hm := mem_listed he; simp [go_sem, *] at hm; try (subst hm; exact evR_read _ _))); try walk_nrm)
    (co_applyP anyCH_take termsR (fun _ _ h r => hrl _ _ h r) (fun _ _ _ h r => ⟨h.1, hrl _ _ h.2.1 r, h.2.2⟩) (i := 13) rfl (by first | kernel_rfl | decide +kernel) (by first | kernel_rfl | decide +kernel) (by first | kernel_rfl | decide +kernel) (.inl ⟨by rfl, fun _ hw => ⟨run_eq_of ?run11, ?guar11⟩⟩) hF ?rest11; (case run11 => (intro K hK; obtain ⟨dx, hdx⟩ := hw; subst hdx; go_simp; exact hK)); (case guar11 => (obtain ⟨dx, hdx⟩ := hw; subst hdx; refine DR.quiet (fun e he => ?_); have hm := mem_listed he; simp [go_sem, *] at hm; try (subst hm; exact evR_read _ _))); try walk_nrm)
    (co_applyP anyCH_take termsR (fun _ _ h r => hrl _ _ h r) (fun _ _ _ h r => ⟨h.1, hrl _ _ h.2.1 r, h.2.2⟩) (i := 14) rfl (by first | kernel_rfl | decide +kernel) (by first | kernel_rfl | decide +kernel) (by first | kernel_rfl | decide +kernel) (.inr ⟨by rfl, rfl⟩) hF ?rest17; try walk_nrm)
    (co_applyP anyCH_take termsR (fun _ _ h r => hrl _ _ h r) (fun _ _ _ h r => ⟨h.1, hrl _ _ h.2.1 r, h.2.2⟩) (i := 15) rfl (by first | kernel_rfl | decide +kernel) (by first | kernel_rfl | decide +kernel) (by first | kernel_rfl | decide +kernel) (.inr ⟨by rfl, rfl⟩) hF ?rest18; try walk_nrm)
    (co_applyP anyCH_take termsR (fun _ _ h r => hrl _ _ h r) (fun _ _ _ h r => ⟨h.1, hrl _ _ h.2.1 r, h.2.2⟩) (i := 16) rfl (by first | kernel_rfl | decide +kernel) (by first | kernel_rfl | decide +kernel) (by first | kernel_rfl | decide +kernel) (.inr ⟨by rfl, rfl⟩) hF ?rest19; try walk_nrm)
    (co_applyP anyCH_take termsR (fun _ _ h r => hrl _ _ h r) (fun _ _ _ h r => ⟨h.1, hrl _ _ h.2.1 r, h.2.2⟩) (i := 17) rfl (by first | kernel_rfl | decide +kernel) (by first | kernel_rfl | decide +kernel) (by first | kernel_rfl | decide +kernel) (.inr ⟨by rfl, rfl⟩) hF ?rest20; try walk_nrm)
    (co_applyP anyCH_take termsR (fun _ _ h r => hrl _ _ h r) (fun _ _ _ h r => ⟨h.1, hrl _ _ h.2.1 r, h.2.2⟩) (i := 18) rfl (by first | kernel_rfl | decide +kernel) (by first | kernel_rfl | decide +kernel) (by first | kernel_rfl | decide +kernel) (.inr ⟨by rfl, rfl⟩) hF ?rest21; try walk_nrm)
    (co_applyP anyCH_take termsR (fun _ _ h r => hrl _ _ h r) (fun _ _ _ h r => ⟨h.1, hrl _ _ h.2.1 r, h.2.2⟩) (i := 19) rfl (by first | kernel_rfl | decide +kernel) (by first | kernel_rfl | decide +kernel) (by first | kernel_rfl | decide +kernel) (.inr ⟨by rfl, rfl⟩) hF ?rest22; try walk_nrm)
    (co_applyP anyCH_take termsR (fun _ _ h r => hrl _ _ h r) (fun _ _ _ h r => ⟨h.1, hrl _ _ h.2.1 r, h.2.2⟩) (i := 20) rfl (by first | kernel_rfl | decide +kernel) (by first | kernel_rfl | decide +kernel) (by first | kernel_rfl | decide +kernel) (.inr ⟨by rfl, rfl⟩) hF ?rest23; try walk_nrm)
    (co_applyP anyCH_take termsR (fun _ _ h r => hrl _ _ h r) (fun _ _ _ h r => ⟨h.1, hrl _ _ h.2.1 r, h.2.2⟩) (i := 21) rfl (by first | kernel_rfl | decide +kernel) (by first | kernel_rfl | decide +kernel) (by first | kernel_rfl | decide +kernel) (.inr ⟨by rfl, rfl⟩) hF ?rest24; try walk_nrm)
    (co_applyP anyCH_take termsR (fun _ _ h r => hrl _ _ h r) (fun _ _ _ h r => ⟨h.1, hrl _ _ h.2.1 r, h.2.2⟩) (i := 22) rfl (by first | kernel_rfl | decide +kernel) (by first | kernel_rfl | decide +kernel) (by first | kernel_rfl | decide +kernel) (.inl ⟨by rfl, fun _ hw => ⟨run_eq_of ?run12, ?guar12⟩⟩) hF ?rest12; (case run12 => (intro K hK; obtain ⟨dx, hdx⟩ := hw; subst hdx; go_simp; exact hK)); (case guar12 => (obtain ⟨dx, hdx⟩ := hw; subst hdx; refine DR.quiet (fun e he => ?_); have hm := mem_listed he; simp [go_sem, *] at hm; try (subst hm; exact evR_read _ _))); try walk_nrm)
    (co_applyP anyCH_take termsR (fun _ _ h r => hrl _ _ h r) (fun _ _ _ h r => ⟨h.1, hrl _ _ h.2.1 r, h.2.2⟩) (i := 23) rfl (by first | kernel_rfl | decide +kernel) (by first | kernel_rfl | decide +kernel) (by first | kernel_rfl | decide +kernel) (.inl ⟨by rfl, fun _ hw => ⟨run_eq_of ?run13, ?guar13⟩⟩) hF ?rest13; (case run13 => (intro K hK; obtain ⟨dx, hdx⟩ := hw; subst hdx; go_simp; exact hK)); (case guar13 => (obtain ⟨dx, hdx⟩ := hw; subst hdx; refine DR.quiet (fun e he => ?_); have hm := mem_listed he; simp [go_sem, *] at hm; try (subst hm; exact evR_read _ _))); try walk_nrm)
    refine anyCH_done (by first | kernel_rfl | decide +kernel) ⟨rfl, hF, by simp, rfl⟩ _
  · rintro a' w' ⟨d, rfl⟩ ⟨h, hd⟩
    repeat (first | refine Walk.c rfl ?_ | refine Walk.cR ?_ | refine Walk.cRet ?_ | refine Walk.cEnd ?_ | (refine Walk.oq ?_; try walk_nrm) | (refine Walk.un ?_; walk_nrm))
    exact Walk.ret1 rfl hd Try.func71 rfl fun d' => ⟨h, d', rfl⟩
end
section
variable {main : Bool} {V : Nat → Option Wait}
theorem isStep_neg (W : Nat) (cd cr ca cb cv : Int) (w : World) (g1 : 7 ≤ cd) (g2 : cd ≤ 11) (g3 : ca < 0) :
    CallV Try.prog main V 71 #[.pointer (some ⟨W, 0, none⟩), .agg #[.int .i64 cd, .int .i64 cr, .int .i64 ca, .int .i64 cb, .int .i64 cv]] w (.bool false) (w.alloc (.cells #[.int .i64 cd, .int .i64 cr, .int .i64 ca, .int .i64 cb, .int .i64 cv] 99)) := by
  refine callW_in Try.func71 rfl fun fr cs => ?_
  simp only [Try.ntmps71, List.size_toArray, List.length_cons, List.length_nil, Nat.reduceAdd, Nat.reduceSub, Array.replicate_succ, Array.replicate_zero, List.push_toArray, List.append_toArray, List.nil_append, List.cons_append]
  repeat (first | refine Walk.c rfl ?_ | refine Walk.cR ?_ | refine Walk.cRet ?_ | refine Walk.cEnd ?_ | (refine Walk.oq ?_; try walk_nrm) | (refine Walk.un ?_; walk_nrm))
  (refine Walk.oa ?_; try walk_nrm)
  repeat (first | refine Walk.c rfl ?_ | refine Walk.cR ?_ | refine Walk.cRet ?_ | refine Walk.cEnd ?_ | (refine Walk.oq ?_; try walk_nrm) | (refine Walk.un ?_; walk_nrm))
  have b0 := World.cell?_alloc_at (w := w) #[.int .i64 cd, .int .i64 cr, .int .i64 ca, .int .i64 cb, .int .i64 cv] 99 w.heap.size 0 rfl
  have b2 := World.cell?_alloc_at (w := w) #[.int .i64 cd, .int .i64 cr, .int .i64 ca, .int .i64 cb, .int .i64 cv] 99 w.heap.size 2 rfl
  replace b0 : (w.alloc (.cells #[.int .i64 cd, .int .i64 cr, .int .i64 ca, .int .i64 cb, .int .i64 cv] 99)).cell? ⟨w.heap.size, 0, none⟩ = some (.int .i64 cd) := b0
  replace b2 : (w.alloc (.cells #[.int .i64 cd, .int .i64 cr, .int .i64 ca, .int .i64 cb, .int .i64 cv] 99)).cell? ⟨w.heap.size, 2, none⟩ = some (.int .i64 ca) := b2
  generalize w.alloc (.cells #[.int .i64 cd, .int .i64 cr, .int .i64 ca, .int .i64 cb, .int .i64 cv] 99) = w1 at *
  generalize w.heap.size = X at *
  have d1 : decide (7 ≤ cd) = true := decide_eq_true (by omega)
  have d2 : decide (cd ≤ 11) = true := decide_eq_true (by omega)
  have d3 : decide (0 ≤ ca) = false := decide_eq_false (by omega)
  let S : World → Prop := fun w' => ∃ d, w' = w1.at d
  have hrl : ∀ w₁ w₂, S w₁ → AtRel w₁ w₂ → S w₂ := by
    rintro _ _ ⟨d, rfl⟩ ⟨d', rfl⟩; exact ⟨d', rfl⟩
  have hF : S w1 := ⟨w1.drawn, rfl⟩
  refine Walk.held S hrl hF (by kernel_rfl) (by decide) (Q := fun a' => a'.tmps.getD 4 undef = .bool false ∧ a'.defers = []) (fun w₁ hF => ?_) ?_
  · simp only [List.size_toArray, List.length_cons, List.length_nil, Nat.reduceAdd, Nat.zero_add]
    (co_applyP anyCH_take termsR (fun _ _ h r => hrl _ _ h r) (fun _ _ _ h r => ⟨h.1, hrl _ _ h.2.1 r, h.2.2⟩) (i := 0) rfl (by first | kernel_rfl | decide +kernel) (by first | kernel_rfl | decide +kernel) (by first | kernel_rfl | decide +kernel) (.inl ⟨by rfl, fun _ hw => ⟨run_eq_of ?run1, ?guar1⟩⟩) hF ?rest1; (case run1 => (intro K hK; obtain ⟨dx, hdx⟩ := hw; subst hdx; go_simp; exact hK)); (case guar1 => (obtain ⟨dx, hdx⟩ := hw; subst hdx; refine DR.quiet (fun e he => ?_); have hm := mem_listed he; simp [go_sem, *] at hm; try (subst hm; exact evR_read _ _))); try walk_nrm)
    (co_applyP anyCH_take termsR (fun _ _ h r => hrl _ _ h r) (fun _ _ _ h r => ⟨h.1, hrl _ _ h.2.1 r, h.2.2⟩) (i := 1) rfl (by first | kernel_rfl | decide +kernel) (by first | kernel_rfl | decide +kernel) (by first | kernel_rfl | decide +kernel) (.inl ⟨by rfl, fun _ hw => ⟨run_eq_of ?run2, ?guar2⟩⟩) hF ?rest2; (case run2 => (intro K hK; obtain ⟨dx, hdx⟩ := hw; subst hdx; go_simp; exact hK)); (case guar2 => (obtain ⟨dx, hdx⟩ := hw; subst hdx; refine DR.quiet (fun e he => ?_); have hm := mem_listed he; simp [go_sem, *] at hm; try (subst hm; exact evR_read _ _))); try walk_nrm)
    (co_applyP anyCH_take termsR (fun _ _ h r => hrl _ _ h r) (fun _ _ _ h r => ⟨h.1, hrl _ _ h.2.1 r, h.2.2⟩) (i := 2) rfl (by first | kernel_rfl | decide +kernel) (by first | kernel_rfl | decide +kernel) (by first | kernel_rfl | decide +kernel) (.inl ⟨by rfl, fun _ hw => ⟨run_eq_of ?run3, ?guar3⟩⟩) hF ?rest3; (case run3 => (intro K hK; obtain ⟨dx, hdx⟩ := hw; subst hdx; go_simp; exact hK)); (case guar3 => (obtain ⟨dx, hdx⟩ := hw; subst hdx; refine DR.quiet (fun e he => ?_); have hm := mem_listed he; simp [go_sem, *] at hm; try (subst hm; exact evR_read _ _))); try walk_nrm)
    (co_applyP anyCH_take termsR (fun _ _ h r => hrl _ _ h r) (fun _ _ _ h r => ⟨h.1, hrl _ _ h.2.1 r, h.2.2⟩) (i := 3) rfl (by first | kernel_rfl | decide +kernel) (by first | kernel_rfl | decide +kernel) (by first | kernel_rfl | decide +kernel) (.inl ⟨by rfl, fun _ hw => ⟨run_eq_of ?run4, ?guar4⟩⟩) hF ?rest4; (case run4 => (intro K hK; obtain ⟨dx, hdx⟩ := hw; subst hdx; go_simp; exact hK)); (case guar4 => (obtain ⟨dx, hdx⟩ := hw; subst hdx; refine DR.quiet (fun e he => ?_); have hm := mem_listed he; simp [go_sem, *] at hm; try (subst hm; exact evR_read _ _))); try walk_nrm)
    (co_applyP anyCH_take termsR (fun _ _ h r => hrl _ _ h r) (fun _ _ _ h r => ⟨h.1, hrl _ _ h.2.1 r, h.2.2⟩) (i := 4) rfl (by first | kernel_rfl | decide +kernel) (by first | kernel_rfl | decide +kernel) (by first | kernel_rfl | decide +kernel) (.inl ⟨by rfl, fun _ hw => ⟨run_eq_of ?run5, ?guar5⟩⟩) hF ?rest5; (case run5 => (intro K hK; obtain ⟨dx, hdx⟩ := hw; subst hdx; go_simp; exact hK)); (case guar5 => (obtain ⟨dx, hdx⟩ := hw; subst hdx; refine DR.quiet (fun e he => ?_); have hm := mem_listed he; simp [go_sem, *] at hm; try (subst hm; exact evR_read _ _))); try walk_nrm)
    (co_applyP anyCH_take termsR (fun _ _ h r => hrl _ _ h r) (fun _ _ _ h r => ⟨h.1, hrl _ _ h.2.1 r, h.2.2⟩) (i := 5) rfl (by first | kernel_rfl | decide +kernel) (by first | kernel_rfl | decide +kernel) (by first | kernel_rfl | decide +kernel) (.inl ⟨by rfl, fun _ hw => ⟨run_eq_of ?run6, ?guar6⟩⟩) hF ?rest6; (case run6 => (intro K hK; obtain ⟨dx, hdx⟩ := hw; subst hdx; go_simp; exact hK)); (case guar6 => (obtain ⟨dx, hdx⟩ := hw; subst hdx; refine DR.quiet (fun e he => ?_); have hm := mem_listed he; simp [go_sem, *] at hm; try (subst hm; exact evR_read _ _))); try walk_nrm)
    (co_applyP anyCH_take termsR (fun _ _ h r => hrl _ _ h r) (fun _ _ _ h r => ⟨h.1, hrl _ _ h.2.1 r, h.2.2⟩) (i := 6) rfl (by first | kernel_rfl | decide +kernel) (by first | kernel_rfl | decide +kernel) (by first | kernel_rfl | decide +kernel) (.inl ⟨by rfl, fun _ hw => ⟨run_eq_of ?run7, ?guar7⟩⟩) hF ?rest7; (case run7 => (intro K hK; obtain ⟨dx, hdx⟩ := hw; subst hdx; go_simp; exact hK)); (case guar7 => (obtain ⟨dx, hdx⟩ := hw; subst hdx; refine DR.quiet (fun e he => ?_); have hm := mem_listed he; simp [go_sem, *] at hm; try (subst hm; exact evR_read _ _))); try walk_nrm)
    (co_applyP anyCH_take termsR (fun _ _ h r => hrl _ _ h r) (fun _ _ _ h r => ⟨h.1, hrl _ _ h.2.1 r, h.2.2⟩) (i := 7) rfl (by first | kernel_rfl | decide +kernel) (by first | kernel_rfl | decide +kernel) (by first | kernel_rfl | decide +kernel) (.inl ⟨by rfl, fun _ hw => ⟨run_eq_of ?run8, ?guar8⟩⟩) hF ?rest8; (case run8 => (intro K hK; obtain ⟨dx, hdx⟩ := hw; subst hdx; go_simp; exact hK)); (case guar8 => (obtain ⟨dx, hdx⟩ := hw; subst hdx; refine DR.quiet (fun e he => ?_); have hm := mem_listed he; simp [go_sem, *] at hm; try (subst hm; exact evR_read _ _))); try walk_nrm)
    (co_applyP anyCH_take termsR (fun _ _ h r => hrl _ _ h r) (fun _ _ _ h r => ⟨h.1, hrl _ _ h.2.1 r, h.2.2⟩) (i := 8) rfl (by first | kernel_rfl | decide +kernel) (by first | kernel_rfl | decide +kernel) (by first | kernel_rfl | decide +kernel) (.inl ⟨by rfl, fun _ hw => ⟨run_eq_of ?run9, ?guar9⟩⟩) hF ?rest9; (case run9 => (intro K hK; obtain ⟨dx, hdx⟩ := hw; subst hdx; go_simp; exact hK)); (case guar9 => (obtain ⟨dx, hdx⟩ := hw; subst hdx; refine DR.quiet (fun e he => ?_); have hm := mem_listed he; simp [go_sem, *] at hm; try (subst hm; exact evR_read _ _))); try walk_nrm)
    (co_applyP anyCH_take termsR (fun _ _ h r => hrl _ _ h r) (fun _ _ _ h r => ⟨h.1, hrl _ _ h.2.1 r, h.2.2⟩) (i := 9) rfl (by first | kernel_rfl | decide +kernel) (by first | kernel_rfl | decide +kernel) (by first | kernel_rfl | decide +kernel) (.inl ⟨by rfl, fun _ hw => ⟨run_eq_of ?run10, ?guar10⟩⟩) hF ?rest10; (case run10 => (intro K hK; obtain ⟨dx, hdx⟩ := hw; subst hdx; go_simp; exact hK)); (case guar10 => (obtain ⟨dx, hdx⟩ := hw; subst hdx; refine DR.quiet (fun e he => ?_); have hm := mem_listed he; simp [go_sem, *] at hm; try (subst hm; exact evR_read _ _))); try walk_nrm)
    (co_applyP anyCH_take termsR (fun _ _ h r => hrl _ _ h r) (fun _ _ _ h r => ⟨h.1, hrl _ _ h.2.1 r, h.2.2⟩) (i := 10) rfl (by first | kernel_rfl | decide +kernel) (by first | kernel_rfl | decide +kernel) (by first | kernel_rfl | decide +kernel) (.inl ⟨by rfl, fun _ hw => ⟨run_eq_of ?run11, ?guar11⟩⟩) hF ?rest11; (case run11 => (intro K hK; obtain ⟨dx, hdx⟩ := hw; subst hdx; go_simp; exact hK)); (case guar11 => (obtain ⟨dx, hdx⟩ := hw; subst hdx; refine DR.quiet (fun e he => ?_); have hm := mem_listed he; simp [go_sem, *] at hm; try (subst hm; exact evR_read _ _))); try walk_nrm)
    (co_applyP anyCH_take termsR (fun _ _ h r => hrl _ _ h r) (fun _ _ _ h r => ⟨h.1, hrl _ _ h.2.1 r, h.2.2⟩) (i := 11) rfl (by first | kernel_rfl | decide +kernel) (by first | kernel_rfl | decide +kernel) (by first | kernel_rfl | decide +kernel) (.inl ⟨by rfl, fun _ hw => ⟨run_eq_of ?run12, ?guar12⟩⟩) hF ?rest12; (case run12 => (intro K hK; obtain ⟨dx, hdx⟩ := hw; subst hdx; go_simp; exact hK)); (case guar12 => (obtain ⟨dx, hdx⟩ := hw; subst hdx; refine DR.quiet (fun e he => ?_); have hm := mem_listed he; simp [go_sem, *] at hm; try (subst hm; exact evR_read _ _))); try walk_nrm)
    (co_applyP anyCH_take termsR (fun _ _ h r => hrl _ _ h r) (fun _ _ _ h r => ⟨h.1, hrl _ _ h.2.1 r, h.2.2⟩) (i := 12) rfl (by first | kernel_rfl | decide +kernel) (by first | kernel_rfl | decide +kernel) (by first | kernel_rfl | decide +kernel) (.inl ⟨by rfl, fun _ hw => ⟨run_eq_of ?run13, ?guar13⟩⟩) hF ?rest13; (case run13 => (intro K hK; obtain ⟨dx, hdx⟩ := hw; subst hdx; go_simp; exact hK)); (case guar13 => (obtain ⟨dx, hdx⟩ := hw; subst hdx; refine DR.quiet (fun e he => ?_); have hm := mem_listed he; simp [go_sem, *] at hm; try (subst hm; exact evR_read _ _))); try walk_nrm)
    (co_applyP anyCH_take termsR (fun _ _ h r => hrl _ _ h r) (fun _ _ _ h r => ⟨h.1, hrl _ _ h.2.1 r, h.2.2⟩) (i := 13) rfl (by first | kernel_rfl | decide +kernel) (by first | kernel_rfl | decide +kernel) (by first | kernel_rfl | decide +kernel) (.inl ⟨by rfl, fun _ hw => ⟨run_eq_of ?run14, ?guar14⟩⟩) hF ?rest14; (case run14 => (intro K hK; obtain ⟨dx, hdx⟩ := hw; subst hdx; go_simp; exact hK)); (case guar14 => (obtain ⟨dx, hdx⟩ := hw; subst hdx; refine DR.quiet (fun e he => ?_); have hm := mem_listed he; simp [go_sem, *] at hm; try (subst hm; exact evR_read _ _))); try walk_nrm)
    (co_applyP anyCH_take termsR (fun _ _ h r => hrl _ _ h r) (fun _ _ _ h r => ⟨h.1, hrl _ _ h.2.1 r, h.2.2⟩) (i := 14) rfl (by first | kernel_rfl | decide +kernel) (by first | kernel_rfl | decide +kernel) (by first | kernel_rfl | decide +kernel) (.inr ⟨by rfl, rfl⟩) hF ?rest17; try walk_nrm)
    (co_applyP anyCH_take termsR (fun _ _ h r => hrl _ _ h r) (fun _ _ _ h r => ⟨h.1, hrl _ _ h.2.1 r, h.2.2⟩) (i := 15) rfl (by first | kernel_rfl | decide +kernel) (by first | kernel_rfl | decide +kernel) (by first | kernel_rfl | decide +kernel) (.inr ⟨by rfl, rfl⟩) hF ?rest18; try walk_nrm)
    (co_applyP anyCH_take termsR (fun _ _ h r => hrl _ _ h r) (fun _ _ _ h r => ⟨h.1, hrl _ _ h.2.1 r, h.2.2⟩) (i := 16) rfl (by first | kernel_rfl | decide +kernel) (by first | kernel_rfl | decide +kernel) (by first | kernel_rfl | decide +kernel) (.inr ⟨by rfl, rfl⟩) hF ?rest19; try walk_nrm)
    (co_applyP anyCH_take termsR (fun _ _ h r => hrl _ _ h r) (fun _ _ _ h r => ⟨h.1, hrl _ _ h.2.1 r, h.2.2⟩) (i := 17) rfl (by first | kernel_rfl | decide +kernel) (by first | kernel_rfl | decide +kernel) (by first | kernel_rfl | decide +kernel) (.inr ⟨by rfl, rfl⟩) hF ?rest20; try walk_nrm)
    (co_applyP anyCH_take termsR (fun _ _ h r => hrl _ _ h r) (fun _ _ _ h r => ⟨h.1, hrl _ _ h.2.1 r, h.2.2⟩) (i := 18) rfl (by first | kernel_rfl | decide +kernel) (by first | kernel_rfl | decide +kernel) (by first | kernel_rfl | decide +kernel) (.inr ⟨by rfl, rfl⟩) hF ?rest21; try walk_nrm)
    (co_applyP anyCH_take termsR (fun _ _ h r => hrl _ _ h r) (fun _ _ _ h r => ⟨h.1, hrl _ _ h.2.1 r, h.2.2⟩) (i := 19) rfl (by first | kernel_rfl | decide +kernel) (by first | kernel_rfl | decide +kernel) (by first | kernel_rfl | decide +kernel) (.inr ⟨by rfl, rfl⟩) hF ?rest22; try walk_nrm)
    (co_applyP anyCH_take termsR (fun _ _ h r => hrl _ _ h r) (fun _ _ _ h r => ⟨h.1, hrl _ _ h.2.1 r, h.2.2⟩) (i := 20) rfl (by first | kernel_rfl | decide +kernel) (by first | kernel_rfl | decide +kernel) (by first | kernel_rfl | decide +kernel) (.inr ⟨by rfl, rfl⟩) hF ?rest23; try walk_nrm)
    (co_applyP anyCH_take termsR (fun _ _ h r => hrl _ _ h r) (fun _ _ _ h r => ⟨h.1, hrl _ _ h.2.1 r, h.2.2⟩) (i := 21) rfl (by first | kernel_rfl | decide +kernel) (by first | kernel_rfl | decide +kernel) (by first | kernel_rfl | decide +kernel) (.inr ⟨by rfl, rfl⟩) hF ?rest24; try walk_nrm)
    (co_applyP anyCH_take termsR (fun _ _ h r => hrl _ _ h r) (fun _ _ _ h r => ⟨h.1, hrl _ _ h.2.1 r, h.2.2⟩) (i := 22) rfl (by first | kernel_rfl | decide +kernel) (by first | kernel_rfl | decide +kernel) (by first | kernel_rfl | decide +kernel) (.inl ⟨by rfl, fun _ hw => ⟨run_eq_of ?run15, ?guar15⟩⟩) hF ?rest15; (case run15 => (intro K hK; obtain ⟨dx, hdx⟩ := hw; subst hdx; go_simp; exact hK)); (case guar15 => (obtain ⟨dx, hdx⟩ := hw; subst hdx; refine DR.quiet (fun e he => ?_); have hm := mem_listed he; simp [go_sem, *] at hm; try (subst hm; exact evR_read _ _))); try walk_nrm)
    (co_applyP anyCH_take termsR (fun _ _ h r => hrl _ _ h r) (fun _ _ _ h r => ⟨h.1, hrl _ _ h.2.1 r, h.2.2⟩) (i := 23) rfl (by first | kernel_rfl | decide +kernel) (by first | kernel_rfl | decide +kernel) (by first | kernel_rfl | decide +kernel) (.inl ⟨by rfl, fun _ hw => ⟨run_eq_of ?run16, ?guar16⟩⟩) hF ?rest16; (case run16 => (intro K hK; obtain ⟨dx, hdx⟩ := hw; subst hdx; go_simp; exact hK)); (case guar16 => (obtain ⟨dx, hdx⟩ := hw; subst hdx; refine DR.quiet (fun e he => ?_); have hm := mem_listed he; simp [go_sem, *] at hm; try (subst hm; exact evR_read _ _))); try walk_nrm)
    refine anyCH_done (by first | kernel_rfl | decide +kernel) ⟨rfl, hF, by simp, rfl⟩ _
  · rintro a' w' ⟨d, rfl⟩ ⟨h, hd⟩
    repeat (first | refine Walk.c rfl ?_ | refine Walk.cR ?_ | refine Walk.cRet ?_ | refine Walk.cEnd ?_ | (refine Walk.oq ?_; try walk_nrm) | (refine Walk.un ?_; walk_nrm))
    exact Walk.ret1 rfl hd Try.func71 rfl fun d' => ⟨h, d', rfl⟩
end
section
def isStepX (nw : Nat) (c : Cd) : Bool := decide (7 ≤ c.d) && decide (c.d ≤ 11) && decide (0 ≤ c.a) && decide (c.a < nw)
def reachX (c : Cd) (words : Nat → Int) (t : Th) : (Nat → Int) × Th :=
  if c.d = 7 then (words, { t with regs := upd t.regs (regN c.r) (words c.a.toNat) })
  else if c.d = 8 then (upd words c.a.toNat (t.regs (regN c.r)), t)
  else if c.d = 9 then (upd words c.a.toNat (IntKind.i64.wrap (words c.a.toNat + c.v)), { t with regs := upd t.regs (regN c.r) (IntKind.i64.wrap (words c.a.toNat + c.v)) })
  else if c.d = 10 then (upd words c.a.toNat (t.regs (regN c.r)), { t with regs := upd t.regs (regN c.r) (words c.a.toNat) })
  else if words c.a.toNat = t.regs (regN c.b) then (upd words c.a.toNat c.v, { t with regs := upd (upd t.regs (regN c.r) 0) (regN c.r) 1 })
  else (words, { t with regs := upd t.regs (regN c.r) 0 })
def WsIs (sw nw : Nat) (words : Nat → Int) (w : World) : Prop := ∃ arr, w.heap[sw]? = some (.cells arr 143 (0, 0)) ∧ ∀ j, j < nw → arr[j]? = some (.int .i64 (words j))
structure Both (W sw nw : Nat) (sv cv : Value) (words : Nat → Int) (t : Th) (ta : Option Addr) (tc : Nat) (w : World) : Prop where
  wk : WkIs W sv cv t ta tc w
  ws : WsIs sw nw words w
  ne : sw ≠ W
  no : (Value.slice ta t.told.length tc).ownBlock ≠ some sw
structure Only (W sw : Nat) (w w' : World) : Prop where
  size : w.heap.size ≤ w'.heap.size
  same : ∀ b, b < w.heap.size → b ≠ W → b ≠ sw → w'.heap[b]? = w.heap[b]?
section
variable {main : Bool} {V : Nat → Option Wait} {W sw nw : Nat} {sv cv : Value} {words : Nat → Int} {t : Th} {ta : Option Addr} {tc : Nat} {w w' w'' : World}
theorem Only.trans (h : Only W sw w w') (k : Only W sw w' w'') : Only W sw w w'' := ⟨Nat.le_trans h.size k.size, fun b hb h1 h2 => (k.same b (Nat.lt_of_lt_of_le hb h.size) h1 h2).trans (h.same b hb h1 h2)⟩
theorem Only.box (cd cr ca cb cvv : Int) : Only W sw w (boxW w cd cr ca cb cvv) := ⟨by simp [boxW], fun b hb _ _ => heap_new_lt w _ hb⟩
theorem Only.reg (i : Nat) (v : Value) : Only W sw w (w.setCell ⟨W, i, none⟩ v) := ⟨Nat.le_of_eq (size_set ..).symm, fun b _ h _ => heap_set_other w _ b _ h⟩
theorem Only.word (i : Nat) (v : Value) : Only W sw w (w.setCell ⟨sw, i, none⟩ v) := ⟨Nat.le_of_eq (size_set ..).symm, fun b _ _ h => heap_set_other w _ b _ h⟩
theorem Both.swlt (H : Both W sw nw sv cv words t ta tc w) : sw < w.heap.size := by
  obtain ⟨arr, h, _⟩ := H.ws
  exact (Array.getElem?_eq_some_iff.1 h).1
theorem Both.word (H : Both W sw nw sv cv words t ta tc w) {j : Nat} (hj : j < nw) : w.cell? ⟨sw, j, none⟩ = some (.int .i64 (words j)) := by
  obtain ⟨arr, h, ha⟩ := H.ws
  exact (cell_of h j).trans (ha j hj)
theorem Both.wordz (H : Both W sw nw sv cv words t ta tc w) (j : Nat) : w.frozen? ⟨sw, j, none⟩ = false := by
  obtain ⟨arr, h, _⟩ := H.ws
  exact frozen_of h j
theorem Both.boxed (H : Both W sw nw sv cv words t ta tc w) (cd cr ca cb cvv : Int) : Both W sw nw sv cv words t ta tc (boxW w cd cr ca cb cvv) := by
  obtain ⟨arr, h, ha⟩ := H.ws
  exact ⟨⟨(heap_new_lt w _ H.wk.lt).trans H.wk.blk, row_same H.wk.row fun g hg => heap_new_lt w _ (H.wk.row.lt g hg).2, H.wk.own⟩, ⟨arr, (heap_new_lt w _ H.swlt).trans h, ha⟩, H.ne, H.no⟩
theorem Both.setReg (H : Both W sw nw sv cv words t ta tc w) (n x : Int) : Both W sw nw sv cv words { t with regs := upd t.regs (regN n) x } ta tc (w.setCell ⟨W, 2 + (n % 4).toNat, none⟩ (.int .i64 x)) := by
  obtain ⟨arr, h, ha⟩ := H.ws
  refine ⟨⟨?_, row_same H.wk.row fun g hg => heap_set_other _ _ _ _ fun e => H.wk.own (by rw [hg]; exact congrArg some e), H.wk.own⟩, ⟨arr, (heap_set_other _ _ _ _ H.ne).trans h, ha⟩, H.ne, H.no⟩
  rw [heap_set_self _ _ H.wk.blk]
  exact congrArg (fun a => some (Obj.cells a 156)) (wk_set sv cv t.regs _ (regN_lt n) x)
theorem Both.setWord (H : Both W sw nw sv cv words t ta tc w) {A : Nat} (hA : A < nw) (x : Int) : Both W sw nw sv cv (upd words A x) t ta tc (w.setCell ⟨sw, A, none⟩ (.int .i64 x)) := by
  obtain ⟨arr, h, ha⟩ := H.ws
  refine ⟨⟨(heap_set_other _ _ _ _ (Ne.symm H.ne)).trans H.wk.blk, row_same H.wk.row fun g hg => heap_set_other _ _ _ _ fun e => H.no (by rw [hg]; exact congrArg some e), H.wk.own⟩, ⟨_, heap_set_self _ _ h, fun j hj => ?_⟩, H.ne, H.no⟩
  have hl : A < arr.size := (Array.getElem?_eq_some_iff.1 (ha A hA)).1
  by_cases e : j = A
  · subst e; rw [Array.getElem?_setIfInBounds_self_of_lt hl, upd_same]
  · rw [Array.getElem?_setIfInBounds_ne (Ne.symm e), upd_ne _ _ e]; exact ha j hj
theorem isStep_any (c : Cd) (sa : Option Addr) (cap : Nat) (h0 : w.cell? ⟨W, 0, none⟩ = some (.slice sa nw cap)) :
    CallV Try.prog main V 71 #[.pointer (some ⟨W, 0, none⟩), codeV c.d c.r c.a c.b c.v] w (.bool (isStepX nw c)) (boxW w c.d c.r c.a c.b c.v) := by
  obtain ⟨cd, cr, ca, cb, cvv⟩ := c
  unfold isStepX
  by_cases h1 : 7 ≤ cd
  · by_cases h2 : cd ≤ 11
    · by_cases h3 : 0 ≤ ca
      · have := isStep_yes (main := main) (V := V) W cd cr ca cb cvv sa nw cap w h0 h1 h2 h3
        simp only [decide_eq_true h1, decide_eq_true h2, decide_eq_true h3, Bool.true_and]
        exact this
      · have := isStep_neg (main := main) (V := V) W cd cr ca cb cvv w h1 h2 (by omega)
        simp only [decide_eq_false h3, Bool.and_false, Bool.false_and]
        exact this
    · have := isStep_high (main := main) (V := V) W cd cr ca cb cvv w (by omega)
      simp only [decide_eq_false h2, Bool.and_false, Bool.false_and]
      exact this
  · have := isStep_low (main := main) (V := V) W cd cr ca cb cvv w (by omega)
    simp only [decide_eq_false h1, Bool.false_and]
    exact this
theorem reach_any (c : Cd) (cap : Nat) (hsv : sv = .slice (some ⟨sw, 0, none⟩) nw cap) (H : Both W sw nw sv cv words t ta tc w) (hs : isStepX nw c = true) (hF : ∀ i, Free V ⟨W, i, none⟩) (hFw : ∀ i, Free V ⟨sw, i, none⟩) :
    ∃ w', CallV Try.prog main V 72 #[.pointer (some ⟨W, 0, none⟩), codeV c.d c.r c.a c.b c.v] w (.tuple #[]) w' ∧ Both W sw nw sv cv (reachX c words t).1 (reachX c words t).2 ta tc w' ∧ Only W sw w w' := by
  have h0 : w.cell? ⟨W, 0, none⟩ = some (.slice (some ⟨sw, 0, none⟩) nw cap) := (cell_of H.wk.blk 0).trans (by rw [← hsv]; rfl)
  obtain ⟨cd, cr, ca, cb, cvv⟩ := c
  simp only [isStepX, Bool.and_eq_true, decide_eq_true_eq] at hs
  obtain ⟨⟨⟨g1, g2⟩, g3⟩, g4⟩ := hs
  obtain ⟨A, rfl⟩ : ∃ A : Nat, ca = A := ⟨ca.toNat, by omega⟩
  have hA : A < nw := by omega
  have hAA : (A : Int).toNat = A := by omega
  have hB := fun d => H.boxed d cr A cb cvv
  unfold reachX
  simp only [hAA]
  by_cases h7 : cd = 7
  · subst h7
    exact ⟨_, reach_load W cr cb cvv sw nw cap A _ _ w h0 hA (H.wk.reg cr) (H.wk.regz _) (hF _) (H.word hA), (hB 7).setReg cr _, (Only.box ..).trans (Only.reg _ _)⟩
  by_cases h8 : cd = 8
  · subst h8
    exact ⟨_, reach_store W cr cb cvv sw nw cap A _ _ w h0 hA (H.wk.reg cr) (H.word hA) (H.wordz _) (hFw _), (hB 8).setWord hA _, (Only.box ..).trans (Only.word _ _)⟩
  by_cases h9 : cd = 9
  · subst h9
    exact ⟨_, reach_add W cr cb cvv sw nw cap A _ _ w h0 hA (H.wk.reg cr) (H.wk.regz _) (hF _) (H.word hA) (H.wordz _) (hFw _) H.ne, ((hB 9).setWord hA _).setReg cr _, ((Only.box ..).trans (Only.word _ _)).trans (Only.reg _ _)⟩
  by_cases h10 : cd = 10
  · subst h10
    exact ⟨_, reach_swap W cr cb cvv sw nw cap A _ _ w h0 hA (H.wk.reg cr) (H.wk.regz _) (hF _) (H.word hA) (H.wordz _) (hFw _) H.ne, ((hB 10).setWord hA _).setReg cr _, ((Only.box ..).trans (Only.word _ _)).trans (Only.reg _ _)⟩
  have h11 : cd = 11 := by omega
  subst h11
  by_cases he : words A = t.regs (regN cb)
  · refine ⟨_, reach_hit W cr cb cvv sw nw cap A _ _ _ w h0 hA (H.wk.reg cr) (H.wk.regz _) (hF _) (H.wk.reg cb) (H.word hA) (H.wordz _) (hFw _) H.ne he, ?_, (((Only.box ..).trans (Only.word _ _)).trans (Only.reg _ _)).trans (Only.reg _ _)⟩
    have := (((hB 11).setWord hA cvv).setReg cr 0).setReg cr 1
    simpa [he] using this
  · refine ⟨_, reach_miss W cr cb cvv sw nw cap A _ _ _ w h0 hA (H.wk.reg cr) (H.wk.regz _) (hF _) (H.wk.reg cb) (H.word hA) (H.wordz _) he, ?_, (Only.box ..).trans (Only.reg _ _)⟩
    have := (hB 11).setReg cr 0
    simpa [he] using this
end
end
section
variable {main : Bool} {V : Nat → Option Wait}
theorem walk_take (W : Nat) (S : Value) (own next cb len cap : Nat) (u : Nat → Value) (cs : List Frame) (w : World) (h1 : w.cell? ⟨W, 1, none⟩ = some (.slice (some ⟨cb, 0, none⟩) len cap)) (hlt : next < len) (cd cr ca cbb cv : Int) (hap : Apart V w.heap.size)
    (hc : ∀ j v, (codeCells cd cr ca cbb cv)[j]? = some v → w.cell? ⟨cb, next * 5 + j, none⟩ = some v) :
    Walk Try.prog main (DR V) (fun g w' => (∃ u', g = G (cd41 W w.heap.size S own next u') cs) ∧ ∃ d, w' = (boxW w cd cr ca cbb cv).at d) (G (hd41 W S own next u) cs) w := by
  unfold hd41
  simp only [body41, Try.f41]
  repeat (first | refine Walk.c rfl ?_ | refine Walk.cR ?_ | refine Walk.cRet ?_ | refine Walk.cEnd ?_ | (refine Walk.oq ?_; try walk_nrm) | (refine Walk.un ?_; walk_nrm))
  obtain ⟨fs, hu99⟩ := und99
  refine Walk.loadS 99 (.tmp 23) rfl (by rfl) (by decide) rfl cb (next * 5) (codeCells cd cr ca cbb cv) _ rfl hc hu99 rfl (by kernel_rfl) ?_
  walk_nrm
  (refine Walk.oa ?_; try walk_nrm)
  refine Walk.storeS 99 (.tmp 6) (.tmp 24) rfl (by rfl) (by decide) rfl w.heap.size (codeCells cd cr ca cbb cv).toArray _ 99 rfl rfl (heap_alloc_new w _) (by kernel_rfl) (by rfl) (by simp [codeCells, Value.oneCell']) hap ?_
  rw [setRow_alloc]
  walk_nrm
  refine Walk.ctl rfl (fun w => stepG_region_end) ?_
  exact .stop fun d => ⟨⟨fun k => ([undef, undef, undef, undef, undef, undef, undef, .int .i64 next, .bool true, .bool true, .int .i64 next, .pointer (some ⟨W, 0, none⟩), .pointer (some ⟨W, 0, none⟩), .pointer (some ⟨W, 1, none⟩), .slice (some ⟨cb, 0, none⟩) len cap, .int .i64 len, .bool true, .bool true, .pointer (some ⟨W, 0, none⟩), .pointer (some ⟨W, 0, none⟩), .pointer (some ⟨W, 1, none⟩), .slice (some ⟨cb, 0, none⟩) len cap, .int .i64 next, .pointer (some ⟨cb, next * 5, none⟩), .agg (codeCells cd cr ca cbb cv).toArray, u 25, u 26, u 27, u 28, u 29, u 30, u 31, u 32, u 33, u 34, u 35, u 36, u 37, u 38, u 39, u 40, u 41, u 42] : List Value).getD k undef, rfl⟩, d, rfl⟩
end
section
variable {main : Bool} {V : Nat → Option Wait}
noncomputable def row161B : Bool := match Try.prog.info? 161 with
  | some ti => (match ti.methods.find? (·.name == "Step") with
    | some m => m.path.isEmpty && (m.func == some (139, true))
    | none => false)
  | none => false
theorem row161 : ∃ ti m, Try.prog.info? 161 = some ti ∧ ti.methods.find? (·.name == "Step") = some m ∧ m.path = #[] ∧ m.func = some (139, true) := by
  have h : row161B = true := by kernel_rfl
  unfold row161B at h
  revert h
  cases h1 : Try.prog.info? 161 with
  | none => simp
  | some ti =>
    simp only []
    cases h2 : ti.methods.find? (·.name == "Step") with
    | none => simp
    | some m =>
      simp only [Bool.and_eq_true, Array.isEmpty_iff, beq_iff_eq]
      exact fun h => ⟨ti, m, rfl, h2, h.1, h.2⟩
theorem method_step (p : Nat) (w : World) (es : Array Event) : (method (Try.prog.types.size + Made.depth) 161 (.pointer (some ⟨p, 0, none⟩)) "Step").run Try.prog w = .ok (139, .pointer (some ⟨p, 0, none⟩)) w ∧ (method (Try.prog.types.size + Made.depth) 161 (.pointer (some ⟨p, 0, none⟩)) "Step").events Try.prog w es = es := by
  obtain ⟨ti, m, h1, h2, h3, h4⟩ := row161
  obtain ⟨k, hk⟩ : ∃ k, Try.prog.types.size + Made.depth = k + 1 := ⟨Try.prog.types.size + (Made.depth - 1), by have : 1 ≤ Made.depth := by decide
                                                                                                                omega⟩
  rw [hk]
  unfold method
  refine ⟨?_, ?_⟩
  · simp [typeInfo, h1, h2, h3, h4, follow, receiverAt, run_underlying und161, Place.get]
  · simp [typeInfo, h1, h2, h3, h4, follow, receiverAt, run_underlying und161, Place.get]
section
variable {Stop : Goroutine → World → Prop} {w : World} {b : Frame} {a : Act} {k : List Item} {cs : List Frame} {ops : Array Oper} {i : Nat} {rest : List Nat} {o : Oper}
theorem stepG_invokeStep {x : Operand} {ats : Array TypeId} (p : Nat) (ho : ops[i]? = some o) (hw : Region.wanted o (yielded ops a.tmps) = true) (hk : b.kind ≠ .early) (hop : o.op = .call { callee := .invoke x "Step", args := #[], argTypes := ats }) (hx : a.eval x = .iface 161 (.pointer (some ⟨p, 0, none⟩))) :
    stepG Try.prog main (G (b.at a (.inRegion ops (i :: rest) :: k)) cs) w = .go (G (Frame.enter Try.prog 139 #[.pointer (some ⟨p, 0, none⟩)] .normal) (b.at a (.inRegion ops (i :: rest) :: k) :: cs)) w := by
  have h1 : ¬ Try.f139.name = "runtime.NumGoroutine" := by decide
  have h2 : ¬ Try.f139.body = none := by simp [Try.f139]
  have hm := method_step p w #[]
  rw [show Try.prog.types.size = 216 from by kernel_rfl] at hm
  have hr : (execOp a.eval o).run Try.prog w = .ok (.enter 139 #[.pointer (some ⟨p, 0, none⟩)]) w := by
    unfold execOp
    simp [hop, resolve, invoke, callMethod, callFunc, hm.1, Try.func139, h1, h2, hx]
  have he : (execOp a.eval o).events Try.prog w #[] = #[] := by
    unfold execOp
    simp [hop, resolve, invoke, callMethod, callFunc, hm.1, hm.2, Try.func139, h1, h2, hx]
  rw [stepG_enter ho hw hk hr]
  have : listed Try.prog b.fn a o w = #[] := by unfold listed; rw [he]; exact seen_none Try.prog _
  rw [this]
theorem Walk.invokeStep {x : Operand} {ats : Array TypeId} (p : Nat) (ho : ops[i]? = some o) (hw : Region.wanted o (yielded ops a.tmps) = true) (hk : b.kind ≠ .early) (hop : o.op = .call { callee := .invoke x "Step", args := #[], argTypes := ats }) (hx : a.eval x = .iface 161 (.pointer (some ⟨p, 0, none⟩)))
    (h : Walk Try.prog main (DR V) Stop (G (Frame.enter Try.prog 139 #[.pointer (some ⟨p, 0, none⟩)] .normal) (b.at a (.inRegion ops (i :: rest) :: k) :: cs)) w) : Walk Try.prog main (DR V) Stop (G (b.at a (.inRegion ops (i :: rest) :: k)) cs) w :=
  Walk.ctl rfl (fun _ => stepG_invokeStep p ho hw hk hop hx) h
end
end
section
variable {main : Bool} {V : Nat → Option Wait}
noncomputable def code41s : Code := match body41b with | .seq (.seq _ (.cond _ c _)) _ => c | _ => .skip
noncomputable def ops41s : Array Oper := match code41s with | .seq (.region _ ops _) _ => ops | _ => #[]
noncomputable def rest41s : Code := match code41s with | .seq _ c => c | _ => .skip
noncomputable def rest41 : Code := match body41b with | .seq _ c => c | _ => .skip
noncomputable def fr41s (W X : Nat) (S : Value) (own : Nat) (next : Int) (u : Nat → Value) : Frame :=
  (base 41).at { tmps := #[.pointer (some ⟨W, 0, none⟩), S, undef, undef, .int .i64 own, .int .i64 next, .pointer (some ⟨X, 0, none⟩), u 7, u 8, u 9, u 10, u 11, u 12, u 13, u 14, u 15, u 16, u 17, u 18, u 19, u 20, u 21, u 22, u 23, u 24, u 25, u 26, .bool true, S, u 29, u 30, u 31, u 32, u 33, u 34, u 35, u 36, u 37, u 38, u 39, u 40, u 41, u 42], defers := [] } [.inRegion ops41s [1], .code rest41s, .code rest41, .inBlock 1, .inLoop body41, .inBlock 0]
theorem walk_ask (W X p : Nat) (own next len cap ca : Nat) (sa : Option Addr) (cd cr cbb cv : Int) (u : Nat → Value) (cs : List Frame) (w : World) (h0 : w.cell? ⟨W, 0, none⟩ = some (.slice sa len cap)) (g1 : 7 ≤ cd) (g2 : cd ≤ 11) (hlt : ca < len)
    (hx : ∀ j v, (codeCells cd cr ca cbb cv)[j]? = some v → w.cell? ⟨X, 0 + j, none⟩ = some v) :
    Walk Try.prog main (DR V) (fun g w' => (∃ u', g = G (Frame.enter Try.prog 139 #[.pointer (some ⟨p, 0, none⟩)] .normal) (fr41s W X (.iface 161 (.pointer (some ⟨p, 0, none⟩))) own next u' :: cs)) ∧ ∃ d, w' = (boxW w cd cr ca cbb cv).at d) (G (cd41 W X (.iface 161 (.pointer (some ⟨p, 0, none⟩))) own next u) cs) w := by
  unfold cd41
  simp only [body41b, body41, Try.f41]
  repeat (first | refine Walk.c rfl ?_ | refine Walk.cR ?_ | refine Walk.cRet ?_ | refine Walk.cEnd ?_ | (refine Walk.oq ?_; try walk_nrm) | (refine Walk.un ?_; walk_nrm))
  obtain ⟨fs, hu99⟩ := und99
  refine Walk.loadS 99 (.tmp 6) rfl (by rfl) (by decide) rfl X 0 (codeCells cd cr ca cbb cv) _ rfl hx hu99 rfl (by kernel_rfl) ?_
  walk_nrm
  refine Walk.callV (x := .bool true) (W := boxW w cd cr ca cbb cv) ?_ rfl (by rfl) (by decide) rfl Try.func71 (by kernel_rfl) (by rfl) ?_
  · walk_nrm
    have := isStep_yes (main := main) (V := V) W cd cr ca cbb cv sa len cap w h0 g1 g2 (by omega)
    rw [decide_eq_true (show (ca : Int) < len by omega)] at this
    exact this
  walk_nrm
  repeat (first | refine Walk.c rfl ?_ | refine Walk.cR ?_ | refine Walk.cRet ?_ | refine Walk.cEnd ?_ | (refine Walk.oq ?_; try walk_nrm) | (refine Walk.un ?_; walk_nrm))
  refine Walk.invokeStep p rfl (by rfl) (by decide) rfl rfl ?_
  exact .stop fun d => ⟨⟨(fun k => ([undef, undef, undef, undef, undef, undef, undef, u 7, u 8, u 9, u 10, u 11, u 12, u 13, u 14, u 15, u 16, u 17, u 18, u 19, u 20, u 21, u 22, u 23, u 24, .pointer (some ⟨W, 0, none⟩), .agg (codeCells cd cr ca cbb cv).toArray, u 27, u 28, u 29, u 30, u 31, u 32, u 33, u 34, u 35, u 36, u 37, u 38, u 39, u 40, u 41, u 42] : List Value).getD k undef), rfl⟩, d, rfl⟩
end
section
variable {main : Bool} {V : Nat → Option Wait}
theorem walk_did (W X : Nat) (S : Value) (own next : Nat) (cd cr ca cbb cv : Int) (u : Nat → Value) (cs : List Frame) (w w' : World) (hn : next < 4611686018427387904)
    (hx : ∀ j v, (codeCells cd cr ca cbb cv)[j]? = some v → w.cell? ⟨X, 0 + j, none⟩ = some v) (hr : CallV Try.prog main V 72 #[.pointer (some ⟨W, 0, none⟩), codeV cd cr ca cbb cv] w (.tuple #[]) w') :
    Walk Try.prog main (DR V) (fun g w'' => (∃ u', g = G (hd41 W S 0 (next + 1 : Nat) u') cs) ∧ ∃ d, w'' = w'.at d) (G ((fr41s W X S own next u).finish (.tuple #[])) cs) w := by
  unfold fr41s
  rw [Frame.finish_at]
  simp only [ops41s, rest41s, code41s, rest41, body41b, body41, Try.f41]
  walk_nrm
  repeat (first | refine Walk.c rfl ?_ | refine Walk.cR ?_ | refine Walk.cRet ?_ | refine Walk.cEnd ?_ | (refine Walk.oq ?_; try walk_nrm) | (refine Walk.un ?_; walk_nrm))
  obtain ⟨fs, hu99⟩ := und99
  refine Walk.loadS 99 (.tmp 6) rfl (by rfl) (by decide) rfl X 0 (codeCells cd cr ca cbb cv) _ rfl hx hu99 rfl (by kernel_rfl) ?_
  walk_nrm
  refine Walk.callV (x := .tuple #[]) (W := w') ?_ rfl (by rfl) (by decide) rfl Try.func72 (by kernel_rfl) (by rfl) ?_
  · walk_nrm
    exact hr
  walk_nrm
  repeat (first | refine Walk.c rfl ?_ | refine Walk.cR ?_ | refine Walk.cRet ?_ | refine Walk.cEnd ?_ | (refine Walk.oq ?_; try walk_nrm) | (refine Walk.un ?_; walk_nrm))
  have hwr : IntKind.i64.wrap ((next : Int) + 1) = ((next + 1 : Nat) : Int) := by rw [wrap_ok _ (by omega) (by omega)]; omega
  rw [hwr]
  refine Walk.ctl rfl (fun w => stepG_inLoop) ?_
  exact .stop fun d => ⟨⟨(fun k => ([undef, undef, undef, undef, undef, undef, .pointer (some ⟨X, 0, none⟩), u 7, u 8, u 9, u 10, u 11, u 12, u 13, u 14, u 15, u 16, u 17, u 18, u 19, u 20, u 21, u 22, u 23, u 24, u 25, u 26, .bool true, S, .tuple #[], .pointer (some ⟨W, 0, none⟩), .agg (codeCells cd cr ca cbb cv).toArray, .tuple #[], .int .i64 next, .int .i64 (next + 1 : Nat), u 35, u 36, u 37, u 38, u 39, u 40, u 41, u 42] : List Value).getD k undef), rfl⟩, d, rfl⟩
end
section
variable {main : Bool} {V : Nat → Option Wait}
theorem walk_own (W X : Nat) (S : Value) (own next : Nat) (cd cr ca cbb cv : Int) (u : Nat → Value) (cs : List Frame) (w : World) (Post : Int → World → Prop) (hs : CallV Try.prog main V 71 #[.pointer (some ⟨W, 0, none⟩), codeV cd cr ca cbb cv] w (.bool false) (boxW w cd cr ca cbb cv)) (ho : own < 4096)
    (hx : ∀ j v, (codeCells cd cr ca cbb cv)[j]? = some v → w.cell? ⟨X, 0 + j, none⟩ = some v) (hr : CallW Try.prog main V 73 #[.pointer (some ⟨W, 0, none⟩), codeV cd cr ca cbb cv, .int .i64 next] (boxW w cd cr ca cbb cv) (fun v w' => ∃ nx : Int, v = .int .i64 nx ∧ Post nx w')) :
    Walk Try.prog main (DR V) (fun g w'' => ∃ u' nx d w', g = G (hd41 W S (own + 1) nx u') cs ∧ Post nx w' ∧ w'' = w'.at d) (G (cd41 W X S own next u) cs) w := by
  unfold cd41
  simp only [body41b, body41, Try.f41]
  repeat (first | refine Walk.c rfl ?_ | refine Walk.cR ?_ | refine Walk.cRet ?_ | refine Walk.cEnd ?_ | (refine Walk.oq ?_; try walk_nrm) | (refine Walk.un ?_; walk_nrm))
  obtain ⟨fs, hu99⟩ := und99
  refine Walk.loadS 99 (.tmp 6) rfl (by rfl) (by decide) rfl X 0 (codeCells cd cr ca cbb cv) _ rfl hx hu99 rfl (by kernel_rfl) ?_
  walk_nrm
  refine Walk.callV (x := .bool false) (W := boxW w cd cr ca cbb cv) ?_ rfl (by rfl) (by decide) rfl Try.func71 (by kernel_rfl) (by rfl) ?_
  · walk_nrm
    exact hs
  walk_nrm
  have h4 : decide ((own : Int) = 4096) = false := decide_eq_false (by omega)
  have h4' : decide (own = 4096) = false := decide_eq_false (by omega)
  have h4b : ((own : Int) == 4096) = false := by simp; omega
  repeat (first | refine Walk.c rfl ?_ | refine Walk.cR ?_ | refine Walk.cRet ?_ | refine Walk.cEnd ?_ | (refine Walk.oq ?_; try walk_nrm) | (refine Walk.un ?_; walk_nrm))
  have hx' : ∀ (j : Nat) (v : Value), (codeCells cd cr ca cbb cv)[j]? = some v → (boxW w cd cr ca cbb cv).cell? ⟨X, 0 + j, none⟩ = some v := fun j v h => cell_alloc w _ (hx j v h)
  refine Walk.loadS 99 (.tmp 6) rfl (by rfl) (by decide) rfl X 0 (codeCells cd cr ca cbb cv) _ rfl hx' hu99 rfl (by kernel_rfl) ?_
  walk_nrm
  repeat (first | refine Walk.c rfl ?_ | refine Walk.cR ?_ | refine Walk.cRet ?_ | refine Walk.cEnd ?_ | (refine Walk.oq ?_; try walk_nrm) | (refine Walk.un ?_; walk_nrm))
  refine Walk.callW (Post := fun v w' => ∃ nx : Int, v = .int .i64 nx ∧ Post nx w') ?_ rfl (by rfl) (by decide) rfl Try.func73 (by kernel_rfl) (by rfl) ?_
  · walk_nrm
    exact hr
  rintro v w' ⟨nx, rfl, hp⟩
  walk_nrm
  repeat (first | refine Walk.c rfl ?_ | refine Walk.cR ?_ | refine Walk.cRet ?_ | refine Walk.cEnd ?_ | (refine Walk.oq ?_; try walk_nrm) | (refine Walk.un ?_; walk_nrm))
  have hwo : IntKind.i64.wrap ((own : Int) + 1) = ((own + 1 : Nat) : Int) := by rw [wrap_ok _ (by omega) (by omega)]; omega
  rw [hwo]
  refine Walk.ctl rfl (fun w => stepG_inLoop) ?_
  exact .stop fun d => ⟨(fun k => ([undef, undef, undef, undef, undef, undef, .pointer (some ⟨X, 0, none⟩), u 7, u 8, u 9, u 10, u 11, u 12, u 13, u 14, u 15, u 16, u 17, u 18, u 19, u 20, u 21, u 22, u 23, u 24, .pointer (some ⟨W, 0, none⟩), .agg (codeCells cd cr ca cbb cv).toArray, .bool false, u 28, u 29, u 30, u 31, u 32, u 33, u 34, .int .i64 own, .bool false, .int .i64 own, .int .i64 (own + 1 : Nat), .pointer (some ⟨W, 0, none⟩), .agg (codeCells cd cr ca cbb cv).toArray, .int .i64 next, .int .i64 nx] : List Value).getD k undef), nx, d, w', rfl, hp, rfl⟩
end
section
variable {main : Bool} {V : Nat → Option Wait}
theorem walk_stop (W X : Nat) (S : Value) (next : Nat) (cd cr ca cbb cv : Int) (u : Nat → Value) (c : Frame) (cs : List Frame) (w : World) (hs : CallV Try.prog main V 71 #[.pointer (some ⟨W, 0, none⟩), codeV cd cr ca cbb cv] w (.bool false) (boxW w cd cr ca cbb cv))
    (hx : ∀ j v, (codeCells cd cr ca cbb cv)[j]? = some v → w.cell? ⟨X, 0 + j, none⟩ = some v) :
    Walk Try.prog main (DR V) (fun g w' => g = G (c.finish (.tuple #[])) cs ∧ ∃ d, w' = (boxW w cd cr ca cbb cv).at d) (G (cd41 W X S 4096 next u) (c :: cs)) w := by
  unfold cd41
  simp only [body41b, body41, Try.f41]
  repeat (first | refine Walk.c rfl ?_ | refine Walk.cR ?_ | refine Walk.cRet ?_ | refine Walk.cEnd ?_ | (refine Walk.oq ?_; try walk_nrm) | (refine Walk.un ?_; walk_nrm))
  obtain ⟨fs, hu99⟩ := und99
  refine Walk.loadS 99 (.tmp 6) rfl (by rfl) (by decide) rfl X 0 (codeCells cd cr ca cbb cv) _ rfl hx hu99 rfl (by kernel_rfl) ?_
  walk_nrm
  refine Walk.callV (x := .bool false) (W := boxW w cd cr ca cbb cv) ?_ rfl (by rfl) (by decide) rfl Try.func71 (by kernel_rfl) (by rfl) ?_
  · walk_nrm
    exact hs
  walk_nrm
  repeat (first | refine Walk.c rfl ?_ | refine Walk.cR ?_ | refine Walk.cRet ?_ | refine Walk.cEnd ?_ | (refine Walk.oq ?_; try walk_nrm) | (refine Walk.un ?_; walk_nrm))
  exact Walk.ctl rfl (fun w => stepG_leave rfl rfl Try.func41 (results_none rfl _ _ w) (events_results_none rfl _ _)) (.stop fun d => ⟨rfl, d, rfl⟩)
end
section
def codeAt (codes : List Cd) (pc : Int) : Option Cd := if pc < 0 then none else codes[pc.toNat]?
def ownX (codes : List Cd) (nw : Nat) : Nat → Th → Bool × Th
  | 0, t => ((match codeAt codes t.pc with
    | some c => !isStepX nw c
    | none => true), t)
  | k + 1, t => match codeAt codes t.pc with
    | none => (true, t)
    | some c => if isStepX nw c then (false, t) else ownX codes nw k (reckonX c t)
def CodesAt (ca : Option Addr) (codes : List Cd) (w : World) : Prop := ∀ j c, codes[j]? = some c → ∃ cb, ca = some ⟨cb, 0, none⟩ ∧ ∀ m v, (codeCells c.d c.r c.a c.b c.v)[m]? = some v → w.cell? ⟨cb, j * 5 + m, none⟩ = some v
def BoxAt (X : Nat) (c : Cd) (w : World) : Prop := w.heap[X]? = some (.cells #[.int .i64 c.d, .int .i64 c.r, .int .i64 c.a, .int .i64 c.b, .int .i64 c.v] 99)
section
variable {main : Bool} {V : Nat → Option Wait} {W nw : Nat} {sv cv : Value} {t : Th} {ta : Option Addr} {tc : Nat} {w w' w'' : World}
theorem boxAt (c : Cd) (w : World) : BoxAt w.heap.size c (boxW w c.d c.r c.a c.b c.v) := heap_alloc_new w _
theorem BoxAt.cells {X : Nat} {c : Cd} (h : BoxAt X c w) : ∀ j v, (codeCells c.d c.r c.a c.b c.v)[j]? = some v → w.cell? ⟨X, 0 + j, none⟩ = some v := by
  intro j v hj
  rw [Nat.zero_add, cell_of h]
  simpa [codeCells] using hj
theorem BoxAt.alloc {X : Nat} {c : Cd} (h : BoxAt X c w) (o : Obj) : BoxAt X c (w.alloc o) := (heap_new_lt w o (Array.getElem?_eq_some_iff.1 h).1).trans h
theorem Reck.refl (H : WkIs W sv cv t ta tc w) : Reck W sv cv t ta t.told.length tc w w := ⟨⟨ta, tc, H, fun _ h => .inl h⟩, Nat.le_refl _, fun _ _ _ _ => rfl⟩
theorem Reck.trans {t1 t2 : Th} {ta1 : Option Addr} {n tc1 : Nat} (h1 : w.heap.size ≤ w'.heap.size) (hg : ∀ g, (Value.slice ta1 t1.told.length tc1).ownBlock = some g → (Value.slice ta n tc).ownBlock = some g ∨ w.heap.size ≤ g) (hs : ∀ b, b < w.heap.size → b ≠ W → (Value.slice ta n tc).ownBlock ≠ some b → w'.heap[b]? = w.heap[b]?)
    (K : Reck W sv cv t2 ta1 t1.told.length tc1 w' w'') : Reck W sv cv t2 ta n tc w w'' := by
  obtain ⟨ta2, tc2, h2, g2⟩ := K.is
  refine ⟨⟨ta2, tc2, h2, fun g hg2 => ?_⟩, Nat.le_trans h1 K.size, fun b hb hne hno => ?_⟩
  · rcases g2 g hg2 with h | h
    · exact hg g h
    · exact .inr (Nat.le_trans h1 h)
  · refine (K.same b (Nat.lt_of_lt_of_le hb h1) hne fun e => ?_).trans (hs b hb hne hno)
    rcases hg b e with h | h
    · exact hno h
    · omega
theorem CodesAt.same {ca : Option Addr} {codes : List Cd} (h : CodesAt ca codes w) (hs : ∀ cb, ca = some ⟨cb, 0, none⟩ → w'.heap[cb]? = w.heap[cb]?) : CodesAt ca codes w' := by
  intro j c hj
  obtain ⟨cb, e, hc⟩ := h j c hj
  exact ⟨cb, e, fun m v hm => (World.cell?_of_block (a := ⟨cb, j * 5 + m, none⟩) (hs cb e)).trans (hc m v hm)⟩
theorem own_head {ca : Option Addr} {ccap : Nat} {codes : List Cd} (S : Value) (own : Nat) (u : Nat → Value) (c : Frame) (cs : List Frame) (H : WkIs W sv (.slice ca codes.length ccap) t ta tc w) (hc : CodesAt ca codes w) (hA : Apart V w.heap.size) :
    Walk Try.prog main (DR V) (fun g w' => (codeAt codes t.pc = none ∧ g = G (c.finish (.tuple #[])) cs ∧ ∃ d, w' = w.at d) ∨
      (∃ (n : Nat) (cd : Cd) (u' : Nat → Value), t.pc = n ∧ n < codes.length ∧ codeAt codes t.pc = some cd ∧ codes[n]? = some cd ∧ g = G (cd41 W w.heap.size S own n u') (c :: cs) ∧ ∃ d, w' = (boxW w cd.d cd.r cd.a cd.b cd.v).at d)) (G (hd41 W S own t.pc u) (c :: cs)) w := by
  have h1 : w.cell? ⟨W, 1, none⟩ = some (.slice ca codes.length ccap) := (cell_of H.blk 1).trans rfl
  by_cases h0 : t.pc < 0
  · refine (walk_below W S own t.pc u c cs w h0).mono fun g w' h => .inl ⟨?_, h⟩
    unfold codeAt; rw [if_pos h0]
  by_cases h2 : (codes.length : Int) ≤ t.pc
  · refine (walk_out W S own t.pc codes.length ccap ca u c cs w h1 h2).mono fun g w' h => .inl ⟨?_, h⟩
    unfold codeAt; rw [if_neg h0]; exact List.getElem?_eq_none (by omega)
  obtain ⟨n, hn⟩ : ∃ n : Nat, t.pc = n := ⟨t.pc.toNat, by omega⟩
  have hlt : n < codes.length := by omega
  have hcd : codes[n]? = some codes[n] := List.getElem?_eq_getElem hlt
  generalize codes[n] = cd at hcd
  obtain ⟨cb, rfl, hcc⟩ := hc n cd hcd
  rw [hn]
  refine (walk_take W S own n cb codes.length ccap u (c :: cs) w h1 hlt cd.d cd.r cd.a cd.b cd.v hA hcc).mono ?_
  rintro g w' ⟨⟨u', rfl⟩, d, rfl⟩
  refine .inr ⟨n, cd, u', rfl, hlt, ?_, hcd, rfl, d, rfl⟩
  unfold codeAt
  rw [if_neg (by omega)]
  simpa using hcd
theorem own_run {ca : Option Addr} {ccap scap : Nat} {sa : Option Addr} {codes : List Cd} (p : Nat) (c : Frame) (cs : List Frame) (hsv : sv = .slice sa nw scap) (hF : ∀ i, Free V ⟨W, i, none⟩) (hlen : codes.length < 4611686018427387904) :
    ∀ (k own : Nat) {t : Th} {ta : Option Addr} {tc : Nat} {u : Nat → Value} {w : World}, own + k = 4096 → WkIs W sv (.slice ca codes.length ccap) t ta tc w → CodesAt ca codes w → (∀ cb, ca = some ⟨cb, 0, none⟩ → cb < w.heap.size ∧ cb ≠ W ∧ (Value.slice ta t.told.length tc).ownBlock ≠ some cb) → (∀ b, w.heap.size ≤ b → Apart V b) →
      (∀ g, (Value.slice ta t.told.length tc).ownBlock = some g → Apart V g) → t.told.length + k < 1099511627776 →
      Walk Try.prog main (DR V) (fun g w' => Reck W sv (.slice ca codes.length ccap) (ownX codes nw k t).2 ta t.told.length tc w w' ∧ (((ownX codes nw k t).1 = true ∧ g = G (c.finish (.tuple #[])) cs) ∨
        ((ownX codes nw k t).1 = false ∧ ∃ (X own' n : Nat) (u' : Nat → Value) (cd : Cd), (ownX codes nw k t).2.pc = n ∧ codes[n]? = some cd ∧ isStepX nw cd = true ∧ w.heap.size ≤ X ∧ X < w'.heap.size ∧ X ≠ W ∧ BoxAt X cd w' ∧ g = G (Frame.enter Try.prog 139 #[.pointer (some ⟨p, 0, none⟩)] .normal) (fr41s W X (.iface 161 (.pointer (some ⟨p, 0, none⟩))) own' n u' :: c :: cs))))
        (G (hd41 W (.iface 161 (.pointer (some ⟨p, 0, none⟩))) own t.pc u) (c :: cs)) w := by
  intro k
  induction k with
  | zero =>
    intro own t ta tc u w hk H hc hcb hA hap htl
    have hown : own = 4096 := by omega
    subst hown
    refine (own_head (main := main) (.iface 161 (.pointer (some ⟨p, 0, none⟩))) 4096 u c cs H hc (hA _ (Nat.le_refl _))).then ?_
    rintro g w1 (⟨hn, rfl, d, rfl⟩ | ⟨n, cd, u', hpc, hlt, hca, hcd, rfl, d, rfl⟩)
    · exact .stop fun d' => ⟨(Reck.refl H).at _, .inl ⟨by simp only [ownX, hn], rfl⟩⟩
    · refine Walk.back ?_ d
      have hX := (boxAt cd w).cells
      have R1 := Reck.box H cd.d cd.r cd.a cd.b cd.v (pc := t.pc)
      have h0 : (boxW w cd.d cd.r cd.a cd.b cd.v).cell? ⟨W, 0, none⟩ = some (.slice sa nw scap) := (cell_of ((heap_new_lt w _ H.lt).trans H.blk) 0).trans (by rw [← hsv]; rfl)
      have hst := isStep_any (main := main) (V := V) (W := W) cd sa scap h0
      have hWX : w.heap.size ≠ W := by have := H.lt; omega
      have hs1 : (boxW w cd.d cd.r cd.a cd.b cd.v).heap.size = w.heap.size + 1 := by simp [boxW]
      have H1 : WkIs W sv (.slice ca codes.length ccap) t ta tc (boxW w cd.d cd.r cd.a cd.b cd.v) := ⟨(heap_new_lt w _ H.lt).trans H.blk, row_same H.row fun g hg => heap_new_lt w _ (H.row.lt g hg).2, H.own⟩
      have R2 : Reck W sv (.slice ca codes.length ccap) t ta t.told.length tc w (boxW (boxW w cd.d cd.r cd.a cd.b cd.v) cd.d cd.r cd.a cd.b cd.v) :=
        Reck.trans (w' := boxW w cd.d cd.r cd.a cd.b cd.v) (by omega) (fun g h => .inl h) (fun b hb _ _ => heap_new_lt w _ hb) (Reck.box H1 cd.d cd.r cd.a cd.b cd.v (pc := t.pc))
      cases hb : isStepX nw cd with
      | false =>
        rw [hb] at hst
        refine (walk_stop W w.heap.size _ n cd.d cd.r cd.a cd.b cd.v u' c cs _ hst hX).mono ?_
        rintro g w2 ⟨rfl, d2, rfl⟩
        exact ⟨R2.at d2, .inl ⟨by simp only [ownX, hca, hb, Bool.not_false], rfl⟩⟩
      | true =>
        have hb' := hb
        simp only [isStepX, Bool.and_eq_true, decide_eq_true_eq] at hb'
        obtain ⟨⟨⟨g1, g2⟩, g3⟩, g4⟩ := hb'
        obtain ⟨A, hA'⟩ : ∃ A : Nat, cd.a = A := ⟨cd.a.toNat, by omega⟩
        rw [hA'] at hX h0
        refine Walk.mono (Stop := _) (by
          have := walk_ask (main := main) (V := V) W w.heap.size p 4096 n nw scap A sa cd.d cd.r cd.b cd.v u' (c :: cs) (boxW w cd.d cd.r A cd.b cd.v) h0 g1 g2 (by omega) (by have := hX; exact this)
          rw [← hA'] at this
          exact this) ?_
        rintro g w2 ⟨⟨u2, rfl⟩, d2, rfl⟩
        refine ⟨R2.at d2, .inr ⟨by simp only [ownX, hca, hb, Bool.not_true], w.heap.size, 4096, n, u2, cd, hpc, hcd, hb, Nat.le_refl _, ?_, hWX, (boxAt cd w).alloc _, rfl⟩⟩
        show w.heap.size < (boxW (boxW w cd.d cd.r cd.a cd.b cd.v) cd.d cd.r cd.a cd.b cd.v).heap.size
        simp [boxW]
        omega
  | succ k ih =>
    intro own t ta tc u w hk H hc hcb hA hap htl
    refine (own_head (main := main) (.iface 161 (.pointer (some ⟨p, 0, none⟩))) own u c cs H hc (hA _ (Nat.le_refl _))).then ?_
    rintro g w1 (⟨hn, rfl, d, rfl⟩ | ⟨n, cd, u', hpc, hlt, hca, hcd, rfl, d, rfl⟩)
    · exact .stop fun d' => ⟨by simp only [ownX, hn]; exact (Reck.refl H).at _, .inl ⟨by simp only [ownX, hn], rfl⟩⟩
    · refine Walk.back ?_ d
      have hX := (boxAt cd w).cells
      have h0 : (boxW w cd.d cd.r cd.a cd.b cd.v).cell? ⟨W, 0, none⟩ = some (.slice sa nw scap) := (cell_of ((heap_new_lt w _ H.lt).trans H.blk) 0).trans (by rw [← hsv]; rfl)
      have hst := isStep_any (main := main) (V := V) (W := W) cd sa scap h0
      have hWX : w.heap.size ≠ W := by have := H.lt; omega
      have hs1 : (boxW w cd.d cd.r cd.a cd.b cd.v).heap.size = w.heap.size + 1 := by simp [boxW]
      have hs2 : (boxW (boxW w cd.d cd.r cd.a cd.b cd.v) cd.d cd.r cd.a cd.b cd.v).heap.size = w.heap.size + 2 := by simp [boxW]
      have hold : ∀ b, b < w.heap.size → (boxW (boxW w cd.d cd.r cd.a cd.b cd.v) cd.d cd.r cd.a cd.b cd.v).heap[b]? = w.heap[b]? := fun b hb => (heap_new_lt _ _ (by omega)).trans (heap_new_lt w _ hb)
      have H1 : WkIs W sv (.slice ca codes.length ccap) t ta tc (boxW w cd.d cd.r cd.a cd.b cd.v) := ⟨(heap_new_lt w _ H.lt).trans H.blk, row_same H.row fun g hg => heap_new_lt w _ (H.row.lt g hg).2, H.own⟩
      have H2 : WkIs W sv (.slice ca codes.length ccap) t ta tc (boxW (boxW w cd.d cd.r cd.a cd.b cd.v) cd.d cd.r cd.a cd.b cd.v) := ⟨(hold W H.lt).trans H.blk, row_same H.row fun g hg => hold g (H.row.lt g hg).2, H.own⟩
      cases hb : isStepX nw cd with
      | false =>
        rw [hb] at hst
        have hX2 := hX
        have hr := reckon_any (main := main) cd (n : Int) H2 hpc (by omega) (by omega) (by omega) hF hap
        refine (walk_own W w.heap.size _ own n cd.d cd.r cd.a cd.b cd.v u' (c :: cs) _ (fun nx w' => nx = (reckonX cd t).pc ∧ Reck W sv (.slice ca codes.length ccap) (reckonX cd t) ta t.told.length tc (boxW (boxW w cd.d cd.r cd.a cd.b cd.v) cd.d cd.r cd.a cd.b cd.v) w') hst (by omega) hX2 ?_).then ?_
        · exact fun fr cs' => (hr fr cs').mono fun g w' ⟨v, ⟨hv, hR⟩, hg⟩ => ⟨v, ⟨_, hv, rfl, hR⟩, hg⟩
        · rintro g w3 ⟨u3, nx, d3, w4, rfl, ⟨rfl, hR⟩, rfl⟩
          refine Walk.back ?_ d3
          obtain ⟨ta4, tc4, h4, g4⟩ := hR.is
          have hsz4 : w.heap.size ≤ w4.heap.size := by have := hR.size; omega
          have hg4 : ∀ g, (Value.slice ta4 (reckonX cd t).told.length tc4).ownBlock = some g → (Value.slice ta t.told.length tc).ownBlock = some g ∨ w.heap.size ≤ g := fun g hg => (g4 g hg).imp id fun h => by omega
          have hsame4 : ∀ b, b < w.heap.size → b ≠ W → (Value.slice ta t.told.length tc).ownBlock ≠ some b → w4.heap[b]? = w.heap[b]? := fun b hb hne hno => (hR.same b (by omega) hne hno).trans (hold b hb)
          have htl4 : (reckonX cd t).told.length ≤ t.told.length + 1 := by
            unfold reckonX
            repeat' split
            all_goals simp
          have hown : ownX codes nw (k + 1) t = ownX codes nw k (reckonX cd t) := by simp only [ownX, hca, hb, Bool.false_eq_true, if_false]
          rw [hown]
          refine (ih (own + 1) (by omega) h4 (hc.same fun cb e => hsame4 cb (hcb cb e).1 (hcb cb e).2.1 (hcb cb e).2.2) (fun cb e => ⟨Nat.lt_of_lt_of_le (hcb cb e).1 hsz4, (hcb cb e).2.1, fun e' => ?_⟩) (fun b hb => hA b (Nat.le_trans hsz4 hb)) (fun g hg => ?_) (by omega)).mono ?_
          · rcases hg4 cb e' with h | h
            · exact (hcb cb e).2.2 h
            · have := (hcb cb e).1; omega
          · rcases hg4 g hg with h | h
            · exact hap g h
            · exact hA g h
          · rintro g w5 ⟨hR5, hS⟩
            refine ⟨Reck.trans hsz4 hg4 hsame4 hR5, hS.imp id ?_⟩
            rintro ⟨h1, X, own', n', u5, cd5, e1, e2, e3, e4, e5, e6, e7, e8⟩
            exact ⟨h1, X, own', n', u5, cd5, e1, e2, e3, Nat.le_trans hsz4 e4, e5, e6, e7, e8⟩
      | true =>
        have R2 : Reck W sv (.slice ca codes.length ccap) t ta t.told.length tc w (boxW (boxW w cd.d cd.r cd.a cd.b cd.v) cd.d cd.r cd.a cd.b cd.v) :=
          Reck.trans (w' := boxW w cd.d cd.r cd.a cd.b cd.v) (by omega) (fun g h => .inl h) (fun b hb _ _ => heap_new_lt w _ hb) (Reck.box H1 cd.d cd.r cd.a cd.b cd.v (pc := t.pc))
        have hb' := hb
        simp only [isStepX, Bool.and_eq_true, decide_eq_true_eq] at hb'
        obtain ⟨⟨⟨g1, g2⟩, g3⟩, g4⟩ := hb'
        obtain ⟨A, hA'⟩ : ∃ A : Nat, cd.a = A := ⟨cd.a.toNat, by omega⟩
        rw [hA'] at hX h0
        refine Walk.mono (Stop := _) (by
          have := walk_ask (main := main) (V := V) W w.heap.size p own n nw scap A sa cd.d cd.r cd.b cd.v u' (c :: cs) (boxW w cd.d cd.r A cd.b cd.v) h0 g1 g2 (by omega) (by have := hX; exact this)
          rw [← hA'] at this
          exact this) ?_
        rintro g w2 ⟨⟨u2, rfl⟩, d2, rfl⟩
        have hown : ownX codes nw (k + 1) t = (false, t) := by simp only [ownX, hca, hb, if_true]
        rw [hown]
        refine ⟨R2.at d2, .inr ⟨rfl, w.heap.size, own, n, u2, cd, hpc, hcd, hb, Nat.le_refl _, ?_, hWX, (boxAt cd w).alloc _, rfl⟩⟩
        show w.heap.size < (boxW (boxW w cd.d cd.r cd.a cd.b cd.v) cd.d cd.r cd.a cd.b cd.v).heap.size
        omega
end
end
section
variable {main : Bool} {V : Nat → Option Wait}
noncomputable def body39 : Code := match Try.f39.body with | some (.seq _ (.seq _ (.seq (.seq _ (.block _ (.loop c))) _))) => c | _ => .skip
noncomputable def rest39 : Code := match Try.f39.body with | some (.seq _ (.seq _ (.seq _ c))) => c | _ => .skip
noncomputable def hd39 (sl : Value) (sw n j : Nat) (u : Nat → Value) : Frame :=
  (base 39).at { tmps := #[sl, undef, .slice none 0 0, .slice (some ⟨sw, 0, none⟩) n n, u 4, u 5, sl, .int .i64 n, .slice (some ⟨sw, 0, none⟩) n n, sl, .int .i64 n, .int .i64 j, u 12, u 13, u 14, u 15, u 16, u 17, u 18, u 19, u 20, u 21, u 22], defers := [] } [.code body39, .inLoop body39, .inBlock 0, .code rest39]
theorem share_in (wa : Option Addr) (n cap : Nat) (cs : List Frame) (w : World) (hn : n ≤ 17592186044416) :
    Walk Try.prog main (DR V) (fun g w' => g = G (hd39 (.slice wa n cap) w.heap.size n 0 (fun _ => undef)) cs ∧ ∃ d, w' = (w.alloc (.cells (madeCells #[.int .i64 0] n) 143)).at d) (G (Frame.enter Try.prog 39 #[.slice wa n cap] .normal) cs) w := by
  rw [enter_at _ Try.func39 rfl]
  simp only [Try.f39, List.size_toArray, List.length_cons, List.length_nil, Nat.reduceAdd, Nat.reduceSub, Array.replicate_succ, Array.replicate_zero, List.push_toArray, List.append_toArray, List.nil_append, List.cons_append]
  repeat (first | refine Walk.c rfl ?_ | refine Walk.cR ?_ | refine Walk.cRet ?_ | refine Walk.cEnd ?_ | (refine Walk.oq ?_; try walk_nrm) | (refine Walk.un ?_; walk_nrm))
  have hi143 := Option.some_get (show (Try.prog.info? 143).isSome = true by kernel_rfl)
  refine Walk.make 87 (.tmp 7) (.tmp 7) rfl (by rfl) (by decide) rfl 143 _ (.agg #[.int .i64 0]) 1 8 (by kernel_rfl) hi143.symm (by kernel_rfl) (by kernel_rfl) (by kernel_rfl) n rfl rfl (by omega) hn ?_
  clear hi143
  walk_nrm
  simp only [Value.cells, Nat.mul_one]
  repeat (first | refine Walk.c rfl ?_ | refine Walk.cR ?_ | refine Walk.cRet ?_ | refine Walk.cEnd ?_ | (refine Walk.oq ?_; try walk_nrm) | (refine Walk.un ?_; walk_nrm))
  refine Walk.ctl rfl (fun w => stepG_loop) ?_
  refine .stop fun d => ⟨?_, d, rfl⟩
  simp only [hd39, body39, rest39, Try.f39]
  rfl
theorem share_go (wb wo n cap sw j : Nat) (x : Int) (y : Value) (u : Nat → Value) (cs : List Frame) (w : World) (hj : j < n) (hn : n ≤ 17592186044416) (hx : w.cell? ⟨wb, wo + j, none⟩ = some (.int .i64 x)) (hy : w.cell? ⟨sw, j, none⟩ = some y) (hz : w.frozen? ⟨sw, j, none⟩ = false) (hf : Free V ⟨sw, j, none⟩) :
    Walk Try.prog main (DR V) (fun g w' => (∃ u', g = G (hd39 (.slice (some ⟨wb, wo, none⟩) n cap) sw n (j + 1) u') cs) ∧ ∃ d, w' = (w.setCell ⟨sw, j, none⟩ (.int .i64 x)).at d) (G (hd39 (.slice (some ⟨wb, wo, none⟩) n cap) sw n j u) cs) w := by
  have hw1 : IntKind.wrap .i64 ((j : Int) + 1) = (j : Int) + 1 := by rw [IntKind.wrap_i64]; omega
  conv => arg 5; unfold hd39; simp only [body39, Try.f39]
  repeat (first | refine Walk.c rfl ?_ | refine Walk.cR ?_ | refine Walk.cRet ?_ | refine Walk.cEnd ?_ | (refine Walk.oq ?_; try walk_nrm) | (refine Walk.un ?_; walk_nrm))
  refine Walk.callV (x := .tuple #[]) (W := w.setCell ⟨sw, j, none⟩ (.int .i64 x)) ?_ rfl (by rfl) (by decide) rfl Try.func69 (by kernel_rfl) (by rfl) ?_
  · walk_nrm
    exact store69 _ y x w hy hz hf
  walk_nrm
  repeat (first | refine Walk.c rfl ?_ | refine Walk.cR ?_ | refine Walk.cRet ?_ | refine Walk.cEnd ?_ | (refine Walk.oq ?_; try walk_nrm) | (refine Walk.un ?_; walk_nrm))
  refine Walk.ctl rfl (fun w => stepG_inLoop) ?_
  refine .stop fun d' => ⟨⟨fun k => ([undef, undef, undef, undef, .int .i64 j, .int .i64 x, undef, undef, undef, undef, undef, undef, .bool true, .int .i64 j, .pointer (some ⟨wb, wo + j, none⟩), .int .i64 x, .slice (some ⟨sw, 0, none⟩) n n, .int .i64 j, .pointer (some ⟨sw, j, none⟩), .int .i64 x, .tuple #[], .int .i64 ((j : Int) + 1), u 22] : List Value).getD k undef, ?_⟩, d', rfl⟩
  have hc : ((j + 1 : Nat) : Int) = (j : Int) + 1 := by simp
  simp only [hd39, body39, Try.f39, hc]
  rfl
theorem share_out (sl : Value) (n sw : Nat) (u : Nat → Value) (c : Frame) (cs : List Frame) (w : World) :
    Walk Try.prog main (DR V) (fun g w' => g = G (c.finish (.slice (some ⟨sw, 0, none⟩) n n)) cs ∧ ∃ d, w' = w.at d) (G (hd39 sl sw n n u) (c :: cs)) w := by
  unfold hd39
  simp only [body39, rest39, Try.f39]
  repeat (first | refine Walk.c rfl ?_ | refine Walk.cR ?_ | refine Walk.cRet ?_ | refine Walk.cEnd ?_ | (refine Walk.oq ?_; try walk_nrm) | (refine Walk.un ?_; walk_nrm))
  exact (Walk.ret1 (Post := fun v w' => v = .slice (some ⟨sw, 0, none⟩) n n ∧ ∃ d, w' = w.at d) rfl rfl Try.func39 rfl fun d => ⟨rfl, d, rfl⟩).mono fun g w' ⟨v, ⟨hv, hd⟩, hg⟩ => ⟨by rw [hg, hv], hd⟩
end
section
variable {main : Bool} {V : Nat → Option Wait}
def IntsAt (wa : Option Addr) (l : List Int) (w : World) : Prop := ∀ (j : Nat) (x : Int), l[j]? = some x → ∃ wb wo, wa = some ⟨wb, wo, none⟩ ∧ w.cell? ⟨wb, wo + j, none⟩ = some (.int .i64 x)
structure Old (w w' : World) : Prop where
  size : w.heap.size ≤ w'.heap.size
  same : ∀ b, b < w.heap.size → w'.heap[b]? = w.heap[b]?
theorem Old.refl (w : World) : Old w w := ⟨Nat.le_refl _, fun _ _ => rfl⟩
theorem Old.trans {a b c : World} (h : Old a b) (k : Old b c) : Old a c := ⟨Nat.le_trans h.size k.size, fun x hx => (k.same x (Nat.lt_of_lt_of_le hx h.size)).trans (h.same x hx)⟩
theorem IntsAt.old {wa : Option Addr} {l : List Int} {w w' : World} (h : IntsAt wa l w) (hs : ∀ b, b < w.heap.size → w'.heap[b]? = w.heap[b]?) : IntsAt wa l w' := by
  intro j x hj
  obtain ⟨wb, wo, e, hc⟩ := h j x hj
  exact ⟨wb, wo, e, (World.cell?_of_block (a := ⟨wb, wo + j, none⟩) (hs wb (cell_lt w hc))).trans hc⟩
theorem share_loop (wa : Option Addr) (cap : Nat) (l : List Int) (hn : l.length ≤ 17592186044416) (w0 : World) (hl : IntsAt wa l w0) (hA : Apart V w0.heap.size) (c : Frame) (cs : List Frame) : ∀ (r j : Nat) (u : Nat → Value) (w : World), j + r = l.length → Old w0 w → w0.heap.size < w.heap.size →
    (∃ arr, w.heap[w0.heap.size]? = some (.cells arr 143 (0, 0)) ∧ arr.size = l.length ∧ ∀ i x, i < j → l[i]? = some x → arr[i]? = some (.int .i64 x)) →
    Walk Try.prog main (DR V) (fun g w' => g = G (c.finish (.slice (some ⟨w0.heap.size, 0, none⟩) l.length l.length)) cs ∧ Old w0 w' ∧ w0.heap.size < w'.heap.size ∧ ∃ arr, w'.heap[w0.heap.size]? = some (.cells arr 143 (0, 0)) ∧ arr.size = l.length ∧ ∀ (i : Nat) (x : Int), l[i]? = some x → arr[i]? = some (.int .i64 x))
      (G (hd39 (.slice wa l.length cap) w0.heap.size l.length j u) (c :: cs)) w := by
  intro r
  induction r with
  | zero =>
    intro j u w hj ho hlt ⟨arr, h1, h2, h3⟩
    have hj : j = l.length := hj
    subst hj
    refine (share_out _ l.length w0.heap.size u c cs w).mono ?_
    rintro g w' ⟨rfl, d, rfl⟩
    exact ⟨rfl, ⟨ho.size, ho.same⟩, hlt, arr, h1, h2, fun i x hx => h3 i x (List.getElem?_eq_some_iff.1 hx).1 hx⟩
  | succ r ih =>
    intro j u w hj ho hlt ⟨arr, h1, h2, h3⟩
    have hjl : j < l.length := by omega
    have hx := List.getElem?_eq_getElem hjl
    generalize l[j] = x at hx
    obtain ⟨wb, wo, rfl, hc⟩ := hl j x hx
    have hwb : w.cell? ⟨wb, wo + j, none⟩ = some (.int .i64 x) := (World.cell?_of_block (a := ⟨wb, wo + j, none⟩) (ho.same wb (cell_lt w0 hc))).trans hc
    have hlj : j < arr.size := by omega
    refine (share_go wb wo l.length cap w0.heap.size j x arr[j] u (c :: cs) w hjl hn hwb ((cell_of h1 j).trans (Array.getElem?_eq_getElem hlj)) (frozen_of h1 j) (hA.1 _ rfl)).then ?_
    rintro g w' ⟨⟨u', rfl⟩, d, rfl⟩
    refine Walk.back ?_ d
    refine ih (j + 1) u' _ (by omega) ⟨by rw [size_set]; exact ho.size, fun b hb => (heap_set_other _ _ _ _ (by show b ≠ w0.heap.size; omega)).trans (ho.same b hb)⟩ (by rw [size_set]; exact hlt) ⟨_, heap_set_self _ _ h1, by simpa using h2, fun i y hi hy => ?_⟩
    by_cases e : i = j
    · subst e
      rw [Array.getElem?_setIfInBounds_self_of_lt hlj]
      rw [hx] at hy; cases hy; rfl
    · rw [Array.getElem?_setIfInBounds_ne (Ne.symm e)]
      exact h3 i y (by omega) hy
theorem share_w (wa : Option Addr) (cap : Nat) (l : List Int) (hn : l.length ≤ 17592186044416) (w : World) (hl : IntsAt wa l w) (hA : Apart V w.heap.size) :
    CallW Try.prog main V 39 #[.slice wa l.length cap] w (fun v w' => v = .slice (some ⟨w.heap.size, 0, none⟩) l.length l.length ∧ Old w w' ∧ w.heap.size < w'.heap.size ∧ WsIs w.heap.size l.length (fun j => l.getD j 0) w') := by
  intro fr cs
  refine (share_in wa l.length cap (fr :: cs) w hn).then ?_
  rintro g w1 ⟨rfl, d, rfl⟩
  refine Walk.back ?_ d
  refine (share_loop wa cap l hn w hl hA fr cs l.length 0 (fun _ => undef) _ (by omega) ⟨by simp, fun b hb => heap_new_lt w _ hb⟩ (by simp) ⟨_, heap_alloc_new w _, by simp [size_madeCells], fun i x hi => absurd hi (Nat.not_lt_zero _)⟩).mono ?_
  rintro g w2 ⟨rfl, ho, hlt, arr, h1, h2, h3⟩
  refine ⟨_, ⟨rfl, ho, hlt, arr, h1, fun j hj => ?_⟩, rfl⟩
  have hx := List.getElem?_eq_getElem hj
  rw [h3 j _ hx]
  show _ = some (Value.int .i64 (l.getD j 0))
  rw [List.getD_eq_getElem?_getD, hx, Option.getD_some]
end
section
variable {main : Bool} {V : Nat → Option Wait}
abbrev Sl := Option Addr × Nat × Nat
def slc (p : Sl) : Value := .slice p.1 p.2.1 p.2.2
def cdCells (d : Cd) : List Value := codeCells d.d d.r d.a d.b d.v
def flatC (c : List Cd) : List Value := c.flatMap cdCells
theorem cd_len (d : Cd) : (cdCells d).length = 5 := rfl
theorem flat_get : ∀ (c : List Cd) (j m : Nat) (d : Cd), c[j]? = some d → m < 5 → (flatC c)[j * 5 + m]? = (cdCells d)[m]?
  | [], j, m, d, h, _ => by simp at h
  | x :: c, 0, m, d, h, hm => by
    have h : x = d := by simpa using h
    subst h
    simp only [flatC, List.flatMap_cons, Nat.zero_mul, Nat.zero_add]
    rw [List.getElem?_append_left (by rw [cd_len]; exact hm)]
  | x :: c, j + 1, m, d, h, hm => by
    have h : c[j]? = some d := by simpa using h
    have := flat_get c j m d h hm
    simp only [flatC, List.flatMap_cons]
    rw [List.getElem?_append_right (by rw [cd_len]; omega), cd_len]
    have e : (j + 1) * 5 + m - 5 = j * 5 + m := by omega
    rw [e]
    exact this
structure Src (pa : Option Addr) (l : List Sl) (Ps : List (List Cd)) (w : World) : Prop where
  len : l.length = Ps.length
  at_ : ∀ (i : Nat) (p : Sl), l[i]? = some p → ∃ pb po, pa = some ⟨pb, po, none⟩ ∧ w.cell? ⟨pb, po + i, none⟩ = some (slc p)
  codes : ∀ (i : Nat) (p : Sl) (c : List Cd), l[i]? = some p → Ps[i]? = some c → p.2.1 = c.length ∧ ∀ (k : Nat) (d : Cd), c[k]? = some d → ∃ cb co, p.1 = some ⟨cb, co, none⟩ ∧ ∀ m v, (cdCells d)[m]? = some v → w.cell? ⟨cb, co + k * 5 + m, none⟩ = some v
theorem old_cell {w w' : World} (h : Old w w') {a : Addr} {v : Value} (hc : w.cell? a = some v) : w'.cell? a = some v := (World.cell?_of_block (h.same a.block (cell_lt w hc))).trans hc
theorem Src.old {pa : Option Addr} {l : List Sl} {Ps : List (List Cd)} {w w' : World} (H : Src pa l Ps w) (h : Old w w') : Src pa l Ps w' :=
  ⟨H.len, fun i p e => by obtain ⟨pb, po, e1, e2⟩ := H.at_ i p e; exact ⟨pb, po, e1, old_cell h e2⟩,
   fun i p c e e' => by
    obtain ⟨h1, h2⟩ := H.codes i p c e e'
    exact ⟨h1, fun k d hd => by obtain ⟨cb, co, e1, e2⟩ := h2 k d hd; exact ⟨cb, co, e1, fun m v hv => old_cell h (e2 m v hv)⟩⟩⟩
theorem row_at {w : World} {base : Nat} {e : TypeId} {size : Nat} {v : Value} {n : Nat} {xs : List Value} (h : w.ownsRow base e size v n xs) {g : Nat} (hv : v.ownBlock = some g) : base ≤ g ∧ g < w.heap.size ∧ ∃ cur, w.heap[g]? = some (.cells cur e (0, 0)) := by
  rcases h.2 with ⟨rfl, _⟩ | ⟨g', cap, cur, rfl, h1, h2, _⟩
  · cases hv
  · cases hv
    exact ⟨h1, (Array.getElem?_eq_some_iff.1 h2).1, cur, h2⟩
theorem row_ne {w : World} {base base' : Nat} {e e' : TypeId} {size size' : Nat} {v v' : Value} {n n' : Nat} {xs xs' : List Value} (he : e ≠ e') (h : w.ownsRow base e size v n xs) (h' : w.ownsRow base' e' size' v' n' xs') {g g' : Nat} (hv : v.ownBlock = some g) (hv' : v'.ownBlock = some g') : g ≠ g' := by
  rintro rfl
  obtain ⟨_, _, c1, e1⟩ := row_at h hv
  obtain ⟨_, _, c2, e2⟩ := row_at h' hv'
  rw [e1] at e2
  injection e2 with e2
  injection e2 with _ e2 _
  exact he e2
theorem row_mono {w : World} {base base' : Nat} {e : TypeId} {size : Nat} {v : Value} {n : Nat} {xs : List Value} (h : w.ownsRow base e size v n xs) (hb : base' ≤ base) : w.ownsRow base' e size v n xs := by
  refine ⟨h.1, ?_⟩
  rcases h.2 with z | ⟨g, cap, cur, h0, h1, h2⟩
  · exact .inl z
  · exact .inr ⟨g, cap, cur, h0, Nat.le_trans hb h1, h2⟩
theorem row_nil (w : World) (base : Nat) (e : TypeId) (size : Nat) : w.ownsRow base e size (.slice none 0 0) 0 [] := ⟨by simp, .inl ⟨rfl, rfl⟩⟩
theorem codes_inner (pb po n pc : Nat) (oa : Option Addr) (oc i : Nat) (p : Sl) (c : List Cd) (wI : World) (hi : i < n) (hm : c.length ≤ 3518437208883) (hp : wI.cell? ⟨pb, po + i, none⟩ = some (slc p)) (hpc : p.2.1 = c.length)
    (hc : ∀ (k : Nat) (d : Cd), c[k]? = some d → ∃ cb co, p.1 = some ⟨cb, co, none⟩ ∧ ∀ m v, (cdCells d)[m]? = some v → wI.cell? ⟨cb, co + k * 5 + m, none⟩ = some v) (hA : ∀ b, wI.heap.size ≤ b → Apart V b) (cs : List Frame) :
    ∀ (r k : Nat) (la : Option Addr) (lc : Nat) (u : Nat → Value) (w : World), k + r = c.length → Old wI w → w.ownsRow wI.heap.size 99 5 (.slice la k lc) k (flatC (c.take k)) →
      Walk Try.prog main (DR V) (fun g' w' => ∃ la' lc' u', g' = G (hd15i (.slice (some ⟨pb, po, none⟩) n pc) oa oc i la' lc' c.length u') cs ∧ Old wI w' ∧ w'.ownsRow wI.heap.size 99 5 (.slice la' c.length lc') c.length (flatC c))
        (G (hd15i (.slice (some ⟨pb, po, none⟩) n pc) oa oc i la lc k u) cs) w := by
  intro r
  induction r with
  | zero =>
    intro k la lc u w hk ho hr
    have hk : k = c.length := hk
    subst hk
    rw [List.take_length] at hr
    exact .stop fun d => ⟨la, lc, u, rfl, ⟨ho.size, ho.same⟩, hr⟩
  | succ r ih =>
    intro k la lc u w hk ho hr
    have hkc : k < c.length := by omega
    have hd := List.getElem?_eq_getElem hkc
    have htake : c.take (k + 1) = c.take k ++ [c[k]] := by rw [List.take_add_one, hd]; rfl
    generalize c[k] = d at hd htake
    obtain ⟨cb, co, e1, e2⟩ := hc k d hd
    obtain ⟨pa', pl, pcap⟩ := p
    simp only at e1 hpc
    subst e1 hpc
    refine (codes_go pb po n pc oa oc i cb co c.length pcap la lc k wI.heap.size _ d.d d.r d.a d.b d.v u cs w hi hkc hm (old_cell ho hp) (fun j v hv => old_cell ho (e2 j v hv)) hr ho.size (fun g hg => hA g (row_at hr hg).1) (hA _ ho.size)).then ?_
    rintro g' w1 ⟨g, cap, w3, ⟨u', rfl⟩, ⟨dd, rfl⟩, hown, hg, hat, hlt⟩
    refine Walk.back ?_ dd
    have hs2 : (cdW w d.d d.r d.a d.b d.v).heap.size = w.heap.size + 2 := by simp [cdW]
    refine ih (k + 1) _ cap u' w3 (by omega) ⟨by have := hg.size; have := ho.size; omega, fun b hb => ?_⟩ ?_
    · have := ho.size
      exact (hg.block b (by omega) (fun e => by have := (row_at hr e.symm).1; omega)).trans (((heap_new_lt _ _ (by simp; omega)).trans (heap_new_lt w _ (by omega))).trans (ho.same b hb))
    · rw [htake]
      simp only [flatC, List.flatMap_append, List.flatMap_cons, List.flatMap_nil, List.append_nil]
      exact hown
structure Coded (w0 w : World) (Ps : List (List Cd)) (fa : Option Addr) (fc i : Nat) (ls : List Sl) : Prop where
  old : Old w0 w
  len : ls.length = i
  row : w.ownsRow w0.heap.size 94 1 (.slice fa i fc) i (ls.map slc)
  rows : ∀ (j : Nat) (p : Sl) (c : List Cd), ls[j]? = some p → Ps[j]? = some c → p.2.1 = c.length ∧ w.ownsRow w0.heap.size 99 5 (slc p) c.length (flatC c)
theorem codes_loop (pa : Option Addr) (pc : Nat) (l : List Sl) (Ps : List (List Cd)) (w0 : World) (hS : Src pa l Ps w0) (hn : Ps.length ≤ 5864062014805) (hm : ∀ c ∈ Ps, c.length ≤ 3518437208883) (hA : ∀ b, w0.heap.size ≤ b → Apart V b) (fr : Frame) (cs : List Frame) :
    ∀ (r i : Nat) (oa : Option Addr) (oc : Nat) (ls : List Sl) (u : Nat → Value) (w : World), i + r = Ps.length → Coded w0 w Ps oa oc i ls →
      Walk Try.prog main (DR V) (fun g' w' => ∃ oa' oc' ls', g' = G (fr.finish (.slice oa' Ps.length oc')) cs ∧ Coded w0 w' Ps oa' oc' Ps.length ls') (G (hd15 (.slice pa Ps.length pc) oa oc i u) (fr :: cs)) w := by
  intro r
  induction r with
  | zero =>
    intro i oa oc ls u w hi M
    have hi : i = Ps.length := hi
    subst hi
    refine (codes_out pa _ pc oa oc u fr cs w).mono ?_
    rintro g w' ⟨rfl, d, rfl⟩
    exact ⟨oa, oc, ls, rfl, ⟨⟨M.old.size, M.old.same⟩, M.len, M.row, M.rows⟩⟩
  | succ r ih =>
    intro i oa oc ls u w hi M
    have hin : i < Ps.length := by omega
    have hil : i < l.length := by rw [hS.len]; exact hin
    have hc := List.getElem?_eq_getElem hin
    have hmc : Ps[i].length ≤ 3518437208883 := hm _ (List.getElem_mem hin)
    generalize Ps[i] = c at hc hmc
    have hp := List.getElem?_eq_getElem hil
    generalize l[i] = p at hp
    obtain ⟨pb, po, rfl, hcell⟩ := hS.at_ i p hp
    obtain ⟨hpc, hcs⟩ := hS.codes i p c hp hc
    refine (codes_first _ _ pc oa oc i u (fr :: cs) w hin).then ?_
    rintro g1 w1 ⟨⟨u1, rfl⟩, d1, rfl⟩
    refine Walk.back ?_ d1
    refine (codes_inner pb po Ps.length pc oa oc i p c w hin hmc (old_cell M.old hcell) hpc (fun k d hd => by
      obtain ⟨cb, co, e1, e2⟩ := hcs k d hd
      exact ⟨cb, co, e1, fun m v hv => old_cell M.old (e2 m v hv)⟩) (fun b hb => hA b (Nat.le_trans M.old.size hb)) (fr :: cs) c.length 0 none 0 u1 w (by omega) (Old.refl w) (row_nil w _ _ _)).then ?_
    rintro g2 w2 ⟨la, lc, u2, rfl, O2, hr2⟩
    have hrow2 : w2.ownsRow w0.heap.size 94 1 (.slice oa i oc) i (ls.map slc) := row_same M.row fun g hg => O2.same g (row_at M.row hg).2.1
    have hcell2 : w2.cell? ⟨pb, po + i, none⟩ = some (.slice p.1 c.length p.2.2) := by
      rw [← hpc]; exact old_cell (M.old.trans O2) hcell
    refine (codes_row (main := main) (V := V) pb po Ps.length pc oa oc i p.1 c.length p.2.2 la lc w0.heap.size (ls.map slc) u2 (fr :: cs) w2 hin hn hcell2 hrow2 (Nat.le_trans M.old.size O2.size) (fun g hg => hA g (row_at hrow2 hg).1)).then ?_
    rintro g3 w3' ⟨g, cap, w3, ⟨u3, rfl⟩, ⟨d3, rfl⟩, hown, hg, hat, hlt⟩
    refine Walk.back ?_ d3
    have hs1 : (w2.alloc (.cells #[.slice la c.length lc] 94)).heap.size = w2.heap.size + 1 := by simp
    have hsz := hg.size
    have h1 := M.old.size
    have h2 := O2.size
    have hkeep : ∀ b, b < w2.heap.size → (Value.slice oa i oc).ownBlock ≠ some b → w3.heap[b]? = w2.heap[b]? := fun b hb hne => (hg.block b (by omega) (fun e => hne e.symm)).trans (heap_new_lt w2 _ hb)
    refine ih (i + 1) _ cap (ls ++ [(la, c.length, lc)]) u3 w3 (by omega) ⟨⟨by omega, fun b hb => ?_⟩, by simp [M.len], ?_, fun j q cj hq hcj => ?_⟩
    · exact (hkeep b (by omega) (fun e => by have := (row_at M.row e).1; omega)).trans ((O2.same b (by omega)).trans (M.old.same b hb))
    · rw [List.map_append]; exact hown
    · rcases Nat.lt_or_ge j ls.length with hj | hj
      · rw [List.getElem?_append_left hj] at hq
        obtain ⟨e1, e2⟩ := M.rows j q cj hq hcj
        refine ⟨e1, row_same e2 fun b hb => ?_⟩
        have hb2 := (row_at e2 hb).2.1
        exact (hkeep b (by omega) (fun e => row_ne (by decide) e2 M.row hb e rfl)).trans (O2.same b hb2)
      · have hj : j = i := by
          have h4 := (List.getElem?_eq_some_iff.1 hq).1
          have h5 := M.len
          rw [List.length_append, List.length_singleton] at h4
          omega
        subst hj
        rw [hc] at hcj; cases hcj
        rw [List.getElem?_append_right hj, M.len, Nat.sub_self] at hq
        have hq : (la, c.length, lc) = q := by simpa using hq
        subst hq
        refine ⟨rfl, row_same (row_mono hr2 h1) fun b hb => hkeep b (row_at hr2 hb).2.1 fun e => row_ne (by decide) hr2 hrow2 hb e rfl⟩
theorem codes_w (pa : Option Addr) (pc : Nat) (l : List Sl) (Ps : List (List Cd)) (w : World) (hS : Src pa l Ps w) (hn : Ps.length ≤ 5864062014805) (hm : ∀ c ∈ Ps, c.length ≤ 3518437208883) (hA : ∀ b, w.heap.size ≤ b → Apart V b) :
    CallW Try.prog main V 15 #[.slice pa Ps.length pc] w (fun v w' => ∃ fa fc ls, v = .slice fa Ps.length fc ∧ Coded w w' Ps fa fc Ps.length ls) := by
  intro fr cs
  refine (codes_in _ (fr :: cs) w).then ?_
  rintro g1 w1 ⟨⟨u1, rfl⟩, d1, rfl⟩
  refine Walk.back ?_ d1
  refine (codes_loop pa pc l Ps w hS hn hm hA fr cs Ps.length 0 none 0 [] u1 w (by omega) ⟨Old.refl w, rfl, row_nil w _ _ _, fun j p c h => by simp at h⟩).mono ?_
  rintro g w' ⟨fa, fc, ls, rfl, M⟩
  exact ⟨_, ⟨fa, fc, ls, rfl, M⟩, rfl⟩
end
section
variable {main : Bool} {V : Nat → Option Wait}
noncomputable def body14 : Code := match Try.f14.body with | some (.seq _ (.seq _ (.seq _ (.seq _ (.seq (.seq _ (.block _ (.loop c))) _))))) => c | _ => .skip
noncomputable def rest14 : Code := match Try.f14.body with | some (.seq _ (.seq _ (.seq _ (.seq _ (.seq _ c))))) => c | _ => .skip
noncomputable def hd14 (wv pv sv : Value) (most : Int) (T sw nw wb wc tb n j : Nat) (u : Nat → Value) : Frame :=
  (base 14).at { tmps := #[wv, pv, sv, .int .i64 most, undef, undef, undef, undef, .pointer (some ⟨T, 0, none⟩), .slice (some ⟨sw, 0, none⟩) nw nw, .slice (some ⟨wb, 0, none⟩) n wc, .slice (some ⟨tb, 0, none⟩) n n, u 12, u 13, undef, undef, undef, wv, .slice (some ⟨sw, 0, none⟩) nw nw, .slice (some ⟨sw, 0, none⟩) nw nw, pv, .slice (some ⟨wb, 0, none⟩) n wc, .slice (some ⟨wb, 0, none⟩) n wc, .int .i64 n, .slice (some ⟨tb, 0, none⟩) n n, .slice (some ⟨wb, 0, none⟩) n wc, .int .i64 n, .int .i64 j, u 28, u 29, u 30, u 31, u 32, u 33, u 34, u 35, u 36, u 37, u 38, u 39, u 40, u 41, u 42, u 43, u 44, u 45, u 46, u 47, u 48, u 49, u 50, u 51, u 52], defers := [] } [.code body14, .inLoop body14, .inBlock 0, .code rest14]
theorem play_in {Stop : Goroutine → World → Prop} (wv pv sv : Value) (most : Int) (sw nw : Nat) (P1 : World → Prop) (P2 : Nat → Nat → Nat → World → Prop) (cs : List Frame) (w : World)
    (h1 : CallW Try.prog main V 39 #[wv] (w.alloc (.cells #[.slice none 0 0, .slice none 0 0, .slice none 0 0, .bool false] 28)) (fun v w' => v = .slice (some ⟨sw, 0, none⟩) nw nw ∧ P1 w'))
    (h2 : ∀ w1, P1 w1 → CallW Try.prog main V 40 #[.slice (some ⟨sw, 0, none⟩) nw nw, pv] w1 (fun v w' => ∃ wb n wc, v = .slice (some ⟨wb, 0, none⟩) n wc ∧ P2 wb n wc w' ∧ n ≤ 64))
    (hk : ∀ wb n wc w2, P2 wb n wc w2 → n ≤ 64 → Walk Try.prog main (DR V) Stop (G (hd14 wv pv sv most w.heap.size sw nw wb wc w2.heap.size n 0 (fun _ => undef)) cs) (w2.alloc (.cells (madeCells #[.nilFunc] n) 67))) :
    Walk Try.prog main (DR V) Stop (G (Frame.enter Try.prog 14 #[wv, pv, sv, .int .i64 most] .normal) cs) w := by
  rw [enter_at _ Try.func14 rfl]
  simp only [Try.f14, List.size_toArray, List.length_cons, List.length_nil, Nat.reduceAdd, Nat.reduceSub, Array.replicate_succ, Array.replicate_zero, List.push_toArray, List.append_toArray, List.nil_append, List.cons_append]
  repeat (first | refine Walk.c rfl ?_ | refine Walk.cR ?_ | refine Walk.cRet ?_ | refine Walk.cEnd ?_ | (refine Walk.oq ?_; try walk_nrm) | (refine Walk.un ?_; walk_nrm))
  (refine Walk.oa ?_; try walk_nrm)
  repeat (first | refine Walk.c rfl ?_ | refine Walk.cR ?_ | refine Walk.cRet ?_ | refine Walk.cEnd ?_ | (refine Walk.oq ?_; try walk_nrm) | (refine Walk.un ?_; walk_nrm))
  refine Walk.callW (Post := fun v w' => v = .slice (some ⟨sw, 0, none⟩) nw nw ∧ P1 w') ?_ rfl (by rfl) (by decide) rfl Try.func39 (by kernel_rfl) (by rfl) ?_
  · walk_nrm
    exact h1
  rintro v w1 ⟨rfl, hp1⟩
  walk_nrm
  repeat (first | refine Walk.c rfl ?_ | refine Walk.cR ?_ | refine Walk.cRet ?_ | refine Walk.cEnd ?_ | (refine Walk.oq ?_; try walk_nrm) | (refine Walk.un ?_; walk_nrm))
  refine Walk.callW (Post := fun v w' => ∃ wb n wc, v = .slice (some ⟨wb, 0, none⟩) n wc ∧ P2 wb n wc w' ∧ n ≤ 64) ?_ rfl (by rfl) (by decide) rfl Try.func40 (by kernel_rfl) (by rfl) ?_
  · walk_nrm
    exact h2 w1 hp1
  rintro v w2 ⟨wb, n, wc, rfl, hp2, hn⟩
  have hk2 := hk wb n wc w2 hp2 hn
  clear h1 h2 hk
  walk_nrm
  repeat (first | refine Walk.c rfl ?_ | refine Walk.cR ?_ | refine Walk.cRet ?_ | refine Walk.cEnd ?_ | (refine Walk.oq ?_; try walk_nrm) | (refine Walk.un ?_; walk_nrm))
  have hi67 := Option.some_get (show (Try.prog.info? 67).isSome = true by kernel_rfl)
  refine Walk.make 53 (.tmp 23) (.tmp 23) rfl (by rfl) (by decide) rfl 67 _ .nilFunc 1 8 (by kernel_rfl) hi67.symm (by kernel_rfl) (by kernel_rfl) (by kernel_rfl) n rfl rfl (by omega) (by omega) ?_
  clear hi67
  walk_nrm
  simp only [Value.cells, Nat.mul_one]
  repeat (first | refine Walk.c rfl ?_ | refine Walk.cR ?_ | refine Walk.cRet ?_ | refine Walk.cEnd ?_ | (refine Walk.oq ?_; try walk_nrm) | (refine Walk.un ?_; walk_nrm))
  refine Walk.ctl rfl (fun w => stepG_loop) ?_
  simp only [hd14, body14, rest14, Try.f14] at hk2
  exact hk2
end
section
variable {main : Bool} {V : Nat → Option Wait}
noncomputable def ops14 : Array Oper := match rest14 with | .seq (.region _ ops _) _ => ops | _ => #[]
noncomputable def tail14 : Code := match rest14 with | .seq _ c => c | _ => .skip
noncomputable def fr14 (wv pv sv : Value) (most : Int) (T sw nw wb wc tb n : Nat) (u : Nat → Value) : Frame :=
  (base 14).at { tmps := #[wv, pv, sv, .int .i64 most, undef, undef, undef, undef, .pointer (some ⟨T, 0, none⟩), .slice (some ⟨sw, 0, none⟩) nw nw, .slice (some ⟨wb, 0, none⟩) n wc, .slice (some ⟨tb, 0, none⟩) n n, u 12, u 13, undef, undef, undef, wv, .slice (some ⟨sw, 0, none⟩) nw nw, .slice (some ⟨sw, 0, none⟩) nw nw, pv, .slice (some ⟨wb, 0, none⟩) n wc, .slice (some ⟨wb, 0, none⟩) n wc, .int .i64 n, .slice (some ⟨tb, 0, none⟩) n n, .slice (some ⟨wb, 0, none⟩) n wc, .int .i64 n, .int .i64 n, .bool false, u 29, u 30, u 31, u 32, u 33, u 34, u 35, u 36, u 37, u 38, .slice (some ⟨tb, 0, none⟩) n n, sv, .int .i64 most, u 42, u 43, u 44, u 45, u 46, u 47, u 48, u 49, u 50, u 51, u 52], defers := [] } [.inRegion ops14 [3, 4, 5, 6, 7, 8, 9, 10], .code tail14]
theorem play_over {Stop : Goroutine → World → Prop} (wv pv sv : Value) (most : Int) (T sw nw wb wc tb n : Nat) (u : Nat → Value) (cs : List Frame) (w : World)
    (hk : ∀ u', Walk Try.prog main (DR V) Stop (G (Frame.enter Try.prog 23 #[.slice (some ⟨tb, 0, none⟩) n n, sv, .int .i64 most] .normal) (fr14 wv pv sv most T sw nw wb wc tb n u' :: cs)) w) :
    Walk Try.prog main (DR V) Stop (G (hd14 wv pv sv most T sw nw wb wc tb n n u) cs) w := by
  unfold hd14
  simp only [body14, rest14, Try.f14]
  repeat (first | refine Walk.c rfl ?_ | refine Walk.cR ?_ | refine Walk.cRet ?_ | refine Walk.cEnd ?_ | (refine Walk.oq ?_; try walk_nrm) | (refine Walk.un ?_; walk_nrm))
  refine Walk.callE rfl (by rfl) (by decide) rfl Try.func23 (by kernel_rfl) (by rfl) ?_
  walk_nrm
  simp only [fr14, ops14, tail14, rest14, Try.f14] at hk
  exact hk u
end
section
variable {main : Bool} {V : Nat → Option Wait}
theorem play_back {Stop : Goroutine → World → Prop} (wv pv sv : Value) (most : Int) (T sw nw wb wc tb n : Nat) (u : Nat → Value) (oa : Option Addr) (on oc a : Nat) (bv : Value) (stuck : Bool) (P1 : World → Prop) (P2 : Nat → World → Prop) (cs : List Frame) (w : World)
    (h1 : CallW Try.prog main V 42 #[.slice (some ⟨wb, 0, none⟩) n wc] w (fun v w' => v = .slice (some ⟨a, 0, none⟩) n n ∧ P1 w')) (h2 : ∀ w1, P1 w1 → CallW Try.prog main V 43 #[.slice (some ⟨sw, 0, none⟩) nw nw] w1 (fun v w' => ∃ s, v = .slice (some ⟨s, 0, none⟩) nw nw ∧ P2 s w'))
    (hT : ∀ s w2, P2 s w2 → w2.heap[T]? = some (.cells #[.slice none 0 0, .slice none 0 0, .slice none 0 0, .bool false] 28)) (hap : Apart V T)
    (hk : ∀ (fr : Frame) s w2, P2 s w2 → fr.fn = 14 → fr.mode = .returning → fr.kind = .normal → fr.defers = [] → fr.tmps.getD 8 undef = .pointer (some ⟨T, 0, none⟩) → Walk Try.prog main (DR V) Stop (G fr cs) (w2.setRow T #[.slice (some ⟨a, 0, none⟩) n n, .slice oa on oc, .slice (some ⟨s, 0, none⟩) nw nw, .bool stuck])) :
    Walk Try.prog main (DR V) Stop (G ((fr14 wv pv sv most T sw nw wb wc tb n u).finish (.tuple #[.slice oa on oc, .bool stuck, bv])) cs) w := by
  unfold fr14
  rw [Frame.finish_at]
  simp only [ops14, tail14, rest14, Try.f14]
  walk_nrm
  repeat (first | refine Walk.c rfl ?_ | refine Walk.cR ?_ | refine Walk.cRet ?_ | refine Walk.cEnd ?_ | (refine Walk.oq ?_; try walk_nrm) | (refine Walk.un ?_; walk_nrm))
  refine Walk.callW (Post := fun v w' => v = .slice (some ⟨a, 0, none⟩) n n ∧ P1 w') ?_ rfl (by rfl) (by decide) rfl Try.func42 (by kernel_rfl) (by rfl) ?_
  · walk_nrm
    exact h1
  rintro v w1 ⟨rfl, hp1⟩
  walk_nrm
  repeat (first | refine Walk.c rfl ?_ | refine Walk.cR ?_ | refine Walk.cRet ?_ | refine Walk.cEnd ?_ | (refine Walk.oq ?_; try walk_nrm) | (refine Walk.un ?_; walk_nrm))
  refine Walk.callW (Post := fun v w' => ∃ s, v = .slice (some ⟨s, 0, none⟩) nw nw ∧ P2 s w') ?_ rfl (by rfl) (by decide) rfl Try.func43 (by kernel_rfl) (by rfl) ?_
  · walk_nrm
    exact h2 w1 hp1
  rintro v w2 ⟨s, rfl, hp2⟩
  have hT2 := hT s w2 hp2
  have hk2 := hk
  clear h1 h2 hT hk
  walk_nrm
  repeat (first | refine Walk.c rfl ?_ | refine Walk.cR ?_ | refine Walk.cRet ?_ | refine Walk.cEnd ?_ | (refine Walk.oq ?_; try walk_nrm) | (refine Walk.un ?_; walk_nrm))
  refine Walk.storeS 28 (.tmp 8) (.tmp 52) rfl (by rfl) (by decide) rfl T #[.slice (some ⟨a, 0, none⟩) n n, .slice oa on oc, .slice (some ⟨s, 0, none⟩) nw nw, .bool stuck] _ 28 rfl rfl hT2 (by kernel_rfl) (by rfl) (by simp [Value.oneCell']) hap ?_
  walk_nrm
  repeat (first | refine Walk.c rfl ?_ | refine Walk.cR ?_ | refine Walk.cRet ?_ | refine Walk.cEnd ?_ | (refine Walk.oq ?_; try walk_nrm) | (refine Walk.un ?_; walk_nrm))
  exact hk2 _ s w2 hp2 rfl rfl rfl rfl rfl
end
section
variable {main : Bool} {V : Nat → Option Wait}
theorem und28 : ∃ fs, Try.prog.underlying 28 = some (.struct fs) := by
  have h : (match Try.prog.underlying 28 with | some (.struct _) => true | _ => false) = true := by kernel_rfl
  revert h
  cases Try.prog.underlying 28 with
  | none => simp
  | some d =>
    cases d with
    | struct fs => exact fun _ => ⟨fs, rfl⟩
    | _ => simp
theorem results14 (tmps : Array Value) (T : Nat) (cells : Array Value) (w : World) (h8 : tmps.getD 8 undef = .pointer (some ⟨T, 0, none⟩)) (hT : w.heap[T]? = some (.cells cells 28 (0, 0))) (hsz : cells.size = 4) :
    (results Try.f14 tmps).run Try.prog w = .ok (.agg cells) w ∧ ∀ e ∈ (results Try.f14 tmps).events Try.prog w #[], EvR V e := by
  obtain ⟨fs, hu⟩ := und28
  have hi : (Try.prog.info? 28).map (·.size) = some 4 := by kernel_rfl
  have hl := run_loadVar_row (P := Try.prog) w T 28 28 cells (0, 0) _ hT hu rfl (by rw [hsz]; exact hi)
  have he := events_loadVar_reads (P := Try.prog) w ⟨T, 0, none⟩ 28 hu rfl hi
  simp only [Array.getD_eq_getD_getElem?] at h8
  constructor
  · simp only [results, Try.f14]
    simp [h8, asAddr, hl]
  · intro e hm
    refine evR_isRead (he e ?_)
    simp only [results, Try.f14] at hm
    simpa [h8, asAddr, hl] using hm
theorem play_leave {fr : Frame} {c : Frame} {cs : List Frame} {T : Nat} {cells : Array Value} {w : World} (hf : fr.fn = 14) (hm : fr.mode = .returning) (hn : fr.kind = .normal) (hd : fr.defers = []) (h8 : fr.tmps.getD 8 undef = .pointer (some ⟨T, 0, none⟩)) (hT : w.heap[T]? = some (.cells cells 28 (0, 0))) (hsz : cells.size = 4) :
    Walk Try.prog main (DR V) (fun g w' => g = G (c.finish (.agg cells)) cs ∧ ∃ d, w' = w.at d) (G fr (c :: cs)) w :=
  Walk.evs (fun d => seen Try.prog fr.fn ((results Try.f14 fr.tmps).events Try.prog (w.at d) #[])) rfl (fun d => stepG_leaveF hm hn hd (by rw [hf]; exact Try.func14) (results14 (V := V) fr.tmps T cells (w.at d) h8 hT hsz).1)
    (fun d e he => (results14 (V := V) fr.tmps T cells (w.at d) h8 hT hsz).2 e (mem_seen he)) (.stop fun d => ⟨rfl, d, rfl⟩)
end
section
variable {main : Bool} {V : Nat → Option Wait}
section
variable {P : Program} {t e : TypeId} {ti : TypeInfo}
theorem run_sl_of (hu : P.underlying t = some (.slice e)) (hi : P.info? e = some ti) (tb m cap x : Nat) (hx : x ≤ cap) (w : World) (es : Array Event) : (Instr.sliceAt t (.slice (some ⟨tb, 0, none⟩) m cap) none (some (.int .i64 x)) none).run P w = .ok (.slice (some ⟨tb, 0, none⟩) x cap) w ∧
    (Instr.sliceAt t (.slice (some ⟨tb, 0, none⟩) m cap) none (some (.int .i64 x)) none).events P w es = es := by
  have h1 : (x : Int) ≤ cap := by omega
  constructor <;> simp [Instr.sliceAt, Instr.slice, run_underlying hu, Instr.sliceBounds, Instr.sliceBound, asIntOf, sizeOf, typeInfo, hi, h1, hx, Addr.add]
theorem run_sl0_of (hu : P.underlying t = some (.slice e)) (hi : P.info? e = some ti) (w : World) (es : Array Event) : (Instr.sliceAt t (.slice none 0 0) none (some (.int .i64 0)) none).run P w = .ok (.slice none 0 0) w ∧
    (Instr.sliceAt t (.slice none 0 0) none (some (.int .i64 0)) none).events P w es = es := by
  constructor <;> simp [Instr.sliceAt, Instr.slice, run_underlying hu, Instr.sliceBounds, Instr.sliceBound, asIntOf, sizeOf, typeInfo, hi]
end
theorem hu53 : Try.prog.underlying 53 = some (.slice 67) := by kernel_rfl
theorem first_some (tb m tcap : Nat) (w : World) (hm : m ≤ tcap) : CallV Try.prog main V 52 #[.slice (some ⟨tb, 0, none⟩) m tcap] w (.slice (some ⟨tb, 0, none⟩) (min m 64) tcap) w := by
  refine callW_in Try.func52 rfl fun fr cs => ?_
  simp only [Try.ntmps52, List.size_toArray, List.length_cons, List.length_nil, Nat.reduceAdd, Nat.reduceSub, Array.replicate_succ, Array.replicate_zero, List.push_toArray, List.append_toArray, List.nil_append, List.cons_append]
  have hmn := @events_min_ints Try.prog
  repeat (first | refine Walk.c rfl ?_ | refine Walk.cR ?_ | refine Walk.cRet ?_ | refine Walk.cEnd ?_ | (refine Walk.oq ?_; try walk_nrm) | (refine Walk.un ?_; walk_nrm))
  have hmin : min (m : Int) 64 = ((min m 64 : Nat) : Int) := by omega
  rw [hmin]
  have hxl : min m 64 ≤ tcap := by omega
  generalize min m 64 = x at hxl ⊢
  have hi := Option.some_get (show (Try.prog.info? 67).isSome = true by kernel_rfl)
  have hs := fun w => (run_sl_of hu53 hi.symm tb m tcap x hxl w #[]).1
  have hse := fun w es => (run_sl_of hu53 hi.symm tb m tcap x hxl w es).2
  clear hi
  repeat (first | refine Walk.c rfl ?_ | refine Walk.cR ?_ | refine Walk.cRet ?_ | refine Walk.cEnd ?_ | (refine Walk.oq ?_; try walk_nrm) | (refine Walk.un ?_; walk_nrm))
  exact Walk.ret1 rfl rfl Try.func52 rfl fun d => ⟨by simp, d, rfl⟩
end
section
variable {main : Bool} {V : Nat → Option Wait}
theorem hu30 : Try.prog.underlying 30 = some (.slice 94) := by kernel_rfl
theorem first70_some (tb m tcap : Nat) (w : World) (hm : m ≤ tcap) : CallV Try.prog main V 70 #[.slice (some ⟨tb, 0, none⟩) m tcap] w (.slice (some ⟨tb, 0, none⟩) (min m 64) tcap) w := by
  refine callW_in Try.func70 rfl fun fr cs => ?_
  simp only [Try.ntmps70, List.size_toArray, List.length_cons, List.length_nil, Nat.reduceAdd, Nat.reduceSub, Array.replicate_succ, Array.replicate_zero, List.push_toArray, List.append_toArray, List.nil_append, List.cons_append]
  have hmn := @events_min_ints Try.prog
  repeat (first | refine Walk.c rfl ?_ | refine Walk.cR ?_ | refine Walk.cRet ?_ | refine Walk.cEnd ?_ | (refine Walk.oq ?_; try walk_nrm) | (refine Walk.un ?_; walk_nrm))
  have hmin : min (m : Int) 64 = ((min m 64 : Nat) : Int) := by omega
  rw [hmin]
  have hxl : min m 64 ≤ tcap := by omega
  generalize min m 64 = x at hxl ⊢
  have hi := Option.some_get (show (Try.prog.info? 94).isSome = true by kernel_rfl)
  have hs := fun w => (run_sl_of hu30 hi.symm tb m tcap x hxl w #[]).1
  have hse := fun w es => (run_sl_of hu30 hi.symm tb m tcap x hxl w es).2
  clear hi
  repeat (first | refine Walk.c rfl ?_ | refine Walk.cR ?_ | refine Walk.cRet ?_ | refine Walk.cEnd ?_ | (refine Walk.oq ?_; try walk_nrm) | (refine Walk.un ?_; walk_nrm))
  exact Walk.ret1 rfl rfl Try.func70 rfl fun d => ⟨by simp, d, rfl⟩
noncomputable def body40 : Code := match Try.f40.body with | some (.seq _ (.seq _ (.seq (.seq _ (.block _ (.loop c))) _))) => c | _ => .skip
noncomputable def rest40 : Code := match Try.f40.body with | some (.seq _ (.seq _ (.seq _ c))) => c | _ => .skip
noncomputable def hd40 (sw nw : Nat) (pv fv : Value) (wa : Option Addr) (wc n j : Nat) (u : Nat → Value) : Frame :=
  (base 40).at { tmps := #[.slice (some ⟨sw, 0, none⟩) nw nw, pv, undef, undef, .slice none 0 0, .slice wa j wc, undef, u 7, pv, fv, .int .i64 n, .int .i64 j, u 12, u 13, u 14, u 15, u 16, u 17, u 18, u 19, u 20, u 21, u 22, u 23], defers := [] } [.code body40, .inLoop body40, .inBlock 0, .code rest40]
theorem walkers_in (sw nw : Nat) (pv : Value) (fa : Option Addr) (n fc : Nat) (cs : List Frame) (w : World) (hp : CallV Try.prog main V 70 #[pv] w (.slice fa n fc) w) :
    Walk Try.prog main (DR V) (fun g w' => g = G (hd40 sw nw pv (.slice fa n fc) none 0 n 0 (fun _ => undef)) cs ∧ ∃ d, w' = w.at d) (G (Frame.enter Try.prog 40 #[.slice (some ⟨sw, 0, none⟩) nw nw, pv] .normal) cs) w := by
  rw [enter_at _ Try.func40 rfl]
  simp only [Try.f40, List.size_toArray, List.length_cons, List.length_nil, Nat.reduceAdd, Nat.reduceSub, Array.replicate_succ, Array.replicate_zero, List.push_toArray, List.append_toArray, List.nil_append, List.cons_append]
  repeat (first | refine Walk.c rfl ?_ | refine Walk.cR ?_ | refine Walk.cRet ?_ | refine Walk.cEnd ?_ | (refine Walk.oq ?_; try walk_nrm) | (refine Walk.un ?_; walk_nrm))
  refine Walk.callV (x := .slice fa n fc) (W := w) ?_ rfl (by rfl) (by decide) rfl Try.func70 (by kernel_rfl) (by rfl) ?_
  · walk_nrm
    exact hp
  walk_nrm
  repeat (first | refine Walk.c rfl ?_ | refine Walk.cR ?_ | refine Walk.cRet ?_ | refine Walk.cEnd ?_ | (refine Walk.oq ?_; try walk_nrm) | (refine Walk.un ?_; walk_nrm))
  refine Walk.ctl rfl (fun w => stepG_loop) ?_
  refine .stop fun d => ⟨?_, d, rfl⟩
  simp only [hd40, body40, rest40, Try.f40]
  rfl
def wkCells (sw nw : Nat) (ca : Option Addr) (cl cc : Nat) : Array Value := #[.slice (some ⟨sw, 0, none⟩) nw nw, .slice ca cl cc, .int .i64 0, .int .i64 0, .int .i64 0, .int .i64 0, .slice none 0 0]
def wkW (w : World) (sw nw : Nat) (ca : Option Addr) (cl cc : Nat) : World := (w.alloc (.cells (wkCells sw nw ca cl cc) 156)).alloc (.cells #[.pointer (some ⟨w.heap.size, 0, none⟩)] 91)
theorem walkers_go (sw nw : Nat) (pv : Value) (fb n fc wc j n0 : Nat) (wa : Option Addr) (ca : Option Addr) (cl cc : Nat) (xs : List Value) (u : Nat → Value) (cs : List Frame) (w : World) (hj : j < n) (hn : n ≤ 64) (hx : w.cell? ⟨fb, j, none⟩ = some (.slice ca cl cc)) (hrow : w.ownsRow n0 91 1 (.slice wa j wc) j xs) (hb : n0 ≤ w.heap.size) (hap : ∀ g, (Value.slice wa j wc).ownBlock = some g → Apart V g) :
    Walk Try.prog main (DR V) (fun g' w' => ∃ g cap w3 u', g' = G (hd40 sw nw pv (.slice (some ⟨fb, 0, none⟩) n fc) (some ⟨g, 0, none⟩) cap n (j + 1) u') cs ∧ (∃ d, w' = w3.at d) ∧ w3.ownsRow n0 91 1 (.slice (some ⟨g, 0, none⟩) (j + 1) cap) (j + 1) (xs ++ [.pointer (some ⟨w.heap.size, 0, none⟩)]) ∧ (wkW w sw nw ca cl cc).grownBy w3 (Value.slice wa j wc).ownBlock ∧ ((Value.slice wa j wc).ownBlock = some g ∨ g = (wkW w sw nw ca cl cc).heap.size) ∧ g < w3.heap.size)
      (G (hd40 sw nw pv (.slice (some ⟨fb, 0, none⟩) n fc) wa wc n j u) cs) w := by
  have hw1 : IntKind.wrap .i64 ((j : Int) + 1) = (j : Int) + 1 := by rw [IntKind.wrap_i64]; omega
  conv => arg 5; unfold hd40; simp only [body40, Try.f40]
  repeat (first | refine Walk.c rfl ?_ | refine Walk.cR ?_ | refine Walk.cRet ?_ | refine Walk.cEnd ?_ | (refine Walk.oq ?_; try walk_nrm) | (refine Walk.un ?_; walk_nrm))
  (refine Walk.oa ?_; try walk_nrm)
  repeat (first | refine Walk.c rfl ?_ | refine Walk.cR ?_ | refine Walk.cRet ?_ | refine Walk.cEnd ?_ | (refine Walk.oq ?_; try walk_nrm) | (refine Walk.un ?_; walk_nrm))
  (refine Walk.oa ?_; try walk_nrm)
  have hi91 := Option.some_get (show (Try.prog.info? 91).isSome = true by kernel_rfl)
  have hs2 : (wkW w sw nw ca cl cc).heap.size = w.heap.size + 2 := by simp [wkW]
  have hrow2 : (wkW w sw nw ca cl cc).ownsRow n0 91 1 (.slice wa j wc) j xs := (hrow.kept (World.grownBy_alloc w _ none) (by cases (Value.slice wa j wc).ownBlock <;> simp)).kept (World.grownBy_alloc _ _ none) (by cases (Value.slice wa j wc).ownBlock <;> simp)
  have hnew : (wkW w sw nw ca cl cc).cell? ((⟨w.heap.size + 1, 0, none⟩ : Addr).add 0) = some (.pointer (some ⟨w.heap.size, 0, none⟩)) := by
    simp [Addr.add, wkW]
  refine Walk.append (.tmp 15) (.tmp 20) 89 rfl (by rfl) (by decide) rfl n0 91 _ (.pointer none) 1 8 (by kernel_rfl) hi91.symm (by rfl) (by rfl) (by rfl) (by rfl) (by decide) (.slice wa j wc) j xs rfl hrow2 ⟨w.heap.size + 1, 0, none⟩ 1 1 [.pointer (some ⟨w.heap.size, 0, none⟩)] ?_ (by rfl) (fun y v hv => ?_) (by simp [Value.oneCell']) (by decide) (by simp [maxLen]; omega) (by omega) (show n0 ≤ (wkW w sw nw ca cl cc).heap.size by omega) hap (fun g cap w3 hown hg hat hlt => ?_)
  · simp [Act.eval]
  · obtain rfl : y = 0 := by rcases y with _ | y <;> simp at hv ⊢
    simp at hv; subst hv; exact hnew
  clear hi91
  walk_nrm
  repeat (first | refine Walk.c rfl ?_ | refine Walk.cR ?_ | refine Walk.cRet ?_ | refine Walk.cEnd ?_ | (refine Walk.oq ?_; try walk_nrm) | (refine Walk.un ?_; walk_nrm))
  refine Walk.ctl rfl (fun w => stepG_inLoop) ?_
  refine .stop fun d' => ⟨g, cap, w3, fun k => ([undef, undef, undef, undef, undef, undef, undef, .slice ca cl cc, undef, undef, undef, undef, .bool true, .pointer (some ⟨fb, j, none⟩), .slice ca cl cc, .slice wa j wc, .slice (some ⟨sw, 0, none⟩) nw nw, .slice ca cl cc, .agg (wkCells sw nw ca cl cc), .pointer (some ⟨w.heap.size, 0, none⟩), .slice (some ⟨w.heap.size + 1, 0, none⟩) 1 1, .slice (some ⟨g, 0, none⟩) (j + 1) cap, .int .i64 ((j : Int) + 1), u 23] : List Value).getD k undef, ?_, ⟨d', rfl⟩, hown, hg, hat, hlt⟩
  have hc : ((j + 1 : Nat) : Int) = (j : Int) + 1 := by simp
  simp only [hd40, body40, Try.f40, hc]
  rfl
theorem walkers_out (sw nw n wc : Nat) (pv fv : Value) (wa : Option Addr) (u : Nat → Value) (c : Frame) (cs : List Frame) (w : World) :
    Walk Try.prog main (DR V) (fun g w' => g = G (c.finish (.slice wa n wc)) cs ∧ ∃ d, w' = w.at d) (G (hd40 sw nw pv fv wa wc n n u) (c :: cs)) w := by
  unfold hd40
  simp only [body40, rest40, Try.f40]
  repeat (first | refine Walk.c rfl ?_ | refine Walk.cR ?_ | refine Walk.cRet ?_ | refine Walk.cEnd ?_ | (refine Walk.oq ?_; try walk_nrm) | (refine Walk.un ?_; walk_nrm))
  exact (Walk.ret1 (Post := fun v w' => v = .slice wa n wc ∧ ∃ d, w' = w.at d) rfl rfl Try.func40 rfl fun d => ⟨rfl, d, rfl⟩).mono fun g w' ⟨v, ⟨hv, hd⟩, hg⟩ => ⟨by rw [hg, hv], hd⟩
end
end Go.Proofs.Ytgiiicdpbdfemaa
