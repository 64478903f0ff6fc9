/- Part 2. -/
import Derived.Test.YtgiiicdpbdfemaaC1
import Derived.Test.YtgiiicdpbdfemaaProg
import Derived.KernelRfl
import Derived.Handy
import Derived.Conc.TokenWalk
import Derived.Conc.DeferLaws
import Derived.Laws.Build
import Derived.Conc.AppendWalk
import Derived.Conc.AppendEvents2
import Derived.Deep.AppendLies
set_option linter.unusedSimpArgs false
section
namespace Go.Proofs.Ytgiiicdpbdfemaa
open Go.Conc Go.RowKit Go.Relay
variable {main : Bool} {V : Nat → Option Wait}
set_option maxHeartbeats 4000000 in
set_option maxRecDepth 100000 in
theorem clampMost_w (m : Int) (w : World) : CallV Try.prog main V 62 #[.int .i64 m] w (.int .i64 (min (max m 0) 1048576)) w := by
  refine callW_in Try.func62 rfl fun fr cs => ?_
  simp only [Try.ntmps62, List.size_toArray, List.length_cons, List.length_nil, Nat.reduceAdd, Nat.reduceSub, Array.replicate_succ, Array.replicate_zero, List.push_toArray, List.append_toArray, List.nil_append, List.cons_append]
  have hmx := @events_max_ints Try.prog
  have hmn := @events_min_ints Try.prog
  repeat (first | refine Walk.c rfl ?_ | refine Walk.cR ?_ | refine Walk.cRet ?_ | refine Walk.cEnd ?_ | (refine Walk.oq ?_; try walk_nrm) | (refine Walk.un ?_; walk_nrm))
  exact Walk.ret1 rfl rfl Try.func62 rfl fun d => ⟨by simp, d, rfl⟩
set_option maxHeartbeats 4000000 in
set_option maxRecDepth 100000 in
theorem over_w (B : Nat) (going most : Int) (sa : Option Addr) (n cap : Nat) (w : World) (h1 : w.cell? ⟨B, 1, none⟩ = some (.int .i64 going)) (h2 : w.cell? ⟨B, 2, none⟩ = some (.int .i64 most)) (h3 : w.cell? ⟨B, 3, none⟩ = some (.slice sa n cap)) :
    CallV Try.prog main V 80 #[.pointer (some ⟨B, 0, none⟩)] w (.bool (decide (going = 0) || decide (most ≤ n))) w := by
  refine callW_in Try.func80 rfl fun fr cs => ?_
  simp only [Try.ntmps80, List.size_toArray, List.length_cons, List.length_nil, Nat.reduceAdd, Nat.reduceSub, Array.replicate_succ, Array.replicate_zero, List.push_toArray, List.append_toArray, List.nil_append, List.cons_append]
  repeat (first | refine Walk.c rfl ?_ | refine Walk.cR ?_ | refine Walk.cRet ?_ | refine Walk.cEnd ?_ | (refine Walk.oq ?_; try walk_nrm) | (refine Walk.un ?_; walk_nrm))
  let S : World → Prop := fun w' => ∃ d, w' = w.at d
  have hrl : ∀ w₁ w₂, S w₁ → AtRel w₁ w₂ → S w₂ := by
    rintro _ _ ⟨d, rfl⟩ ⟨d', rfl⟩; exact ⟨d', rfl⟩
  have hF : S w := ⟨w.drawn, rfl⟩
  refine Walk.held S hrl hF (by kernel_rfl) (by decide) (Q := fun a' => a'.tmps.getD 2 undef = .bool (decide (going = 0) || decide (most ≤ n)) ∧ a'.defers = []) (fun w₁ hF => ?_) ?_
  · simp only [List.size_toArray, List.length_cons, List.length_nil, Nat.reduceAdd, Nat.zero_add]
    by_cases hg : going = 0
    · (co_applyP anyCH_take termsR (fun _ _ h r => hrl _ _ h r) (fun _ _ _ h r => ⟨h.1, hrl _ _ h.2.1 r, h.2.2⟩) (i := 0) rfl (by first | kernel_rfl | decide +kernel) (by first | kernel_rfl | decide +kernel) (by first | kernel_rfl | decide +kernel) (.inl ⟨by rfl, fun _ hw => ⟨run_eq_of ?run1, ?guar1⟩⟩) hF ?rest1; (case run1 => (intro K hK; obtain ⟨dx, hdx⟩ := hw; subst hdx; go_simp; exact hK)); (case guar1 => (obtain ⟨dx, hdx⟩ := hw; subst hdx; refine DR.quiet (fun e he => ?_); have hm := mem_listed he; simp [go_sem, *] at hm; try (subst hm; exact evR_read _ _))); try walk_nrm)
      (co_applyP anyCH_take termsR (fun _ _ h r => hrl _ _ h r) (fun _ _ _ h r => ⟨h.1, hrl _ _ h.2.1 r, h.2.2⟩) (i := 1) rfl (by first | kernel_rfl | decide +kernel) (by first | kernel_rfl | decide +kernel) (by first | kernel_rfl | decide +kernel) (.inl ⟨by rfl, fun _ hw => ⟨run_eq_of ?run2, ?guar2⟩⟩) hF ?rest2; (case run2 => (intro K hK; obtain ⟨dx, hdx⟩ := hw; subst hdx; go_simp; exact hK)); (case guar2 => (obtain ⟨dx, hdx⟩ := hw; subst hdx; refine DR.quiet (fun e he => ?_); have hm := mem_listed he; simp [go_sem, *] at hm; try (subst hm; exact evR_read _ _))); try walk_nrm)
      (co_applyP anyCH_take termsR (fun _ _ h r => hrl _ _ h r) (fun _ _ _ h r => ⟨h.1, hrl _ _ h.2.1 r, h.2.2⟩) (i := 2) rfl (by first | kernel_rfl | decide +kernel) (by first | kernel_rfl | decide +kernel) (by first | kernel_rfl | decide +kernel) (.inl ⟨by rfl, fun _ hw => ⟨run_eq_of ?run3, ?guar3⟩⟩) hF ?rest3; (case run3 => (intro K hK; obtain ⟨dx, hdx⟩ := hw; subst hdx; go_simp; exact hK)); (case guar3 => (obtain ⟨dx, hdx⟩ := hw; subst hdx; refine DR.quiet (fun e he => ?_); have hm := mem_listed he; simp [go_sem, *] at hm; try (subst hm; exact evR_read _ _))); try walk_nrm)
      (co_applyP anyCH_take termsR (fun _ _ h r => hrl _ _ h r) (fun _ _ _ h r => ⟨h.1, hrl _ _ h.2.1 r, h.2.2⟩) (i := 3) rfl (by first | kernel_rfl | decide +kernel) (by first | kernel_rfl | decide +kernel) (by first | kernel_rfl | decide +kernel) (.inl ⟨by rfl, fun _ hw => ⟨run_eq_of ?run4, ?guar4⟩⟩) hF ?rest4; (case run4 => (intro K hK; obtain ⟨dx, hdx⟩ := hw; subst hdx; go_simp; exact hK)); (case guar4 => (obtain ⟨dx, hdx⟩ := hw; subst hdx; refine DR.quiet (fun e he => ?_); have hm := mem_listed he; simp [go_sem, *] at hm; try (subst hm; exact evR_read _ _))); try walk_nrm)
      (co_applyP anyCH_take termsR (fun _ _ h r => hrl _ _ h r) (fun _ _ _ h r => ⟨h.1, hrl _ _ h.2.1 r, h.2.2⟩) (i := 4) rfl (by first | kernel_rfl | decide +kernel) (by first | kernel_rfl | decide +kernel) (by first | kernel_rfl | decide +kernel) (.inl ⟨by rfl, fun _ hw => ⟨run_eq_of ?run5, ?guar5⟩⟩) hF ?rest5; (case run5 => (intro K hK; obtain ⟨dx, hdx⟩ := hw; subst hdx; go_simp; exact hK)); (case guar5 => (obtain ⟨dx, hdx⟩ := hw; subst hdx; refine DR.quiet (fun e he => ?_); have hm := mem_listed he; simp [go_sem, *] at hm; try (subst hm; exact evR_read _ _))); try walk_nrm)
      (co_applyP anyCH_take termsR (fun _ _ h r => hrl _ _ h r) (fun _ _ _ h r => ⟨h.1, hrl _ _ h.2.1 r, h.2.2⟩) (i := 5) rfl (by first | kernel_rfl | decide +kernel) (by first | kernel_rfl | decide +kernel) (by first | kernel_rfl | decide +kernel) (.inl ⟨by rfl, fun _ hw => ⟨run_eq_of ?run6, ?guar6⟩⟩) hF ?rest6; (case run6 => (intro K hK; obtain ⟨dx, hdx⟩ := hw; subst hdx; go_simp; exact hK)); (case guar6 => (obtain ⟨dx, hdx⟩ := hw; subst hdx; refine DR.quiet (fun e he => ?_); have hm := mem_listed he; simp [go_sem, *] at hm; try (subst hm; exact evR_read _ _))); try walk_nrm)
      (co_applyP anyCH_take termsR (fun _ _ h r => hrl _ _ h r) (fun _ _ _ h r => ⟨h.1, hrl _ _ h.2.1 r, h.2.2⟩) (i := 6) rfl (by first | kernel_rfl | decide +kernel) (by first | kernel_rfl | decide +kernel) (by first | kernel_rfl | decide +kernel) (.inr ⟨by rfl, rfl⟩) hF ?rest27; try walk_nrm)
      (co_applyP anyCH_take termsR (fun _ _ h r => hrl _ _ h r) (fun _ _ _ h r => ⟨h.1, hrl _ _ h.2.1 r, h.2.2⟩) (i := 7) rfl (by first | kernel_rfl | decide +kernel) (by first | kernel_rfl | decide +kernel) (by first | kernel_rfl | decide +kernel) (.inr ⟨by rfl, rfl⟩) hF ?rest28; try walk_nrm)
      (co_applyP anyCH_take termsR (fun _ _ h r => hrl _ _ h r) (fun _ _ _ h r => ⟨h.1, hrl _ _ h.2.1 r, h.2.2⟩) (i := 8) rfl (by first | kernel_rfl | decide +kernel) (by first | kernel_rfl | decide +kernel) (by first | kernel_rfl | decide +kernel) (.inr ⟨by rfl, rfl⟩) hF ?rest29; try walk_nrm)
      (co_applyP anyCH_take termsR (fun _ _ h r => hrl _ _ h r) (fun _ _ _ h r => ⟨h.1, hrl _ _ h.2.1 r, h.2.2⟩) (i := 9) rfl (by first | kernel_rfl | decide +kernel) (by first | kernel_rfl | decide +kernel) (by first | kernel_rfl | decide +kernel) (.inr ⟨by rfl, rfl⟩) hF ?rest30; try walk_nrm)
      (co_applyP anyCH_take termsR (fun _ _ h r => hrl _ _ h r) (fun _ _ _ h r => ⟨h.1, hrl _ _ h.2.1 r, h.2.2⟩) (i := 10) rfl (by first | kernel_rfl | decide +kernel) (by first | kernel_rfl | decide +kernel) (by first | kernel_rfl | decide +kernel) (.inr ⟨by rfl, rfl⟩) hF ?rest31; try walk_nrm)
      (co_applyP anyCH_take termsR (fun _ _ h r => hrl _ _ h r) (fun _ _ _ h r => ⟨h.1, hrl _ _ h.2.1 r, h.2.2⟩) (i := 11) rfl (by first | kernel_rfl | decide +kernel) (by first | kernel_rfl | decide +kernel) (by first | kernel_rfl | decide +kernel) (.inr ⟨by rfl, rfl⟩) hF ?rest32; try walk_nrm)
      (co_applyP anyCH_take termsR (fun _ _ h r => hrl _ _ h r) (fun _ _ _ h r => ⟨h.1, hrl _ _ h.2.1 r, h.2.2⟩) (i := 12) rfl (by first | kernel_rfl | decide +kernel) (by first | kernel_rfl | decide +kernel) (by first | kernel_rfl | decide +kernel) (.inr ⟨by rfl, rfl⟩) hF ?rest33; try walk_nrm)
      (co_applyP anyCH_take termsR (fun _ _ h r => hrl _ _ h r) (fun _ _ _ h r => ⟨h.1, hrl _ _ h.2.1 r, h.2.2⟩) (i := 13) rfl (by first | kernel_rfl | decide +kernel) (by first | kernel_rfl | decide +kernel) (by first | kernel_rfl | decide +kernel) (.inr ⟨by rfl, rfl⟩) hF ?rest34; try walk_nrm)
      (co_applyP anyCH_take termsR (fun _ _ h r => hrl _ _ h r) (fun _ _ _ h r => ⟨h.1, hrl _ _ h.2.1 r, h.2.2⟩) (i := 14) rfl (by first | kernel_rfl | decide +kernel) (by first | kernel_rfl | decide +kernel) (by first | kernel_rfl | decide +kernel) (.inr ⟨by rfl, rfl⟩) hF ?rest35; try walk_nrm)
      (co_applyP anyCH_take termsR (fun _ _ h r => hrl _ _ h r) (fun _ _ _ h r => ⟨h.1, hrl _ _ h.2.1 r, h.2.2⟩) (i := 15) rfl (by first | kernel_rfl | decide +kernel) (by first | kernel_rfl | decide +kernel) (by first | kernel_rfl | decide +kernel) (.inr ⟨by rfl, rfl⟩) hF ?rest36; try walk_nrm)
      (co_applyP anyCH_take termsR (fun _ _ h r => hrl _ _ h r) (fun _ _ _ h r => ⟨h.1, hrl _ _ h.2.1 r, h.2.2⟩) (i := 16) rfl (by first | kernel_rfl | decide +kernel) (by first | kernel_rfl | decide +kernel) (by first | kernel_rfl | decide +kernel) (.inl ⟨by rfl, fun _ hw => ⟨run_eq_of ?run7, ?guar7⟩⟩) hF ?rest7; (case run7 => (intro K hK; obtain ⟨dx, hdx⟩ := hw; subst hdx; go_simp; exact hK)); (case guar7 => (obtain ⟨dx, hdx⟩ := hw; subst hdx; refine DR.quiet (fun e he => ?_); have hm := mem_listed he; simp [go_sem, *] at hm; try (subst hm; exact evR_read _ _))); try walk_nrm)
      (co_applyP anyCH_take termsR (fun _ _ h r => hrl _ _ h r) (fun _ _ _ h r => ⟨h.1, hrl _ _ h.2.1 r, h.2.2⟩) (i := 17) rfl (by first | kernel_rfl | decide +kernel) (by first | kernel_rfl | decide +kernel) (by first | kernel_rfl | decide +kernel) (.inl ⟨by rfl, fun _ hw => ⟨run_eq_of ?run8, ?guar8⟩⟩) hF ?rest8; (case run8 => (intro K hK; obtain ⟨dx, hdx⟩ := hw; subst hdx; go_simp; exact hK)); (case guar8 => (obtain ⟨dx, hdx⟩ := hw; subst hdx; refine DR.quiet (fun e he => ?_); have hm := mem_listed he; simp [go_sem, *] at hm; try (subst hm; exact evR_read _ _))); try walk_nrm)
      refine anyCH_done (by first | kernel_rfl | decide +kernel) ⟨rfl, hF, by simp [hg], rfl⟩ _
    · have hg1 : decide (going = 0) = false := by simpa using hg
      have hg2 : (going == 0) = false := by simpa using hg
      (co_applyP anyCH_take termsR (fun _ _ h r => hrl _ _ h r) (fun _ _ _ h r => ⟨h.1, hrl _ _ h.2.1 r, h.2.2⟩) (i := 0) rfl (by first | kernel_rfl | decide +kernel) (by first | kernel_rfl | decide +kernel) (by first | kernel_rfl | decide +kernel) (.inl ⟨by rfl, fun _ hw => ⟨run_eq_of ?run9, ?guar9⟩⟩) hF ?rest9; (case run9 => (intro K hK; obtain ⟨dx, hdx⟩ := hw; subst hdx; go_simp; exact hK)); (case guar9 => (obtain ⟨dx, hdx⟩ := hw; subst hdx; refine DR.quiet (fun e he => ?_); have hm := mem_listed he; simp [go_sem, *] at hm; try (subst hm; exact evR_read _ _))); try walk_nrm)
      (co_applyP anyCH_take termsR (fun _ _ h r => hrl _ _ h r) (fun _ _ _ h r => ⟨h.1, hrl _ _ h.2.1 r, h.2.2⟩) (i := 1) rfl (by first | kernel_rfl | decide +kernel) (by first | kernel_rfl | decide +kernel) (by first | kernel_rfl | decide +kernel) (.inl ⟨by rfl, fun _ hw => ⟨run_eq_of ?run10, ?guar10⟩⟩) hF ?rest10; (case run10 => (intro K hK; obtain ⟨dx, hdx⟩ := hw; subst hdx; go_simp; exact hK)); (case guar10 => (obtain ⟨dx, hdx⟩ := hw; subst hdx; refine DR.quiet (fun e he => ?_); have hm := mem_listed he; simp [go_sem, *] at hm; try (subst hm; exact evR_read _ _))); try walk_nrm)
      (co_applyP anyCH_take termsR (fun _ _ h r => hrl _ _ h r) (fun _ _ _ h r => ⟨h.1, hrl _ _ h.2.1 r, h.2.2⟩) (i := 2) rfl (by first | kernel_rfl | decide +kernel) (by first | kernel_rfl | decide +kernel) (by first | kernel_rfl | decide +kernel) (.inl ⟨by rfl, fun _ hw => ⟨run_eq_of ?run11, ?guar11⟩⟩) hF ?rest11; (case run11 => (intro K hK; obtain ⟨dx, hdx⟩ := hw; subst hdx; go_simp; exact hK)); (case guar11 => (obtain ⟨dx, hdx⟩ := hw; subst hdx; refine DR.quiet (fun e he => ?_); have hm := mem_listed he; simp [go_sem, *] at hm; try (subst hm; exact evR_read _ _))); try walk_nrm)
      (co_applyP anyCH_take termsR (fun _ _ h r => hrl _ _ h r) (fun _ _ _ h r => ⟨h.1, hrl _ _ h.2.1 r, h.2.2⟩) (i := 3) rfl (by first | kernel_rfl | decide +kernel) (by first | kernel_rfl | decide +kernel) (by first | kernel_rfl | decide +kernel) (.inl ⟨by rfl, fun _ hw => ⟨run_eq_of ?run12, ?guar12⟩⟩) hF ?rest12; (case run12 => (intro K hK; obtain ⟨dx, hdx⟩ := hw; subst hdx; go_simp; exact hK)); (case guar12 => (obtain ⟨dx, hdx⟩ := hw; subst hdx; refine DR.quiet (fun e he => ?_); have hm := mem_listed he; simp [go_sem, *] at hm; try (subst hm; exact evR_read _ _))); try walk_nrm)
      (co_applyP anyCH_take termsR (fun _ _ h r => hrl _ _ h r) (fun _ _ _ h r => ⟨h.1, hrl _ _ h.2.1 r, h.2.2⟩) (i := 4) rfl (by first | kernel_rfl | decide +kernel) (by first | kernel_rfl | decide +kernel) (by first | kernel_rfl | decide +kernel) (.inl ⟨by rfl, fun _ hw => ⟨run_eq_of ?run13, ?guar13⟩⟩) hF ?rest13; (case run13 => (intro K hK; obtain ⟨dx, hdx⟩ := hw; subst hdx; go_simp; exact hK)); (case guar13 => (obtain ⟨dx, hdx⟩ := hw; subst hdx; refine DR.quiet (fun e he => ?_); have hm := mem_listed he; simp [go_sem, *] at hm; try (subst hm; exact evR_read _ _))); try walk_nrm)
      (co_applyP anyCH_take termsR (fun _ _ h r => hrl _ _ h r) (fun _ _ _ h r => ⟨h.1, hrl _ _ h.2.1 r, h.2.2⟩) (i := 5) rfl (by first | kernel_rfl | decide +kernel) (by first | kernel_rfl | decide +kernel) (by first | kernel_rfl | decide +kernel) (.inl ⟨by rfl, fun _ hw => ⟨run_eq_of ?run14, ?guar14⟩⟩) hF ?rest14; (case run14 => (intro K hK; obtain ⟨dx, hdx⟩ := hw; subst hdx; go_simp; exact hK)); (case guar14 => (obtain ⟨dx, hdx⟩ := hw; subst hdx; refine DR.quiet (fun e he => ?_); have hm := mem_listed he; simp [go_sem, *] at hm; try (subst hm; exact evR_read _ _))); try walk_nrm)
      (co_applyP anyCH_take termsR (fun _ _ h r => hrl _ _ h r) (fun _ _ _ h r => ⟨h.1, hrl _ _ h.2.1 r, h.2.2⟩) (i := 6) rfl (by first | kernel_rfl | decide +kernel) (by first | kernel_rfl | decide +kernel) (by first | kernel_rfl | decide +kernel) (.inl ⟨by rfl, fun _ hw => ⟨run_eq_of ?run15, ?guar15⟩⟩) hF ?rest15; (case run15 => (intro K hK; obtain ⟨dx, hdx⟩ := hw; subst hdx; go_simp; exact hK)); (case guar15 => (obtain ⟨dx, hdx⟩ := hw; subst hdx; refine DR.quiet (fun e he => ?_); have hm := mem_listed he; simp [go_sem, *] at hm; try (subst hm; exact evR_read _ _))); try walk_nrm)
      (co_applyP anyCH_take termsR (fun _ _ h r => hrl _ _ h r) (fun _ _ _ h r => ⟨h.1, hrl _ _ h.2.1 r, h.2.2⟩) (i := 7) rfl (by first | kernel_rfl | decide +kernel) (by first | kernel_rfl | decide +kernel) (by first | kernel_rfl | decide +kernel) (.inl ⟨by rfl, fun _ hw => ⟨run_eq_of ?run16, ?guar16⟩⟩) hF ?rest16; (case run16 => (intro K hK; obtain ⟨dx, hdx⟩ := hw; subst hdx; go_simp; exact hK)); (case guar16 => (obtain ⟨dx, hdx⟩ := hw; subst hdx; refine DR.quiet (fun e he => ?_); have hm := mem_listed he; simp [go_sem, *] at hm; try (subst hm; exact evR_read _ _))); try walk_nrm)
      (co_applyP anyCH_take termsR (fun _ _ h r => hrl _ _ h r) (fun _ _ _ h r => ⟨h.1, hrl _ _ h.2.1 r, h.2.2⟩) (i := 8) rfl (by first | kernel_rfl | decide +kernel) (by first | kernel_rfl | decide +kernel) (by first | kernel_rfl | decide +kernel) (.inl ⟨by rfl, fun _ hw => ⟨run_eq_of ?run17, ?guar17⟩⟩) hF ?rest17; (case run17 => (intro K hK; obtain ⟨dx, hdx⟩ := hw; subst hdx; go_simp; exact hK)); (case guar17 => (obtain ⟨dx, hdx⟩ := hw; subst hdx; refine DR.quiet (fun e he => ?_); have hm := mem_listed he; simp [go_sem, *] at hm; try (subst hm; exact evR_read _ _))); try walk_nrm)
      (co_applyP anyCH_take termsR (fun _ _ h r => hrl _ _ h r) (fun _ _ _ h r => ⟨h.1, hrl _ _ h.2.1 r, h.2.2⟩) (i := 9) rfl (by first | kernel_rfl | decide +kernel) (by first | kernel_rfl | decide +kernel) (by first | kernel_rfl | decide +kernel) (.inl ⟨by rfl, fun _ hw => ⟨run_eq_of ?run18, ?guar18⟩⟩) hF ?rest18; (case run18 => (intro K hK; obtain ⟨dx, hdx⟩ := hw; subst hdx; go_simp; exact hK)); (case guar18 => (obtain ⟨dx, hdx⟩ := hw; subst hdx; refine DR.quiet (fun e he => ?_); have hm := mem_listed he; simp [go_sem, *] at hm; try (subst hm; exact evR_read _ _))); try walk_nrm)
      (co_applyP anyCH_take termsR (fun _ _ h r => hrl _ _ h r) (fun _ _ _ h r => ⟨h.1, hrl _ _ h.2.1 r, h.2.2⟩) (i := 10) rfl (by first | kernel_rfl | decide +kernel) (by first | kernel_rfl | decide +kernel) (by first | kernel_rfl | decide +kernel) (.inl ⟨by rfl, fun _ hw => ⟨run_eq_of ?run19, ?guar19⟩⟩) hF ?rest19; (case run19 => (intro K hK; obtain ⟨dx, hdx⟩ := hw; subst hdx; go_simp; exact hK)); (case guar19 => (obtain ⟨dx, hdx⟩ := hw; subst hdx; refine DR.quiet (fun e he => ?_); have hm := mem_listed he; simp [go_sem, *] at hm; try (subst hm; exact evR_read _ _))); try walk_nrm)
      (co_applyP anyCH_take termsR (fun _ _ h r => hrl _ _ h r) (fun _ _ _ h r => ⟨h.1, hrl _ _ h.2.1 r, h.2.2⟩) (i := 11) rfl (by first | kernel_rfl | decide +kernel) (by first | kernel_rfl | decide +kernel) (by first | kernel_rfl | decide +kernel) (.inl ⟨by rfl, fun _ hw => ⟨run_eq_of ?run20, ?guar20⟩⟩) hF ?rest20; (case run20 => (intro K hK; obtain ⟨dx, hdx⟩ := hw; subst hdx; go_simp; exact hK)); (case guar20 => (obtain ⟨dx, hdx⟩ := hw; subst hdx; refine DR.quiet (fun e he => ?_); have hm := mem_listed he; simp [go_sem, *] at hm; try (subst hm; exact evR_read _ _))); try walk_nrm)
      (co_applyP anyCH_take termsR (fun _ _ h r => hrl _ _ h r) (fun _ _ _ h r => ⟨h.1, hrl _ _ h.2.1 r, h.2.2⟩) (i := 12) rfl (by first | kernel_rfl | decide +kernel) (by first | kernel_rfl | decide +kernel) (by first | kernel_rfl | decide +kernel) (.inl ⟨by rfl, fun _ hw => ⟨run_eq_of ?run21, ?guar21⟩⟩) hF ?rest21; (case run21 => (intro K hK; obtain ⟨dx, hdx⟩ := hw; subst hdx; go_simp; exact hK)); (case guar21 => (obtain ⟨dx, hdx⟩ := hw; subst hdx; refine DR.quiet (fun e he => ?_); have hm := mem_listed he; simp [go_sem, *] at hm; try (subst hm; exact evR_read _ _))); try walk_nrm)
      (co_applyP anyCH_take termsR (fun _ _ h r => hrl _ _ h r) (fun _ _ _ h r => ⟨h.1, hrl _ _ h.2.1 r, h.2.2⟩) (i := 13) rfl (by first | kernel_rfl | decide +kernel) (by first | kernel_rfl | decide +kernel) (by first | kernel_rfl | decide +kernel) (.inl ⟨by rfl, fun _ hw => ⟨run_eq_of ?run22, ?guar22⟩⟩) hF ?rest22; (case run22 => (intro K hK; obtain ⟨dx, hdx⟩ := hw; subst hdx; go_simp; exact hK)); (case guar22 => (obtain ⟨dx, hdx⟩ := hw; subst hdx; refine DR.quiet (fun e he => ?_); have hm := mem_listed he; simp [go_sem, *] at hm; try (subst hm; exact evR_read _ _))); try walk_nrm)
      (co_applyP anyCH_take termsR (fun _ _ h r => hrl _ _ h r) (fun _ _ _ h r => ⟨h.1, hrl _ _ h.2.1 r, h.2.2⟩) (i := 14) rfl (by first | kernel_rfl | decide +kernel) (by first | kernel_rfl | decide +kernel) (by first | kernel_rfl | decide +kernel) (.inl ⟨by rfl, fun _ hw => ⟨run_eq_of ?run23, ?guar23⟩⟩) hF ?rest23; (case run23 => (intro K hK; obtain ⟨dx, hdx⟩ := hw; subst hdx; go_simp; exact hK)); (case guar23 => (obtain ⟨dx, hdx⟩ := hw; subst hdx; refine DR.quiet (fun e he => ?_); have hm := mem_listed he; simp [go_sem, *] at hm; try (subst hm; exact evR_read _ _))); try walk_nrm)
      (co_applyP anyCH_take termsR (fun _ _ h r => hrl _ _ h r) (fun _ _ _ h r => ⟨h.1, hrl _ _ h.2.1 r, h.2.2⟩) (i := 15) rfl (by first | kernel_rfl | decide +kernel) (by first | kernel_rfl | decide +kernel) (by first | kernel_rfl | decide +kernel) (.inl ⟨by rfl, fun _ hw => ⟨run_eq_of ?run24, ?guar24⟩⟩) hF ?rest24; (case run24 => (intro K hK; obtain ⟨dx, hdx⟩ := hw; subst hdx; go_simp; exact hK)); (case guar24 => (obtain ⟨dx, hdx⟩ := hw; subst hdx; refine DR.quiet (fun e he => ?_); have hm := mem_listed he; simp [go_sem, *] at hm; try (subst hm; exact evR_read _ _))); try walk_nrm)
      (co_applyP anyCH_take termsR (fun _ _ h r => hrl _ _ h r) (fun _ _ _ h r => ⟨h.1, hrl _ _ h.2.1 r, h.2.2⟩) (i := 16) rfl (by first | kernel_rfl | decide +kernel) (by first | kernel_rfl | decide +kernel) (by first | kernel_rfl | decide +kernel) (.inl ⟨by rfl, fun _ hw => ⟨run_eq_of ?run25, ?guar25⟩⟩) hF ?rest25; (case run25 => (intro K hK; obtain ⟨dx, hdx⟩ := hw; subst hdx; go_simp; exact hK)); (case guar25 => (obtain ⟨dx, hdx⟩ := hw; subst hdx; refine DR.quiet (fun e he => ?_); have hm := mem_listed he; simp [go_sem, *] at hm; try (subst hm; exact evR_read _ _))); try walk_nrm)
      (co_applyP anyCH_take termsR (fun _ _ h r => hrl _ _ h r) (fun _ _ _ h r => ⟨h.1, hrl _ _ h.2.1 r, h.2.2⟩) (i := 17) rfl (by first | kernel_rfl | decide +kernel) (by first | kernel_rfl | decide +kernel) (by first | kernel_rfl | decide +kernel) (.inl ⟨by rfl, fun _ hw => ⟨run_eq_of ?run26, ?guar26⟩⟩) hF ?rest26; (case run26 => (intro K hK; obtain ⟨dx, hdx⟩ := hw; subst hdx; go_simp; exact hK)); (case guar26 => (obtain ⟨dx, hdx⟩ := hw; subst hdx; refine DR.quiet (fun e he => ?_); have hm := mem_listed he; simp [go_sem, *] at hm; try (subst hm; exact evR_read _ _))); try walk_nrm)
      refine anyCH_done (by first | kernel_rfl | decide +kernel) ⟨rfl, hF, by simp [hg], rfl⟩ _
  · rintro a' w' ⟨d, rfl⟩ ⟨h, hd⟩
    repeat (first | refine Walk.c rfl ?_ | refine Walk.cR ?_ | refine Walk.cRet ?_ | refine Walk.cEnd ?_ | (refine Walk.oq ?_; try walk_nrm) | (refine Walk.un ?_; walk_nrm))
    exact Walk.ret1 rfl hd Try.func80 rfl fun d' => ⟨h, d', rfl⟩
end Go.Proofs.Ytgiiicdpbdfemaa
end

section
namespace Go.Proofs.Ytgiiicdpbdfemaa
open Go.Conc Go.RowKit Go.Relay
variable {main : Bool} {V : Nat → Option Wait}
noncomputable def ops107 : Array Oper := match Try.f107.body with | some (.seq (.region _ ops _) _) => ops | _ => #[]
noncomputable def rest107 : Code := match Try.f107.body with | some (.seq _ c) => c | _ => .skip
noncomputable def rec107 (p r : Nat) (cs : List Frame) : Goroutine :=
  G ((base 107).at { tmps := #[.pointer (some ⟨p, 0, none⟩), undef, undef, undef, undef, .pointer (some ⟨p, 0, none⟩), .pointer (some ⟨p, 0, none⟩), .pointer (some ⟨p, 1, none⟩), .chan (some r), undef, undef, undef, undef, undef, undef, undef, undef], defers := [] } [.inRegion ops107 [4, 5, 6, 7, 8, 9, 10], .code rest107]) cs
set_option maxHeartbeats 4000000 in
set_option maxRecDepth 100000 in
theorem way107 (p r : Nat) (cs : List Frame) (v : Wait) (hch : v.ch = r) (hz : v.z = .agg #[]) (hok : v.ok = true) (hf : v.f ⟨p, 1, none⟩ = some (.chan (some r))) (hh : v.home (rec107 p r cs)) :
    Yonder Try.prog main v (G (Frame.enter Try.prog 107 #[.pointer (some ⟨p, 0, none⟩)] .normal) cs) := by
  rw [enter_at _ Try.func107 rfl]
  simp only [Try.f107, Option.getD_some, List.size_toArray, List.length_cons, List.length_nil, Nat.reduceAdd, Nat.reduceSub, Array.replicate_succ, Array.replicate_zero, List.push_toArray, List.append_toArray, List.nil_append, List.cons_append]
  iterate 6 (try (first | refine Yonder.c rfl ?_ | refine Yonder.cR ?_ | refine Yonder.cE ?_ | refine Yonder.cT ?_ | (refine Yonder.oq ?_; try walk_nrm)))
  co_applyP Yonder.ld _ hf rfl (by rfl) (by decide) ?krun1 ?kev1 ?krest1; (case krun1 => (intro w hw K hK; have hcx := hw _ _ hf; go_simp; exact hK)); (case kev1 => (intro w hw e he; have hcx := hw _ _ hf; simp [go_sem, *] at he; exact he)); try walk_nrm
  exact Yonder.there rfl (by rfl) (by decide) (fun w => by simp [go_sem, execOp, rcase, Act.eval, hch, hz, hok]) (fun w => by simp [go_sem, execOp, Act.eval]) hh
set_option maxHeartbeats 4000000 in
set_option maxRecDepth 100000 in
theorem serve107 (p r : Nat) (c : Frame) (cs : List Frame) (ok e0 : Bool) (w : World) (h2 : w.cell? ⟨p, 2, none⟩ = some (.bool e0)) (hz2 : w.frozen? ⟨p, 2, none⟩ = false) (hfr : Free V ⟨p, 2, none⟩) :
    Walk Try.prog main (DR V) (fun g w' => g = G (c.finish (.tuple #[])) cs ∧ ∃ d, w' = ((w.alloc (.cells #[] 129)).setCell ⟨p, 2, none⟩ (.bool (!ok))).at d) (Go.Conc.served (rec107 p r (c :: cs)) (recvd true (.agg #[]) ok)) w := by
  unfold rec107
  rw [served_fr, Frame.finish_at]
  simp only [ops107, rest107, Try.f107, recvd, if_true]
  walk_nrm
  repeat (first | refine Walk.c rfl ?_ | refine Walk.cR ?_ | refine Walk.cRet ?_ | refine Walk.cEnd ?_ | (refine Walk.oq ?_; try walk_nrm) | (refine Walk.un ?_; walk_nrm))
  (refine Walk.oa ?_; try walk_nrm)
  have h2' := cell_alloc w (.cells #[] 129) h2
  have hz2' := frozen_alloc w (.cells #[] 129) h2 hz2
  repeat (first | refine Walk.c rfl ?_ | refine Walk.cR ?_ | refine Walk.cRet ?_ | refine Walk.cEnd ?_ | (refine Walk.oq ?_; try walk_nrm) | (refine Walk.un ?_; walk_nrm))
  (refine Walk.os hfr h2' ?_; try walk_nrm)
  repeat (first | refine Walk.c rfl ?_ | refine Walk.cR ?_ | refine Walk.cRet ?_ | refine Walk.cEnd ?_ | (refine Walk.oq ?_; try walk_nrm) | (refine Walk.un ?_; walk_nrm))
  exact Walk.ctl rfl (fun w => stepG_leave rfl rfl Try.func107 (results_none rfl _ _ w) (events_results_none rfl _ _)) (.stop fun d => ⟨rfl, d, rfl⟩)
end Go.Proofs.Ytgiiicdpbdfemaa
end

section
namespace Go.Proofs.Ytgiiicdpbdfemaa
open Go.Conc Go.RowKit Go.Relay
variable {main : Bool} {V : Nat → Option Wait}
noncomputable def ops82 : Array Oper := match Try.f82.body with | some (.seq (.region _ ops _) _) => ops | _ => #[]
noncomputable def rest82 : Code := match Try.f82.body with | some (.seq _ c) => c | _ => .skip
noncomputable def body82 : Code := match rest82 with | .block _ (.loop c) => c | _ => .skip
noncomputable def ops82w : Array Oper := match body82 with | .seq _ (.block _ (.region _ ops _)) => ops | _ => #[]
noncomputable def rec82 (p t : Nat) (cs : List Frame) : Goroutine :=
  G ((base 82).at { tmps := #[.pointer (some ⟨p, 0, none⟩), undef, .pointer (some ⟨p, 0, none⟩), .pointer (some ⟨p, 0, none⟩), .pointer (some ⟨p, 0, none⟩), .chan (some t), undef, undef, undef, undef, undef, undef, undef], defers := [] } [.inRegion ops82 [4], .code rest82]) cs
noncomputable def rec82a (p t : Nat) (cs : List Frame) : Goroutine :=
  G ((base 82).at { tmps := #[.pointer (some ⟨p, 0, none⟩), undef, .pointer (some ⟨p, 0, none⟩), .pointer (some ⟨p, 0, none⟩), .pointer (some ⟨p, 0, none⟩), .chan (some t), undef, undef, undef, undef, undef, undef, undef], defers := [] } [.inRegion ops82 [], .code rest82]) cs
noncomputable def fr82 (p t : Nat) : Frame :=
  (base 82).at { tmps := #[.pointer (some ⟨p, 0, none⟩), undef, .pointer (some ⟨p, 0, none⟩), .pointer (some ⟨p, 0, none⟩), .pointer (some ⟨p, 0, none⟩), .chan (some t), .pointer (some ⟨p, 0, none⟩), .pointer (some ⟨p, 0, none⟩), .pointer (some ⟨p, 2, none⟩), .bool false, .bool true, .pointer (some ⟨p, 0, none⟩), undef], defers := [] } [.inRegion ops82w [1], .inBlock 1, .inLoop body82, .inBlock 0]
set_option maxHeartbeats 8000000 in
set_option maxRecDepth 100000 in
theorem end1_in (p t : Nat) (cs : List Frame) (w : World) (h0 : w.cell? ⟨p, 0, none⟩ = some (.chan (some t))) :
    Walk Try.prog main (DR V) (fun g w' => g = rec82 p t cs ∧ ∃ d, w' = w.at d) (G (Frame.enter Try.prog 82 #[.pointer (some ⟨p, 0, none⟩)] .normal) cs) w := by
  rw [enter_at _ Try.func82 rfl]
  simp only [Try.f82, List.size_toArray, List.length_cons, List.length_nil, Nat.reduceAdd, Nat.reduceSub, Array.replicate_succ, Array.replicate_zero, List.push_toArray, List.append_toArray, List.nil_append, List.cons_append]
  repeat (first | refine Walk.c rfl ?_ | refine Walk.cR ?_ | refine Walk.cRet ?_ | refine Walk.cEnd ?_ | (refine Walk.oq ?_; try walk_nrm) | (refine Walk.un ?_; walk_nrm))
  refine .stop fun d => ⟨?_, d, rfl⟩
  simp only [rec82, ops82, rest82, Try.f82]
theorem close82 (p t : Nat) (cs : List Frame) (w : World) (k : Nat) (hc : w.heap[t]? = some (.chan 0 #[] false k k false)) :
    stepG Try.prog main (rec82 p t cs) w = .go (rec82a p t cs) (w.setChan t 0 #[] true k k false) (closeEvents t) := by
  unfold rec82 rec82a
  simp only [ops82, rest82, Try.f82]
  rw [stepG_close (c := t) (cap := 0) (buf := #[]) (s := k) (r := k) (tm := false) rfl (by rfl) (by decide) rfl rfl hc (by kernel_rfl)]
  rfl
theorem wake82 (p t : Nat) (cs : List Frame) : mayWake Try.prog (rec82 p t cs) = true := by
  unfold rec82
  simp only [ops82, rest82, Try.f82]
  rfl
set_option maxHeartbeats 8000000 in
set_option maxRecDepth 100000 in
theorem end1_way (p t r : Nat) (cs : List Frame) (v : Wait) (hch : v.ch = r) (hz : v.z = .agg #[]) (hok : v.ok = true) (hf : v.f ⟨p, 1, none⟩ = some (.chan (some r))) (hf2 : v.f ⟨p, 2, none⟩ = some (.bool false)) (hh : v.home (rec107 p r (fr82 p t :: cs))) :
    Yonder Try.prog main v (rec82a p t cs) := by
  unfold rec82a
  simp only [ops82, rest82, Try.f82]
  iterate 2 (try (first | refine Yonder.c rfl ?_ | refine Yonder.cR ?_ | refine Yonder.cE ?_ | refine Yonder.cT ?_ | (refine Yonder.oq ?_; try walk_nrm)))
  refine Yonder.ctl rfl (fun w => stepG_loop) ?_
  iterate 6 (try (first | refine Yonder.c rfl ?_ | refine Yonder.cR ?_ | refine Yonder.cE ?_ | refine Yonder.cT ?_ | (refine Yonder.oq ?_; try walk_nrm)))
  co_applyP Yonder.ld _ hf2 rfl (by rfl) (by decide) ?krun1 ?kev1 ?krest1; (case krun1 => (intro w hw K hK; have hcx := hw _ _ hf2; go_simp; exact hK)); (case kev1 => (intro w hw e he; have hcx := hw _ _ hf2; simp [go_sem, *] at he; exact he)); try walk_nrm
  iterate 8 (try (first | refine Yonder.c rfl ?_ | refine Yonder.cR ?_ | refine Yonder.cE ?_ | refine Yonder.cT ?_ | (refine Yonder.oq ?_; try walk_nrm)))
  refine Yonder.callE rfl (by rfl) (by decide) rfl Try.func107 (by kernel_rfl) (by rfl) ?_
  walk_nrm
  refine way107 p r _ v hch hz hok hf ?_
  simp only [fr82, ops82w, body82, rest82, Try.f82] at hh
  exact hh
set_option maxHeartbeats 8000000 in
set_option maxRecDepth 100000 in
theorem end1_back (p t r : Nat) (c : Frame) (cs : List Frame) (e0 : Bool) (w : World) (h2 : w.cell? ⟨p, 2, none⟩ = some (.bool e0)) (hz2 : w.frozen? ⟨p, 2, none⟩ = false) (hfr : Free V ⟨p, 2, none⟩) :
    Walk Try.prog main (DR V) (fun g w' => g = G (c.finish (.tuple #[])) cs ∧ ∃ d, w' = ((w.alloc (.cells #[] 129)).setCell ⟨p, 2, none⟩ (.bool true)).at d) (Go.Conc.served (rec107 p r (fr82 p t :: c :: cs)) (recvd true (.agg #[]) false)) w := by
  refine (serve107 p r (fr82 p t) (c :: cs) false e0 w h2 hz2 hfr).then ?_
  rintro g w' ⟨rfl, d, rfl⟩
  refine Walk.back ?_ d
  have g2 := World.cell?_setCell_same (w.alloc (.cells #[] 129)) ⟨p, 2, none⟩ (.bool true) (cell_alloc w (.cells #[] 129) h2)
  simp only [Bool.not_false]
  unfold fr82
  rw [Frame.finish_at]
  simp only [ops82w, body82, rest82, Try.f82]
  walk_nrm
  repeat (first | refine Walk.c rfl ?_ | refine Walk.cR ?_ | refine Walk.cRet ?_ | refine Walk.cEnd ?_ | (refine Walk.oq ?_; try walk_nrm) | (refine Walk.un ?_; walk_nrm))
  refine Walk.ctl rfl (fun w => stepG_inLoop) ?_
  repeat (first | refine Walk.c rfl ?_ | refine Walk.cR ?_ | refine Walk.cRet ?_ | refine Walk.cEnd ?_ | (refine Walk.oq ?_; try walk_nrm) | (refine Walk.un ?_; walk_nrm))
  exact Walk.ctl rfl (fun w => stepG_leave rfl rfl Try.func82 (results_none rfl _ _ w) (events_results_none rfl _ _)) (.stop fun d => ⟨rfl, d, rfl⟩)
end Go.Proofs.Ytgiiicdpbdfemaa
end

section
namespace Go.Relay
open Go.Conc Go.RowKit
section
variable {P : Program} {main : Bool} {V : Nat → Option Wait} {Stop : Goroutine → World → Prop} {w : World} {b fr c : Frame} {a : Act} {k : List Item} {cs : List Frame} {ops : Array Oper} {i : Nat} {rest : List Nat} {o : Oper}
theorem stepG_raise {x : Value} (ho : ops[i]? = some o) (hw : Region.wanted o (yielded ops a.tmps) = true) (hk : b.kind ≠ .early) (hr : (execOp a.eval o).run P w = .halt (.panic x) w) (he : (execOp a.eval o).events P w #[] = #[]) :
    stepG P main (G (b.at a (.inRegion ops (i :: rest) :: k)) cs) w = .go (G { b.at a (.inRegion ops (i :: rest) :: k) with mode := .panicking [{ v := x, recovered := false }] } cs) w := by
  have hk' : (b.kind == CallKind.early) = false := by simpa using hk
  rw [stepG_oper ho hw]
  simp [stepG.apply, hr, he, G, Frame.at, Frame.raise, hk', GStep.after, seen_none]
theorem stepG_pop {chain : List PanicEntry} (hm : fr.mode = .panicking chain) (hd : fr.defers = []) (hc : fr.catches P = false) : stepG P main (G fr (c :: cs)) w = .go (G (c.raise chain) cs) w := by
  simp [G, stepG, unwind, hm, hd, hc]
theorem stepG_deferred {d : Deferred} {ds : List Deferred} {f : FuncId} {fn : Func} {cap : Array Value} (hm : fr.mode ≠ .run) (hd : fr.defers = d :: ds) (ht : d.target = .fn (.func f) cap) (hf : P.funcs[f]? = some fn)
    (hname : (fn.name == "runtime.NumGoroutine") = false) (hb : fn.body.isNone = false) :
    stepG P main (G fr cs) w = .go (G (Frame.enter P f (d.args ++ cap) .deferred) ({ fr with defers := ds } :: cs)) w := by
  have h1 : ¬ fn.name = "runtime.NumGoroutine" := by simpa using hname
  have h2 : ¬ fn.body = none := by cases hx : fn.body <;> simp_all
  obtain ⟨t, ars⟩ := d
  subst ht
  have hs : stepG P main (G fr cs) w = unwind P main fr cs none w := by
    cases hmm : fr.mode <;> simp_all [G, stepG]
  rw [hs]
  simp [unwind, hd, callDeferred, invoke, callFunc, hf, h1, h2, GStep.after, seen_none, G]
theorem stepG_recover {v : Value} {older : List PanicEntry} {ats : Array TypeId} (ho : ops[i]? = some o) (hw : Region.wanted o (yielded ops a.tmps) = true) (hk : b.kind = .deferred) (hop : o.op = .call { callee := .builtin .recover, args := #[], argTypes := ats })
    (hc : c.mode = .panicking ({ v, recovered := false, goexit := false } :: older)) :
    stepG P main (G (b.at a (.inRegion ops (i :: rest) :: k)) (c :: cs)) w = .go (G (b.at (a.put o.dst v) (.inRegion ops rest :: k)) ({ c with mode := .panicking ({ v, recovered := true } :: older) } :: cs)) w := by
  have hrun : (execOp a.eval o).run P w = .ok .recover w := by
    unfold execOp
    simp [hop, resolve, invoke, builtin]
  have hev : (execOp a.eval o).events P w #[] = #[] := by
    unfold execOp
    simp [hop, resolve, invoke, builtin]
  have hfin : (b.at a (.inRegion ops (i :: rest) :: k)).finish v = b.at (a.put o.dst v) (.inRegion ops rest :: k) := by rw [Frame.finish_at, ho]; rfl
  rw [stepG_oper ho hw, ← hfin]
  simp [stepG.apply, hrun, hev, G, Frame.at, hk, GStep.after, seen_none, tryRecover, hc]
theorem stepG_recoverNone {ats : Array TypeId} (ho : ops[i]? = some o) (hw : Region.wanted o (yielded ops a.tmps) = true) (hk : b.kind = .deferred) (hop : o.op = .call { callee := .builtin .recover, args := #[], argTypes := ats })
    (hc : c.mode = .returning) :
    stepG P main (G (b.at a (.inRegion ops (i :: rest) :: k)) (c :: cs)) w = .go (G (b.at (a.put o.dst .nilIface) (.inRegion ops rest :: k)) (c :: cs)) w := by
  have hrun : (execOp a.eval o).run P w = .ok .recover w := by
    unfold execOp
    simp [hop, resolve, invoke, builtin]
  have hev : (execOp a.eval o).events P w #[] = #[] := by
    unfold execOp
    simp [hop, resolve, invoke, builtin]
  have hfin : (b.at a (.inRegion ops (i :: rest) :: k)).finish .nilIface = b.at (a.put o.dst .nilIface) (.inRegion ops rest :: k) := by rw [Frame.finish_at, ho]; rfl
  rw [stepG_oper ho hw, ← hfin]
  simp [stepG.apply, hrun, hev, G, Frame.at, hk, GStep.after, seen_none, tryRecover, hc]
theorem stepG_leaveRecovered {todo : List Item} {fn : Func} {v x : Value} (hn : b.kind = .deferred) (hd : a.defers = []) (hf : P.funcs[b.fn]? = some fn) (hr : (results fn a.tmps).run P w = .ok x w) (he : (results fn a.tmps).events P w #[] = #[])
    (hc : c.mode = .panicking [{ v, recovered := true }]) :
    stepG P main (G { b.at a todo with mode := .returning } (c :: cs)) w = .go (G { c with mode := .returning } cs) w := by
  simp [G, stepG, unwind, doReturn, Frame.at, hn, hd, hf, hr, he, hc, seen, GStep.after]
theorem stepG_leaveReturning {todo : List Item} {fn : Func} {x : Value} (hn : b.kind = .deferred) (hd : a.defers = []) (hf : P.funcs[b.fn]? = some fn) (hr : (results fn a.tmps).run P w = .ok x w) (he : (results fn a.tmps).events P w #[] = #[]) (hc : c.mode = .returning) :
    stepG P main (G { b.at a todo with mode := .returning } (c :: cs)) w = .go (G c cs) w := by
  simp [G, stepG, unwind, doReturn, Frame.at, hn, hd, hf, hr, he, hc, seen, GStep.after]
theorem stepG_deferClose {ds : List Deferred} {ats : Array TypeId} {t : TypeId} {cons : Array Bool} {ch : Nat} {kk : Nat} (hm : fr.mode = .returning) (hd : fr.defers = { target := .builtin .close ats t cons, args := #[.chan (some ch)] } :: ds)
    (hq : (P.funcs[fr.fn]?).any (·.norace) = false) (hc : w.heap[ch]? = some (.chan 0 #[] false kk kk false)) :
    stepG P main (G fr cs) w = .go (G { fr with defers := ds } cs) (w.setChan ch 0 #[] true kk kk false) (closeEvents ch) := by
  have hr : (invoke (.builtin .close ats t cons) #[.chan (some ch)]).run P w = .ok (.value (.tuple #[])) (w.setChan ch 0 #[] true kk kk false) := by
    simp [invoke, builtin, run_close_open _ _ hc, World.setChan]
  have he : (invoke (.builtin .close ats t cons) #[.chan (some ch)]).events P w #[] = closeEvents ch := by
    simp [invoke, builtin, events_close_open _ _ hc, closeEvents]
  have hs : seen P fr.fn (closeEvents ch) = closeEvents ch := seen_eq hq (by intro e he f; simp only [closeEvents, List.mem_toArray, List.mem_cons, List.not_mem_nil, or_false] at he; rcases he with rfl | rfl <;> simp)
  simp [G, stepG, unwind, hm, hd, callDeferred, hr, he, hs, GStep.after]
theorem stepG_deferOp {d : Deferred} (ho : ops[i]? = some o) (hw : Region.wanted o (yielded ops a.tmps) = true) (hk : b.kind ≠ .early) (hr : (execOp a.eval o).run P w = .ok (.defer d) w) (he : (execOp a.eval o).events P w #[] = #[]) :
    stepG P main (G (b.at a (.inRegion ops (i :: rest) :: k)) cs) w = .go (G (b.at (Act.put ⟨a.tmps, d :: a.defers⟩ o.dst undef) (.inRegion ops rest :: k)) cs) w #[] := by
  have hfin : (b.at ⟨a.tmps, d :: a.defers⟩ (.inRegion ops (i :: rest) :: k)).finish undef = b.at (Act.put ⟨a.tmps, d :: a.defers⟩ o.dst undef) (.inRegion ops rest :: k) := by rw [Frame.finish_at, ho]; rfl
  have hk' : (b.kind == CallKind.early) = false := by simpa using hk
  rw [stepG_oper ho hw, ← hfin]
  simp [stepG.apply, hr, he, G, Frame.at, hk', GStep.after, seen_none]
theorem stepG_callValue {f : FuncId} {fn : Func} {x : Operand} {args : Array Operand} {ats : Array TypeId} {first cap : Array Value} (ho : ops[i]? = some o) (hw : Region.wanted o (yielded ops a.tmps) = true) (hk : b.kind ≠ .early)
    (hop : o.op = .call { callee := .value x, args, argTypes := ats }) (hx : a.eval x = .func (.func f) first cap) (hf : P.funcs[f]? = some fn) (hname : (fn.name == "runtime.NumGoroutine") = false) (hb : fn.body.isNone = false) :
    stepG P main (G (b.at a (.inRegion ops (i :: rest) :: k)) cs) w = .go (G (Frame.enter P f (first ++ args.map a.eval ++ cap) .normal) (b.at a (.inRegion ops (i :: rest) :: k) :: cs)) w := by
  have h1 : ¬ fn.name = "runtime.NumGoroutine" := by simpa using hname
  have h2 : ¬ fn.body = none := by cases hx : fn.body <;> simp_all
  have hr : (execOp a.eval o).run P w = .ok (.enter f (first ++ args.map a.eval ++ cap)) w := by
    unfold execOp
    simp [hop, resolve, Deferred.ofValue, invoke, callFunc, hf, h1, h2, hx]
  have he : (execOp a.eval o).events P w #[] = #[] := by
    unfold execOp
    simp [hop, resolve, Deferred.ofValue, invoke, callFunc, hf, h1, h2, hx]
  rw [stepG_enter ho hw hk hr]
  have : listed P b.fn a o w = #[] := by unfold listed; rw [he]; exact seen_none P _
  rw [this]
theorem run_assert_same (t s : TypeId) (v : Value) {u : TypeDesc} (hu : P.underlying t = some u) (h : ∀ ms, u ≠ .interface ms) : (Instr.typeAssert (.iface t v) s t true).run P w = .ok (.tuple #[v, .bool true]) w := by
  cases u <;> first | (exact absurd rfl (h _)) | simp [Instr.typeAssert, run_underlying hu]
theorem run_assert_other (t t' s : TypeId) (v z : Value) {u : TypeDesc} (hu : P.underlying t = some u) (h : ∀ ms, u ≠ .interface ms) (ht : t' ≠ t) (hz : (zeroValue t).run P w = .ok z w) : (Instr.typeAssert (.iface t' v) s t true).run P w = .ok (.tuple #[z, .bool false]) w := by
  cases u <;> first | (exact absurd rfl (h _)) | simp [Instr.typeAssert, run_underlying hu, ht, hz]
theorem ev_assert_same (t s : TypeId) (v : Value) (es : Array Event) {u : TypeDesc} (hu : P.underlying t = some u) (h : ∀ ms, u ≠ .interface ms) : (Instr.typeAssert (.iface t v) s t true).events P w es = es := by
  cases u <;> first | (exact absurd rfl (h _)) | simp [Instr.typeAssert, run_underlying hu]
theorem ev_assert_other (t t' s : TypeId) (v : Value) (es : Array Event) {u : TypeDesc} (hu : P.underlying t = some u) (h : ∀ ms, u ≠ .interface ms) (ht : t' ≠ t) (hze : (zeroValue t).events P w es = es) : (Instr.typeAssert (.iface t' v) s t true).events P w es = es := by
  cases u <;> first | (exact absurd rfl (h _)) | simp [Instr.typeAssert, run_underlying hu, ht, hze]
theorem stepG_leaveF {fn : Func} {v : Value} (hm : fr.mode = .returning) (hn : fr.kind = .normal) (hd : fr.defers = []) (hf : P.funcs[fr.fn]? = some fn) (hr : (results fn fr.tmps).run P w = .ok v w) :
    stepG P main (G fr (c :: cs)) w = .go (G (c.finish v) cs) w (seen P fr.fn ((results fn fr.tmps).events P w #[])) := by
  simp [G, stepG, unwind, doReturn, hm, hn, hd, hf, hr, GStep.after]
theorem Walk.evs {g g' : Goroutine} (E : Nat → Array Event) (hr : g.status = .running) (hs : ∀ d, stepG P main g (w.at d) = .go g' (w.at d) (E d)) (he : ∀ d, ∀ e ∈ E d, EvR V e) (h : Walk P main (DR V) Stop g' w) : Walk P main (DR V) Stop g w :=
  .step hr (fun _ => g') (fun d => w.at d) E hs (fun d => DR.quiet (he d)) fun d => h.back d
theorem run_eqIn_func (d : Nat) (t : TypeId) (f : Fn) (x y : Array Value) {a b c} (hu : P.underlying t = some (.func a b c)) : (Op.equalIn (d + 1) t (.func f x y) .nilFunc).run P w = .ok false w := by simp [Op.equalIn, run_underlying hu]
theorem ev_eqIn_func (d : Nat) (t : TypeId) (f : Fn) (x y : Array Value) (es : Array Event) {a b c} (hu : P.underlying t = some (.func a b c)) : (Op.equalIn (d + 1) t (.func f x y) .nilFunc).events P w es = es := by simp [Op.equalIn, run_underlying hu]
theorem run_neq_func (t : TypeId) (f : Fn) (x y : Array Value) {a b c} (hu : P.underlying t = some (.func a b c)) : (binOp .neq t (.func f x y) .nilFunc).run P w = .ok (.bool true) w := by
  simp only [binOp]
  simp [Op.equal, Op.maxDepth, run_eqIn_func (w := w) 9999 t f x y hu]
theorem ev_neq_func (t : TypeId) (f : Fn) (x y : Array Value) (es : Array Event) {a b c} (hu : P.underlying t = some (.func a b c)) : (binOp .neq t (.func f x y) .nilFunc).events P w es = es := by
  simp only [binOp]
  simp [Op.equal, Op.maxDepth, run_eqIn_func (w := w) 9999 t f x y hu, ev_eqIn_func (w := w) 9999 t f x y es hu]
theorem run_eqIn_nilFunc (d : Nat) (t : TypeId)  {a b c} (hu : P.underlying t = some (.func a b c)) : (Op.equalIn (d + 1) t .nilFunc .nilFunc).run P w = .ok true w := by simp [Op.equalIn, run_underlying hu]
theorem ev_eqIn_nilFunc (d : Nat) (t : TypeId)  (es : Array Event) {a b c} (hu : P.underlying t = some (.func a b c)) : (Op.equalIn (d + 1) t .nilFunc .nilFunc).events P w es = es := by simp [Op.equalIn, run_underlying hu]
theorem run_neq_nilFunc (t : TypeId)  {a b c} (hu : P.underlying t = some (.func a b c)) : (binOp .neq t .nilFunc .nilFunc).run P w = .ok (.bool false) w := by
  simp only [binOp]
  simp [Op.equal, Op.maxDepth, run_eqIn_nilFunc (w := w) 9999 t  hu]
theorem ev_neq_nilFunc (t : TypeId)  (es : Array Event) {a b c} (hu : P.underlying t = some (.func a b c)) : (binOp .neq t .nilFunc .nilFunc).events P w es = es := by
  simp only [binOp]
  simp [Op.equal, Op.maxDepth, run_eqIn_nilFunc (w := w) 9999 t  hu, ev_eqIn_nilFunc (w := w) 9999 t  es hu]
theorem run_eqIn_iface (d : Nat) (t : TypeId) (s : TypeId) (x : Value) {ms} (hu : P.underlying t = some (.interface ms)) : (Op.equalIn (d + 1) t (.iface s x) .nilIface).run P w = .ok false w := by simp [Op.equalIn, run_underlying hu]
theorem ev_eqIn_iface (d : Nat) (t : TypeId) (s : TypeId) (x : Value) (es : Array Event) {ms} (hu : P.underlying t = some (.interface ms)) : (Op.equalIn (d + 1) t (.iface s x) .nilIface).events P w es = es := by simp [Op.equalIn, run_underlying hu]
theorem run_neq_iface (t : TypeId) (s : TypeId) (x : Value) {ms} (hu : P.underlying t = some (.interface ms)) : (binOp .neq t (.iface s x) .nilIface).run P w = .ok (.bool true) w := by
  simp only [binOp]
  simp [Op.equal, Op.maxDepth, run_eqIn_iface (w := w) 9999 t s x hu]
theorem ev_neq_iface (t : TypeId) (s : TypeId) (x : Value) (es : Array Event) {ms} (hu : P.underlying t = some (.interface ms)) : (binOp .neq t (.iface s x) .nilIface).events P w es = es := by
  simp only [binOp]
  simp [Op.equal, Op.maxDepth, run_eqIn_iface (w := w) 9999 t s x hu, ev_eqIn_iface (w := w) 9999 t s x es hu]
theorem run_eqIn_nilIface (d : Nat) (t : TypeId)  {ms} (hu : P.underlying t = some (.interface ms)) : (Op.equalIn (d + 1) t .nilIface .nilIface).run P w = .ok true w := by simp [Op.equalIn, run_underlying hu]
theorem ev_eqIn_nilIface (d : Nat) (t : TypeId)  (es : Array Event) {ms} (hu : P.underlying t = some (.interface ms)) : (Op.equalIn (d + 1) t .nilIface .nilIface).events P w es = es := by simp [Op.equalIn, run_underlying hu]
theorem run_neq_nilIface (t : TypeId)  {ms} (hu : P.underlying t = some (.interface ms)) : (binOp .neq t .nilIface .nilIface).run P w = .ok (.bool false) w := by
  simp only [binOp]
  simp [Op.equal, Op.maxDepth, run_eqIn_nilIface (w := w) 9999 t  hu]
theorem ev_neq_nilIface (t : TypeId)  (es : Array Event) {ms} (hu : P.underlying t = some (.interface ms)) : (binOp .neq t .nilIface .nilIface).events P w es = es := by
  simp only [binOp]
  simp [Op.equal, Op.maxDepth, run_eqIn_nilIface (w := w) 9999 t  hu, ev_eqIn_nilIface (w := w) 9999 t  es hu]
end
end Go.Relay
end

section
namespace Go.Proofs.Ytgiiicdpbdfemaa
open Go.Conc Go.RowKit Go.Relay
variable {main : Bool} {V : Nat → Option Wait}
def def60 (N : Nat) : Deferred := { target := .fn (.func 87) #[.pointer (some ⟨N, 0, none⟩)], args := #[] }
noncomputable def todo60 : Option (Array Oper × Code) := match Try.f60.body with | some (.seq _ (.seq _ (.seq (.seq _ (.cond _ (.region _ ops _) _)) c))) => some (ops, c) | _ => none
noncomputable def ops60 : Array Oper := (todo60.getD (#[], .skip)).1
noncomputable def rest60 : Code := (todo60.getD (#[], .skip)).2
noncomputable def fr60 (N : Nat) (F S : Value) : Frame :=
  (base 60).at { tmps := #[F, S, undef, undef, .bool false, .pointer (some ⟨N, 0, none⟩), .func (.func 87) #[] #[.pointer (some ⟨N, 0, none⟩)], F, .bool true, F, S, undef], defers := [def60 N] } [.inRegion ops60 [2], .code rest60]
set_option maxHeartbeats 8000000 in
set_option maxRecDepth 100000 in
theorem ride_in {Stop : Goroutine → World → Prop} (f : FuncId) (fn : Func) (first cap : Array Value) (S : Value) (cs : List Frame) (w : World) (hf : Try.prog.funcs[f]? = some fn) (hname : (fn.name == "runtime.NumGoroutine") = false) (hb : fn.body.isNone = false)
    (hk : Walk Try.prog main (DR V) Stop (G (Frame.enter Try.prog f (first ++ #[S] ++ cap) .normal) (fr60 w.heap.size (.func (.func f) first cap) S :: cs)) (w.alloc (.cells #[.bool false] 4))) :
    Walk Try.prog main (DR V) Stop (G (Frame.enter Try.prog 60 #[.func (.func f) first cap, S] .normal) cs) w := by
  simp only [fr60, ops60, rest60, todo60, Try.f60, Option.getD_some] at hk
  rw [enter_at _ Try.func60 rfl]
  simp only [Try.f60, List.size_toArray, List.length_cons, List.length_nil, Nat.reduceAdd, Nat.reduceSub, Array.replicate_succ, Array.replicate_zero, List.push_toArray, List.append_toArray, List.nil_append, List.cons_append]
  have hn1 := fun w => run_neq_func (P := Try.prog) (w := w) 67 (.func f) first cap (by kernel_rfl : Try.prog.underlying 67 = some (.func #[115] #[] false))
  have hn2 := fun w es => ev_neq_func (P := Try.prog) (w := w) 67 (.func f) first cap es (by kernel_rfl : Try.prog.underlying 67 = some (.func #[115] #[] false))
  repeat (first | refine Walk.c rfl ?_ | refine Walk.cR ?_ | refine Walk.cRet ?_ | refine Walk.cEnd ?_ | (refine Walk.oq ?_; try walk_nrm) | (refine Walk.un ?_; walk_nrm))
  (refine Walk.oa ?_; try walk_nrm)
  repeat (first | refine Walk.c rfl ?_ | refine Walk.cR ?_ | refine Walk.cRet ?_ | refine Walk.cEnd ?_ | (refine Walk.oq ?_; try walk_nrm) | (refine Walk.un ?_; walk_nrm))
  refine Walk.ctl rfl (fun w' => stepG_deferOp (d := def60 w.heap.size) rfl (by rfl) (by decide) (by simp [go_sem, execOp, Deferred.ofValue, def60]) (by simp [go_sem, execOp, Deferred.ofValue])) ?_
  walk_nrm
  repeat (first | refine Walk.c rfl ?_ | refine Walk.cR ?_ | refine Walk.cRet ?_ | refine Walk.cEnd ?_ | (refine Walk.oq ?_; try walk_nrm) | (refine Walk.un ?_; walk_nrm))
  refine Walk.ctl rfl (fun w' => stepG_callValue rfl (by rfl) (by decide) rfl rfl hf hname hb) ?_
  walk_nrm
  exact hk
end Go.Proofs.Ytgiiicdpbdfemaa
end

section
namespace Go.Proofs.Ytgiiicdpbdfemaa
open Go.Conc Go.RowKit Go.Relay
variable {main : Bool} {V : Nat → Option Wait}
theorem und20 : ∃ ms, Try.prog.underlying 20 = some (.interface ms) := ⟨#[], by kernel_rfl⟩
theorem results60 (tmps : Array Value) (N : Nat) (x y : Bool) (w : World) (h4 : tmps.getD 4 undef = .bool x) (h5 : tmps.getD 5 undef = .pointer (some ⟨N, 0, none⟩)) (hN : w.cell? ⟨N, 0, none⟩ = some (.bool y)) :
    (results Try.f60 tmps).run Try.prog w = .ok (.tuple #[.bool x, .bool y]) w ∧ ∀ e ∈ (results Try.f60 tmps).events Try.prog w #[], EvR V e := by
  simp only [Array.getD_eq_getD_getElem?] at h4 h5
  constructor
  · simp only [results, Try.f60]
    simp [h4, h5, go_sem, hN, asAddr, loadVar]
  · intro e he
    simp only [results, Try.f60] at he
    simp [h4, h5, go_sem, hN, asAddr, loadVar] at he
    subst he
    exact evR_read _ _
theorem leave60 {fr : Frame} {c : Frame} {cs : List Frame} {N : Nat} {x y : Bool} {w : World} (hf : fr.fn = 60) (hm : fr.mode = .returning) (hn : fr.kind = .normal) (hd : fr.defers = []) (h4 : fr.tmps.getD 4 undef = .bool x) (h5 : fr.tmps.getD 5 undef = .pointer (some ⟨N, 0, none⟩)) (hN : w.cell? ⟨N, 0, none⟩ = some (.bool y)) :
    Walk Try.prog main (DR V) (fun g w' => g = G (c.finish (.tuple #[.bool x, .bool y])) cs ∧ ∃ d, w' = w.at d) (G fr (c :: cs)) w :=
  Walk.evs (fun d => seen Try.prog fr.fn ((results Try.f60 fr.tmps).events Try.prog (w.at d) #[])) rfl (fun d => stepG_leaveF hm hn hd (by rw [hf]; exact Try.func60) (results60 (V := V) fr.tmps N x y (w.at d) h4 h5 hN).1)
    (fun d e he => (results60 (V := V) fr.tmps N x y (w.at d) h4 h5 hN).2 e (mem_seen he)) (.stop fun d => ⟨rfl, d, rfl⟩)
set_option maxHeartbeats 8000000 in
set_option maxRecDepth 100000 in
theorem ride_done (N : Nat) (F S : Value) (c : Frame) (cs : List Frame) (w : World) (x : Bool) (hN : w.cell? ⟨N, 0, none⟩ = some (.bool x)) (hz : w.frozen? ⟨N, 0, none⟩ = false) (hfr : Free V ⟨N, 0, none⟩) :
    Walk Try.prog main (DR V) (fun g w' => g = G (c.finish (.tuple #[.bool true, .bool false])) cs ∧ ∃ d, w' = (w.setCell ⟨N, 0, none⟩ (.bool false)).at d) (G ((fr60 N F S).finish (.tuple #[])) (c :: cs)) w := by
  obtain ⟨ms, h20⟩ := und20
  have hn1 := fun w => run_neq_nilIface (P := Try.prog) (w := w) 20 h20
  have hn2 := fun w es => ev_neq_nilIface (P := Try.prog) (w := w) 20 es h20
  unfold fr60
  rw [Frame.finish_at]
  simp only [ops60, rest60, todo60, Try.f60, Option.getD_some]
  walk_nrm
  repeat (first | refine Walk.c rfl ?_ | refine Walk.cR ?_ | refine Walk.cRet ?_ | refine Walk.cEnd ?_ | (refine Walk.oq ?_; try walk_nrm) | (refine Walk.un ?_; walk_nrm))
  (refine Walk.os hfr hN ?_; try walk_nrm)
  repeat (first | refine Walk.c rfl ?_ | refine Walk.cR ?_ | refine Walk.cRet ?_ | refine Walk.cEnd ?_ | (refine Walk.oq ?_; try walk_nrm) | (refine Walk.un ?_; walk_nrm))
  have hN' := World.cell?_setCell_same w ⟨N, 0, none⟩ (.bool false) hN
  refine Walk.ctl rfl (fun w => stepG_deferred (d := def60 N) (ds := []) (by simp [Frame.at]) rfl rfl Try.func87 (by kernel_rfl) (by rfl)) ?_
  simp only [def60, List.append_toArray, List.nil_append]
  rw [enter_atD _ Try.func87 rfl]
  simp only [Try.f87, List.size_toArray, List.length_cons, List.length_nil, Nat.reduceAdd, Nat.reduceSub, Array.replicate_succ, Array.replicate_zero, List.push_toArray, List.append_toArray, List.nil_append, List.cons_append]
  repeat (first | refine Walk.c rfl ?_ | refine Walk.cR ?_ | refine Walk.cRet ?_ | refine Walk.cEnd ?_ | (refine Walk.oq ?_; try walk_nrm) | (refine Walk.un ?_; walk_nrm))
  refine Walk.ctl rfl (fun w => stepG_recoverNone rfl (by rfl) rfl rfl rfl) ?_
  walk_nrm
  repeat (first | refine Walk.c rfl ?_ | refine Walk.cR ?_ | refine Walk.cRet ?_ | refine Walk.cEnd ?_ | (refine Walk.oq ?_; try walk_nrm) | (refine Walk.un ?_; walk_nrm))
  refine Walk.ctl rfl (fun w => stepG_leaveReturning rfl rfl Try.func87 (results_none rfl _ _ w) (events_results_none rfl _ _) rfl) ?_
  exact leave60 rfl rfl rfl rfl rfl rfl hN'
set_option maxHeartbeats 8000000 in
set_option maxRecDepth 100000 in
theorem ride_stopped (N : Nat) (F S : Value) (c : Frame) (cs : List Frame) (w : World) (x : Bool) (hN : w.cell? ⟨N, 0, none⟩ = some (.bool x)) (hz : w.frozen? ⟨N, 0, none⟩ = false) (hfr : Free V ⟨N, 0, none⟩) :
    Walk Try.prog main (DR V) (fun g w' => g = G (c.finish (.tuple #[.bool false, .bool false])) cs ∧ ∃ d, w' = ((w.alloc (.cells #[] 147)).setCell ⟨N, 0, none⟩ (.bool false)).at d) (G ((fr60 N F S).raise [{ v := .iface 147 (.agg #[]), recovered := false }]) (c :: cs)) w := by
  obtain ⟨ms, h20⟩ := und20
  have hn1 := fun w => run_neq_iface (P := Try.prog) (w := w) 20 147 (.agg #[]) h20
  have hn2 := fun w es => ev_neq_iface (P := Try.prog) (w := w) 20 147 (.agg #[]) es h20
  unfold fr60
  rw [Frame.raise_at]
  simp only [ops60, rest60, todo60, Try.f60, Option.getD_some]
  refine Walk.ctl rfl (fun w => stepG_deferred (d := def60 N) (ds := []) (by simp [Frame.at]) rfl rfl Try.func87 (by kernel_rfl) (by rfl)) ?_
  simp only [def60, List.append_toArray, List.nil_append]
  rw [enter_atD _ Try.func87 rfl]
  simp only [Try.f87, List.size_toArray, List.length_cons, List.length_nil, Nat.reduceAdd, Nat.reduceSub, Array.replicate_succ, Array.replicate_zero, List.push_toArray, List.append_toArray, List.nil_append, List.cons_append]
  repeat (first | refine Walk.c rfl ?_ | refine Walk.cR ?_ | refine Walk.cRet ?_ | refine Walk.cEnd ?_ | (refine Walk.oq ?_; try walk_nrm) | (refine Walk.un ?_; walk_nrm))
  refine Walk.ctl rfl (fun w => stepG_recover rfl (by rfl) rfl rfl rfl) ?_
  walk_nrm
  have h147 := fun w => run_assert_same (P := Try.prog) (w := w) 147 20 (.agg #[]) (u := .struct #[]) (by kernel_rfl) (fun _ h => by cases h)
  have e147 := fun w es => ev_assert_same (P := Try.prog) (w := w) 147 20 (.agg #[]) es (u := .struct #[]) (by kernel_rfl) (fun _ h => by cases h)
  repeat (first | refine Walk.c rfl ?_ | refine Walk.cR ?_ | refine Walk.cRet ?_ | refine Walk.cEnd ?_ | (refine Walk.oq ?_; try walk_nrm) | (refine Walk.un ?_; walk_nrm))
  (refine Walk.oa ?_; try walk_nrm)
  have ha := cell_alloc w (.cells #[] 147) hN
  have haz := frozen_alloc w (.cells #[] 147) hN hz
  repeat (first | refine Walk.c rfl ?_ | refine Walk.cR ?_ | refine Walk.cRet ?_ | refine Walk.cEnd ?_ | (refine Walk.oq ?_; try walk_nrm) | (refine Walk.un ?_; walk_nrm))
  (refine Walk.os hfr ha ?_; try walk_nrm)
  have hN' := World.cell?_setCell_same (w.alloc (.cells #[] 147)) ⟨N, 0, none⟩ (.bool false) ha
  repeat (first | refine Walk.c rfl ?_ | refine Walk.cR ?_ | refine Walk.cRet ?_ | refine Walk.cEnd ?_ | (refine Walk.oq ?_; try walk_nrm) | (refine Walk.un ?_; walk_nrm))
  refine Walk.ctl rfl (fun w => stepG_leaveRecovered rfl rfl Try.func87 (results_none rfl _ _ w) (events_results_none rfl _ _) rfl) ?_
  exact leave60 rfl rfl rfl rfl rfl rfl hN'
end Go.Proofs.Ytgiiicdpbdfemaa
end

section
namespace Go.Proofs.Ytgiiicdpbdfemaa
open Go.Conc Go.RowKit Go.Relay
variable {main : Bool} {V : Nat → Option Wait}
set_option maxHeartbeats 8000000 in
set_option maxRecDepth 100000 in
theorem ride_broke (N : Nat) (F S : Value) (t : TypeId) (v : Value) (ht : t ≠ 147) (c : Frame) (cs : List Frame) (w : World) (x : Bool) (hN : w.cell? ⟨N, 0, none⟩ = some (.bool x)) (hz : w.frozen? ⟨N, 0, none⟩ = false) (hfr : Free V ⟨N, 0, none⟩) :
    Walk Try.prog main (DR V) (fun g w' => g = G (c.finish (.tuple #[.bool false, .bool true])) cs ∧ ∃ d, w' = ((w.alloc (.cells #[] 147)).setCell ⟨N, 0, none⟩ (.bool true)).at d) (G ((fr60 N F S).raise [{ v := .iface t v, recovered := false }]) (c :: cs)) w := by
  obtain ⟨ms, h20⟩ := und20
  have hn1 := fun w => run_neq_iface (P := Try.prog) (w := w) 20 t v h20
  have hn2 := fun w es => ev_neq_iface (P := Try.prog) (w := w) 20 t v es h20
  unfold fr60
  rw [Frame.raise_at]
  simp only [ops60, rest60, todo60, Try.f60, Option.getD_some]
  refine Walk.ctl rfl (fun w => stepG_deferred (d := def60 N) (ds := []) (by simp [Frame.at]) rfl rfl Try.func87 (by kernel_rfl) (by rfl)) ?_
  simp only [def60, List.append_toArray, List.nil_append]
  rw [enter_atD _ Try.func87 rfl]
  simp only [Try.f87, List.size_toArray, List.length_cons, List.length_nil, Nat.reduceAdd, Nat.reduceSub, Array.replicate_succ, Array.replicate_zero, List.push_toArray, List.append_toArray, List.nil_append, List.cons_append]
  repeat (first | refine Walk.c rfl ?_ | refine Walk.cR ?_ | refine Walk.cRet ?_ | refine Walk.cEnd ?_ | (refine Walk.oq ?_; try walk_nrm) | (refine Walk.un ?_; walk_nrm))
  refine Walk.ctl rfl (fun w => stepG_recover rfl (by rfl) rfl rfl rfl) ?_
  walk_nrm
  have h147 := fun w => run_assert_other (P := Try.prog) (w := w) 147 t 20 v (.agg #[]) (u := .struct #[]) (by kernel_rfl) (fun _ h => by cases h) ht (by kernel_rfl)
  have e147 := fun w es => ev_assert_other (P := Try.prog) (w := w) 147 t 20 v es (u := .struct #[]) (by kernel_rfl) (fun _ h => by cases h) ht (by kernel_rfl)
  repeat (first | refine Walk.c rfl ?_ | refine Walk.cR ?_ | refine Walk.cRet ?_ | refine Walk.cEnd ?_ | (refine Walk.oq ?_; try walk_nrm) | (refine Walk.un ?_; walk_nrm))
  (refine Walk.oa ?_; try walk_nrm)
  have ha := cell_alloc w (.cells #[] 147) hN
  have haz := frozen_alloc w (.cells #[] 147) hN hz
  repeat (first | refine Walk.c rfl ?_ | refine Walk.cR ?_ | refine Walk.cRet ?_ | refine Walk.cEnd ?_ | (refine Walk.oq ?_; try walk_nrm) | (refine Walk.un ?_; walk_nrm))
  (refine Walk.os hfr ha ?_; try walk_nrm)
  have hN' := World.cell?_setCell_same (w.alloc (.cells #[] 147)) ⟨N, 0, none⟩ (.bool true) ha
  repeat (first | refine Walk.c rfl ?_ | refine Walk.cR ?_ | refine Walk.cRet ?_ | refine Walk.cEnd ?_ | (refine Walk.oq ?_; try walk_nrm) | (refine Walk.un ?_; walk_nrm))
  refine Walk.ctl rfl (fun w => stepG_leaveRecovered rfl rfl Try.func87 (results_none rfl _ _ w) (events_results_none rfl _ _) rfl) ?_
  exact leave60 rfl rfl rfl rfl rfl rfl hN'
end Go.Proofs.Ytgiiicdpbdfemaa
end

section
namespace Go.Proofs.Ytgiiicdpbdfemaa
open Go.Conc Go.RowKit Go.Relay
open Go.ConcN (upd upd_ne upd_same)
inductive Role where
  | tB
  | ss
  | ord
  | p (i : Nat)
  | t (i : Nat)
  | r (i : Nat)
  | nn (i : Nat)
structure Stile where
  g0 : Nat
  n : Nat
  B : Nat
  sb : Nat
  scap : Nat
  tb : Nat
  tcap : Nat
  most : Int
  p : Nat → Nat
  t : Nat → Nat
  r : Nat → Nat
  F : Nat → Value
  sa : Option Addr
  sc : Nat
  sl : List Int
structure Dyn where
  k : Nat
  e : Nat → Bool
  f : Nat → Bool
  b : Nat → Bool
  N : Nat → Nat
  cs : Nat → List Frame
  own : Nat → Option Role
  ord : List Nat
  oa : Option Addr
  oc : Nat
  gg : Nat
def going (n : Nat) (f : Nat → Bool) : Nat := (List.range n).countP (fun i => !f i)
def Good (S : Stile) (D : Dyn) : Role → Option Obj → Prop
  | .tB, o => ∃ arr ty fr, o = some (.cells arr ty fr) ∧ arr[0]? = some (.slice (some ⟨S.sb, 0, none⟩) S.n S.scap) ∧ arr[1]? = some (.int .i64 D.gg) ∧ arr[2]? = some (.int .i64 S.most) ∧ arr[3]? = some (.slice D.oa D.ord.length D.oc) ∧ ∀ i, i = 1 ∨ i = 3 → (decide (fr.1 ≤ i) && decide (i < fr.2)) = false
  | .ss, o => ∃ arr ty fr, o = some (.cells arr ty fr) ∧ ∀ i, i < S.n → arr[i]? = some (.pointer (some ⟨S.p i, 0, none⟩))
  | .ord, _ => True
  | .p i, o => o = some (.cells #[.chan (some (S.t i)), .chan (some (S.r i)), .bool (D.f i), .bool (D.b i)] 166)
  | .t i, o => D.e i = false → ∃ k, o = some (.chan 0 #[] false k k false)
  | .r i, o => D.e i = false → ∃ k, o = some (.chan 0 #[] false k k false)
  | .nn i, o => D.e i = false → o = some (.cells #[.bool false] 4)
def Place (S : Stile) (D : Dyn) : Role → Nat → Prop
  | .tB, b => b = S.B
  | .ss, b => b = S.sb
  | .ord, _ => True
  | .p i, b => i < S.n ∧ b = S.p i
  | .t i, b => i < S.n ∧ b = S.t i
  | .r i, b => i < S.n ∧ b = S.r i
  | .nn i, b => i < D.k ∧ b = D.N i
structure Sys (S : Stile) (n0 : Nat) (D : Dyn) (w : World) : Prop where
  good : ∀ b x, D.own b = some x → Good S D x (w.heap[b]?)
  lt : ∀ b x, D.own b = some x → n0 ≤ b ∧ b < w.heap.size
  ids : ∀ b x, D.own b = some x → Place S D x b
  oB : D.own S.B = some .tB
  oS : D.own S.sb = some .ss
  op : ∀ i, i < S.n → D.own (S.p i) = some (.p i)
  ot : ∀ i, i < S.n → D.own (S.t i) = some (.t i)
  or : ∀ i, i < S.n → D.own (S.r i) = some (.r i)
  oN : ∀ i, i < D.k → D.own (D.N i) = some (.nn i)
  oo : ∀ b, (Value.slice D.oa D.ord.length D.oc).ownBlock = some b → D.own b = some .ord
  row : w.ownsRow n0 3 1 (.slice D.oa D.ord.length D.oc) D.ord.length (D.ord.map fun i => .int .i64 (i : Nat))
  n64 : S.n ≤ 64
  kn : D.k ≤ S.n
  hg0 : 1 ≤ S.g0
section
variable {S : Stile} {n0 : Nat} {D D' : Dyn} {w w' : World}
theorem cell_of {w : World} {b : Nat} {arr : Array Value} {ty : TypeId} {fr : Nat × Nat} (h : w.heap[b]? = some (.cells arr ty fr)) (i : Nat) : w.cell? ⟨b, i, none⟩ = arr[i]? := by simp [World.cell?, h]
theorem frozen_of {w : World} {b : Nat} {arr : Array Value} {ty : TypeId} (h : w.heap[b]? = some (.cells arr ty (0, 0))) (i : Nat) : w.frozen? ⟨b, i, none⟩ = false := by simp [World.frozen?, h]
theorem Sys.tB (H : Sys S n0 D w) : w.cell? ⟨S.B, 0, none⟩ = some (.slice (some ⟨S.sb, 0, none⟩) S.n S.scap) ∧ w.cell? ⟨S.B, 1, none⟩ = some (.int .i64 D.gg) ∧ w.cell? ⟨S.B, 2, none⟩ = some (.int .i64 S.most) ∧
    w.cell? ⟨S.B, 3, none⟩ = some (.slice D.oa D.ord.length D.oc) ∧ w.frozen? ⟨S.B, 1, none⟩ = false ∧ w.frozen? ⟨S.B, 3, none⟩ = false := by
  obtain ⟨arr, ty, fr, h, h0, h1, h2, h3, hz⟩ := H.good _ _ H.oB
  exact ⟨(cell_of h 0).trans h0, (cell_of h 1).trans h1, (cell_of h 2).trans h2, (cell_of h 3).trans h3, by simp only [World.frozen?, h]; exact hz 1 (.inl rfl), by simp only [World.frozen?, h]; exact hz 3 (.inr rfl)⟩
theorem Sys.ss (H : Sys S n0 D w) {i : Nat} (hi : i < S.n) : w.cell? ⟨S.sb, i, none⟩ = some (.pointer (some ⟨S.p i, 0, none⟩)) := by
  obtain ⟨arr, ty, fr, h, h0⟩ := H.good _ _ H.oS
  exact (cell_of h i).trans (h0 i hi)
theorem Sys.pp (H : Sys S n0 D w) {i : Nat} (hi : i < S.n) : w.heap[S.p i]? = some (.cells #[.chan (some (S.t i)), .chan (some (S.r i)), .bool (D.f i), .bool (D.b i)] 166) := H.good _ _ (H.op i hi)
theorem Sys.p0 (H : Sys S n0 D w) {i : Nat} (hi : i < S.n) : w.cell? ⟨S.p i, 0, none⟩ = some (.chan (some (S.t i))) := (cell_of (H.pp hi) 0).trans rfl
theorem Sys.p1 (H : Sys S n0 D w) {i : Nat} (hi : i < S.n) : w.cell? ⟨S.p i, 1, none⟩ = some (.chan (some (S.r i))) := (cell_of (H.pp hi) 1).trans rfl
theorem Sys.p2 (H : Sys S n0 D w) {i : Nat} (hi : i < S.n) : w.cell? ⟨S.p i, 2, none⟩ = some (.bool (D.f i)) := (cell_of (H.pp hi) 2).trans rfl
theorem Sys.p3 (H : Sys S n0 D w) {i : Nat} (hi : i < S.n) : w.cell? ⟨S.p i, 3, none⟩ = some (.bool (D.b i)) := (cell_of (H.pp hi) 3).trans rfl
theorem Sys.pz (H : Sys S n0 D w) {i : Nat} (hi : i < S.n) (j : Nat) : w.frozen? ⟨S.p i, j, none⟩ = false := frozen_of (H.pp hi) j
theorem Sys.two (_ : Sys S n0 D w) {b b' : Nat} {x x' : Role} (h : D.own b = some x) (h' : D.own b' = some x') (hx : x ≠ x') : b ≠ b' := by
  rintro rfl
  rw [h] at h'
  exact hx (Option.some.inj h')
theorem row_same {w w' : World} {base : Nat} {e : TypeId} {size : Nat} {v : Value} {n : Nat} {xs : List Value} (h : w.ownsRow base e size v n xs) (hb : ∀ g, v.ownBlock = some g → w'.heap[g]? = w.heap[g]?) : w'.ownsRow base e size v n xs := by
  refine ⟨h.1, ?_⟩
  rcases h.2 with z | ⟨g, cap, cur, rfl, h1, h2, h3⟩
  · exact .inl z
  · exact .inr ⟨g, cap, cur, rfl, h1, (hb g rfl).trans h2, h3⟩
theorem Sys.put (H : Sys S n0 D w) (hown : D'.own = D.own) (hk : D'.k = D.k) (hN : D'.N = D.N) (ho : D'.ord = D.ord) (hoa : D'.oa = D.oa) (hoc : D'.oc = D.oc) (hs : w.heap.size ≤ w'.heap.size)
    (hg : ∀ b x, D.own b = some x → Good S D x (w.heap[b]?) → Good S D' x (w'.heap[b]?)) (hr : ∀ b, D.own b = some .ord → w'.heap[b]? = w.heap[b]?) : Sys S n0 D' w' := by
  refine ⟨fun b x hx => hg b x (hown ▸ hx) (H.good b x (hown ▸ hx)), fun b x hx => ?_, fun b x hx => ?_, hown ▸ H.oB, hown ▸ H.oS, fun i hi => hown ▸ H.op i hi, fun i hi => hown ▸ H.ot i hi, fun i hi => hown ▸ H.or i hi, fun i hi => ?_, fun b hb => ?_, ?_, H.n64, hk ▸ H.kn, H.hg0⟩
  · have := H.lt b x (hown ▸ hx); omega
  · have h := H.ids b x (hown ▸ hx)
    revert h
    cases x <;> simp only [Place, hk, hN, imp_self]
  · rw [hown, hN]; exact H.oN i (hk ▸ hi)
  · rw [hown]; rw [hoa, ho, hoc] at hb; exact H.oo b hb
  · rw [hoa, ho, hoc]
    exact row_same H.row fun g hg' => hr g (H.oo g hg')
theorem Sys.same (H : Sys S n0 D w) (hs : w.heap.size ≤ w'.heap.size) (hb : ∀ b x, D.own b = some x → w'.heap[b]? = w.heap[b]?) : Sys S n0 D w' :=
  H.put rfl rfl rfl rfl rfl rfl hs (fun b x hx h => by rw [hb b x hx]; exact h) fun b hb' => hb b _ hb'
theorem Good.of_same {x : Role} {o : Option Obj} (h : Good S D x o) (hf : ∀ i, x = .p i → D'.f i = D.f i ∧ D'.b i = D.b i) (hB : x = .tB → D'.gg = D.gg ∧ D'.oa = D.oa ∧ D'.ord.length = D.ord.length ∧ D'.oc = D.oc) (he : ∀ i, x = .t i ∨ x = .r i ∨ x = .nn i → D'.e i = false → D.e i = false) : Good S D' x o := by
  cases x with
  | tB => obtain ⟨h1, h2, h3, h4⟩ := hB rfl; simpa only [Good, h1, h2, h3, h4] using h
  | ss => exact h
  | ord => trivial
  | p i => obtain ⟨h1, h2⟩ := hf i rfl; simpa only [Good, h1, h2] using h
  | t i => exact fun z => h (he i (.inl rfl) z)
  | r i => exact fun z => h (he i (.inr (.inl rfl)) z)
  | nn i => exact fun z => h (he i (.inr (.inr rfl)) z)
theorem Sys.chan (H : Sys S n0 D w) {c k k' : Nat} (hc : w.heap[c]? = some (.chan 0 #[] false k k false)) (hcr : ∃ i, D.own c = some (.t i) ∨ D.own c = some (.r i)) : Sys S n0 D (w.setChan c 0 #[] false k' k' false) := by
  have hsz : (w.setChan c 0 #[] false k' k' false).heap.size = w.heap.size := by simp [World.setChan]
  refine H.put rfl rfl rfl rfl rfl rfl (Nat.le_of_eq hsz.symm) (fun b x hx h => ?_) fun b hb => ?_
  · by_cases e : c = b
    · subst e
      rw [heap_setChan_self w hc]
      obtain ⟨i, z | z⟩ := hcr <;> (rw [hx] at z; cases z; exact fun _ => ⟨k', rfl⟩)
    · rw [heap_setChan_ne w _ _ _ _ _ _ e]; exact h
  · refine heap_setChan_ne w _ _ _ _ _ _ fun e => ?_
    subst e
    obtain ⟨i, z | z⟩ := hcr <;> (rw [hb] at z; cases z)
theorem Sys.shut (H : Sys S n0 D w) {j c k : Nat} (he : D.e j = true) (hcr : D.own c = some (.t j) ∨ D.own c = some (.r j)) : Sys S n0 D (w.setChan c 0 #[] true k k false) := by
  have hsz : (w.setChan c 0 #[] true k k false).heap.size = w.heap.size := by simp [World.setChan]
  refine H.put rfl rfl rfl rfl rfl rfl (Nat.le_of_eq hsz.symm) (fun b x hx h => ?_) fun b hb => ?_
  · by_cases e : c = b
    · subst e
      rcases hcr with z | z <;> (rw [hx] at z; cases z; exact fun z => by rw [he] at z; cases z)
    · rw [heap_setChan_ne w _ _ _ _ _ _ e]; exact h
  · refine heap_setChan_ne w _ _ _ _ _ _ fun e => ?_
    subst e
    rcases hcr with z | z <;> (rw [hb] at z; cases z)
theorem Sys.at (H : Sys S n0 D w) (d : Nat) : Sys S n0 D (w.at d) := H.same (Nat.le_refl _) fun _ _ _ => rfl
theorem heap_set_other (w : World) (a : Addr) (k : Nat) (v : Value) (h : k ≠ a.block) : (w.setCell a v).heap[k]? = w.heap[k]? := by
  simp only [World.setCell]
  rw [Array.getElem?_modify, if_neg (Ne.symm h)]
theorem heap_set_self (w : World) {b i : Nat} {arr : Array Value} {ty : TypeId} {fr : Nat × Nat} (v : Value) (h : w.heap[b]? = some (.cells arr ty fr)) : (w.setCell ⟨b, i, none⟩ v).heap[b]? = some (.cells (arr.setIfInBounds i v) ty fr) := by
  simp only [World.setCell]
  rw [Array.getElem?_modify, if_pos rfl, h]
  rfl
theorem size_set (w : World) (a : Addr) (v : Value) : (w.setCell a v).heap.size = w.heap.size := by simp [World.setCell]
theorem heap_new_lt (w : World) (o : Obj) {b : Nat} (h : b < w.heap.size) : (w.alloc o).heap[b]? = w.heap[b]? := by
  simp only [World.alloc]
  rw [Array.getElem?_push, if_neg (by omega)]
theorem Sys.hire (H : Sys S n0 D w) (hk : D.k < S.n) : Sys S n0 { D with k := D.k + 1, N := upd D.N D.k w.heap.size, own := upd D.own w.heap.size (some (.nn D.k)) } (w.alloc (.cells #[.bool false] 4)) := by
  have hsz : (w.alloc (.cells #[.bool false] 4)).heap.size = w.heap.size + 1 := by simp
  have hfresh : ∀ b x, D.own b = some x → b ≠ w.heap.size := fun b x hx => by have := (H.lt b x hx).2; omega
  have hold : ∀ b x, D.own b = some x → upd D.own w.heap.size (some (.nn D.k)) b = some x := fun b x hx => by rw [upd_ne _ _ (hfresh b x hx)]; exact hx
  have hnew : ∀ b x, upd D.own w.heap.size (some (.nn D.k)) b = some x → (b = w.heap.size ∧ x = .nn D.k) ∨ (b ≠ w.heap.size ∧ D.own b = some x) := fun b x hx => by
    by_cases e : b = w.heap.size
    · subst e; rw [upd_same] at hx; exact .inl ⟨rfl, (Option.some.inj hx).symm⟩
    · rw [upd_ne _ _ e] at hx; exact .inr ⟨e, hx⟩
  have hn0 : n0 ≤ w.heap.size := Nat.le_of_lt (Nat.lt_of_le_of_lt (H.lt _ _ H.oB).1 (H.lt _ _ H.oB).2)
  refine ⟨fun b x hx => ?_, fun b x hx => ?_, fun b x hx => ?_, hold _ _ H.oB, hold _ _ H.oS, fun i hi => hold _ _ (H.op i hi), fun i hi => hold _ _ (H.ot i hi), fun i hi => hold _ _ (H.or i hi), fun i hi => ?_, fun b e => hold _ _ (H.oo b e), row_same H.row fun g hg => heap_new_lt w _ (H.lt g _ (H.oo g hg)).2, H.n64, hk, H.hg0⟩
  · rcases hnew b x hx with ⟨rfl, rfl⟩ | ⟨hne, hx⟩
    · exact fun _ => heap_alloc_new w _
    · rw [heap_new_lt w _ (H.lt b x hx).2]
      have h := H.good b x hx
      cases x <;> exact h
  · rcases hnew b x hx with ⟨rfl, rfl⟩ | ⟨hne, hx⟩
    · omega
    · have := H.lt b x hx; omega
  · rcases hnew b x hx with ⟨rfl, rfl⟩ | ⟨hne, hx⟩
    · exact ⟨Nat.lt_succ_self _, (upd_same _ _ _).symm⟩
    · have h := H.ids b x hx
      cases x with
      | nn i =>
        have h1 : i < D.k := h.1
        exact ⟨Nat.lt_succ_of_lt h1, h.2.trans (upd_ne _ _ (by omega)).symm⟩
      | _ => exact h
  · by_cases e : i = D.k
    · subst e; simp only [upd_same]
    · simp only [upd_ne _ _ e]
      exact hold _ _ (H.oN i (by simp only at hi; omega))
theorem Sys.alloc (H : Sys S n0 D w) (o : Obj) : Sys S n0 D (w.alloc o) := H.same (by simp) fun b x hx => heap_new_lt w o (H.lt b x hx).2
theorem Sys.brk (H : Sys S n0 D w) {j : Nat} (hj : j < S.n) (x : Bool) : Sys S n0 { D with b := upd D.b j x } (w.setCell ⟨S.p j, 3, none⟩ (.bool x)) := by
  refine H.put rfl rfl rfl rfl rfl rfl (Nat.le_of_eq (size_set ..).symm) (fun b y hy h => ?_) fun b hb => ?_
  · by_cases e : b = S.p j
    · subst e
      rw [H.op j hj] at hy
      cases hy
      rw [heap_set_self w _ (H.pp hj)]
      simp [Good, upd_same]
    · rw [heap_set_other w _ b _ e]
      refine h.of_same (fun i hi => ⟨rfl, upd_ne _ _ fun ei => e ?_⟩) (fun _ => ⟨rfl, rfl, rfl, rfl⟩) fun i _ z => z
      subst hi; subst ei; exact (H.ids b _ hy).2
  · exact heap_set_other w _ b _ (H.two hb (H.op j hj) (by simp))
theorem Sys.ride (H : Sys S n0 D w) {j : Nat} (hj : j < D.k) (v : Value) : Sys S n0 { D with e := upd D.e j true } (w.setCell ⟨D.N j, 0, none⟩ v) := by
  refine H.put rfl rfl rfl rfl rfl rfl (Nat.le_of_eq (size_set ..).symm) (fun b y hy h => ?_) fun b hb => heap_set_other w _ b _ (H.two hb (H.oN j hj) (by simp))
  by_cases e : b = D.N j
  · subst e
    rw [H.oN j hj] at hy
    cases hy
    exact fun z => by simp only [upd_same] at z; cases z
  · rw [heap_set_other w _ b _ e]
    refine h.of_same (fun i _ => ⟨rfl, rfl⟩) (fun _ => ⟨rfl, rfl, rfl, rfl⟩) fun i _ z => ?_
    by_cases ei : i = j
    · subst ei; simp only [upd_same] at z; cases z
    · simpa only [upd_ne _ _ ei] using z
end
end Go.Proofs.Ytgiiicdpbdfemaa
end

section
namespace Go.Proofs.Ytgiiicdpbdfemaa
open Go.Conc Go.RowKit Go.Relay
variable {main : Bool} {V : Nat → Option Wait}
noncomputable def bornfr : Frame := { (default : Frame) with fn := Try.prog.funcs.size, defers := [], mode := .panicking [goexitEntry] }
noncomputable def def78 (r : Nat) : Deferred := { target := .builtin .close #[128] 0 #[false], args := #[.chan (some r)] }
noncomputable def ops78 : Array Oper := match Try.f78.body with | some (.seq _ (.region _ ops _)) => ops | _ => #[]
noncomputable def fr78 (p r : Nat) (F : Value) : Frame :=
  (baseD 78).at { tmps := #[.pointer (some ⟨p, 0, none⟩), F, undef, undef, .pointer (some ⟨p, 0, none⟩), .pointer (some ⟨p, 0, none⟩), .pointer (some ⟨p, 1, none⟩), .chan (some r), undef, .pointer (some ⟨p, 0, none⟩), F, .pointer (some ⟨p, 0, none⟩), .iface 161 (.pointer (some ⟨p, 0, none⟩)), undef, undef, undef, undef, undef], defers := [def78 r] } [.inRegion ops78 [4, 5, 6, 7, 8, 9, 10]]
noncomputable def rec78 (p r : Nat) (F : Value) (back broken : Bool) : Goroutine :=
  G { (baseD 78).at { tmps := #[.pointer (some ⟨p, 0, none⟩), F, undef, undef, .pointer (some ⟨p, 0, none⟩), .pointer (some ⟨p, 0, none⟩), .pointer (some ⟨p, 1, none⟩), .chan (some r), .tuple #[.bool back, .bool broken], .pointer (some ⟨p, 0, none⟩), F, .pointer (some ⟨p, 0, none⟩), .iface 161 (.pointer (some ⟨p, 0, none⟩)), .tuple #[.bool back, .bool broken], .bool back, .bool broken, .pointer (some ⟨p, 0, none⟩), .pointer (some ⟨p, 3, none⟩)], defers := [def78 r] } [] with mode := .returning } [bornfr]
theorem und161 : Try.prog.underlying 161 = some (.pointer 166) := by kernel_rfl
theorem run_iface161 (a : Option Addr) (w : World) : (Instr.makeInterface 161 (.pointer a)).run Try.prog w = .ok (.iface 161 (.pointer a)) w := by simp [Instr.makeInterface, run_underlying und161]
theorem ev_iface161 (a : Option Addr) (w : World) (es : Array Event) : (Instr.makeInterface 161 (.pointer a)).events Try.prog w es = es := by simp [Instr.makeInterface, run_underlying und161]
set_option maxHeartbeats 8000000 in
set_option maxRecDepth 100000 in
theorem run_enters {Stop : Goroutine → World → Prop} (p r : Nat) (F : Value) (w : World) (h1 : w.cell? ⟨p, 1, none⟩ = some (.chan (some r)))
    (hk : Walk Try.prog main (DR V) Stop (G (Frame.enter Try.prog 60 #[F, .iface 161 (.pointer (some ⟨p, 0, none⟩))] .normal) [fr78 p r F, bornfr]) w) :
    Walk Try.prog main (DR V) Stop (born Try.prog { target := .fn (.func 78) #[], args := #[.pointer (some ⟨p, 0, none⟩), F] }) w := by
  simp only [fr78, ops78, Try.f78] at hk
  refine Walk.ctl rfl (fun w => stepG_deferred (d := { target := .fn (.func 78) #[], args := #[.pointer (some ⟨p, 0, none⟩), F] }) (ds := []) (fr := { (default : Frame) with fn := Try.prog.funcs.size, defers := [{ target := .fn (.func 78) #[], args := #[.pointer (some ⟨p, 0, none⟩), F] }], mode := .panicking [goexitEntry] }) (cs := []) (by simp) rfl rfl Try.func78 (by kernel_rfl) (by rfl)) ?_
  simp only [Array.append_empty]
  rw [enter_atD _ Try.func78 rfl]
  simp only [Try.f78, List.size_toArray, List.length_cons, List.length_nil, Nat.reduceAdd, Nat.reduceSub, Array.replicate_succ, Array.replicate_zero, List.push_toArray, List.append_toArray, List.nil_append, List.cons_append]
  have hi1 := run_iface161
  have hi2 := ev_iface161
  repeat (first | refine Walk.c rfl ?_ | refine Walk.cR ?_ | refine Walk.cRet ?_ | refine Walk.cEnd ?_ | (refine Walk.oq ?_; try walk_nrm) | (refine Walk.un ?_; walk_nrm))
  refine Walk.ctl rfl (fun w' => stepG_deferOp (d := def78 r) rfl (by rfl) (by decide) (by simp [go_sem, execOp, Deferred.ofValue, def78]) (by simp [go_sem, execOp, Deferred.ofValue])) ?_
  walk_nrm
  repeat (first | refine Walk.c rfl ?_ | refine Walk.cR ?_ | refine Walk.cRet ?_ | refine Walk.cEnd ?_ | (refine Walk.oq ?_; try walk_nrm) | (refine Walk.un ?_; walk_nrm))
  refine Walk.ctl rfl (fun w => stepG_callValue (f := 60) (first := #[]) (cap := #[]) rfl (by rfl) (by decide) rfl rfl Try.func60 (by kernel_rfl) (by rfl)) ?_
  walk_nrm
  try simp only [Array.append_empty, Array.empty_append]
  exact hk
set_option maxHeartbeats 8000000 in
set_option maxRecDepth 100000 in
theorem run_out (p r : Nat) (F : Value) (back broken x : Bool) (w : World) (h3 : w.cell? ⟨p, 3, none⟩ = some (.bool x)) (hz : w.frozen? ⟨p, 3, none⟩ = false) (hfr : Free V ⟨p, 3, none⟩) :
    Walk Try.prog main (DR V) (fun g w' => g = rec78 p r F back broken ∧ ∃ d, w' = (w.setCell ⟨p, 3, none⟩ (.bool broken)).at d) (G ((fr78 p r F).finish (.tuple #[.bool back, .bool broken])) [bornfr]) w := by
  unfold fr78
  rw [Frame.finish_at]
  simp only [ops78, Try.f78]
  walk_nrm
  repeat (first | refine Walk.c rfl ?_ | refine Walk.cR ?_ | refine Walk.cRet ?_ | refine Walk.cEnd ?_ | (refine Walk.oq ?_; try walk_nrm) | (refine Walk.un ?_; walk_nrm))
  (refine Walk.os hfr h3 ?_; try walk_nrm)
  repeat (first | refine Walk.c rfl ?_ | refine Walk.cR ?_ | refine Walk.cRet ?_ | refine Walk.cEnd ?_ | (refine Walk.oq ?_; try walk_nrm) | (refine Walk.un ?_; walk_nrm))
  exact .stop fun d => ⟨rfl, d, rfl⟩
theorem close78 (p r : Nat) (F : Value) (back broken : Bool) (w : World) (k : Nat) (hc : w.heap[r]? = some (.chan 0 #[] false k k false)) :
    stepG Try.prog main (rec78 p r F back broken) w = .go (G { (rec78 p r F back broken).frame with defers := [] } [bornfr]) (w.setChan r 0 #[] true k k false) (closeEvents r) := by
  unfold rec78
  exact stepG_deferClose (ds := []) rfl rfl (by kernel_rfl) hc
theorem wake78 (p r : Nat) (F : Value) (back broken : Bool) : mayWake Try.prog (rec78 p r F back broken) = true := rfl
theorem quit78 (p r : Nat) (F : Value) (back broken : Bool) : QuitsD Try.prog 2 0 (G { (rec78 p r F back broken).frame with defers := [] } [bornfr]) := by
  refine QuitsD.ctl rfl (g' := G bornfr []) (fun w => ?_) (QuitsD.ctl rfl (g' := { frame := bornfr, callers := [], status := .finished, dying := none }) (fun w => ?_) ⟨rfl, rfl⟩)
  · have hr : (results Try.f78 (rec78 p r F back broken).frame.tmps).run Try.prog w = .ok (.tuple #[]) w := results_none rfl _ _ w
    have he : (results Try.f78 (rec78 p r F back broken).frame.tmps).events Try.prog w #[] = #[] := events_results_none rfl _ _
    simp only [rec78, Frame.at, baseD, G] at hr he ⊢
    simp [stepG, unwind, doReturn, Try.func78, hr, he, bornfr, goexitEntry, seen, GStep.after]
  · have h0 : (default : Frame).todo = [] := rfl
    simp [G, stepG, unwind, bornfr, goexitEntry, Frame.catches, h0]
end Go.Proofs.Ytgiiicdpbdfemaa
end

section
namespace Go.Proofs.Ytgiiicdpbdfemaa
open Go.Conc Go.RowKit Go.Relay
variable {main : Bool} {V : Nat → Option Wait}
noncomputable def ops139 : Array Oper := match Try.f139.body with | some (.seq (.region _ ops _) _) => ops | _ => #[]
noncomputable def rest139 : Code := match Try.f139.body with | some (.seq _ c) => c | _ => .skip
noncomputable def ops139r : Array Oper := match rest139 with | .seq (.region _ ops _) _ => ops | _ => #[]
noncomputable def rest139r : Code := match rest139 with | .seq _ c => c | _ => .skip
noncomputable def rec139s (p r : Nat) (cs : List Frame) : Goroutine :=
  G ((base 139).at { tmps := #[.pointer (some ⟨p, 0, none⟩), undef, undef, undef, .pointer (some ⟨p, 0, none⟩), .pointer (some ⟨p, 0, none⟩), .pointer (some ⟨p, 1, none⟩), .chan (some r), .agg #[], undef, undef, undef, undef, undef, undef, undef, undef, undef, undef, undef, undef], defers := [] } [.inRegion ops139 [5], .code rest139]) cs
noncomputable def rec139r (p r t : Nat) (cs : List Frame) : Goroutine :=
  G ((base 139).at { tmps := #[.pointer (some ⟨p, 0, none⟩), undef, undef, undef, .pointer (some ⟨p, 0, none⟩), .pointer (some ⟨p, 0, none⟩), .pointer (some ⟨p, 1, none⟩), .chan (some r), .agg #[], undef, .pointer (some ⟨p, 0, none⟩), .pointer (some ⟨p, 0, none⟩), .pointer (some ⟨p, 0, none⟩), .chan (some t), undef, undef, undef, undef, undef, undef, undef], defers := [] } [.inRegion ops139r [4, 5, 6, 7, 8, 9, 10], .code rest139r]) cs
set_option maxHeartbeats 4000000 in
set_option maxRecDepth 100000 in
theorem step_send {Stop : Goroutine → World → Prop} (p r : Nat) (cs : List Frame) (w : World) (h1 : w.cell? ⟨p, 1, none⟩ = some (.chan (some r))) (hk : Walk Try.prog main (DR V) Stop (rec139s p r cs) w) :
    Walk Try.prog main (DR V) Stop (G (Frame.enter Try.prog 139 #[.pointer (some ⟨p, 0, none⟩)] .normal) cs) w := by
  rw [enter_at _ Try.func139 rfl]
  unfold rec139s at hk
  simp only [ops139, rest139, Try.f139] at hk
  simp only [Try.f139, Option.getD_some, List.size_toArray, List.length_cons, List.length_nil, Nat.reduceAdd, Nat.reduceSub, Array.replicate_succ, Array.replicate_zero, List.push_toArray, List.append_toArray, List.nil_append, List.cons_append]
  repeat (first | refine Walk.c rfl ?_ | refine Walk.cR ?_ | refine Walk.cRet ?_ | refine Walk.cEnd ?_ | (refine Walk.oq ?_; try walk_nrm) | (refine Walk.un ?_; walk_nrm))
  exact hk
theorem send139 (p r : Nat) (cs : List Frame) (w : World) : ∃ z' es, (∀ e ∈ es, EvR V e) ∧ ∀ d, stepG Try.prog main (rec139s p r cs) (w.at d) = .comm (rec139s p r cs) #[scase r (.agg #[]) z'] true .send (w.at d) es := by
  refine ⟨.tuple #[], #[], by simp, fun d => ?_⟩
  unfold rec139s
  simp only [ops139, rest139, Try.f139]
  rw [stepG_comm (cases := #[scase r (.agg #[]) (.tuple #[])]) (blocking := true) (shape := .send) (w' := w.at d) rfl (by rfl) (by decide) (by simp [execOp, scase, Act.eval]), listed_none (by simp [go_sem, execOp, Act.eval])]
set_option maxHeartbeats 4000000 in
set_option maxRecDepth 100000 in
theorem way139 (p r t : Nat) (cs : List Frame) (v : Wait) (hch : v.ch = t) (hz : v.z = .agg #[]) (hok : v.ok = true) (hf : v.f ⟨p, 0, none⟩ = some (.chan (some t))) (hh : v.home (rec139r p r t cs)) : Yonder Try.prog main v (Go.Conc.served (rec139s p r cs) undef) := by
  unfold rec139r at hh
  simp only [ops139r, rest139r, rest139, Try.f139] at hh
  unfold rec139s
  rw [served_fr, Frame.finish_at]
  simp only [ops139, rest139, Try.f139]
  walk_nrm
  iterate 6 (try (first | refine Yonder.c rfl ?_ | refine Yonder.cR ?_ | refine Yonder.cE ?_ | refine Yonder.cT ?_ | (refine Yonder.oq ?_; try walk_nrm)))
  co_applyP Yonder.ld _ hf rfl (by rfl) (by decide) ?krun1 ?kev1 ?krest1; (case krun1 => (intro w hw K hK; have hcx := hw _ _ hf; go_simp; exact hK)); (case kev1 => (intro w hw e he; have hcx := hw _ _ hf; simp [go_sem, *] at he; exact he)); try walk_nrm
  exact Yonder.there rfl (by rfl) (by decide) (fun w => by simp [go_sem, execOp, rcase, Act.eval, hch, hz, hok]) (fun w => by simp [go_sem, execOp, Act.eval]) hh
set_option maxHeartbeats 4000000 in
set_option maxRecDepth 100000 in
theorem serve139 (p r t : Nat) (c : Frame) (cs : List Frame) (w : World) :
    Walk Try.prog main (DR V) (fun g w' => g = G (c.finish (.tuple #[])) cs ∧ ∃ d, w' = (w.alloc (.cells #[] 129)).at d) (Go.Conc.served (rec139r p r t (c :: cs)) (recvd true (.agg #[]) true)) w := by
  unfold rec139r
  rw [served_fr, Frame.finish_at]
  simp only [ops139r, rest139r, rest139, Try.f139, recvd, if_true]
  walk_nrm
  repeat (first | refine Walk.c rfl ?_ | refine Walk.cR ?_ | refine Walk.cRet ?_ | refine Walk.cEnd ?_ | (refine Walk.oq ?_; try walk_nrm) | (refine Walk.un ?_; walk_nrm))
  (refine Walk.oa ?_; try walk_nrm)
  repeat (first | refine Walk.c rfl ?_ | refine Walk.cR ?_ | refine Walk.cRet ?_ | refine Walk.cEnd ?_ | (refine Walk.oq ?_; try walk_nrm) | (refine Walk.un ?_; walk_nrm))
  exact Walk.ctl rfl (fun w => stepG_leave rfl rfl Try.func139 (results_none rfl _ _ w) (events_results_none rfl _ _)) (.stop fun d => ⟨rfl, d, rfl⟩)
noncomputable def rec139p (p r t N : Nat) (cs : List Frame) : Goroutine :=
  G { (base 139).at { tmps := #[.pointer (some ⟨p, 0, none⟩), undef, .pointer (some ⟨N, 0, none⟩), .bool false, .pointer (some ⟨p, 0, none⟩), .pointer (some ⟨p, 0, none⟩), .pointer (some ⟨p, 1, none⟩), .chan (some r), .agg #[], .tuple #[.agg #[], .bool false], .pointer (some ⟨p, 0, none⟩), .pointer (some ⟨p, 0, none⟩), .pointer (some ⟨p, 0, none⟩), .chan (some t), .tuple #[.agg #[], .bool false], .agg #[], .bool false, .bool false, .bool true, .agg #[], .iface 147 (.agg #[])], defers := [] }
    [.inRegion (match rest139r with | .seq _ (.cond _ (.region _ ops _) _) => ops | _ => #[]) [2]] with mode := .panicking [{ v := .iface 147 (.agg #[]), recovered := false }] } cs
theorem run_iface147 (w : World) : (Instr.makeInterface 147 (.agg #[])).run Try.prog w = .ok (.iface 147 (.agg #[])) w := by
  simp [Instr.makeInterface, run_underlying (show Try.prog.underlying 147 = some (.struct #[]) by kernel_rfl)]
theorem ev_iface147 (w : World) (es : Array Event) : (Instr.makeInterface 147 (.agg #[])).events Try.prog w es = es := by
  simp [Instr.makeInterface, run_underlying (show Try.prog.underlying 147 = some (.struct #[]) by kernel_rfl)]
set_option maxHeartbeats 4000000 in
set_option maxRecDepth 100000 in
theorem stop139 (p r t : Nat) (cs : List Frame) (w : World) :
    Walk Try.prog main (DR V) (fun g w' => g = rec139p p r t w.heap.size cs ∧ ∃ d, w' = (w.alloc (.cells #[] 129)).at d) (Go.Conc.served (rec139r p r t cs) (recvd true (.agg #[]) false)) w := by
  unfold rec139r
  rw [served_fr, Frame.finish_at]
  simp only [ops139r, rest139r, rest139, Try.f139, recvd, if_true]
  walk_nrm
  repeat (first | refine Walk.c rfl ?_ | refine Walk.cR ?_ | refine Walk.cRet ?_ | refine Walk.cEnd ?_ | (refine Walk.oq ?_; try walk_nrm) | (refine Walk.un ?_; walk_nrm))
  (refine Walk.oa ?_; try walk_nrm)
  have hi1 := run_iface147
  have hi2 := ev_iface147
  repeat (first | refine Walk.c rfl ?_ | refine Walk.cR ?_ | refine Walk.cRet ?_ | refine Walk.cEnd ?_ | (refine Walk.oq ?_; try walk_nrm) | (refine Walk.un ?_; walk_nrm))
  refine Walk.ctl rfl (fun w => stepG_raise (x := .iface 147 (.agg #[])) rfl (by rfl) (by decide) (by simp [go_sem, execOp, Act.eval, Instr.panic]) (by simp [go_sem, execOp, Act.eval, Instr.panic])) ?_
  refine .stop fun d => ⟨?_, d, rfl⟩
  simp only [rec139p, rest139r, rest139, Try.f139]
end Go.Proofs.Ytgiiicdpbdfemaa
end

section
namespace Go.Relay
open Go.Conc Go.RowKit
def Apart (V : Nat → Option Wait) (g : Nat) : Prop := (∀ a : Addr, a.block = g → Free V a) ∧ ∀ i u, V i = some u → u.ch ≠ g
section
variable {P : Program} {main : Bool} {V : Nat → Option Wait} {Stop : Goroutine → World → Prop} {w : World} {b : Frame} {a : Act} {k : List Item} {cs : List Frame} {ops : Array Oper} {i : Nat} {rest : List Nat} {o : Oper}
theorem evR_isRead {e : Event} (h : e.isRead) : EvR V e := by
  obtain ⟨ad, hl, hw⟩ := h
  obtain ⟨l, wr, s⟩ := e
  simp only at hl hw
  subst hl; subst hw
  exact evR_read ad s
theorem evR_cell {e : Event} {ad : Addr} (h : e.loc = .cell ad) (hf : Free V ad) : EvR V e := by
  obtain ⟨l, wr, s⟩ := e
  simp only at h
  subst h
  cases wr with
  | true => exact evR_write ad s hf
  | false => exact evR_read ad s
theorem evR_noRoom : EvR V ⟨.mark .noRoom, false, true⟩ := ⟨fun x hx => (by simp [MemAct.ofEvent, MemAct.touch?] at hx), by simp, by simp⟩
theorem DR.grown {w w' : World} {es : Array Event} {row : Option Nat} (hg : w.grownBy w' row) (hr : ∀ g, row = some g → Apart V g) (he : ∀ e ∈ es, EvR V e) : DR V w w' es := by
  refine ⟨fun i v e hK ad z hz => ?_, fun i v o e ho _ => ?_, he, ⟨hg.os, hg.output⟩⟩
  · have hc := hK ad z hz
    have hlt := cell_lt w hc
    rw [World.cell?_of_block (hg.block _ hlt fun e' => ?_)]
    · exact hc
    · rw [(hr _ e'.symm).1 ad rfl i v e] at hz; cases hz
  · rw [hg.block _ (Array.getElem?_eq_some_iff.1 ho).1 fun e' => (hr _ e'.symm).2 i v e rfl]
    exact ho
theorem Walk.append (s x : Operand) (t : TypeId) (ho : ops[i]? = some o) (hw : Region.wanted o (yielded ops a.tmps) = true) (hk : b.kind ≠ .early) (hop : o.op = .call { callee := .builtin .append, args := #[s, x], argTypes := #[t, t] })
    (base : Nat) (e : TypeId) (ti : TypeInfo) (z : Value) (size bytes : Nat) (ht : P.underlying t = some (.slice e)) (hi : P.info? e = some ti) (hz : ti.zero = some z) (hsize : ti.size = size) (hby : ti.bytes = bytes) (hzs : z.cells.size = size) (hsz : 0 < size)
    (v : Value) (n : Nat) (xs : List Value) (hs : a.eval s = v) (hown : w.ownsRow base e size v n xs)
    (ad : Addr) (m c : Nat) (news : List Value) (hx : a.eval x = .slice (some ad) m c) (hl : news.length = m * size) (hnews : ∀ j u, news[j]? = some u → w.cell? (ad.add j) = some u) (h1 : ∀ u ∈ news, u.oneCell' = true)
    (hm : 0 < m) (h63 : n + m ≤ maxLen) (hbytes : (n + m) * bytes ≤ 140737488355328) (hbase : base ≤ w.heap.size) (hap : ∀ g, v.ownBlock = some g → Apart V g)
    (h : ∀ g cap w', w'.ownsRow base e size (.slice (some ⟨g, 0, none⟩) (n + m) cap) (n + m) (xs ++ news) → w.grownBy w' v.ownBlock → (v.ownBlock = some g ∨ g = w.heap.size) → g < w'.heap.size →
      Walk P main (DR V) Stop (G (b.at (a.put o.dst (.slice (some ⟨g, 0, none⟩) (n + m) cap)) (.inRegion ops rest :: k)) cs) w') :
    Walk P main (DR V) Stop (G (b.at a (.inRegion ops (i :: rest) :: k)) cs) w := by
  refine Walk.go rfl fun d => goes_oper_k ho hw hk fun K hK => ?_
  obtain ⟨g, cap, w', hr, hown', hg, hat, hlt⟩ := run_append_lies (P := P) (w := w.at d) t o.type base e ti z size bytes ht hi hz hsize hby hzs hsz v n xs hown ad m c news hl hnews h1 hm h63 hbytes hbase w.heap.size rfl
  refine uponK_append s x t hop hs hx hr (hK _ _ ⟨DR.grown hg hap fun ev hev => ?_, h g cap w' hown' ⟨hg.os, hg.tape, hg.output, hg.size, hg.block⟩ hat hlt⟩)
  have hm' := mem_listed hev
  rw [events_append_op s x t hop hs hx] at hm'
  rcases events_append_own (w.at d) base t o.type e ti z size bytes ht hi hz hsize hby v n xs hown ad m c news hl hnews h1 h63 hbytes ev hm' with h' | ⟨ad', h', hb⟩ | ⟨mk, h', hn⟩
  · exact evR_isRead h'
  · exact evR_cell h' ((hap _ hb.symm).1 ad' rfl)
  · rw [h', show mk = .noRoom from hn]; exact evR_noRoom
end
end Go.Relay
end

section
namespace Go.Proofs.Ytgiiicdpbdfemaa
open Go.Conc Go.RowKit Go.Relay
open Go.ConcN (upd upd_ne upd_same)
noncomputable def bot (S : Stile) (N j : Nat) : List Frame := [fr60 N (S.F j) (.iface 161 (.pointer (some ⟨S.p j, 0, none⟩))), fr78 (S.p j) (S.r j) (S.F j), bornfr]
open Classical in
noncomputable def wT (S : Stile) (D : Dyn) (i : Nat) : Wait where
  ch := S.t i
  z := .agg #[]
  ok := true
  home := fun g => g = rec139r (S.p i) (S.r i) (S.t i) (D.cs i ++ bot S (D.N i) i)
  f := fun a => if a = ⟨S.p i, 0, none⟩ then some (.chan (some (S.t i))) else none
noncomputable def VV (S : Stile) (D : Dyn) (m : Option Wait) (x : Option Nat) : Nat → Option Wait := fun g =>
  if g = 0 then m else if S.g0 ≤ g ∧ g < S.g0 + D.k ∧ D.e (g - S.g0) = false ∧ x ≠ some (g - S.g0) then some (wT S D (g - S.g0)) else none
structure MW (S : Stile) (j : Nat) (v : Wait) : Prop where
  ch : v.ch = S.r j
  z : v.z = .agg #[]
  ok : v.ok = true
  f : ∀ a, v.f a ≠ none → a = ⟨S.B, 0, none⟩ ∨ (∃ i, a = ⟨S.sb, i, none⟩) ∨ a = ⟨S.p j, 1, none⟩ ∨ a = ⟨S.p j, 2, none⟩
section
variable {S : Stile} {n0 : Nat} {D D' : Dyn} {w w' : World} {j nG : Nat} {mw : Wait} {m : Machine} {T : Trace} {l : List Frame}
theorem upd_eq {α : Type} (f : Nat → α) {j : Nat} {v : α} (h : f j = v) : upd f j v = f := by
  funext i
  by_cases e : i = j
  · subst e; rw [upd_same, h]
  · exact upd_ne _ _ e
theorem ite_iff {α : Type} {c d : Prop} [Decidable c] [Decidable d] {a b : α} (h : c ↔ d) : (if c then a else b) = if d then a else b := by
  by_cases hd : d
  · rw [if_pos hd, if_pos (h.2 hd)]
  · rw [if_neg hd, if_neg (fun z => hd (h.1 z))]
theorem VV_zero (o : Option Wait) (x : Option Nat) : VV S D o x 0 = o := by simp [VV]
theorem VV_at {o : Option Wait} {x : Option Nat} (hg : 1 ≤ S.g0) {i : Nat} (hi : i < D.k) (he : D.e i = false) (hx : x ≠ some i) : VV S D o x (S.g0 + i) = some (wT S D i) := by
  have h0 : S.g0 + i ≠ 0 := by omega
  have h1 : S.g0 + i - S.g0 = i := by omega
  unfold VV
  rw [if_neg h0, h1, if_pos ⟨by omega, by omega, he, hx⟩]
theorem VV_some {o : Option Wait} {x : Option Nat} {g : Nat} {v : Wait} (h : VV S D o x g = some v) : (g = 0 ∧ o = some v) ∨ ∃ i, i < D.k ∧ D.e i = false ∧ x ≠ some i ∧ g = S.g0 + i ∧ v = wT S D i := by
  unfold VV at h
  by_cases h0 : g = 0
  · rw [if_pos h0] at h; exact .inl ⟨h0, h⟩
  · rw [if_neg h0] at h
    by_cases hc : S.g0 ≤ g ∧ g < S.g0 + D.k ∧ D.e (g - S.g0) = false ∧ x ≠ some (g - S.g0)
    · rw [if_pos hc] at h
      cases h
      exact .inr ⟨g - S.g0, by omega, hc.2.2.1, hc.2.2.2, by omega, rfl⟩
    · rw [if_neg hc] at h; cases h
theorem VV_eq {o : Option Wait} {x : Option Nat} (hk : D'.k = D.k) (he : ∀ i, i < D.k → x ≠ some i → D'.e i = D.e i ∧ D'.cs i = D.cs i ∧ D'.N i = D.N i) : VV S D' o x = VV S D o x := by
  funext g
  unfold VV
  by_cases h0 : g = 0
  · rw [if_pos h0, if_pos h0]
  · rw [if_neg h0, if_neg h0, hk]
    by_cases hc : S.g0 ≤ g ∧ g < S.g0 + D.k ∧ x ≠ some (g - S.g0)
    · obtain ⟨h1, h2, h3⟩ := he (g - S.g0) (by omega) hc.2.2
      have : wT S D' (g - S.g0) = wT S D (g - S.g0) := by simp only [wT, h2, h3]
      rw [h1, this]
    · rw [if_neg (fun z => hc ⟨z.1, z.2.1, z.2.2.2⟩), if_neg (fun z => hc ⟨z.1, z.2.1, z.2.2.2⟩)]
theorem after_main : after (VV S D none none) 0 (S.g0 + j) (some mw) = VV S D (some mw) (some j) ∨ S.g0 + j = 0 := by
  by_cases hz : S.g0 + j = 0
  · exact .inr hz
  refine .inl (funext fun g => ?_)
  unfold after VV
  by_cases e1 : g = S.g0 + j
  · subst e1
    rw [upd_same, if_neg hz, if_neg]
    rintro ⟨_, _, _, h⟩
    exact h (by rw [Nat.add_sub_cancel_left])
  · rw [upd_ne _ _ e1]
    by_cases e0 : g = 0
    · subst e0; rw [upd_same, if_pos rfl]
    · rw [upd_ne _ _ e0, if_neg e0, if_neg e0]
      refine ite_iff ⟨fun h => ⟨h.1, h.2.1, h.2.2.1, fun z => ?_⟩, fun h => ⟨h.1, h.2.1, h.2.2.1, by simp⟩⟩
      have := Option.some.inj z; omega
theorem after_back {D' : Dyn} {new : Option Wait} (hj : j < D.k) (hk : D'.k = D.k) (he : ∀ i, i < D.k → i ≠ j → D'.e i = D.e i ∧ D'.cs i = D.cs i ∧ D'.N i = D.N i) (hn : new = if D'.e j = false then some (wT S D' j) else none) :
    after (VV S D (some mw) (some j)) (S.g0 + j) 0 new = VV S D' none none := by
  rw [← VV_eq (D' := D') hk fun i hi hx => he i hi fun e => hx (e ▸ rfl)]
  funext g
  unfold after VV
  by_cases e0 : g = 0
  · subst e0; rw [upd_same, if_pos rfl]
  · rw [upd_ne _ _ e0, if_neg e0]
    by_cases e1 : g = S.g0 + j
    · subst e1
      rw [upd_same, hn, Nat.add_sub_cancel_left]
      by_cases hd : D'.e j = false
      · rw [if_pos hd, if_pos ⟨by omega, by omega, hd, by simp⟩]
      · rw [if_neg hd, if_neg (fun z => hd z.2.2.1)]
    · rw [upd_ne _ _ e1, if_neg e0]
      refine ite_iff ⟨fun h => ⟨h.1, h.2.1, h.2.2.1, by simp⟩, fun h => ⟨h.1, h.2.1, h.2.2.1, fun z => ?_⟩⟩
      have := Option.some.inj z; omega
theorem upd_hire (hk : D'.k = D.k + 1) (he : ∀ i, i < D.k → D'.e i = D.e i ∧ D'.cs i = D.cs i ∧ D'.N i = D.N i) : upd (VV S D none none) 0 (some mw) = VV S D' (some mw) (some D.k) := by
  funext g
  unfold VV
  by_cases e0 : g = 0
  · subst e0; rw [upd_same, if_pos rfl]
  · rw [upd_ne _ _ e0, if_neg e0, if_neg e0]
    by_cases hc : S.g0 ≤ g ∧ g < S.g0 + D.k
    · obtain ⟨h1, h2, h3⟩ := he (g - S.g0) (by omega)
      have : wT S D' (g - S.g0) = wT S D (g - S.g0) := by simp only [wT, h2, h3]
      rw [this, h1]
      refine ite_iff ⟨fun h => ⟨h.1, by omega, h.2.2.1, fun z => ?_⟩, fun h => ⟨h.1, by omega, h.2.2.1, by simp⟩⟩
      have := Option.some.inj z; omega
    · rw [if_neg (fun z => hc ⟨z.1, z.2.1⟩), if_neg]
      rintro ⟨h1, h2, _, h4⟩
      exact h4 (congrArg some (by omega))
theorem VV_free {o : Option Wait} {x : Option Nat} {a : Addr} (hm : ∀ v, o = some v → v.f a = none) (ha : ∀ i, i < D.k → a ≠ ⟨S.p i, 0, none⟩) : Free (VV S D o x) a := by
  intro g v h
  rcases VV_some h with ⟨_, h⟩ | ⟨i, hi, _, _, _, rfl⟩
  · exact hm v h
  · simp only [wT]; rw [if_neg (ha i hi)]
theorem MW.free (hm : MW S j mw) {a : Addr} (h1 : a ≠ ⟨S.B, 0, none⟩) (h2 : ∀ i, a ≠ ⟨S.sb, i, none⟩) (h3 : a ≠ ⟨S.p j, 1, none⟩) (h4 : a ≠ ⟨S.p j, 2, none⟩) : mw.f a = none := by
  refine Classical.byContradiction fun h => ?_
  rcases hm.f a h with z | ⟨i, z⟩ | z | z
  · exact h1 z
  · exact h2 i z
  · exact h3 z
  · exact h4 z
theorem VV_apart {x : Option Nat} {o : Option Wait} (H : Sys S n0 D w) (hj : j < S.n) (hm : ∀ v, o = some v → MW S j v) {b : Nat} (hb : D.own b = none) : Apart (VV S D o x) b := by
  have hne : ∀ b' x, D.own b' = some x → b ≠ b' := fun b' x h e => by subst e; rw [hb] at h; cases h
  refine ⟨fun a ha => VV_free (fun v hv => (hm v hv).free ?_ ?_ ?_ ?_) ?_, fun g u h => ?_⟩
  · rintro rfl; exact hne _ _ H.oB ha.symm
  · rintro i rfl; exact hne _ _ H.oS ha.symm
  · rintro rfl; exact hne _ _ (H.op j hj) ha.symm
  · rintro rfl; exact hne _ _ (H.op j hj) ha.symm
  · rintro i hi rfl; exact hne _ _ (H.op i (Nat.lt_of_lt_of_le hi H.kn)) ha.symm
  · rcases VV_some h with ⟨_, h⟩ | ⟨i, hi, _, _, _, rfl⟩
    · rw [(hm u h).ch]; exact (hne _ _ (H.or j hj)).symm
    · exact (hne _ _ (H.ot i (Nat.lt_of_lt_of_le hi H.kn))).symm
theorem thr_main (H : Sys S n0 D w) (j : Nat) : (S.g0 + j == 0) = false := by
  have := H.hg0
  simp; omega
theorem give_back (H : Sys S n0 D w) (hj : j < D.k) (he : D.e j = false) (hn : 0 < nG) (hm : MW S j mw) (A : At Try.prog (VV S D (some mw) (some j)) (S.g0 + j) nG (rec139s (S.p j) (S.r j) (l ++ bot S (D.N j) j)) w m T) :
    Relay.Comes Try.prog (fun m' T' => ∃ g₂ d k, mw.home g₂ ∧ w.heap[S.r j]? = some (.chan 0 #[] false k k false) ∧ At Try.prog (VV S { D with cs := upd D.cs j l } none none) 0 nG (Go.Conc.served g₂ (recvd true (.agg #[]) true)) ((w.at d).setChan (S.r j) 0 #[] false (k + 1) (k + 1) false) m' T') m T := by
  have hjn : j < S.n := Nat.lt_of_lt_of_le hj H.kn
  have hg0 := H.hg0
  obtain ⟨z', es, hes, hs⟩ := send139 (main := S.g0 + j == 0) (V := VV S D (some mw) (some j)) (S.p j) (S.r j) (l ++ bot S (D.N j) j) w
  refine (A.give (v := mw) (x := .agg #[]) (j := 0) (new := some (wT S { D with cs := upd D.cs j l } j)) (by omega) hn (VV_zero _ _) rfl (by rw [hm.ch]; exact hs) hes ⟨?_, ?_, ?_, ?_⟩).mono ?_
  · intro a y hy
    simp only [wT] at hy
    by_cases ea : a = ⟨S.p j, 0, none⟩
    · rw [if_pos ea] at hy; cases hy; subst ea; exact H.p0 hjn
    · rw [if_neg ea] at hy; cases hy
  · exact H.good _ _ (H.ot j hjn) he
  · intro i u hi hu
    rcases VV_some hu with ⟨z, _⟩ | ⟨i', hi', _, hx, _, rfl⟩
    · exact absurd z hi
    · exact H.two (H.ot i' (Nat.lt_of_lt_of_le hi' H.kn)) (H.ot j hjn) fun e => hx (by cases e; rfl)
  · refine (way139 (S.p j) (S.r j) (S.t j) (l ++ bot S (D.N j) j) _ rfl rfl rfl (by simp [wT]) ?_).waits
    simp only [wT, upd_same]
  · rintro m' T' ⟨g₂, d, k, hh, hc, A'⟩
    refine ⟨g₂, d, k, hh, hm.ch ▸ hc, ?_⟩
    rw [after_back (D' := { D with cs := upd D.cs j l }) hj rfl (fun i _ hi => ⟨rfl, upd_ne _ _ hi, rfl⟩) (by rw [if_pos he]), hm.ch, hm.ok] at A'
    exact A'
theorem shut_back (H : Sys S n0 D w) (hj : j < D.k) (he : D.e j = true) (hn : 0 < nG) (hm : MW S j mw) {F : Value} {bk br : Bool} (A : At Try.prog (VV S D (some mw) (some j)) (S.g0 + j) nG (rec78 (S.p j) (S.r j) F bk br) w m T) :
    Relay.Comes Try.prog (fun m' T' => ∃ g₂ d k, mw.home g₂ ∧ At Try.prog (VV S D none none) 0 nG (Go.Conc.served g₂ (recvd true (.agg #[]) false)) ((w.at d).setChan (S.r j) 0 #[] true k k false) m' T') m T := by
  have hg0 := H.hg0
  refine (A.shut (v := mw) (j := 0) (new := none) (a' := G { (rec78 (S.p j) (S.r j) F bk br).frame with defers := [] } [bornfr]) (by omega) hn (VV_zero _ _) rfl (wake78 ..) rfl (fun d k hk => ?_) ⟨by omega, 2, quit78 ..⟩).mono ?_
  · rw [hm.ch] at hk ⊢
    exact close78 _ _ _ _ _ _ k hk
  · rintro m' T' ⟨g₂, d, k, hh, A'⟩
    refine ⟨g₂, d, k, hh, ?_⟩
    rw [after_back (D' := D) hj rfl (fun i _ hi => ⟨rfl, rfl, rfl⟩) (by rw [he]; rfl), hm.ch, hm.ok, hm.z] at A'
    exact A'
end
end Go.Proofs.Ytgiiicdpbdfemaa
end

section
namespace Go.Proofs.Ytgiiicdpbdfemaa
open Go.Conc Go.RowKit Go.Relay
open Go.ConcN (upd upd_ne upd_same)
structure Keeps (o o' : Nat → Option Role) (w w' : World) : Prop where
  size : w.heap.size ≤ w'.heap.size
  same : ∀ b, b < w.heap.size → o b = none → o' b = none ∧ w'.heap[b]? = w.heap[b]?
theorem Keeps.refl (o : Nat → Option Role) (w : World) : Keeps o o w w := ⟨Nat.le_refl _, fun _ _ h => ⟨h, rfl⟩⟩
theorem Keeps.trans {o o' o'' : Nat → Option Role} {w w' w'' : World} (h : Keeps o o' w w') (k : Keeps o' o'' w' w'') : Keeps o o'' w w'' :=
  ⟨Nat.le_trans h.size k.size, fun b hb ho => by
    obtain ⟨h1, h2⟩ := h.same b hb ho
    obtain ⟨k1, k2⟩ := k.same b (Nat.lt_of_lt_of_le hb h.size) h1
    exact ⟨k1, k2.trans h2⟩⟩
theorem Keeps.at {o o' : Nat → Option Role} {w w' : World} (h : Keeps o o' w w') (d : Nat) : Keeps o o' w (w'.at d) := ⟨h.size, h.same⟩
theorem Keeps.alloc (o : Nat → Option Role) (w : World) (x : Obj) : Keeps o o w (w.alloc x) := ⟨by simp, fun b hb ho => ⟨ho, heap_new_lt w x hb⟩⟩
theorem Keeps.set {o : Nat → Option Role} {w : World} {a : Addr} {r : Role} (v : Value) (h : o a.block = some r) : Keeps o o w (w.setCell a v) :=
  ⟨Nat.le_of_eq (size_set ..).symm, fun b _ ho => ⟨ho, heap_set_other w a b v fun e => by subst e; rw [h] at ho; cases ho⟩⟩
theorem Keeps.chan {o : Nat → Option Role} {w : World} {c : Nat} {r : Role} (h : o c = some r) (cl : Bool) (k : Nat) : Keeps o o w (w.setChan c 0 #[] cl k k false) :=
  ⟨by simp [World.setChan], fun b _ ho => ⟨ho, heap_setChan_ne w _ _ _ _ _ _ fun e => by subst e; rw [h] at ho; cases ho⟩⟩
def Plain (f : Frame) : Prop := f.defers = [] ∧ f.mode = .run ∧ ∃ fn, Try.prog.funcs[f.fn]? = some fn
def Fin {X : Type} (inv : Nat → (Nat → Option Role) → X → (Nat → List Frame) → World → Prop) (out : X → Nat → Option Bool) (S : Stile) (k : Nat) (o : Nat → Option Role) (x : X) (cs : Nat → List Frame) (i : Nat) (f : Frame) (fs : List Frame) (w : World) (g : Goroutine) (w' : World) : Prop :=
  w.heap.size ≤ w'.heap.size ∧ (∀ b r, o b = some r → w'.heap[b]? = w.heap[b]?) ∧ ∃ l, inv k o x (upd cs i l) w' ∧
    ((out x i = none ∧ g = G (Frame.enter Try.prog 139 #[.pointer (some ⟨S.p i, 0, none⟩)] .normal) (l ++ f :: fs)) ∨
     (out x i = some false ∧ g = G (f.finish (.tuple #[])) fs) ∨
     (out x i = some true ∧ ∃ t v, t ≠ 147 ∧ g = G (f.raise [{ v := .iface t v, recovered := false }]) fs))
structure Crew (S : Stile) (X : Type) where
  inv : Nat → (Nat → Option Role) → X → (Nat → List Frame) → World → Prop
  born : X → Nat → X
  next : X → Nat → X
  out : X → Nat → Option Bool
  cnt : X → Nat
  cntBorn : ∀ x i, cnt (born x i) = cnt x
  cntNext : ∀ x i, cnt (next x i) = cnt x + 1
  keep : ∀ {k : Nat} {o o' : Nat → Option Role} {x : X} {cs : Nat → List Frame} {w w' : World}, inv k o x cs w → Keeps o o' w w' → inv k o' x cs w'
  bornOut : ∀ x i j, j ≠ i → out (born x i) j = out x j
  nextOut : ∀ x i j, j ≠ i → out (next x i) j = out x j
  shape : ∀ {k : Nat} {o : Nat → Option Role} {x : X} {cs : Nat → List Frame} {w : World} {i : Nat}, inv k o x cs w → i < k → out x i = none → (∃ c l, cs i = c :: l) ∧ ∀ f ∈ cs i, Plain f
  thr : ∀ {k : Nat} {o : Nat → Option Role} {x : X} {cs : Nat → List Frame} {w : World} {i : Nat}, inv k o x cs w → k ≤ i → i < S.n → w.cell? ⟨S.tb, i, none⟩ = some (S.F i)
  sch : ∀ {k : Nat} {o : Nat → Option Role} {x : X} {cs : Nat → List Frame} {w : World} {j : Nat} {z : Int}, inv k o x cs w → S.sl[j]? = some z → ∃ s so, S.sa = some ⟨s, so, none⟩ ∧ w.cell? ⟨s, so + j, none⟩ = some (.int .i64 z)
  start : ∀ {k : Nat} {o : Nat → Option Role} {x : X} {cs : Nat → List Frame} {w : World} {V : Nat → Option Wait} (f : Frame) (fs : List Frame), inv k o x cs w → k < S.n → cnt x < 1048576 → (∀ b, o b = none → Apart V b) → (∀ b r, o b = some r → b < w.heap.size) →
    (∃ fi fn first cap, S.F k = .func (.func fi) first cap ∧ Try.prog.funcs[fi]? = some fn ∧ (fn.name == "runtime.NumGoroutine") = false ∧ fn.body.isNone = false ∧
      Walk Try.prog false (DR V) (Fin inv out S (k + 1) o (born x k) cs k f fs w) (G (Frame.enter Try.prog fi (first ++ #[.iface 161 (.pointer (some ⟨S.p k, 0, none⟩))] ++ cap) .normal) (f :: fs)) w) ∨
    (S.F k = .nilFunc ∧ out (born x k) k = some false ∧ inv (k + 1) o (born x k) (upd cs k []) w)
  go : ∀ {k : Nat} {o : Nat → Option Role} {x : X} {cs : Nat → List Frame} {w : World} {V : Nat → Option Wait} {i : Nat} {c : Frame} {l : List Frame} (f : Frame) (fs : List Frame), inv k o x cs w → i < k → out x i = none → cs i = c :: l → cnt x < 1048576 → (∀ b, o b = none → Apart V b) → (∀ b r, o b = some r → b < w.heap.size) →
    Walk Try.prog false (DR V) (Fin inv out S k o (next x i) cs i f fs w) (G (c.finish (.tuple #[])) (l ++ f :: fs)) w
def handed (D : Dyn) (j : Nat) (l : List Frame) (o : Option Bool) : Dyn := { D with cs := upd D.cs j l, e := upd D.e j o.isSome, b := upd D.b j (o == some true) }
section
variable {S : Stile} {n0 : Nat} {D D' : Dyn} {w w' : World} {j nG : Nat} {mw : Wait} {m : Machine} {T : Trace} {l : List Frame}
theorem Sys.cs (H : Sys S n0 D w) (c : Nat → List Frame) : Sys S n0 { D with cs := c } w :=
  H.put rfl rfl rfl rfl rfl rfl (Nat.le_refl _) (fun b x _ h => by cases x <;> exact h) fun _ _ => rfl
theorem free_thr (H : Sys S n0 D w) (hj : j < S.n) (hm : MW S j mw) {b i : Nat} {r : Role} (hb : D.own b = some r) (hr : (∃ a, r = .nn a) ∨ (r = .p j ∧ i = 3)) : Free (VV S D (some mw) (some j)) ⟨b, i, none⟩ := by
  have hne : ∀ b' x i', D.own b' = some x → r ≠ x → (⟨b, i, none⟩ : Addr) ≠ ⟨b', i', none⟩ := fun b' x i' h hx e => H.two hb h hx (congrArg Addr.block e)
  have hoff : r = .p j ∧ i = 3 → ∀ b' i', i' ≠ 3 → (⟨b, i, none⟩ : Addr) ≠ ⟨b', i', none⟩ := fun h b' i' h' e => h' ((congrArg Addr.off e).symm.trans h.2)
  refine VV_free (fun v hv => ?_) fun i' hi' => ?_
  · cases hv
    refine hm.free ?_ ?_ ?_ ?_
    · exact hne _ _ _ H.oB (by rcases hr with ⟨a, rfl⟩ | ⟨rfl, _⟩ <;> simp)
    · exact fun i' => hne _ _ _ H.oS (by rcases hr with ⟨a, rfl⟩ | ⟨rfl, _⟩ <;> simp)
    · rcases hr with ⟨a, rfl⟩ | h
      · exact hne _ _ _ (H.op j hj) (by simp)
      · exact hoff h _ _ (by omega)
    · rcases hr with ⟨a, rfl⟩ | h
      · exact hne _ _ _ (H.op j hj) (by simp)
      · exact hoff h _ _ (by omega)
  · rcases hr with ⟨a, rfl⟩ | h
    · exact hne _ _ _ (H.op i' (Nat.lt_of_lt_of_le hi' H.kn)) (by simp)
    · exact hoff h _ _ (by omega)
theorem ended_back (H : Sys S n0 D w) (hj : j < D.k) (hn : 0 < nG) (hm : MW S j mw) (br : Bool) {g : Goroutine} {W : World} (hKW : Keeps D.own D.own w W) (HW : Sys S n0 { D with e := upd D.e j true } W)
    (hW : Walk Try.prog (S.g0 + j == 0) (DR (VV S D (some mw) (some j))) (fun g w' => ∃ bk, g = G ((fr78 (S.p j) (S.r j) (S.F j)).finish (.tuple #[.bool bk, .bool br])) [bornfr] ∧ ∃ d, w' = W.at d) g w)
    (A : At Try.prog (VV S D (some mw) (some j)) (S.g0 + j) nG g w m T) (l : List Frame) :
    Relay.Comes Try.prog (fun m' T' => ∃ g₂ w', mw.home g₂ ∧ At Try.prog (VV S (handed D j l (some br)) none none) 0 nG (Go.Conc.served g₂ (recvd true (.agg #[]) false)) w' m' T' ∧ Sys S n0 (handed D j l (some br)) w' ∧ Keeps D.own D.own w w') m T := by
  have hjn : j < S.n := Nat.lt_of_lt_of_le hj H.kn
  refine (At.walk (Stop := fun g w' => ∃ bk d, g = rec78 (S.p j) (S.r j) (S.F j) bk br ∧ w' = (W.setCell ⟨S.p j, 3, none⟩ (.bool br)).at d) (hW.then ?_) A).bind ?_
  · rintro g' w' ⟨bk, rfl, d, rfl⟩
    refine Walk.back ?_ d
    refine (run_out (S.p j) (S.r j) (S.F j) bk br (D.b j) W (HW.p3 hjn) (HW.pz hjn 3) (free_thr H hjn hm (H.op j hjn) (.inr ⟨rfl, rfl⟩))).mono ?_
    rintro g w' ⟨rfl, d, rfl⟩
    exact ⟨bk, d, rfl, rfl⟩
  · rintro m' T' ⟨g', w', ⟨bk, d, rfl, rfl⟩, A'⟩
    have hb : (some br == some true) = br := by cases br <;> rfl
    have H2 : Sys S n0 (handed D j l (some br)) ((W.setCell ⟨S.p j, 3, none⟩ (.bool br)).at d) := by
      have := ((HW.brk hjn br).cs (upd D.cs j l)).at d
      simpa only [handed, Option.isSome_some, hb] using this
    have hV : VV S (handed D j l (some br)) (some mw) (some j) = VV S D (some mw) (some j) := VV_eq rfl fun i _ hx => by
      have : i ≠ j := fun e => hx (e ▸ rfl)
      simp only [handed, upd_ne _ _ this, and_self]
    rw [← hV] at A'
    refine (shut_back H2 hj (by simp only [handed, upd_same, Option.isSome_some]) hn hm A').mono ?_
    rintro m2 T2 ⟨g₂, d2, k, hh, A2⟩
    refine ⟨g₂, _, hh, A2, (H2.at d2).shut (j := j) (by simp only [handed, upd_same, Option.isSome_some]) (.inr (H.or j hjn)), ?_⟩
    exact hKW.trans (((Keeps.set _ (H.op j hjn)).at d).trans ((Keeps.at (Keeps.refl _ _) d2).trans (Keeps.chan (H.or j hjn) true k)))
end
section
variable {S : Stile} {X : Type} {C : Crew S X} {n0 : Nat} {D D' : Dyn} {w w' : World} {j nG : Nat} {mw : Wait} {m : Machine} {T : Trace} {l : List Frame} {x : X}
theorem fin_back {w0 : World} {g : Goroutine} (H : Sys S n0 D w) (hj : j < D.k) (he : D.e j = false) (hb : D.b j = false) (hn : 0 < nG) (hm : MW S j mw)
    (hF : Fin C.inv C.out S D.k D.own x D.cs j (fr60 (D.N j) (S.F j) (.iface 161 (.pointer (some ⟨S.p j, 0, none⟩)))) [fr78 (S.p j) (S.r j) (S.F j), bornfr] w0 g w)
    (A : At Try.prog (VV S D (some mw) (some j)) (S.g0 + j) nG g w m T) :
    Relay.Comes Try.prog (fun m' T' => ∃ g₂ w' l, mw.home g₂ ∧ At Try.prog (VV S (handed D j l (C.out x j)) none none) 0 nG (Go.Conc.served g₂ (recvd true (.agg #[]) (C.out x j).isNone)) w' m' T' ∧ Sys S n0 (handed D j l (C.out x j)) w' ∧ C.inv D.k D.own x (upd D.cs j l) w') m T := by
  have hjn : j < S.n := Nat.lt_of_lt_of_le hj H.kn
  obtain ⟨_, _, l, hI, hF⟩ := hF
  have hN := (cell_of (H.good _ _ (H.oN j hj) he) 0)
  have hNz := frozen_of (H.good _ _ (H.oN j hj) he) 0
  have hfN : Free (VV S D (some mw) (some j)) ⟨D.N j, 0, none⟩ := free_thr H hjn hm (H.oN j hj) (.inl ⟨_, rfl⟩)
  rcases hF with ⟨ho, rfl⟩ | ⟨ho, rfl⟩ | ⟨ho, t, v, ht, rfl⟩
  · refine (At.walk (Stop := fun g w' => g = rec139s (S.p j) (S.r j) (l ++ bot S (D.N j) j) ∧ ∃ d, w' = w.at d) (step_send _ _ _ _ (H.p1 hjn) (.stop fun d => ⟨rfl, d, rfl⟩)) A).bind ?_
    rintro m' T' ⟨g', w', ⟨rfl, d, rfl⟩, A'⟩
    refine (give_back (H.at d) hj he hn hm A').mono ?_
    rintro m2 T2 ⟨g₂, d2, k, hh, hc, A2⟩
    have hD : handed D j l (C.out x j) = { D with cs := upd D.cs j l } := by
      rw [ho]; simp only [handed, Option.isSome_none]
      rw [upd_eq _ he, show ((none : Option Bool) == some true) = false from rfl, upd_eq _ hb]
    refine ⟨g₂, _, l, hh, by rw [hD, ho]; exact A2, ?_, C.keep hI ((Keeps.at (Keeps.refl _ _) d).trans ((Keeps.at (Keeps.refl _ _) d2).trans (Keeps.chan (H.or j hjn) false (k + 1))))⟩
    rw [hD]
    exact (((H.at d).at d2).chan hc ⟨j, .inr (H.or j hjn)⟩).cs _
  · refine (ended_back H hj hn hm false (Keeps.set (.bool false) (H.oN j hj)) (H.ride hj (.bool false)) (g := G ((fr60 (D.N j) (S.F j) (.iface 161 (.pointer (some ⟨S.p j, 0, none⟩)))).finish (.tuple #[])) [fr78 (S.p j) (S.r j) (S.F j), bornfr]) ?_ A l).mono ?_
    · refine (ride_done (D.N j) _ _ _ _ w false hN hNz hfN).mono ?_
      rintro g w' ⟨rfl, d, rfl⟩
      exact ⟨true, rfl, d, rfl⟩
    · rintro m2 T2 ⟨g₂, w', hh, A2, H2, K2⟩
      rw [ho]
      exact ⟨g₂, w', l, hh, A2, H2, C.keep hI K2⟩
  · refine (ended_back H hj hn hm true ((Keeps.alloc _ w (.cells #[] 147)).trans (Keeps.set (.bool true) (H.oN j hj))) ((H.alloc (.cells #[] 147)).ride hj (.bool true)) (g := G ((fr60 (D.N j) (S.F j) (.iface 161 (.pointer (some ⟨S.p j, 0, none⟩)))).raise [{ v := .iface t v, recovered := false }]) [fr78 (S.p j) (S.r j) (S.F j), bornfr]) ?_ A l).mono ?_
    · refine (ride_broke (D.N j) _ _ t v ht _ _ w false hN hNz hfN).mono ?_
      rintro g w' ⟨rfl, d, rfl⟩
      exact ⟨false, rfl, d, rfl⟩
    · rintro m2 T2 ⟨g₂, w', hh, A2, H2, K2⟩
      rw [ho]
      exact ⟨g₂, w', l, hh, A2, H2, C.keep hI K2⟩
end
end Go.Proofs.Ytgiiicdpbdfemaa
end
