/- Part 5. -/
import Derived.Test.YtgiiicdpbdfemaaC4
import Derived.Deep.AppendLies
import Derived.Deep.Heap
set_option linter.unusedSimpArgs false
/- Package turn's programs, in company: a code that is no step. -/
section
namespace Go.Proofs.Ytgiiicdpbdfemaa
open Go.Conc Go.RowKit Go.Relay
open Go.ConcN (upd upd_ne upd_same)

variable {main : Bool} {V : Nat → Option Wait}

set_option maxHeartbeats 8000000 in
set_option maxRecDepth 100000 in
theorem isStep_low (W : Nat) (cd cr ca cb cv : Int) (w : World) (g1 : cd < 7) :
    CallV Try.prog main V 71 #[.pointer (some ⟨W, 0, none⟩), .agg #[.int .i64 cd, .int .i64 cr, .int .i64 ca, .int .i64 cb, .int .i64 cv]] w (.bool false) (w.alloc (.cells #[.int .i64 cd, .int .i64 cr, .int .i64 ca, .int .i64 cb, .int .i64 cv] 99)) := by
  refine callW_in Try.func71 rfl fun fr cs => ?_
  simp only [Try.ntmps71, List.size_toArray, List.length_cons, List.length_nil, Nat.reduceAdd, Nat.reduceSub, Array.replicate_succ, Array.replicate_zero, List.push_toArray, List.append_toArray, List.nil_append, List.cons_append]
  repeat (first | (refine Walk.c rfl ?_) | (refine Walk.cReg ?_; simp only [List.size_toArray, List.length_cons, List.length_nil, Nat.reduceAdd, Nat.zero_add, List.range, List.range.loop]) | (refine Walk.cRet ?_) | (refine Walk.cEnd ?_) | (refine Walk.opq (ho_of (by conv => lhs; whnf) (by kernel_rfl)) (by rfl) (by decide) (fun dd e he => ?_) (fun dd K hK => ?_); (· (simp [go_sem, *] at he; try (subst he; exact evR_read _ _))); go_simp; refine hK _ ?_; clear hK K; try walk_nrm) | (refine Walk.ctl rfl (fun w => stepG_unwanted (ho_of (by conv => lhs; whnf) (by kernel_rfl)) (by rfl)) ?_; walk_nrm))
  (co_applyP Walk.opw (ho_of (by conv => lhs; whnf) (by kernel_rfl)) (by rfl) (by decide) ?wev1 ?wdr1 ?wrun1; (case' wrun1 => (intro dd K hK; go_simp; simp only [alloc_at', setCell_at']; refine hK _ ?wmore1; clear hK K)); (case wdr1 => exact fun dd es hes => DR.alloc' dd es hes); (case wev1 => (intro dd e he; simp [go_sem, *] at he)); try walk_nrm)
  repeat (first | (refine Walk.c rfl ?_) | (refine Walk.cReg ?_; simp only [List.size_toArray, List.length_cons, List.length_nil, Nat.reduceAdd, Nat.zero_add, List.range, List.range.loop]) | (refine Walk.cRet ?_) | (refine Walk.cEnd ?_) | (refine Walk.opq (ho_of (by conv => lhs; whnf) (by kernel_rfl)) (by rfl) (by decide) (fun dd e he => ?_) (fun dd K hK => ?_); (· (simp [go_sem, *] at he; try (subst he; exact evR_read _ _))); go_simp; refine hK _ ?_; clear hK K; try walk_nrm) | (refine Walk.ctl rfl (fun w => stepG_unwanted (ho_of (by conv => lhs; whnf) (by kernel_rfl)) (by rfl)) ?_; walk_nrm))
  have b0 := World.cell?_alloc_at (w := w) #[.int .i64 cd, .int .i64 cr, .int .i64 ca, .int .i64 cb, .int .i64 cv] 99 w.heap.size 0 rfl
  have b2 := World.cell?_alloc_at (w := w) #[.int .i64 cd, .int .i64 cr, .int .i64 ca, .int .i64 cb, .int .i64 cv] 99 w.heap.size 2 rfl
  replace b0 : (w.alloc (.cells #[.int .i64 cd, .int .i64 cr, .int .i64 ca, .int .i64 cb, .int .i64 cv] 99)).cell? ⟨w.heap.size, 0, none⟩ = some (.int .i64 cd) := b0
  replace b2 : (w.alloc (.cells #[.int .i64 cd, .int .i64 cr, .int .i64 ca, .int .i64 cb, .int .i64 cv] 99)).cell? ⟨w.heap.size, 2, none⟩ = some (.int .i64 ca) := b2
  generalize w.alloc (.cells #[.int .i64 cd, .int .i64 cr, .int .i64 ca, .int .i64 cb, .int .i64 cv] 99) = w1 at *
  generalize w.heap.size = X at *
  have d1 : decide (7 ≤ cd) = false := decide_eq_false (by omega)
  let S : World → Prop := fun w' => ∃ d, w' = w1.at d
  have hrl : ∀ w₁ w₂, S w₁ → AtRel w₁ w₂ → S w₂ := by
    rintro _ _ ⟨d, rfl⟩ ⟨d', rfl⟩; exact ⟨d', rfl⟩
  have hF : S w1 := ⟨w1.drawn, rfl⟩
  refine Walk.held S hrl hF (by kernel_rfl) (by decide) (Q := fun a' => a'.tmps.getD 4 undef = .bool false ∧ a'.defers = []) (fun w₁ hF => ?_) ?_
  · simp only [List.size_toArray, List.length_cons, List.length_nil, Nat.reduceAdd, Nat.zero_add]
    (co_applyP anyCH_take termsR (fun _ _ h r => hrl _ _ h r) (fun _ _ _ h r => ⟨h.1, hrl _ _ h.2.1 r, h.2.2⟩) (i := 0) rfl (by first | kernel_rfl | decide +kernel) (by first | kernel_rfl | decide +kernel) (by first | kernel_rfl | decide +kernel) (.inl ⟨by rfl, fun _ hw => ⟨run_eq_of ?run2, ?guar2⟩⟩) hF ?rest2; (case run2 => (intro K hK; obtain ⟨dx, hdx⟩ := hw; subst hdx; go_simp; exact hK)); (case guar2 => (obtain ⟨dx, hdx⟩ := hw; subst hdx; refine DR.quiet (fun e he => ?_); have hm := mem_listed he; simp [go_sem, *] at hm; try (subst hm; exact evR_read _ _))); try walk_nrm)
    (co_applyP anyCH_take termsR (fun _ _ h r => hrl _ _ h r) (fun _ _ _ h r => ⟨h.1, hrl _ _ h.2.1 r, h.2.2⟩) (i := 1) rfl (by first | kernel_rfl | decide +kernel) (by first | kernel_rfl | decide +kernel) (by first | kernel_rfl | decide +kernel) (.inl ⟨by rfl, fun _ hw => ⟨run_eq_of ?run3, ?guar3⟩⟩) hF ?rest3; (case run3 => (intro K hK; obtain ⟨dx, hdx⟩ := hw; subst hdx; go_simp; exact hK)); (case guar3 => (obtain ⟨dx, hdx⟩ := hw; subst hdx; refine DR.quiet (fun e he => ?_); have hm := mem_listed he; simp [go_sem, *] at hm; try (subst hm; exact evR_read _ _))); try walk_nrm)
    (co_applyP anyCH_take termsR (fun _ _ h r => hrl _ _ h r) (fun _ _ _ h r => ⟨h.1, hrl _ _ h.2.1 r, h.2.2⟩) (i := 2) rfl (by first | kernel_rfl | decide +kernel) (by first | kernel_rfl | decide +kernel) (by first | kernel_rfl | decide +kernel) (.inl ⟨by rfl, fun _ hw => ⟨run_eq_of ?run4, ?guar4⟩⟩) hF ?rest4; (case run4 => (intro K hK; obtain ⟨dx, hdx⟩ := hw; subst hdx; go_simp; exact hK)); (case guar4 => (obtain ⟨dx, hdx⟩ := hw; subst hdx; refine DR.quiet (fun e he => ?_); have hm := mem_listed he; simp [go_sem, *] at hm; try (subst hm; exact evR_read _ _))); try walk_nrm)
    (co_applyP anyCH_take termsR (fun _ _ h r => hrl _ _ h r) (fun _ _ _ h r => ⟨h.1, hrl _ _ h.2.1 r, h.2.2⟩) (i := 3) rfl (by first | kernel_rfl | decide +kernel) (by first | kernel_rfl | decide +kernel) (by first | kernel_rfl | decide +kernel) (.inl ⟨by rfl, fun _ hw => ⟨run_eq_of ?run5, ?guar5⟩⟩) hF ?rest5; (case run5 => (intro K hK; obtain ⟨dx, hdx⟩ := hw; subst hdx; go_simp; exact hK)); (case guar5 => (obtain ⟨dx, hdx⟩ := hw; subst hdx; refine DR.quiet (fun e he => ?_); have hm := mem_listed he; simp [go_sem, *] at hm; try (subst hm; exact evR_read _ _))); try walk_nrm)
    (co_applyP anyCH_take termsR (fun _ _ h r => hrl _ _ h r) (fun _ _ _ h r => ⟨h.1, hrl _ _ h.2.1 r, h.2.2⟩) (i := 4) rfl (by first | kernel_rfl | decide +kernel) (by first | kernel_rfl | decide +kernel) (by first | kernel_rfl | decide +kernel) (.inr ⟨by rfl, rfl⟩) hF ?rest12; try walk_nrm)
    (co_applyP anyCH_take termsR (fun _ _ h r => hrl _ _ h r) (fun _ _ _ h r => ⟨h.1, hrl _ _ h.2.1 r, h.2.2⟩) (i := 5) rfl (by first | kernel_rfl | decide +kernel) (by first | kernel_rfl | decide +kernel) (by first | kernel_rfl | decide +kernel) (.inr ⟨by rfl, rfl⟩) hF ?rest13; try walk_nrm)
    (co_applyP anyCH_take termsR (fun _ _ h r => hrl _ _ h r) (fun _ _ _ h r => ⟨h.1, hrl _ _ h.2.1 r, h.2.2⟩) (i := 6) rfl (by first | kernel_rfl | decide +kernel) (by first | kernel_rfl | decide +kernel) (by first | kernel_rfl | decide +kernel) (.inr ⟨by rfl, rfl⟩) hF ?rest14; try walk_nrm)
    (co_applyP anyCH_take termsR (fun _ _ h r => hrl _ _ h r) (fun _ _ _ h r => ⟨h.1, hrl _ _ h.2.1 r, h.2.2⟩) (i := 7) rfl (by first | kernel_rfl | decide +kernel) (by first | kernel_rfl | decide +kernel) (by first | kernel_rfl | decide +kernel) (.inl ⟨by rfl, fun _ hw => ⟨run_eq_of ?run6, ?guar6⟩⟩) hF ?rest6; (case run6 => (intro K hK; obtain ⟨dx, hdx⟩ := hw; subst hdx; go_simp; exact hK)); (case guar6 => (obtain ⟨dx, hdx⟩ := hw; subst hdx; refine DR.quiet (fun e he => ?_); have hm := mem_listed he; simp [go_sem, *] at hm; try (subst hm; exact evR_read _ _))); try walk_nrm)
    (co_applyP anyCH_take termsR (fun _ _ h r => hrl _ _ h r) (fun _ _ _ h r => ⟨h.1, hrl _ _ h.2.1 r, h.2.2⟩) (i := 8) rfl (by first | kernel_rfl | decide +kernel) (by first | kernel_rfl | decide +kernel) (by first | kernel_rfl | decide +kernel) (.inl ⟨by rfl, fun _ hw => ⟨run_eq_of ?run7, ?guar7⟩⟩) hF ?rest7; (case run7 => (intro K hK; obtain ⟨dx, hdx⟩ := hw; subst hdx; go_simp; exact hK)); (case guar7 => (obtain ⟨dx, hdx⟩ := hw; subst hdx; refine DR.quiet (fun e he => ?_); have hm := mem_listed he; simp [go_sem, *] at hm; try (subst hm; exact evR_read _ _))); try walk_nrm)
    (co_applyP anyCH_take termsR (fun _ _ h r => hrl _ _ h r) (fun _ _ _ h r => ⟨h.1, hrl _ _ h.2.1 r, h.2.2⟩) (i := 9) rfl (by first | kernel_rfl | decide +kernel) (by first | kernel_rfl | decide +kernel) (by first | kernel_rfl | decide +kernel) (.inr ⟨by rfl, rfl⟩) hF ?rest15; try walk_nrm)
    (co_applyP anyCH_take termsR (fun _ _ h r => hrl _ _ h r) (fun _ _ _ h r => ⟨h.1, hrl _ _ h.2.1 r, h.2.2⟩) (i := 10) rfl (by first | kernel_rfl | decide +kernel) (by first | kernel_rfl | decide +kernel) (by first | kernel_rfl | decide +kernel) (.inr ⟨by rfl, rfl⟩) hF ?rest16; try walk_nrm)
    (co_applyP anyCH_take termsR (fun _ _ h r => hrl _ _ h r) (fun _ _ _ h r => ⟨h.1, hrl _ _ h.2.1 r, h.2.2⟩) (i := 11) rfl (by first | kernel_rfl | decide +kernel) (by first | kernel_rfl | decide +kernel) (by first | kernel_rfl | decide +kernel) (.inr ⟨by rfl, rfl⟩) hF ?rest17; try walk_nrm)
    (co_applyP anyCH_take termsR (fun _ _ h r => hrl _ _ h r) (fun _ _ _ h r => ⟨h.1, hrl _ _ h.2.1 r, h.2.2⟩) (i := 12) rfl (by first | kernel_rfl | decide +kernel) (by first | kernel_rfl | decide +kernel) (by first | kernel_rfl | decide +kernel) (.inl ⟨by rfl, fun _ hw => ⟨run_eq_of ?run8, ?guar8⟩⟩) hF ?rest8; (case run8 => (intro K hK; obtain ⟨dx, hdx⟩ := hw; subst hdx; go_simp; exact hK)); (case guar8 => (obtain ⟨dx, hdx⟩ := hw; subst hdx; refine DR.quiet (fun e he => ?_); have hm := mem_listed he; simp [go_sem, *] at hm; try (subst hm; exact evR_read _ _))); try walk_nrm)
    (co_applyP anyCH_take termsR (fun _ _ h r => hrl _ _ h r) (fun _ _ _ h r => ⟨h.1, hrl _ _ h.2.1 r, h.2.2⟩) (i := 13) rfl (by first | kernel_rfl | decide +kernel) (by first | kernel_rfl | decide +kernel) (by first | kernel_rfl | decide +kernel) (.inl ⟨by rfl, fun _ hw => ⟨run_eq_of ?run9, ?guar9⟩⟩) hF ?rest9; (case run9 => (intro K hK; obtain ⟨dx, hdx⟩ := hw; subst hdx; go_simp; exact hK)); (case guar9 => (obtain ⟨dx, hdx⟩ := hw; subst hdx; refine DR.quiet (fun e he => ?_); have hm := mem_listed he; simp [go_sem, *] at hm; try (subst hm; exact evR_read _ _))); try walk_nrm)
    (co_applyP anyCH_take termsR (fun _ _ h r => hrl _ _ h r) (fun _ _ _ h r => ⟨h.1, hrl _ _ h.2.1 r, h.2.2⟩) (i := 14) rfl (by first | kernel_rfl | decide +kernel) (by first | kernel_rfl | decide +kernel) (by first | kernel_rfl | decide +kernel) (.inr ⟨by rfl, rfl⟩) hF ?rest18; try walk_nrm)
    (co_applyP anyCH_take termsR (fun _ _ h r => hrl _ _ h r) (fun _ _ _ h r => ⟨h.1, hrl _ _ h.2.1 r, h.2.2⟩) (i := 15) rfl (by first | kernel_rfl | decide +kernel) (by first | kernel_rfl | decide +kernel) (by first | kernel_rfl | decide +kernel) (.inr ⟨by rfl, rfl⟩) hF ?rest19; try walk_nrm)
    (co_applyP anyCH_take termsR (fun _ _ h r => hrl _ _ h r) (fun _ _ _ h r => ⟨h.1, hrl _ _ h.2.1 r, h.2.2⟩) (i := 16) rfl (by first | kernel_rfl | decide +kernel) (by first | kernel_rfl | decide +kernel) (by first | kernel_rfl | decide +kernel) (.inr ⟨by rfl, rfl⟩) hF ?rest20; try walk_nrm)
    (co_applyP anyCH_take termsR (fun _ _ h r => hrl _ _ h r) (fun _ _ _ h r => ⟨h.1, hrl _ _ h.2.1 r, h.2.2⟩) (i := 17) rfl (by first | kernel_rfl | decide +kernel) (by first | kernel_rfl | decide +kernel) (by first | kernel_rfl | decide +kernel) (.inr ⟨by rfl, rfl⟩) hF ?rest21; try walk_nrm)
    (co_applyP anyCH_take termsR (fun _ _ h r => hrl _ _ h r) (fun _ _ _ h r => ⟨h.1, hrl _ _ h.2.1 r, h.2.2⟩) (i := 18) rfl (by first | kernel_rfl | decide +kernel) (by first | kernel_rfl | decide +kernel) (by first | kernel_rfl | decide +kernel) (.inr ⟨by rfl, rfl⟩) hF ?rest22; try walk_nrm)
    (co_applyP anyCH_take termsR (fun _ _ h r => hrl _ _ h r) (fun _ _ _ h r => ⟨h.1, hrl _ _ h.2.1 r, h.2.2⟩) (i := 19) rfl (by first | kernel_rfl | decide +kernel) (by first | kernel_rfl | decide +kernel) (by first | kernel_rfl | decide +kernel) (.inr ⟨by rfl, rfl⟩) hF ?rest23; try walk_nrm)
    (co_applyP anyCH_take termsR (fun _ _ h r => hrl _ _ h r) (fun _ _ _ h r => ⟨h.1, hrl _ _ h.2.1 r, h.2.2⟩) (i := 20) rfl (by first | kernel_rfl | decide +kernel) (by first | kernel_rfl | decide +kernel) (by first | kernel_rfl | decide +kernel) (.inr ⟨by rfl, rfl⟩) hF ?rest24; try walk_nrm)
    (co_applyP anyCH_take termsR (fun _ _ h r => hrl _ _ h r) (fun _ _ _ h r => ⟨h.1, hrl _ _ h.2.1 r, h.2.2⟩) (i := 21) rfl (by first | kernel_rfl | decide +kernel) (by first | kernel_rfl | decide +kernel) (by first | kernel_rfl | decide +kernel) (.inr ⟨by rfl, rfl⟩) hF ?rest25; try walk_nrm)
    (co_applyP anyCH_take termsR (fun _ _ h r => hrl _ _ h r) (fun _ _ _ h r => ⟨h.1, hrl _ _ h.2.1 r, h.2.2⟩) (i := 22) rfl (by first | kernel_rfl | decide +kernel) (by first | kernel_rfl | decide +kernel) (by first | kernel_rfl | decide +kernel) (.inl ⟨by rfl, fun _ hw => ⟨run_eq_of ?run10, ?guar10⟩⟩) hF ?rest10; (case run10 => (intro K hK; obtain ⟨dx, hdx⟩ := hw; subst hdx; go_simp; exact hK)); (case guar10 => (obtain ⟨dx, hdx⟩ := hw; subst hdx; refine DR.quiet (fun e he => ?_); have hm := mem_listed he; simp [go_sem, *] at hm; try (subst hm; exact evR_read _ _))); try walk_nrm)
    (co_applyP anyCH_take termsR (fun _ _ h r => hrl _ _ h r) (fun _ _ _ h r => ⟨h.1, hrl _ _ h.2.1 r, h.2.2⟩) (i := 23) rfl (by first | kernel_rfl | decide +kernel) (by first | kernel_rfl | decide +kernel) (by first | kernel_rfl | decide +kernel) (.inl ⟨by rfl, fun _ hw => ⟨run_eq_of ?run11, ?guar11⟩⟩) hF ?rest11; (case run11 => (intro K hK; obtain ⟨dx, hdx⟩ := hw; subst hdx; go_simp; exact hK)); (case guar11 => (obtain ⟨dx, hdx⟩ := hw; subst hdx; refine DR.quiet (fun e he => ?_); have hm := mem_listed he; simp [go_sem, *] at hm; try (subst hm; exact evR_read _ _))); try walk_nrm)
    refine anyCH_done (by first | kernel_rfl | decide +kernel) ⟨rfl, hF, by simp, rfl⟩ _
  · rintro a' w' ⟨d, rfl⟩ ⟨h, hd⟩
    repeat (first | (refine Walk.c rfl ?_) | (refine Walk.cReg ?_; simp only [List.size_toArray, List.length_cons, List.length_nil, Nat.reduceAdd, Nat.zero_add, List.range, List.range.loop]) | (refine Walk.cRet ?_) | (refine Walk.cEnd ?_) | (refine Walk.opq (ho_of (by conv => lhs; whnf) (by kernel_rfl)) (by rfl) (by decide) (fun dd e he => ?_) (fun dd K hK => ?_); (· (simp [go_sem, *] at he; try (subst he; exact evR_read _ _))); go_simp; refine hK _ ?_; clear hK K; try walk_nrm) | (refine Walk.ctl rfl (fun w => stepG_unwanted (ho_of (by conv => lhs; whnf) (by kernel_rfl)) (by rfl)) ?_; walk_nrm))
    exact Walk.ret1 rfl hd Try.func71 rfl fun d' => ⟨h, d', rfl⟩
end Go.Proofs.Ytgiiicdpbdfemaa
end

/- Package turn's programs, in company: walk's loop. -/
section
namespace Go.Proofs.Ytgiiicdpbdfemaa
open Go.Conc Go.RowKit Go.Relay
open Go.ConcN (upd upd_ne upd_same)

variable {main : Bool} {V : Nat → Option Wait}

noncomputable def body41 : Code := match Try.f41.body with | some (.seq _ (.seq _ (.block _ (.loop c)))) => c | _ => .skip
noncomputable def body41b : Code := match body41 with | .seq _ (.block _ (.seq _ c)) => c | _ => .skip
/-- The head of walk's loop; where the code has been taken. -/
noncomputable def hd41 (W : Nat) (S : Value) (own : Nat) (next : Int) (u : Nat → Value) : Frame :=
  (base 41).at { tmps := #[.pointer (some ⟨W, 0, none⟩), S, undef, undef, .int .i64 own, .int .i64 next, u 6, u 7, u 8, u 9, u 10, u 11, u 12, u 13, u 14, u 15, u 16, u 17, u 18, u 19, u 20, u 21, u 22, u 23, u 24, u 25, u 26, u 27, u 28, u 29, u 30, u 31, u 32, u 33, u 34, u 35, u 36, u 37, u 38, u 39, u 40, u 41, u 42], defers := [] } [.code body41, .inLoop body41, .inBlock 0]
noncomputable def cd41 (W X : Nat) (S : Value) (own : Nat) (next : Int) (u : Nat → Value) : Frame :=
  (base 41).at { tmps := #[.pointer (some ⟨W, 0, none⟩), S, undef, undef, .int .i64 own, .int .i64 next, .pointer (some ⟨X, 0, none⟩), u 7, u 8, u 9, u 10, u 11, u 12, u 13, u 14, u 15, u 16, u 17, u 18, u 19, u 20, u 21, u 22, u 23, u 24, u 25, u 26, u 27, u 28, u 29, u 30, u 31, u 32, u 33, u 34, u 35, u 36, u 37, u 38, u 39, u 40, u 41, u 42], defers := [] } [.code body41b, .inBlock 1, .inLoop body41, .inBlock 0]

theorem und99 : ∃ fs, Try.prog.underlying 99 = some (.struct fs) := by
  have h : (match Try.prog.underlying 99 with | some (.struct _) => true | _ => false) = true := by kernel_rfl
  revert h
  cases Try.prog.underlying 99 with
  | none => simp
  | some d =>
    cases d with
    | struct fs => exact fun _ => ⟨fs, rfl⟩
    | _ => simp

theorem setRow_alloc (w : World) (old new : Array Value) (t : TypeId) : (w.alloc (.cells old t)).setRow w.heap.size new = w.alloc (.cells new t) := by
  simp only [World.setRow, World.alloc]
  congr 1
  apply Array.ext
  · simp
  · intro i h1 h2
    rw [Array.getElem_modify]
    by_cases e : w.heap.size = i
    · subst e; simp
    · rw [if_neg e, Array.getElem_push, Array.getElem_push]
      simp only [Array.size_push] at h2
      have : i < w.heap.size := by omega
      simp [this]

def codeCells (cd cr ca cb cv : Int) : List Value := [.int .i64 cd, .int .i64 cr, .int .i64 ca, .int .i64 cb, .int .i64 cv]

set_option maxHeartbeats 8000000 in
set_option maxRecDepth 100000 in
theorem walk_enters (W : Nat) (S : Value) (cs : List Frame) (w : World) :
    Walk Try.prog main (DR V) (fun g w' => g = G (hd41 W S 0 0 (fun _ => undef)) cs ∧ ∃ d, w' = w.at d) (G (Frame.enter Try.prog 41 #[.pointer (some ⟨W, 0, none⟩), S] .normal) cs) w := by
  rw [enter_at _ Try.func41 rfl]
  simp only [Try.f41, List.size_toArray, List.length_cons, List.length_nil, Nat.reduceAdd, Nat.reduceSub, Array.replicate_succ, Array.replicate_zero, List.push_toArray, List.append_toArray, List.nil_append, List.cons_append]
  repeat (first | (refine Walk.c rfl ?_) | (refine Walk.cReg ?_; simp only [List.size_toArray, List.length_cons, List.length_nil, Nat.reduceAdd, Nat.zero_add, List.range, List.range.loop]) | (refine Walk.cRet ?_) | (refine Walk.cEnd ?_) | (refine Walk.opq (ho_of (by conv => lhs; whnf) (by kernel_rfl)) (by rfl) (by decide) (fun dd e he => ?_) (fun dd K hK => ?_); (· (simp [go_sem, *] at he; try (subst he; exact evR_read _ _))); go_simp; refine hK _ ?_; clear hK K; try walk_nrm) | (refine Walk.ctl rfl (fun w => stepG_unwanted (ho_of (by conv => lhs; whnf) (by kernel_rfl)) (by rfl)) ?_; walk_nrm))
  refine Walk.ctl rfl (fun w => stepG_loop) ?_
  exact .stop fun d => ⟨rfl, d, rfl⟩

set_option maxHeartbeats 8000000 in
set_option maxRecDepth 100000 in
theorem walk_out (W : Nat) (S : Value) (own : Nat) (next : Int) (len cap : Nat) (ca : Option Addr) (u : Nat → Value) (c : Frame) (cs : List Frame) (w : World) (h1 : w.cell? ⟨W, 1, none⟩ = some (.slice ca len cap)) (hlt : (len : Int) ≤ next) :
    Walk Try.prog main (DR V) (fun g w' => g = G (c.finish (.tuple #[])) cs ∧ ∃ d, w' = w.at d) (G (hd41 W S own next u) (c :: cs)) w := by
  unfold hd41
  simp only [body41, Try.f41]
  have hn : decide (next < len) = false := decide_eq_false (by omega)
  have hn0 : decide (0 ≤ next) = true := decide_eq_true (by omega)
  repeat (first | (refine Walk.c rfl ?_) | (refine Walk.cReg ?_; simp only [List.size_toArray, List.length_cons, List.length_nil, Nat.reduceAdd, Nat.zero_add, List.range, List.range.loop]) | (refine Walk.cRet ?_) | (refine Walk.cEnd ?_) | (refine Walk.opq (ho_of (by conv => lhs; whnf) (by kernel_rfl)) (by rfl) (by decide) (fun dd e he => ?_) (fun dd K hK => ?_); (· (simp [go_sem, *] at he; try (subst he; exact evR_read _ _))); go_simp; refine hK _ ?_; clear hK K; try walk_nrm) | (refine Walk.ctl rfl (fun w => stepG_unwanted (ho_of (by conv => lhs; whnf) (by kernel_rfl)) (by rfl)) ?_; walk_nrm))
  exact Walk.ctl rfl (fun w => stepG_leave rfl rfl Try.func41 (results_none rfl _ _ w) (events_results_none rfl _ _)) (.stop fun d => ⟨rfl, d, rfl⟩)

set_option maxHeartbeats 8000000 in
set_option maxRecDepth 100000 in
theorem walk_below (W : Nat) (S : Value) (own : Nat) (next : Int) (u : Nat → Value) (c : Frame) (cs : List Frame) (w : World) (hlt : next < 0) :
    Walk Try.prog main (DR V) (fun g w' => g = G (c.finish (.tuple #[])) cs ∧ ∃ d, w' = w.at d) (G (hd41 W S own next u) (c :: cs)) w := by
  unfold hd41
  simp only [body41, Try.f41]
  have hn0 : decide (0 ≤ next) = false := decide_eq_false (by omega)
  repeat (first | (refine Walk.c rfl ?_) | (refine Walk.cReg ?_; simp only [List.size_toArray, List.length_cons, List.length_nil, Nat.reduceAdd, Nat.zero_add, List.range, List.range.loop]) | (refine Walk.cRet ?_) | (refine Walk.cEnd ?_) | (refine Walk.opq (ho_of (by conv => lhs; whnf) (by kernel_rfl)) (by rfl) (by decide) (fun dd e he => ?_) (fun dd K hK => ?_); (· (simp [go_sem, *] at he; try (subst he; exact evR_read _ _))); go_simp; refine hK _ ?_; clear hK K; try walk_nrm) | (refine Walk.ctl rfl (fun w => stepG_unwanted (ho_of (by conv => lhs; whnf) (by kernel_rfl)) (by rfl)) ?_; walk_nrm))
  exact Walk.ctl rfl (fun w => stepG_leave rfl rfl Try.func41 (results_none rfl _ _ w) (events_results_none rfl _ _)) (.stop fun d => ⟨rfl, d, rfl⟩)
end Go.Proofs.Ytgiiicdpbdfemaa
end

/- The statement's side: codes: its loops' rounds. -/
section
namespace Go.Proofs.Ytgiiicdpbdfemaa
open Go.Conc Go.RowKit Go.Relay
open Go.ConcN (upd upd_ne upd_same)

variable {main : Bool} {V : Nat → Option Wait}

theorem und96 : ∃ fs, Try.prog.underlying 96 = some (.struct fs) := by
  have h : (Try.prog.underlying 96).any (fun | .struct _ => true | _ => false) = true := by kernel_rfl
  cases e : Try.prog.underlying 96 with
  | none => rw [e] at h; cases h
  | some x => rw [e] at h; cases x <;> first | exact ⟨_, rfl⟩ | cases h

def fiveCells (cd cr ca cb cv : Int) : List Value := [.int .i64 cd, .int .i64 cr, .int .i64 ca, .int .i64 cb, .int .i64 cv]

noncomputable def body15 : Code := match Try.f15.body with | some (.seq _ (.seq _ (.seq (.seq _ (.block _ (.loop c))) _))) => c | _ => .skip
noncomputable def rest15 : Code := match Try.f15.body with | some (.seq _ (.seq _ (.seq _ c))) => c | _ => .skip
noncomputable def in15 : Code := match body15 with | .seq _ (.seq (.block _ (.seq _ (.seq (.seq _ (.block _ (.loop c))) _))) _) => c | _ => .skip
noncomputable def row15 : Code := match body15 with | .seq _ (.seq (.block _ (.seq _ (.seq _ c))) _) => c | _ => .skip
noncomputable def next15 : Code := match body15 with | .seq _ (.seq _ c) => c | _ => .skip
noncomputable def hd15 (pv : Value) (oa : Option Addr) (oc i : Nat) (u : Nat → Value) : Frame :=
  (base 15).at { tmps := #[pv, u 1, .slice none 0 0, .slice oa i oc, .int .i64 i, u 5, u 6, u 7, u 8, u 9, u 10, u 11, u 12, u 13, u 14, u 15, u 16, u 17, u 18, u 19, u 20, u 21, u 22, u 23, u 24, u 25, u 26, u 27, u 28, u 29, u 30, u 31, u 32, u 33, u 34, u 35, u 36, u 37, u 38, u 39, u 40, u 41, u 42, u 43, u 44, u 45, u 46, u 47, u 48], defers := [] } [.code body15, .inLoop body15, .inBlock 0, .code rest15]
noncomputable def hd15i (pv : Value) (oa : Option Addr) (oc i : Nat) (la : Option Addr) (lc k : Nat) (u : Nat → Value) : Frame :=
  (base 15).at { tmps := #[pv, u 1, .slice none 0 0, .slice oa i oc, .int .i64 i, .slice la k lc, .int .i64 k, u 7, u 8, u 9, u 10, u 11, u 12, u 13, u 14, u 15, u 16, u 17, u 18, u 19, u 20, u 21, u 22, u 23, u 24, u 25, u 26, u 27, u 28, u 29, u 30, u 31, u 32, u 33, u 34, u 35, u 36, u 37, u 38, u 39, u 40, u 41, u 42, u 43, u 44, u 45, u 46, u 47, u 48], defers := [] } [.code in15, .inLoop in15, .inBlock 2, .code row15, .inBlock 1, .code next15, .inLoop body15, .inBlock 0, .code rest15]

set_option maxHeartbeats 8000000 in
set_option maxRecDepth 100000 in
theorem codes_in (pv : Value) (cs : List Frame) (w : World) :
    Walk Try.prog main (DR V) (fun g w' => (∃ u, g = G (hd15 pv none 0 0 u) cs) ∧ ∃ d, w' = w.at d) (G (Frame.enter Try.prog 15 #[pv] .normal) cs) w := by
  rw [enter_at _ Try.func15 rfl]
  simp only [Try.f15, List.size_toArray, List.length_cons, List.length_nil, Nat.reduceAdd, Nat.reduceSub, Array.replicate_succ, Array.replicate_zero, List.push_toArray, List.append_toArray, List.nil_append, List.cons_append]
  repeat (first | (refine Walk.c rfl ?_) | (refine Walk.cReg ?_; simp only [List.size_toArray, List.length_cons, List.length_nil, Nat.reduceAdd, Nat.zero_add, List.range, List.range.loop]) | (refine Walk.cRet ?_) | (refine Walk.cEnd ?_) | (refine Walk.opq (ho_of (by conv => lhs; whnf) (by kernel_rfl)) (by rfl) (by decide) (fun dd e he => ?_) (fun dd K hK => ?_); (· (simp [go_sem, *] at he; try (subst he; exact evR_read _ _))); go_simp; refine hK _ ?_; clear hK K; try walk_nrm) | (refine Walk.ctl rfl (fun w => stepG_unwanted (ho_of (by conv => lhs; whnf) (by kernel_rfl)) (by rfl)) ?_; walk_nrm))
  refine Walk.ctl rfl (fun w => stepG_loop) ?_
  refine .stop fun d => ⟨at_slots ?_, d, rfl⟩
  simp only [hd15, body15, rest15, Try.f15]
  rfl

set_option maxHeartbeats 8000000 in
set_option maxRecDepth 100000 in
theorem codes_first (pa : Option Addr) (n pc : Nat) (oa : Option Addr) (oc i : Nat) (u : Nat → Value) (cs : List Frame) (w : World) (hi : i < n) :
    Walk Try.prog main (DR V) (fun g w' => (∃ u', g = G (hd15i (.slice pa n pc) oa oc i none 0 0 u') cs) ∧ ∃ d, w' = w.at d) (G (hd15 (.slice pa n pc) oa oc i u) cs) w := by
  conv => arg 5; unfold hd15; simp only [body15, Try.f15]
  repeat (first | (refine Walk.c rfl ?_) | (refine Walk.cReg ?_; simp only [List.size_toArray, List.length_cons, List.length_nil, Nat.reduceAdd, Nat.zero_add, List.range, List.range.loop]) | (refine Walk.cRet ?_) | (refine Walk.cEnd ?_) | (refine Walk.opq (ho_of (by conv => lhs; whnf) (by kernel_rfl)) (by rfl) (by decide) (fun dd e he => ?_) (fun dd K hK => ?_); (· (simp [go_sem, *] at he; try (subst he; exact evR_read _ _))); go_simp; refine hK _ ?_; clear hK K; try walk_nrm) | (refine Walk.ctl rfl (fun w => stepG_unwanted (ho_of (by conv => lhs; whnf) (by kernel_rfl)) (by rfl)) ?_; walk_nrm))
  refine Walk.ctl rfl (fun w => stepG_loop) ?_
  refine .stop fun d => ⟨at_slots ?_, d, rfl⟩
  simp only [hd15i, in15, row15, next15, body15, rest15, Try.f15]
  rfl

set_option maxHeartbeats 8000000 in
set_option maxRecDepth 100000 in
theorem codes_out (pa : Option Addr) (n pc : Nat) (oa : Option Addr) (oc : Nat) (u : Nat → Value) (c : Frame) (cs : List Frame) (w : World) :
    Walk Try.prog main (DR V) (fun g w' => g = G (c.finish (.slice oa n oc)) cs ∧ ∃ d, w' = w.at d) (G (hd15 (.slice pa n pc) oa oc n u) (c :: cs)) w := by
  unfold hd15
  simp only [body15, rest15, Try.f15]
  repeat (first | (refine Walk.c rfl ?_) | (refine Walk.cReg ?_; simp only [List.size_toArray, List.length_cons, List.length_nil, Nat.reduceAdd, Nat.zero_add, List.range, List.range.loop]) | (refine Walk.cRet ?_) | (refine Walk.cEnd ?_) | (refine Walk.opq (ho_of (by conv => lhs; whnf) (by kernel_rfl)) (by rfl) (by decide) (fun dd e he => ?_) (fun dd K hK => ?_); (· (simp [go_sem, *] at he; try (subst he; exact evR_read _ _))); go_simp; refine hK _ ?_; clear hK K; try walk_nrm) | (refine Walk.ctl rfl (fun w => stepG_unwanted (ho_of (by conv => lhs; whnf) (by kernel_rfl)) (by rfl)) ?_; walk_nrm))
  exact (Walk.ret1 (Post := fun v w' => v = .slice oa n oc ∧ ∃ d, w' = w.at d) rfl rfl Try.func15 rfl fun d => ⟨rfl, d, rfl⟩).mono fun g w' ⟨v, ⟨hv, hd⟩, hg⟩ => ⟨by rw [hg, hv], hd⟩

theorem five_at (w : World) (cd cr ca cb cv : Int) : (w.alloc (.cells #[.int .i64 cd, .int .i64 cr, .int .i64 ca, .int .i64 cb, .int .i64 cv] 96)).cell? ⟨w.heap.size, 0, none⟩ = some (.int .i64 cd) ∧ (w.alloc (.cells #[.int .i64 cd, .int .i64 cr, .int .i64 ca, .int .i64 cb, .int .i64 cv] 96)).cell? ⟨w.heap.size, 1, none⟩ = some (.int .i64 cr) ∧
    (w.alloc (.cells #[.int .i64 cd, .int .i64 cr, .int .i64 ca, .int .i64 cb, .int .i64 cv] 96)).cell? ⟨w.heap.size, 2, none⟩ = some (.int .i64 ca) ∧ (w.alloc (.cells #[.int .i64 cd, .int .i64 cr, .int .i64 ca, .int .i64 cb, .int .i64 cv] 96)).cell? ⟨w.heap.size, 3, none⟩ = some (.int .i64 cb) ∧ (w.alloc (.cells #[.int .i64 cd, .int .i64 cr, .int .i64 ca, .int .i64 cb, .int .i64 cv] 96)).cell? ⟨w.heap.size, 4, none⟩ = some (.int .i64 cv) := by
  have h := heap_alloc_new w (.cells #[.int .i64 cd, .int .i64 cr, .int .i64 ca, .int .i64 cb, .int .i64 cv] 96)
  exact ⟨(cell_of h 0).trans rfl, (cell_of h 1).trans rfl, (cell_of h 2).trans rfl, (cell_of h 3).trans rfl, (cell_of h 4).trans rfl⟩

def cdW (w : World) (cd cr ca cb cv : Int) : World := (w.alloc (.cells #[.int .i64 cd, .int .i64 cr, .int .i64 ca, .int .i64 cb, .int .i64 cv] 96)).alloc (.cells #[.int .i64 cd, .int .i64 cr, .int .i64 ca, .int .i64 cb, .int .i64 cv] 99)

set_option maxHeartbeats 8000000 in
set_option maxRecDepth 100000 in
theorem codes_go (pb po n pc : Nat) (oa : Option Addr) (oc i : Nat) (cb co cl cc : Nat) (la : Option Addr) (lc k n0 : Nat) (xs : List Value) (cd cr ca cbb cv : Int) (u : Nat → Value) (cs : List Frame) (w : World) (hi : i < n) (hk : k < cl) (hm : cl ≤ 1099511627776) (hp : w.cell? ⟨pb, po + i, none⟩ = some (.slice (some ⟨cb, co, none⟩) cl cc))
    (hc : ∀ j v, (fiveCells cd cr ca cbb cv)[j]? = some v → w.cell? ⟨cb, co + k * 5 + j, none⟩ = some v) (hrow : w.ownsRow n0 99 5 (.slice la k lc) k xs) (hb : n0 ≤ w.heap.size) (hap : ∀ g, (Value.slice la k lc).ownBlock = some g → Apart V g) (hA : Apart V w.heap.size) :
    Walk Try.prog main (DR V) (fun g' w' => ∃ g cap w3, (∃ u', g' = G (hd15i (.slice (some ⟨pb, po, none⟩) n pc) oa oc i (some ⟨g, 0, none⟩) cap (k + 1) u') cs) ∧ (∃ d, w' = w3.at d) ∧ w3.ownsRow n0 99 5 (.slice (some ⟨g, 0, none⟩) (k + 1) cap) (k + 1) (xs ++ fiveCells cd cr ca cbb cv) ∧ (cdW w cd cr ca cbb cv).grownBy w3 (Value.slice la k lc).ownBlock ∧ ((Value.slice la k lc).ownBlock = some g ∨ g = (cdW w cd cr ca cbb cv).heap.size) ∧ g < w3.heap.size)
      (G (hd15i (.slice (some ⟨pb, po, none⟩) n pc) oa oc i la lc k u) cs) w := by
  have hw1 : IntKind.wrap .i64 ((k : Int) + 1) = (k : Int) + 1 := by rw [IntKind.wrap_i64]; omega
  conv => arg 5; unfold hd15i; simp only [in15, body15, Try.f15]
  repeat (first | (refine Walk.c rfl ?_) | (refine Walk.cReg ?_; simp only [List.size_toArray, List.length_cons, List.length_nil, Nat.reduceAdd, Nat.zero_add, List.range, List.range.loop]) | (refine Walk.cRet ?_) | (refine Walk.cEnd ?_) | (refine Walk.opq (ho_of (by conv => lhs; whnf) (by kernel_rfl)) (by rfl) (by decide) (fun dd e he => ?_) (fun dd K hK => ?_); (· (simp [go_sem, *] at he; try (subst he; exact evR_read _ _))); go_simp; refine hK _ ?_; clear hK K; try walk_nrm) | (refine Walk.ctl rfl (fun w => stepG_unwanted (ho_of (by conv => lhs; whnf) (by kernel_rfl)) (by rfl)) ?_; walk_nrm))
  obtain ⟨fs, hu96⟩ := und96
  refine Walk.loadS 96 (.tmp 28) rfl (by rfl) (by decide) rfl cb (co + k * 5) (fiveCells cd cr ca cbb cv) _ rfl hc hu96 rfl (by kernel_rfl) ?_
  walk_nrm
  (co_applyP Walk.opw (ho_of (by conv => lhs; whnf) (by kernel_rfl)) (by rfl) (by decide) ?wev1 ?wdr1 ?wrun1; (case' wrun1 => (intro dd K hK; go_simp; simp only [alloc_at', setCell_at']; refine hK _ ?wmore1; clear hK K)); (case wdr1 => exact fun dd es hes => DR.alloc' dd es hes); (case wev1 => (intro dd e he; simp [go_sem, *] at he)); try walk_nrm)
  refine Walk.storeS 96 (.tmp 7) (.tmp 29) rfl (by rfl) (by decide) rfl w.heap.size (fiveCells cd cr ca cbb cv).toArray _ 96 rfl rfl (heap_alloc_new w _) (by kernel_rfl) (by rfl) (by simp [fiveCells, Value.oneCell']) hA ?_
  rw [setRow_alloc]
  have hs2 : (cdW w cd cr ca cbb cv).heap.size = w.heap.size + 2 := by simp [cdW]
  have hs1 : (w.alloc (.cells #[.int .i64 cd, .int .i64 cr, .int .i64 ca, .int .i64 cbb, .int .i64 cv] 96)).heap.size = w.heap.size + 1 := by simp
  have hrow2 : (cdW w cd cr ca cbb cv).ownsRow n0 99 5 (.slice la k lc) k xs := (hrow.kept (World.grownBy_alloc w _ none) (by cases (Value.slice la k lc).ownBlock <;> simp)).kept (World.grownBy_alloc _ _ none) (by cases (Value.slice la k lc).ownBlock <;> simp)
  have hnew : ∀ y v, (fiveCells cd cr ca cbb cv)[y]? = some v → (cdW w cd cr ca cbb cv).cell? ((⟨w.heap.size + 1, 0, none⟩ : Addr).add y) = some v := fun y v hv => by
    rw [add_none, Nat.zero_add, ← hs1]
    refine (cell_of (heap_alloc_new _ _) y).trans ?_
    simpa [fiveCells] using hv
  obtain ⟨f0, f1, f2, f3, f4⟩ := five_at w cd cr ca cbb cv
  have hcdW : (w.alloc (.cells #[.int .i64 cd, .int .i64 cr, .int .i64 ca, .int .i64 cbb, .int .i64 cv] 96)).alloc (.cells #[.int .i64 cd, .int .i64 cr, .int .i64 ca, .int .i64 cbb, .int .i64 cv] 99) = cdW w cd cr ca cbb cv := rfl
  simp only [fiveCells] at hrow2 hnew ⊢
  generalize hW1 : w.alloc (.cells #[.int .i64 cd, .int .i64 cr, .int .i64 ca, .int .i64 cbb, .int .i64 cv] 96) = w1 at *
  walk_nrm
  repeat (first | (refine Walk.c rfl ?_) | (refine Walk.cReg ?_; simp only [List.size_toArray, List.length_cons, List.length_nil, Nat.reduceAdd, Nat.zero_add, List.range, List.range.loop]) | (refine Walk.cRet ?_) | (refine Walk.cEnd ?_) | (refine Walk.opq (ho_of (by conv => lhs; whnf) (by kernel_rfl)) (by rfl) (by decide) (fun dd e he => ?_) (fun dd K hK => ?_); (· (simp [go_sem, *] at he; try (subst he; exact evR_read _ _))); go_simp; refine hK _ ?_; clear hK K; try walk_nrm) | (refine Walk.ctl rfl (fun w => stepG_unwanted (ho_of (by conv => lhs; whnf) (by kernel_rfl)) (by rfl)) ?_; walk_nrm))
  (co_applyP Walk.opw (ho_of (by conv => lhs; whnf) (by kernel_rfl)) (by rfl) (by decide) ?wev2 ?wdr2 ?wrun2; (case' wrun2 => (intro dd K hK; go_simp; simp only [alloc_at', setCell_at']; refine hK _ ?wmore2; clear hK K)); (case wdr2 => exact fun dd es hes => DR.alloc' dd es hes); (case wev2 => (intro dd e he; simp [go_sem, *] at he)); try walk_nrm)
  rw [hcdW]
  have hi99 := Option.some_get (show (Try.prog.info? 99).isSome = true by kernel_rfl)
  refine Walk.append (.tmp 30) (.tmp 42) 94 rfl (by rfl) (by decide) rfl n0 99 _ (.agg #[.int .i64 0, .int .i64 0, .int .i64 0, .int .i64 0, .int .i64 0]) 5 40 (by kernel_rfl) hi99.symm (by rfl) (by rfl) (by rfl) (by rfl) (by decide) (.slice la k lc) k xs rfl hrow2 ⟨w.heap.size + 1, 0, none⟩ 1 1 (fiveCells cd cr ca cbb cv) ?_ (by rfl) hnew (by simp [fiveCells, Value.oneCell']) (by decide) (by simp [maxLen]; omega) (by omega) (by omega) hap (fun g cap w3 hown hg hat hlt => ?_)
  · simp [Act.eval, hs1]
  clear hi99
  walk_nrm
  repeat (first | (refine Walk.c rfl ?_) | (refine Walk.cReg ?_; simp only [List.size_toArray, List.length_cons, List.length_nil, Nat.reduceAdd, Nat.zero_add, List.range, List.range.loop]) | (refine Walk.cRet ?_) | (refine Walk.cEnd ?_) | (refine Walk.opq (ho_of (by conv => lhs; whnf) (by kernel_rfl)) (by rfl) (by decide) (fun dd e he => ?_) (fun dd K hK => ?_); (· (simp [go_sem, *] at he; try (subst he; exact evR_read _ _))); go_simp; refine hK _ ?_; clear hK K; try walk_nrm) | (refine Walk.ctl rfl (fun w => stepG_unwanted (ho_of (by conv => lhs; whnf) (by kernel_rfl)) (by rfl)) ?_; walk_nrm))
  refine Walk.ctl rfl (fun w => stepG_inLoop) ?_
  refine .stop fun d' => ⟨g, cap, w3, at_slots ?_, ⟨d', rfl⟩, hown, hg, hat, hlt⟩
  have hc : ((k + 1 : Nat) : Int) = (k : Int) + 1 := by simp
  simp only [hd15i, in15, row15, next15, body15, rest15, Try.f15, hc]
  rfl

set_option maxHeartbeats 8000000 in
set_option maxRecDepth 100000 in
theorem codes_row (pb po n pc : Nat) (oa : Option Addr) (oc i : Nat) (ca : Option Addr) (cl cc : Nat) (la : Option Addr) (lc n0 : Nat) (xs : List Value) (u : Nat → Value) (cs : List Frame) (w : World) (hi : i < n) (hn : n ≤ 1099511627776) (hp : w.cell? ⟨pb, po + i, none⟩ = some (.slice ca cl cc))
    (hrow : w.ownsRow n0 94 1 (.slice oa i oc) i xs) (hb : n0 ≤ w.heap.size) (hap : ∀ g, (Value.slice oa i oc).ownBlock = some g → Apart V g) :
    Walk Try.prog main (DR V) (fun g' w' => ∃ g cap w3, (∃ u', g' = G (hd15 (.slice (some ⟨pb, po, none⟩) n pc) (some ⟨g, 0, none⟩) cap (i + 1) u') cs) ∧ (∃ d, w' = w3.at d) ∧ w3.ownsRow n0 94 1 (.slice (some ⟨g, 0, none⟩) (i + 1) cap) (i + 1) (xs ++ [.slice la cl lc]) ∧ (w.alloc (.cells #[.slice la cl lc] 94)).grownBy w3 (Value.slice oa i oc).ownBlock ∧ ((Value.slice oa i oc).ownBlock = some g ∨ g = w.heap.size + 1) ∧ g < w3.heap.size)
      (G (hd15i (.slice (some ⟨pb, po, none⟩) n pc) oa oc i la lc cl u) cs) w := by
  have hw1 : IntKind.wrap .i64 ((i : Int) + 1) = (i : Int) + 1 := by rw [IntKind.wrap_i64]; omega
  conv => arg 5; unfold hd15i; simp only [in15, row15, next15, body15, Try.f15]
  repeat (first | (refine Walk.c rfl ?_) | (refine Walk.cReg ?_; simp only [List.size_toArray, List.length_cons, List.length_nil, Nat.reduceAdd, Nat.zero_add, List.range, List.range.loop]) | (refine Walk.cRet ?_) | (refine Walk.cEnd ?_) | (refine Walk.opq (ho_of (by conv => lhs; whnf) (by kernel_rfl)) (by rfl) (by decide) (fun dd e he => ?_) (fun dd K hK => ?_); (· (simp [go_sem, *] at he; try (subst he; exact evR_read _ _))); go_simp; refine hK _ ?_; clear hK K; try walk_nrm) | (refine Walk.ctl rfl (fun w => stepG_unwanted (ho_of (by conv => lhs; whnf) (by kernel_rfl)) (by rfl)) ?_; walk_nrm))
  (co_applyP Walk.opw (ho_of (by conv => lhs; whnf) (by kernel_rfl)) (by rfl) (by decide) ?wev3 ?wdr3 ?wrun3; (case' wrun3 => (intro dd K hK; go_simp; simp only [alloc_at', setCell_at']; refine hK _ ?wmore3; clear hK K)); (case wdr3 => exact fun dd es hes => DR.alloc' dd es hes); (case wev3 => (intro dd e he; simp [go_sem, *] at he)); try walk_nrm)
  have hs1 : (w.alloc (.cells #[.slice la cl lc] 94)).heap.size = w.heap.size + 1 := by simp
  have hrow2 : (w.alloc (.cells #[.slice la cl lc] 94)).ownsRow n0 94 1 (.slice oa i oc) i xs := hrow.kept (World.grownBy_alloc w _ none) (by cases (Value.slice oa i oc).ownBlock <;> simp)
  have hnew : ∀ y v, ([.slice la cl lc] : List Value)[y]? = some v → (w.alloc (.cells #[.slice la cl lc] 94)).cell? ((⟨w.heap.size, 0, none⟩ : Addr).add y) = some v := fun y v hv => by
    rw [add_none, Nat.zero_add]
    refine (cell_of (heap_alloc_new _ _) y).trans ?_
    simpa using hv
  have hi94 := Option.some_get (show (Try.prog.info? 94).isSome = true by kernel_rfl)
  refine Walk.append (.tmp 44) (.tmp 46) 30 rfl (by rfl) (by decide) rfl n0 94 _ (.slice none 0 0) 1 24 (by kernel_rfl) hi94.symm (by rfl) (by rfl) (by rfl) (by rfl) (by decide) (.slice oa i oc) i xs rfl hrow2 ⟨w.heap.size, 0, none⟩ 1 1 [.slice la cl lc] ?_ (by rfl) hnew (by simp [Value.oneCell']) (by decide) (by simp [maxLen]; omega) (by omega) (by omega) hap (fun g cap w3 hown hg hat hlt => ?_)
  · simp [Act.eval]
  clear hi94
  walk_nrm
  repeat (first | (refine Walk.c rfl ?_) | (refine Walk.cReg ?_; simp only [List.size_toArray, List.length_cons, List.length_nil, Nat.reduceAdd, Nat.zero_add, List.range, List.range.loop]) | (refine Walk.cRet ?_) | (refine Walk.cEnd ?_) | (refine Walk.opq (ho_of (by conv => lhs; whnf) (by kernel_rfl)) (by rfl) (by decide) (fun dd e he => ?_) (fun dd K hK => ?_); (· (simp [go_sem, *] at he; try (subst he; exact evR_read _ _))); go_simp; refine hK _ ?_; clear hK K; try walk_nrm) | (refine Walk.ctl rfl (fun w => stepG_unwanted (ho_of (by conv => lhs; whnf) (by kernel_rfl)) (by rfl)) ?_; walk_nrm))
  refine Walk.ctl rfl (fun w => stepG_inLoop) ?_
  refine .stop fun d' => ⟨g, cap, w3, at_slots ?_, ⟨d', rfl⟩, hown, hg, by rw [← hs1]; exact hat, hlt⟩
  have hc : ((i + 1 : Nat) : Int) = (i : Int) + 1 := by simp
  simp only [hd15, body15, rest15, Try.f15, hc]
  rfl
end Go.Proofs.Ytgiiicdpbdfemaa
end

/- Package turn's programs, in company: reckon: DoSet. -/
section
namespace Go.Proofs.Ytgiiicdpbdfemaa
open Go.Conc Go.RowKit Go.Relay
open Go.ConcN (upd upd_ne upd_same)

variable {main : Bool} {V : Nat → Option Wait}

set_option maxHeartbeats 8000000 in
set_option maxRecDepth 100000 in
theorem reckon_set (W : Nat) (cr ca cb cv next : Int) (x : Value) (w : World) (hc : w.cell? ⟨W, 2 + (cr % 4).toNat, none⟩ = some x) (hz : w.frozen? ⟨W, 2 + (cr % 4).toNat, none⟩ = false) (hf : Free V ⟨W, 2 + (cr % 4).toNat, none⟩) (hn : 0 ≤ next) (hn2 : next < 4611686018427387904) :
    CallV Try.prog main V 73 #[.pointer (some ⟨W, 0, none⟩), codeV 1 cr ca cb cv, .int .i64 next] w (.int .i64 (next + 1)) ((boxW w 1 cr ca cb cv).setCell ⟨W, 2 + (cr % 4).toNat, none⟩ (.int .i64 cv)) := by
  refine callW_in Try.func73 rfl fun fr cs => ?_
  refine head73 W 1 cr ca cb cv next (fr :: cs) w fun u e7 e8 e9 => ?_
  obtain ⟨b0, b1, b2, b3, b4⟩ := box_cells w 1 cr ca cb cv
  obtain ⟨c1, c2⟩ := box_reg 1 cr ca cb cv hc
  rw [hz] at c2
  generalize boxW w 1 cr ca cb cv = w1 at *
  simp only [tm73, rest73, Try.f73]
  rw [e7, e8, e9]
  clear e7 e8 e9
  repeat (first | (refine Walk.c rfl ?_) | (refine Walk.cReg ?_; simp only [List.size_toArray, List.length_cons, List.length_nil, Nat.reduceAdd, Nat.zero_add, List.range, List.range.loop]) | (refine Walk.cRet ?_) | (refine Walk.cEnd ?_) | (refine Walk.opq (ho_of (by conv => lhs; whnf) (by kernel_rfl)) (by rfl) (by decide) (fun dd e he => ?_) (fun dd K hK => ?_); (· (simp [go_sem, *] at he; try (subst he; exact evR_read _ _))); go_simp; refine hK _ ?_; clear hK K; try walk_nrm) | (refine Walk.ctl rfl (fun w => stepG_unwanted (ho_of (by conv => lhs; whnf) (by kernel_rfl)) (by rfl)) ?_; walk_nrm))
  (co_applyP Walk.opw (ho_of (by conv => lhs; whnf) (by kernel_rfl)) (by rfl) (by decide) ?wev1 ?wdr1 ?wrun1; (case' wrun1 => (intro dd K hK; go_simp; simp only [alloc_at', setCell_at']; refine hK _ ?wmore1; clear hK K)); (case wdr1 => exact fun dd es hes => DR.set' hf c1 dd es hes); (case wev1 => (intro dd e he; simp [go_sem, storedEv, ev_store_bool, ev_store_int, ev_store_slice, ev_store_pointer, *] at he; subst he; exact evR_write _ _ hf)); try walk_nrm)
  repeat (first | (refine Walk.c rfl ?_) | (refine Walk.cReg ?_; simp only [List.size_toArray, List.length_cons, List.length_nil, Nat.reduceAdd, Nat.zero_add, List.range, List.range.loop]) | (refine Walk.cRet ?_) | (refine Walk.cEnd ?_) | (refine Walk.opq (ho_of (by conv => lhs; whnf) (by kernel_rfl)) (by rfl) (by decide) (fun dd e he => ?_) (fun dd K hK => ?_); (· (simp [go_sem, *] at he; try (subst he; exact evR_read _ _))); go_simp; refine hK _ ?_; clear hK K; try walk_nrm) | (refine Walk.ctl rfl (fun w => stepG_unwanted (ho_of (by conv => lhs; whnf) (by kernel_rfl)) (by rfl)) ?_; walk_nrm))
  exact Walk.ret1 rfl rfl Try.func73 rfl fun d => ⟨congrArg (Value.int .i64) (wrap_ok _ (by omega) (by omega)), d, rfl⟩
end Go.Proofs.Ytgiiicdpbdfemaa
end

/- Package turn's programs, in company: reckon: DoSum. -/
section
namespace Go.Proofs.Ytgiiicdpbdfemaa
open Go.Conc Go.RowKit Go.Relay
open Go.ConcN (upd upd_ne upd_same)

variable {main : Bool} {V : Nat → Option Wait}

noncomputable def body73 : Code := match rest73 with | .seq (.seq _ (.block _ c)) _ => c | _ => .skip
noncomputable def code73s : Code := match body73 with | .seq _ (.cond _ _ (.seq _ (.cond _ _ (.seq _ (.cond _ c _))))) => c | _ => .skip
noncomputable def reg73s : Array Oper := match code73s with | .region _ ops _ => ops | _ => #[]
def tm73s (W X : Nat) (c : Value) (next cr ca cb : Int) (u : Nat → Value) : Array Value := #[.pointer (some ⟨W, 0, none⟩), c, .int .i64 next, undef, .pointer (some ⟨X, 0, none⟩), undef, .int .i64 0, .pointer (some ⟨W, 2 + (cr % 4).toNat, none⟩), .pointer (some ⟨W, 2 + (ca % 4).toNat, none⟩), .pointer (some ⟨W, 2 + (cb % 4).toNat, none⟩), u 10, u 11, u 12, u 13, u 14, u 15, u 16, u 17, u 18, u 19, u 20, u 21, u 22, u 23, u 24, u 25, u 26, u 27, u 28, u 29, u 30, u 31, u 32, u 33, u 34, u 35, u 36, u 37, u 38, u 39, u 40, u 41, u 42, u 43, u 44, u 45, u 46, u 47, u 48, u 49, u 50, u 51, u 52, u 53, u 54, u 55, u 56, u 57, u 58, u 59, u 60, u 61, u 62, u 63, u 64, u 65, u 66, u 67, u 68, u 69, u 70, u 71, u 72, u 73, u 74, u 75, u 76, u 77, u 78, u 79, u 80, u 81, u 82, u 83, u 84, u 85, u 86]

set_option maxHeartbeats 8000000 in
set_option maxRecDepth 100000 in
theorem reg73s_walk {Stop : Goroutine → World → Prop} (W X : Nat) (c : Value) (cr ca cb next : Int) (k : List Item) (cs : List Frame) (u0 : Nat → Value) (w1 : World) (x : Value) (y z : Int) (hc : w1.cell? ⟨W, 2 + (cr % 4).toNat, none⟩ = some x) (hz : w1.frozen? ⟨W, 2 + (cr % 4).toNat, none⟩ = false) (hf : Free V ⟨W, 2 + (cr % 4).toNat, none⟩)
    (hy : w1.cell? ⟨W, 2 + (ca % 4).toNat, none⟩ = some (.int .i64 y)) (hz' : w1.cell? ⟨W, 2 + (cb % 4).toNat, none⟩ = some (.int .i64 z))
    (hk : ∀ u : Nat → Value, Walk Try.prog main (DR V) Stop (G ((base 73).at ⟨tm73s W X c next cr ca cb u, []⟩ (.inRegion reg73s [] :: k)) cs) (w1.setCell ⟨W, 2 + (cr % 4).toNat, none⟩ (.int .i64 (IntKind.i64.wrap (y + z))))) :
    Walk Try.prog main (DR V) Stop (G ((base 73).at ⟨tm73s W X c next cr ca cb u0, []⟩ (.code (.region 8 reg73s true) :: k)) cs) w1 := by
  refine Walk.drawnI (Inv := fun f a w' => ∃ u, a = ⟨tm73s W X c next cr ca cb u, []⟩ ∧ Facts [39, 40, 41, 42, 43, 44, 45, 46, 47, 1000] [.pointer (some ⟨W, 2 + (cr % 4).toNat, none⟩), .pointer (some ⟨W, 2 + (ca % 4).toNat, none⟩), .pointer (some ⟨W, 2 + (ca % 4).toNat, none⟩), .int .i64 y, .pointer (some ⟨W, 2 + (cb % 4).toNat, none⟩), .pointer (some ⟨W, 2 + (cb % 4).toNat, none⟩), .int .i64 z, .int .i64 (IntKind.i64.wrap (y + z)), .pointer (some ⟨W, 2 + (cr % 4).toNat, none⟩), undef] f u ∧ ((f 9 = false ∧ ∃ d, w' = w1.at d) ∨ (f 9 = true ∧ (∀ j, j < 10 → f j = true) ∧ ∃ d, w' = (w1.setCell ⟨W, 2 + (cr % 4).toNat, none⟩ (.int .i64 (IntKind.i64.wrap (y + z)))).at d))) (by kernel_rfl) (by kernel_rfl) (fun d => ⟨u0, rfl, Facts.none _ _ _, .inl ⟨rfl, d, rfl⟩⟩) ?_ ?_
  · rintro f i o a w' ⟨u, rfl, F, hw⟩ hfi ho hdeps rest hr
    have hi : i < 10 := (Array.getElem?_eq_some_iff.1 ho).1
    rcases hw with ⟨h9, d, rfl⟩ | ⟨_, hall, _⟩
    · refine Walk.back ?_ d
      match i, hi with
      | 0, _ =>
        clear hdeps hfi ho
        simp only [tm73s, reg73s, code73s, body73, rest73, Try.f73] at hr ⊢
        (refine Walk.opq (ho_of (by conv => lhs; whnf) (by kernel_rfl)) (by rfl) (by decide) (fun dd e he => ?_) (fun dd K hK => ?_); (· (simp [go_sem, *] at he; try (subst he; exact evR_read _ _))); go_simp; refine hK _ ?_; clear hK K; try walk_nrm)
        refine hr _ _ ⟨upd u 39 (.pointer (some ⟨W, 2 + (cr % 4).toNat, none⟩)), ?_, F.set (by decide) rfl rfl, .inl ⟨by rw [upd_ne _ _ (by omega)]; exact h9, w1.drawn, rfl⟩⟩
        simp [upd]
      | 1, _ =>
        clear hdeps hfi ho
        simp only [tm73s, reg73s, code73s, body73, rest73, Try.f73] at hr ⊢
        (refine Walk.opq (ho_of (by conv => lhs; whnf) (by kernel_rfl)) (by rfl) (by decide) (fun dd e he => ?_) (fun dd K hK => ?_); (· (simp [go_sem, *] at he; try (subst he; exact evR_read _ _))); go_simp; refine hK _ ?_; clear hK K; try walk_nrm)
        refine hr _ _ ⟨upd u 40 (.pointer (some ⟨W, 2 + (ca % 4).toNat, none⟩)), ?_, F.set (by decide) rfl rfl, .inl ⟨by rw [upd_ne _ _ (by omega)]; exact h9, w1.drawn, rfl⟩⟩
        simp [upd]
      | 2, _ =>
        have hd := deps_of (l := [1]) (by kernel_rfl) ho hdeps
        have e40 := F 1 40 _ (hd 1 (by simp)) rfl rfl
        clear hdeps hfi ho
        simp only [tm73s, reg73s, code73s, body73, rest73, Try.f73] at hr ⊢
        (refine Walk.opq (ho_of (by conv => lhs; whnf) (by kernel_rfl)) (by rfl) (by decide) (fun dd e he => ?_) (fun dd K hK => ?_); (· (simp [go_sem, *] at he; try (subst he; exact evR_read _ _))); go_simp; refine hK _ ?_; clear hK K; try walk_nrm)
        refine hr _ _ ⟨upd u 41 (.pointer (some ⟨W, 2 + (ca % 4).toNat, none⟩)), ?_, F.set (by decide) rfl rfl, .inl ⟨by rw [upd_ne _ _ (by omega)]; exact h9, w1.drawn, rfl⟩⟩
        simp [upd, e40]
      | 3, _ =>
        have hd := deps_of (l := [2]) (by kernel_rfl) ho hdeps
        have e41 := F 2 41 _ (hd 2 (by simp)) rfl rfl
        clear hdeps hfi ho
        simp only [tm73s, reg73s, code73s, body73, rest73, Try.f73] at hr ⊢
        (refine Walk.opq (ho_of (by conv => lhs; whnf) (by kernel_rfl)) (by rfl) (by decide) (fun dd e he => ?_) (fun dd K hK => ?_); (· (simp [go_sem, *] at he; try (subst he; exact evR_read _ _))); go_simp; refine hK _ ?_; clear hK K; try walk_nrm)
        refine hr _ _ ⟨upd u 42 (.int .i64 y), ?_, F.set (by decide) rfl rfl, .inl ⟨by rw [upd_ne _ _ (by omega)]; exact h9, w1.drawn, rfl⟩⟩
        simp [upd, e41]
      | 4, _ =>
        clear hdeps hfi ho
        simp only [tm73s, reg73s, code73s, body73, rest73, Try.f73] at hr ⊢
        (refine Walk.opq (ho_of (by conv => lhs; whnf) (by kernel_rfl)) (by rfl) (by decide) (fun dd e he => ?_) (fun dd K hK => ?_); (· (simp [go_sem, *] at he; try (subst he; exact evR_read _ _))); go_simp; refine hK _ ?_; clear hK K; try walk_nrm)
        refine hr _ _ ⟨upd u 43 (.pointer (some ⟨W, 2 + (cb % 4).toNat, none⟩)), ?_, F.set (by decide) rfl rfl, .inl ⟨by rw [upd_ne _ _ (by omega)]; exact h9, w1.drawn, rfl⟩⟩
        simp [upd]
      | 5, _ =>
        have hd := deps_of (l := [4]) (by kernel_rfl) ho hdeps
        have e43 := F 4 43 _ (hd 4 (by simp)) rfl rfl
        clear hdeps hfi ho
        simp only [tm73s, reg73s, code73s, body73, rest73, Try.f73] at hr ⊢
        (refine Walk.opq (ho_of (by conv => lhs; whnf) (by kernel_rfl)) (by rfl) (by decide) (fun dd e he => ?_) (fun dd K hK => ?_); (· (simp [go_sem, *] at he; try (subst he; exact evR_read _ _))); go_simp; refine hK _ ?_; clear hK K; try walk_nrm)
        refine hr _ _ ⟨upd u 44 (.pointer (some ⟨W, 2 + (cb % 4).toNat, none⟩)), ?_, F.set (by decide) rfl rfl, .inl ⟨by rw [upd_ne _ _ (by omega)]; exact h9, w1.drawn, rfl⟩⟩
        simp [upd, e43]
      | 6, _ =>
        have hd := deps_of (l := [5]) (by kernel_rfl) ho hdeps
        have e44 := F 5 44 _ (hd 5 (by simp)) rfl rfl
        clear hdeps hfi ho
        simp only [tm73s, reg73s, code73s, body73, rest73, Try.f73] at hr ⊢
        (refine Walk.opq (ho_of (by conv => lhs; whnf) (by kernel_rfl)) (by rfl) (by decide) (fun dd e he => ?_) (fun dd K hK => ?_); (· (simp [go_sem, *] at he; try (subst he; exact evR_read _ _))); go_simp; refine hK _ ?_; clear hK K; try walk_nrm)
        refine hr _ _ ⟨upd u 45 (.int .i64 z), ?_, F.set (by decide) rfl rfl, .inl ⟨by rw [upd_ne _ _ (by omega)]; exact h9, w1.drawn, rfl⟩⟩
        simp [upd, e44]
      | 7, _ =>
        have hd := deps_of (l := [3, 6]) (by kernel_rfl) ho hdeps
        have e42 := F 3 42 _ (hd 3 (by simp)) rfl rfl
        have e45 := F 6 45 _ (hd 6 (by simp)) rfl rfl
        clear hdeps hfi ho
        simp only [tm73s, reg73s, code73s, body73, rest73, Try.f73] at hr ⊢
        (refine Walk.opq (ho_of (by conv => lhs; whnf) (by kernel_rfl)) (by rfl) (by decide) (fun dd e he => ?_) (fun dd K hK => ?_); (· (simp [go_sem, *] at he; try (subst he; exact evR_read _ _))); go_simp; refine hK _ ?_; clear hK K; try walk_nrm)
        refine hr _ _ ⟨upd u 46 (.int .i64 (IntKind.i64.wrap (y + z))), ?_, F.set (by decide) rfl rfl, .inl ⟨by rw [upd_ne _ _ (by omega)]; exact h9, w1.drawn, rfl⟩⟩
        simp [upd, e42, e45]
      | 8, _ =>
        have hd := deps_of (l := [0]) (by kernel_rfl) ho hdeps
        have e39 := F 0 39 _ (hd 0 (by simp)) rfl rfl
        clear hdeps hfi ho
        simp only [tm73s, reg73s, code73s, body73, rest73, Try.f73] at hr ⊢
        (refine Walk.opq (ho_of (by conv => lhs; whnf) (by kernel_rfl)) (by rfl) (by decide) (fun dd e he => ?_) (fun dd K hK => ?_); (· (simp [go_sem, *] at he; try (subst he; exact evR_read _ _))); go_simp; refine hK _ ?_; clear hK K; try walk_nrm)
        refine hr _ _ ⟨upd u 47 (.pointer (some ⟨W, 2 + (cr % 4).toNat, none⟩)), ?_, F.set (by decide) rfl rfl, .inl ⟨by rw [upd_ne _ _ (by omega)]; exact h9, w1.drawn, rfl⟩⟩
        simp [upd, e39]
      | 9, _ =>
        have hd := deps_of (l := [0, 1, 2, 3, 4, 5, 6, 7, 8]) (by kernel_rfl) ho hdeps
        have e46 := F 7 46 _ (hd 7 (by simp)) rfl rfl
        have e47 := F 8 47 _ (hd 8 (by simp)) rfl rfl
        clear hdeps hfi ho
        simp only [tm73s, reg73s, code73s, body73, rest73, Try.f73] at hr ⊢
        simp only [e46, e47]
        (co_applyP Walk.opw (ho_of (by conv => lhs; whnf) (by kernel_rfl)) (by rfl) (by decide) ?wev1 ?wdr1 ?wrun1; (case' wrun1 => (intro dd K hK; go_simp; simp only [alloc_at', setCell_at']; refine hK _ ?wmore1; clear hK K)); (case wdr1 => exact fun dd es hes => DR.set' hf hc dd es hes); (case wev1 => (intro dd e he; simp [go_sem, storedEv, ev_store_bool, ev_store_int, ev_store_slice, ev_store_pointer, *] at he; subst he; exact evR_write _ _ hf)); try walk_nrm)
        refine hr _ _ ⟨upd u 1000 undef, ?_, F.set (by decide) rfl rfl, .inr ⟨upd_same _ _ _, fun j hj => ?_, (w1.setCell ⟨W, 2 + (cr % 4).toNat, none⟩ (.int .i64 (IntKind.i64.wrap (y + z)))).drawn, rfl⟩⟩
        · simp [upd, e46, e47]
        · by_cases e : j = 9
          · subst e; exact upd_same _ _ _
          · rw [upd_ne _ _ e]; exact hd j (by simp; omega)
    · have := hall i hi; rw [this] at hfi; cases hfi
  · rintro f a w' ⟨u, rfl, F, hw⟩ hall
    have hsz : reg73s.size = 10 := by kernel_rfl
    rcases hw with ⟨h, _⟩ | ⟨_, _, d, rfl⟩
    · rw [hall 9 (by rw [hsz]; omega)] at h; cases h
    · exact (hk u).back d

set_option maxHeartbeats 8000000 in
set_option maxRecDepth 100000 in
theorem reckon_sum (W : Nat) (cr ca cb cv next : Int) (x : Value) (y z : Int) (w : World) (hc : w.cell? ⟨W, 2 + (cr % 4).toNat, none⟩ = some x) (hz : w.frozen? ⟨W, 2 + (cr % 4).toNat, none⟩ = false) (hf : Free V ⟨W, 2 + (cr % 4).toNat, none⟩) (hn : 0 ≤ next) (hn2 : next < 4611686018427387904)
    (hy : w.cell? ⟨W, 2 + (ca % 4).toNat, none⟩ = some (.int .i64 y)) (hz' : w.cell? ⟨W, 2 + (cb % 4).toNat, none⟩ = some (.int .i64 z)) :
    CallV Try.prog main V 73 #[.pointer (some ⟨W, 0, none⟩), codeV 3 cr ca cb cv, .int .i64 next] w (.int .i64 (next + 1)) ((boxW w 3 cr ca cb cv).setCell ⟨W, 2 + (cr % 4).toNat, none⟩ (.int .i64 (IntKind.i64.wrap (y + z)))) := by
  refine callW_in Try.func73 rfl fun fr cs => ?_
  refine head73 W 3 cr ca cb cv next (fr :: cs) w fun u e7 e8 e9 => ?_
  obtain ⟨b0, b1, b2, b3, b4⟩ := box_cells w 3 cr ca cb cv
  obtain ⟨c1, c2⟩ := box_reg 3 cr ca cb cv hc
  rw [hz] at c2
  have c3 := (box_reg 3 cr ca cb cv hy).1
  have c4 := (box_reg 3 cr ca cb cv hz').1
  generalize boxW w 3 cr ca cb cv = w1 at *
  simp only [tm73, rest73, Try.f73]
  rw [e7, e8, e9]
  clear e7 e8 e9
  repeat (first | (refine Walk.c rfl ?_) | (refine Walk.cReg ?_; simp only [List.size_toArray, List.length_cons, List.length_nil, Nat.reduceAdd, Nat.zero_add, List.range, List.range.loop]) | (refine Walk.cRet ?_) | (refine Walk.cEnd ?_) | (refine Walk.opq (ho_of (by conv => lhs; whnf) (by kernel_rfl)) (by rfl) (by decide) (fun dd e he => ?_) (fun dd K hK => ?_); (· (simp [go_sem, *] at he; try (subst he; exact evR_read _ _))); go_simp; refine hK _ ?_; clear hK K; try walk_nrm) | (refine Walk.ctl rfl (fun w => stepG_unwanted (ho_of (by conv => lhs; whnf) (by kernel_rfl)) (by rfl)) ?_; walk_nrm))
  refine reg73s_walk W w.heap.size (codeV 3 cr ca cb cv) cr ca cb next _ _ (fun k => ([undef, undef, undef, undef, undef, undef, undef, undef, undef, undef, u 10, u 11, u 12, u 13, u 14, u 15, u 16, u 17, u 18, u 19, u 20, u 21, .pointer (some ⟨w.heap.size, 0, none⟩), .int .i64 3, .bool false, .bool false, u 26, u 27, u 28, u 29, .bool false, .bool false, u 32, u 33, u 34, u 35, u 36, .bool true, .bool true, u 39, u 40, u 41, u 42, u 43, u 44, u 45, u 46, u 47, u 48, u 49, u 50, u 51, u 52, u 53, u 54, u 55, u 56, u 57, u 58, u 59, u 60, u 61, u 62, u 63, u 64, u 65, u 66, u 67, u 68, u 69, u 70, u 71, u 72, u 73, u 74, u 75, u 76, u 77, u 78, u 79, u 80, u 81, u 82, u 83, u 84, u 85, u 86] : List Value).getD k undef) w1 x y z c1 c2 hf c3 c4 fun u => ?_
  simp only [tm73s]
  repeat (first | (refine Walk.c rfl ?_) | (refine Walk.cReg ?_; simp only [List.size_toArray, List.length_cons, List.length_nil, Nat.reduceAdd, Nat.zero_add, List.range, List.range.loop]) | (refine Walk.cRet ?_) | (refine Walk.cEnd ?_) | (refine Walk.opq (ho_of (by conv => lhs; whnf) (by kernel_rfl)) (by rfl) (by decide) (fun dd e he => ?_) (fun dd K hK => ?_); (· (simp [go_sem, *] at he; try (subst he; exact evR_read _ _))); go_simp; refine hK _ ?_; clear hK K; try walk_nrm) | (refine Walk.ctl rfl (fun w => stepG_unwanted (ho_of (by conv => lhs; whnf) (by kernel_rfl)) (by rfl)) ?_; walk_nrm))
  exact Walk.ret1 rfl rfl Try.func73 rfl fun d => ⟨congrArg (Value.int .i64) (wrap_ok _ (by omega) (by omega)), d, rfl⟩
end Go.Proofs.Ytgiiicdpbdfemaa
end

/- Package turn's programs, in company: reckon: DoTell. -/
section
namespace Go.Proofs.Ytgiiicdpbdfemaa
open Go.Conc Go.RowKit Go.Relay
open Go.ConcN (upd upd_ne upd_same)

variable {main : Bool} {V : Nat → Option Wait}

noncomputable def code73t : Code := match body73 with | .seq _ (.cond _ _ (.seq _ (.cond _ _ (.seq _ (.cond _ _ (.seq _ (.cond _ _ (.seq _ (.cond _ _ (.seq _ (.cond _ c _))))))))))) => c | _ => .skip
noncomputable def reg73t : Array Oper := match code73t with | .region _ ops _ => ops | _ => #[]

theorem Facts.other {dsts : List Nat} {vals : List Value} {f : Nat → Bool} {u : Nat → Value} (F : Facts dsts vals f u) {d : Nat} {v : Value} (hd : d ∉ dsts) : Facts dsts vals f (upd u d v) := by
  intro j d' v' hf hd' hv'
  have hne : d' ≠ d := fun e => hd (by rw [← e]; exact List.mem_of_getElem? hd')
  rw [upd_ne _ _ hne]
  exact F j d' v' hf hd' hv'

def ansW (w1 : World) (y : Int) : World := w1.alloc (.cells #[.bool true, .int .i64 y, .slice none 0 0] 38)
/-- What the append of an answer has left. -/
structure App (n0 : Nat) (w1 : World) (y : Int) (ta : Option Addr) (n tc : Nat) (xs : List Value) (g cap : Nat) (w3 : World) : Prop where
  own : w3.ownsRow n0 38 3 (.slice (some ⟨g, 0, none⟩) (n + 1) cap) (n + 1) (xs ++ [.bool true, .int .i64 y, .slice none 0 0])
  grown : (ansW w1 y).grownBy w3 (Value.slice ta n tc).ownBlock
  hat : (Value.slice ta n tc).ownBlock = some g ∨ g = (ansW w1 y).heap.size
  hlt : g < w3.heap.size

/-- The world while DoTell's operations come up. -/
def WS (n0 W : Nat) (w1 : World) (y : Int) (ta : Option Addr) (n tc : Nat) (xs : List Value) (f : Nat → Bool) (u : Nat → Value) (w' : World) : Prop :=
  (f 10 = false ∧ f 13 = false ∧ ((f 9 = false ∧ ∃ d, w' = w1.at d) ∨ (f 9 = true ∧ ∃ d, w' = (ansW w1 y).at d))) ∨
  (f 10 = true ∧ (∀ j, 1 ≤ j → j < 11 → f j = true) ∧ ∃ g cap w3, App n0 w1 y ta n tc xs g cap w3 ∧ u 82 = .slice (some ⟨g, 0, none⟩) (n + 1) cap ∧
    ((f 13 = false ∧ ∃ d, w' = w3.at d) ∨ (f 13 = true ∧ ∃ d, w' = (w3.setCell ⟨W, 6, none⟩ (.slice (some ⟨g, 0, none⟩) (n + 1) cap)).at d)))

section
variable {n0 W : Nat} {w1 w' : World} {y : Int} {ta : Option Addr} {n tc : Nat} {xs : List Value} {f : Nat → Bool} {u : Nat → Value}
theorem WS.quiet {i d : Nat} {v : Value} (h : WS n0 W w1 y ta n tc xs f u w') (h9 : i ≠ 9 ∧ i ≠ 10) (h13 : i ≠ 13) (h82 : d ≠ 82) : WS n0 W w1 y ta n tc xs (upd f i true) (upd u d v) w' := by
  unfold WS
  rw [upd_ne f true (Ne.symm h9.1), upd_ne f true (Ne.symm h9.2), upd_ne f true (Ne.symm h13), upd_ne u v (Ne.symm h82)]
  rcases h with h | ⟨h1, h2, h3⟩
  · exact .inl h
  · refine .inr ⟨h1, fun j a b => ?_, h3⟩
    by_cases e : j = i
    · subst e; exact upd_same _ _ _
    · rw [upd_ne _ _ e]; exact h2 j a b
theorem WS.cells4 (h : WS n0 W w1 y ta n tc xs f u w') (h4 : f 4 = false) {k : Nat} {v : Value} (h6 : w1.cell? ⟨W, 6, none⟩ = some v) (_ : w1.cell? ⟨W, k, none⟩ = some (.int .i64 y)) : w'.cell? ⟨W, 6, none⟩ = some v := by
  rcases h with ⟨_, _, ⟨_, d, rfl⟩ | ⟨_, d, rfl⟩⟩ | ⟨_, h, _⟩
  · exact h6
  · exact cell_alloc w1 _ h6
  · rw [h 4 (by omega) (by omega)] at h4; cases h4
theorem WS.cells7 (h : WS n0 W w1 y ta n tc xs f u w') (h4 : f 7 = false) {k : Nat} {v : Value} (_ : w1.cell? ⟨W, 6, none⟩ = some v) (h6 : w1.cell? ⟨W, k, none⟩ = some (.int .i64 y)) : w'.cell? ⟨W, k, none⟩ = some (.int .i64 y) := by
  rcases h with ⟨_, _, ⟨_, d, rfl⟩ | ⟨_, d, rfl⟩⟩ | ⟨_, h, _⟩
  · exact h6
  · exact cell_alloc w1 _ h6
  · rw [h 7 (by omega) (by omega)] at h4; cases h4
theorem WS.early9 (h : WS n0 W w1 y ta n tc xs f u w') (h9 : f 9 = false) : f 10 = false ∧ ∃ d, w' = w1.at d := by
  rcases h with ⟨h1, _, ⟨_, h⟩ | ⟨h, _⟩⟩ | ⟨_, h, _⟩
  · exact ⟨h1, h⟩
  · rw [h9] at h; cases h
  · rw [h 9 (by omega) (by omega)] at h9; cases h9
theorem WS.none13 (h : WS n0 W w1 y ta n tc xs f u w') (h9 : f 10 = false) : f 13 = false := by
  rcases h with ⟨_, h, _⟩ | ⟨h, _⟩
  · exact h
  · rw [h9] at h; cases h
theorem WS.late9 (h : WS n0 W w1 y ta n tc xs f u w') (h10 : f 10 = false) (h9 : f 9 = true) : f 13 = false ∧ ∃ d, w' = (ansW w1 y).at d := by
  rcases h with ⟨_, h13, ⟨h, _⟩ | ⟨_, h⟩⟩ | ⟨h, _⟩
  · rw [h9] at h; cases h
  · exact ⟨h13, h⟩
  · rw [h10] at h; cases h
theorem WS.last (h : WS n0 W w1 y ta n tc xs f u w') (h13 : f 13 = false) (h10 : f 10 = true) : ∃ g cap w3, App n0 w1 y ta n tc xs g cap w3 ∧ u 82 = .slice (some ⟨g, 0, none⟩) (n + 1) cap ∧ ∃ d, w' = w3.at d := by
  rcases h with ⟨h, _⟩ | ⟨_, _, g, cap, w3, h1, h2, ⟨_, h⟩ | ⟨h, _⟩⟩
  · rw [h10] at h; cases h
  · exact ⟨g, cap, w3, h1, h2, h⟩
  · rw [h13] at h; cases h
theorem App.frz {g cap : Nat} {w3 : World} (h : App n0 w1 y ta n tc xs g cap w3) {v : Value} (h6 : w1.cell? ⟨W, 6, none⟩ = some v) (hz : w1.frozen? ⟨W, 6, none⟩ = false) (hr : (Value.slice ta n tc).ownBlock ≠ some W) : w3.frozen? ⟨W, 6, none⟩ = false :=
  (h.grown.frozen_far _ (cell_lt _ (cell_alloc w1 _ h6)) (fun e => hr e.symm)).trans (frozen_alloc w1 _ h6 hz)
theorem App.cell {g cap : Nat} {w3 : World} (h : App n0 w1 y ta n tc xs g cap w3) {v : Value} (h6 : w1.cell? ⟨W, 6, none⟩ = some v) (hr : (Value.slice ta n tc).ownBlock ≠ some W) : w3.cell? ⟨W, 6, none⟩ = some v :=
  (h.grown.cell_far _ (cell_lt _ (cell_alloc w1 _ h6)) (fun e => hr e.symm)).trans (cell_alloc w1 _ h6)
end

set_option maxHeartbeats 8000000 in
set_option maxRecDepth 100000 in
theorem reg73t_walk {Stop : Goroutine → World → Prop} (W X n0 : Nat) (c : Value) (cr ca cb next : Int) (k : List Item) (cs : List Frame) (u0 : Nat → Value) (w1 : World) (y : Int) (ta : Option Addr) (n tc : Nat) (xs : List Value) (hy : w1.cell? ⟨W, 2 + (cr % 4).toNat, none⟩ = some (.int .i64 y))
    (h6 : w1.cell? ⟨W, 6, none⟩ = some (.slice ta n tc)) (h6z : w1.frozen? ⟨W, 6, none⟩ = false) (hf : Free V ⟨W, 6, none⟩) (hrow : w1.ownsRow n0 38 3 (.slice ta n tc) n xs) (hbase : n0 ≤ w1.heap.size) (hn : n < 1099511627776) (hap : ∀ g, (Value.slice ta n tc).ownBlock = some g → Apart V g) (hown : (Value.slice ta n tc).ownBlock ≠ some W)
    (hk : ∀ (u : Nat → Value) g cap w3, App n0 w1 y ta n tc xs g cap w3 → Walk Try.prog main (DR V) Stop (G ((base 73).at ⟨tm73s W X c next cr ca cb u, []⟩ (.inRegion reg73t [] :: k)) cs) (w3.setCell ⟨W, 6, none⟩ (.slice (some ⟨g, 0, none⟩) (n + 1) cap))) :
    Walk Try.prog main (DR V) Stop (G ((base 73).at ⟨tm73s W X c next cr ca cb u0, []⟩ (.code (.region 16 reg73t true) :: k)) cs) w1 := by
  have hi38 := Option.some_get (show (Try.prog.info? 38).isSome = true by kernel_rfl)
  have hown' : (ansW w1 y).ownsRow n0 38 3 (.slice ta n tc) n xs := hrow.kept (World.grownBy_alloc w1 (.cells #[.bool true, .int .i64 y, .slice none 0 0] 38) none) (by cases (Value.slice ta n tc).ownBlock <;> simp)
  have hsz1 : (ansW w1 y).heap.size = w1.heap.size + 1 := by simp [ansW]
  have hnews : ∀ (j : Nat) (u : Value), ([.bool true, .int .i64 y, .slice none 0 0] : List Value)[j]? = some u → (ansW w1 y).cell? ((⟨w1.heap.size, 0, none⟩ : Addr).add j) = some u := fun j u hu => by
    have h := World.cell?_alloc_at (w := w1) #[.bool true, .int .i64 y, .slice none 0 0] 38 w1.heap.size j rfl
    have : (⟨w1.heap.size, 0, none⟩ : Addr).add j = ⟨w1.heap.size, j, none⟩ := by simp [Addr.add]; try (intro h; exact h.symm)
    rw [this]
    exact h.trans (by simpa using hu)
  refine Walk.drawnJ (Inv := fun f a w' => ∃ u, a = ⟨tm73s W X c next cr ca cb u, []⟩ ∧ Facts [72, 73, 74, 75, 76, 77, 78, 79, 80, 81, 1001, 83, 84, 1000] [.pointer (some ⟨W, 0, none⟩), .pointer (some ⟨W, 0, none⟩), .pointer (some ⟨W, 0, none⟩), .pointer (some ⟨W, 6, none⟩), .slice ta n tc, .pointer (some ⟨W, 2 + (cr % 4).toNat, none⟩), .pointer (some ⟨W, 2 + (cr % 4).toNat, none⟩), .int .i64 y, .agg #[.bool true, .int .i64 y, .slice none 0 0], .slice (some ⟨w1.heap.size, 0, none⟩) 1 1, undef, .pointer (some ⟨W, 0, none⟩), .pointer (some ⟨W, 6, none⟩), undef] f u ∧ WS n0 W w1 y ta n tc xs f u w') (by kernel_rfl) (by kernel_rfl) (fun d => ⟨u0, rfl, Facts.none _ _ _, .inl ⟨rfl, rfl, .inl ⟨rfl, d, rfl⟩⟩⟩) ?_ ?_
  · rintro f i o a w ⟨u, rfl, F, hw⟩ hC hfi ho hdeps rest hr
    have hi : i < 14 := (Array.getElem?_eq_some_iff.1 ho).1
    match i, hi with
    | 0, _ =>
      clear hdeps ho
      simp only [tm73s, reg73t, code73t, body73, rest73, Try.f73] at hr ⊢
      (refine Walk.opq (ho_of (by conv => lhs; whnf) (by kernel_rfl)) (by rfl) (by decide) (fun dd e he => ?_) (fun dd K hK => ?_); (· (simp [go_sem, *] at he; try (subst he; exact evR_read _ _))); go_simp; refine hK _ ?_; clear hK K; try walk_nrm)
      refine hr _ _ ⟨upd u 72 (.pointer (some ⟨W, 0, none⟩)), ?_, F.set (by decide) rfl rfl, hw.quiet (by decide) (by decide) (by decide)⟩
      simp [upd]
    | 1, _ =>
      clear hdeps ho
      simp only [tm73s, reg73t, code73t, body73, rest73, Try.f73] at hr ⊢
      (refine Walk.opq (ho_of (by conv => lhs; whnf) (by kernel_rfl)) (by rfl) (by decide) (fun dd e he => ?_) (fun dd K hK => ?_); (· (simp [go_sem, *] at he; try (subst he; exact evR_read _ _))); go_simp; refine hK _ ?_; clear hK K; try walk_nrm)
      refine hr _ _ ⟨upd u 73 (.pointer (some ⟨W, 0, none⟩)), ?_, F.set (by decide) rfl rfl, hw.quiet (by decide) (by decide) (by decide)⟩
      simp [upd]
    | 2, _ =>
      have hd := deps_of (l := [1]) (by kernel_rfl) ho hdeps
      have e73 := F 1 73 _ (hd 1 (by simp)) rfl rfl
      clear hdeps ho
      simp only [tm73s, reg73t, code73t, body73, rest73, Try.f73] at hr ⊢
      (refine Walk.opq (ho_of (by conv => lhs; whnf) (by kernel_rfl)) (by rfl) (by decide) (fun dd e he => ?_) (fun dd K hK => ?_); (· (simp [go_sem, *] at he; try (subst he; exact evR_read _ _))); go_simp; refine hK _ ?_; clear hK K; try walk_nrm)
      refine hr _ _ ⟨upd u 74 (.pointer (some ⟨W, 0, none⟩)), ?_, F.set (by decide) rfl rfl, hw.quiet (by decide) (by decide) (by decide)⟩
      simp [upd, e73]
    | 3, _ =>
      have hd := deps_of (l := [2]) (by kernel_rfl) ho hdeps
      have e74 := F 2 74 _ (hd 2 (by simp)) rfl rfl
      clear hdeps ho
      simp only [tm73s, reg73t, code73t, body73, rest73, Try.f73] at hr ⊢
      (refine Walk.opq (ho_of (by conv => lhs; whnf) (by kernel_rfl)) (by rfl) (by decide) (fun dd e he => ?_) (fun dd K hK => ?_); (· (simp [go_sem, *] at he; try (subst he; exact evR_read _ _))); go_simp; refine hK _ ?_; clear hK K; try walk_nrm)
      refine hr _ _ ⟨upd u 75 (.pointer (some ⟨W, 6, none⟩)), ?_, F.set (by decide) rfl rfl, hw.quiet (by decide) (by decide) (by decide)⟩
      simp [upd, e74]
    | 4, _ =>
      have hd := deps_of (l := [3]) (by kernel_rfl) ho hdeps
      have e75 := F 3 75 _ (hd 3 (by simp)) rfl rfl
      have hcell := hw.cells4 hfi h6 hy
      clear hdeps ho
      simp only [tm73s, reg73t, code73t, body73, rest73, Try.f73] at hr ⊢
      (refine Walk.opq (ho_of (by conv => lhs; whnf) (by kernel_rfl)) (by rfl) (by decide) (fun dd e he => ?_) (fun dd K hK => ?_); (· (simp [go_sem, *] at he; try (subst he; exact evR_read _ _))); go_simp; refine hK _ ?_; clear hK K; try walk_nrm)
      refine hr _ _ ⟨upd u 76 (.slice ta n tc), ?_, F.set (by decide) rfl rfl, hw.quiet (by decide) (by decide) (by decide)⟩
      simp [upd, e75]
    | 5, _ =>
      clear hdeps ho
      simp only [tm73s, reg73t, code73t, body73, rest73, Try.f73] at hr ⊢
      (refine Walk.opq (ho_of (by conv => lhs; whnf) (by kernel_rfl)) (by rfl) (by decide) (fun dd e he => ?_) (fun dd K hK => ?_); (· (simp [go_sem, *] at he; try (subst he; exact evR_read _ _))); go_simp; refine hK _ ?_; clear hK K; try walk_nrm)
      refine hr _ _ ⟨upd u 77 (.pointer (some ⟨W, 2 + (cr % 4).toNat, none⟩)), ?_, F.set (by decide) rfl rfl, hw.quiet (by decide) (by decide) (by decide)⟩
      simp [upd]
    | 6, _ =>
      have hd := deps_of (l := [5]) (by kernel_rfl) ho hdeps
      have e77 := F 5 77 _ (hd 5 (by simp)) rfl rfl
      clear hdeps ho
      simp only [tm73s, reg73t, code73t, body73, rest73, Try.f73] at hr ⊢
      (refine Walk.opq (ho_of (by conv => lhs; whnf) (by kernel_rfl)) (by rfl) (by decide) (fun dd e he => ?_) (fun dd K hK => ?_); (· (simp [go_sem, *] at he; try (subst he; exact evR_read _ _))); go_simp; refine hK _ ?_; clear hK K; try walk_nrm)
      refine hr _ _ ⟨upd u 78 (.pointer (some ⟨W, 2 + (cr % 4).toNat, none⟩)), ?_, F.set (by decide) rfl rfl, hw.quiet (by decide) (by decide) (by decide)⟩
      simp [upd, e77]
    | 7, _ =>
      have hd := deps_of (l := [6]) (by kernel_rfl) ho hdeps
      have e78 := F 6 78 _ (hd 6 (by simp)) rfl rfl
      have hcell := hw.cells7 hfi h6 hy
      clear hdeps ho
      simp only [tm73s, reg73t, code73t, body73, rest73, Try.f73] at hr ⊢
      (refine Walk.opq (ho_of (by conv => lhs; whnf) (by kernel_rfl)) (by rfl) (by decide) (fun dd e he => ?_) (fun dd K hK => ?_); (· (simp [go_sem, *] at he; try (subst he; exact evR_read _ _))); go_simp; refine hK _ ?_; clear hK K; try walk_nrm)
      refine hr _ _ ⟨upd u 79 (.int .i64 y), ?_, F.set (by decide) rfl rfl, hw.quiet (by decide) (by decide) (by decide)⟩
      simp [upd, e78]
    | 8, _ =>
      have hd := deps_of (l := [7]) (by kernel_rfl) ho hdeps
      have e79 := F 7 79 _ (hd 7 (by simp)) rfl rfl
      clear hdeps ho
      simp only [tm73s, reg73t, code73t, body73, rest73, Try.f73] at hr ⊢
      (refine Walk.opq (ho_of (by conv => lhs; whnf) (by kernel_rfl)) (by rfl) (by decide) (fun dd e he => ?_) (fun dd K hK => ?_); (· (simp [go_sem, *] at he; try (subst he; exact evR_read _ _))); go_simp; refine hK _ ?_; clear hK K; try walk_nrm)
      refine hr _ _ ⟨upd u 80 (.agg #[.bool true, .int .i64 y, .slice none 0 0]), ?_, F.set (by decide) rfl rfl, hw.quiet (by decide) (by decide) (by decide)⟩
      simp [upd, e79]
    | 9, _ =>
      have hd := deps_of (l := [8]) (by kernel_rfl) ho hdeps
      have e80 := F 8 80 _ (hd 8 (by simp)) rfl rfl
      obtain ⟨h10, d, rfl⟩ := hw.early9 hfi
      clear hdeps ho
      refine Walk.back ?_ d
      simp only [tm73s, reg73t, code73t, body73, rest73, Try.f73] at hr ⊢
      simp only [e80]
      (co_applyP Walk.opw (ho_of (by conv => lhs; whnf) (by kernel_rfl)) (by rfl) (by decide) ?wev1 ?wdr1 ?wrun1; (case' wrun1 => (intro dd K hK; go_simp; simp only [alloc_at', setCell_at']; refine hK _ ?wmore1; clear hK K)); (case wdr1 => exact fun dd es hes => DR.alloc' dd es hes); (case wev1 => (intro dd e he; simp [go_sem, *] at he)); try walk_nrm)
      refine hr _ _ ⟨upd u 81 (.slice (some ⟨w1.heap.size, 0, none⟩) 1 1), ?_, F.set (by decide) rfl rfl, .inl ⟨by rw [upd_ne _ _ (by decide)]; exact h10, by rw [upd_ne _ _ (by decide)]; exact hw.none13 h10, .inr ⟨upd_same _ _ _, (w1.alloc (.cells #[.bool true, .int .i64 y, .slice none 0 0] 38)).drawn, rfl⟩⟩⟩
      simp [upd, e80]
    | 10, _ =>
      have hd := deps_of (l := [4, 9]) (by kernel_rfl) ho hdeps
      have e76 := F 4 76 _ (hd 4 (by simp)) rfl rfl
      have e81 := F 9 81 _ (hd 9 (by simp)) rfl rfl
      obtain ⟨h13, d, rfl⟩ := hw.late9 hfi (hd 9 (by simp))
      refine Walk.back ?_ d
      have k4 := hd 4 (by simp)
      have k9 := hd 9 (by simp)
      have k3 := hC.deps (l := [3]) k4 (by kernel_rfl) 3 (by simp)
      have k2 := hC.deps (l := [2]) k3 (by kernel_rfl) 2 (by simp)
      have k1 := hC.deps (l := [1]) k2 (by kernel_rfl) 1 (by simp)
      have k8 := hC.deps (l := [8]) k9 (by kernel_rfl) 8 (by simp)
      have k7 := hC.deps (l := [7]) k8 (by kernel_rfl) 7 (by simp)
      have k6 := hC.deps (l := [6]) k7 (by kernel_rfl) 6 (by simp)
      have k5 := hC.deps (l := [5]) k6 (by kernel_rfl) 5 (by simp)
      have hcl : ∀ j, 1 ≤ j → j < 10 → f j = true := fun j h1 h2 => by
        match j, h1, h2 with
        | 1, _, _ => exact k1
        | 2, _, _ => exact k2
        | 3, _, _ => exact k3
        | 4, _, _ => exact k4
        | 5, _, _ => exact k5
        | 6, _, _ => exact k6
        | 7, _, _ => exact k7
        | 8, _, _ => exact k8
        | 9, _, _ => exact k9
      clear hdeps ho
      simp only [tm73s, reg73t, code73t, body73, rest73, Try.f73] at hr ⊢
      simp only [e76, e81]
      refine Walk.append (.tmp 76) (.tmp 81) 36 rfl (by rfl) (by decide) rfl n0 38 _ (.agg #[.bool false, .int .i64 0, .slice none 0 0]) 3 40 (by kernel_rfl) hi38.symm (by rfl) (by rfl) (by rfl) (by rfl) (by decide) (.slice ta n tc) n xs rfl hown' ⟨w1.heap.size, 0, none⟩ 1 1 [.bool true, .int .i64 y, .slice none 0 0] rfl (by rfl) hnews (by simp [Value.oneCell']) (by decide) (by simp [maxLen]; omega) (by omega) (show n0 ≤ (ansW w1 y).heap.size by omega) hap (fun g cap w3 hown3 hg hat hlt => ?_)
      walk_nrm
      refine hr _ _ ⟨upd (upd u 1001 undef) 82 (.slice (some ⟨g, 0, none⟩) (n + 1) cap), ?_, Facts.other (Facts.set F (by decide) rfl rfl) (by decide), .inr ⟨upd_same _ _ _, ?_, g, cap, w3, ⟨hown3, hg, hat, hlt⟩, upd_same _ _ _, .inl ⟨by rw [upd_ne _ _ (by decide)]; exact h13, w3.drawn, rfl⟩⟩⟩
      · simp [upd, e76, e81]
      · intro j h1 h2; by_cases e : j = 10
        · subst e; exact upd_same _ _ _
        · rw [upd_ne _ _ e]; exact hcl j h1 (by omega)
    | 11, _ =>
      have hd := deps_of (l := [0, 1, 2, 3, 4, 5, 6, 7, 8, 9, 10]) (by kernel_rfl) ho hdeps
      have e72 := F 0 72 _ (hd 0 (by simp)) rfl rfl
      clear hdeps ho
      simp only [tm73s, reg73t, code73t, body73, rest73, Try.f73] at hr ⊢
      (refine Walk.opq (ho_of (by conv => lhs; whnf) (by kernel_rfl)) (by rfl) (by decide) (fun dd e he => ?_) (fun dd K hK => ?_); (· (simp [go_sem, *] at he; try (subst he; exact evR_read _ _))); go_simp; refine hK _ ?_; clear hK K; try walk_nrm)
      refine hr _ _ ⟨upd u 83 (.pointer (some ⟨W, 0, none⟩)), ?_, F.set (by decide) rfl rfl, hw.quiet (by decide) (by decide) (by decide)⟩
      simp [upd, e72]
    | 12, _ =>
      have hd := deps_of (l := [0, 1, 2, 3, 4, 5, 6, 7, 8, 9, 10, 11]) (by kernel_rfl) ho hdeps
      have e83 := F 11 83 _ (hd 11 (by simp)) rfl rfl
      clear hdeps ho
      simp only [tm73s, reg73t, code73t, body73, rest73, Try.f73] at hr ⊢
      (refine Walk.opq (ho_of (by conv => lhs; whnf) (by kernel_rfl)) (by rfl) (by decide) (fun dd e he => ?_) (fun dd K hK => ?_); (· (simp [go_sem, *] at he; try (subst he; exact evR_read _ _))); go_simp; refine hK _ ?_; clear hK K; try walk_nrm)
      refine hr _ _ ⟨upd u 84 (.pointer (some ⟨W, 6, none⟩)), ?_, F.set (by decide) rfl rfl, hw.quiet (by decide) (by decide) (by decide)⟩
      simp [upd, e83]
    | 13, _ =>
      have hd := deps_of (l := [0, 1, 2, 3, 4, 5, 6, 7, 8, 9, 10, 12]) (by kernel_rfl) ho hdeps
      have e84 := F 12 84 _ (hd 12 (by simp)) rfl rfl
      obtain ⟨g, cap, w3, happ, e82, d, rfl⟩ := hw.last hfi (hd 10 (by simp))
      refine Walk.back ?_ d
      clear hdeps ho
      have hcc := happ.cell h6 hown
      have hcz := happ.frz h6 h6z hown
      simp only [tm73s, reg73t, code73t, body73, rest73, Try.f73] at hr ⊢
      simp only [e84, e82]
      (co_applyP Walk.opw (ho_of (by conv => lhs; whnf) (by kernel_rfl)) (by rfl) (by decide) ?wev2 ?wdr2 ?wrun2; (case' wrun2 => (intro dd K hK; go_simp; simp only [alloc_at', setCell_at']; refine hK _ ?wmore2; clear hK K)); (case wdr2 => exact fun dd es hes => DR.set' hf hcc dd es hes); (case wev2 => (intro dd e he; simp [go_sem, storedEv, ev_store_bool, ev_store_int, ev_store_slice, ev_store_pointer, *] at he; subst he; exact evR_write _ _ hf)); try walk_nrm)
      refine hr _ _ ⟨upd u 1000 undef, ?_, F.set (by decide) rfl rfl, .inr ⟨by rw [upd_ne _ _ (by decide)]; exact hd 10 (by simp), fun j h1 h2 => by rw [upd_ne _ _ (by omega)]; exact hd j (by simp; omega), g, cap, w3, happ, by rw [upd_ne _ _ (by decide)]; exact e82, .inr ⟨upd_same _ _ _, (w3.setCell ⟨W, 6, none⟩ (.slice (some ⟨g, 0, none⟩) (n + 1) cap)).drawn, rfl⟩⟩⟩
      simp [upd, e84, e82]
  · rintro f a w' ⟨u, rfl, F, hw⟩ hall
    have hsz : reg73t.size = 14 := by kernel_rfl
    rcases hw with ⟨h, _⟩ | ⟨_, _, g, cap, w3, happ, _, ⟨h, _⟩ | ⟨_, d, rfl⟩⟩
    · rw [hall 10 (by rw [hsz]; omega)] at h; cases h
    · rw [hall 13 (by rw [hsz]; omega)] at h; cases h
    · exact (hk u g cap w3 happ).back d

set_option maxHeartbeats 8000000 in
set_option maxRecDepth 100000 in
theorem reckon_tell (W n0 : Nat) (cr ca cb cv next : Int) (y : Int) (ta : Option Addr) (n tc : Nat) (xs : List Value) (w : World) (hn : 0 ≤ next) (hn2 : next < 4611686018427387904) (hy : w.cell? ⟨W, 2 + (cr % 4).toNat, none⟩ = some (.int .i64 y))
    (h6 : w.cell? ⟨W, 6, none⟩ = some (.slice ta n tc)) (h6z : w.frozen? ⟨W, 6, none⟩ = false) (hf : Free V ⟨W, 6, none⟩) (hrow : w.ownsRow n0 38 3 (.slice ta n tc) n xs) (hbase : n0 ≤ w.heap.size) (hnn : n < 1099511627776) (hap : ∀ g, (Value.slice ta n tc).ownBlock = some g → Apart V g) (hown : (Value.slice ta n tc).ownBlock ≠ some W) :
    CallW Try.prog main V 73 #[.pointer (some ⟨W, 0, none⟩), codeV 6 cr ca cb cv, .int .i64 next] w (fun v w' => v = .int .i64 (next + 1) ∧ ∃ g cap w3 d, App n0 (boxW w 6 cr ca cb cv) y ta n tc xs g cap w3 ∧ w' = (w3.setCell ⟨W, 6, none⟩ (.slice (some ⟨g, 0, none⟩) (n + 1) cap)).at d) := by
  refine callW_in Try.func73 rfl fun fr cs => ?_
  refine head73 W 6 cr ca cb cv next (fr :: cs) w fun u e7 e8 e9 => ?_
  obtain ⟨b0, b1, b2, b3, b4⟩ := box_cells w 6 cr ca cb cv
  have c1 := (box_reg 6 cr ca cb cv hy).1
  obtain ⟨c6, c6z⟩ := box_reg 6 cr ca cb cv h6
  rw [h6z] at c6z
  have hrow1 : (boxW w 6 cr ca cb cv).ownsRow n0 38 3 (.slice ta n tc) n xs := hrow.kept (World.grownBy_alloc w _ none) (by cases (Value.slice ta n tc).ownBlock <;> simp)
  have hsz : (boxW w 6 cr ca cb cv).heap.size = w.heap.size + 1 := by simp [boxW]
  generalize boxW w 6 cr ca cb cv = w1 at *
  simp only [tm73, rest73, Try.f73]
  rw [e7, e8, e9]
  clear e7 e8 e9
  repeat (first | (refine Walk.c rfl ?_) | (refine Walk.cReg ?_; simp only [List.size_toArray, List.length_cons, List.length_nil, Nat.reduceAdd, Nat.zero_add, List.range, List.range.loop]) | (refine Walk.cRet ?_) | (refine Walk.cEnd ?_) | (refine Walk.opq (ho_of (by conv => lhs; whnf) (by kernel_rfl)) (by rfl) (by decide) (fun dd e he => ?_) (fun dd K hK => ?_); (· (simp [go_sem, *] at he; try (subst he; exact evR_read _ _))); go_simp; refine hK _ ?_; clear hK K; try walk_nrm) | (refine Walk.ctl rfl (fun w => stepG_unwanted (ho_of (by conv => lhs; whnf) (by kernel_rfl)) (by rfl)) ?_; walk_nrm))
  refine reg73t_walk W w.heap.size n0 (codeV 6 cr ca cb cv) cr ca cb next _ _ (fun k => ([undef, undef, undef, undef, undef, undef, undef, undef, undef, undef, u 10, u 11, u 12, u 13, u 14, u 15, u 16, u 17, u 18, u 19, u 20, u 21, .pointer (some ⟨w.heap.size, 0, none⟩), .int .i64 6, .bool false, .bool false, u 26, u 27, u 28, u 29, .bool false, .bool false, u 32, u 33, u 34, u 35, u 36, .bool false, .bool false, u 39, u 40, u 41, u 42, u 43, u 44, u 45, u 46, u 47, .bool false, .bool false, u 50, u 51, u 52, u 53, u 54, u 55, u 56, u 57, u 58, .bool false, .bool false, u 61, u 62, u 63, u 64, u 65, u 66, u 67, u 68, u 69, .bool true, .bool true, u 72, u 73, u 74, u 75, u 76, u 77, u 78, u 79, u 80, u 81, u 82, u 83, u 84, u 85, u 86] : List Value).getD k undef) w1 y ta n tc xs c1 c6 c6z hf hrow1 (by omega) hnn hap hown fun u g cap w3 happ => ?_
  simp only [tm73s]
  repeat (first | (refine Walk.c rfl ?_) | (refine Walk.cReg ?_; simp only [List.size_toArray, List.length_cons, List.length_nil, Nat.reduceAdd, Nat.zero_add, List.range, List.range.loop]) | (refine Walk.cRet ?_) | (refine Walk.cEnd ?_) | (refine Walk.opq (ho_of (by conv => lhs; whnf) (by kernel_rfl)) (by rfl) (by decide) (fun dd e he => ?_) (fun dd K hK => ?_); (· (simp [go_sem, *] at he; try (subst he; exact evR_read _ _))); go_simp; refine hK _ ?_; clear hK K; try walk_nrm) | (refine Walk.ctl rfl (fun w => stepG_unwanted (ho_of (by conv => lhs; whnf) (by kernel_rfl)) (by rfl)) ?_; walk_nrm))
  exact Walk.ret1 rfl rfl Try.func73 rfl fun d => ⟨congrArg (Value.int .i64) (wrap_ok _ (by omega) (by omega)), g, cap, w3, d, happ, rfl⟩
end Go.Proofs.Ytgiiicdpbdfemaa
end
