/- Part 4. -/
import Derived.Test.YtgiiicdpbdfemaaC3
import Derived.Test.YtgiiicdpbdfemaaProg
import Derived.KernelRfl
import Derived.Handy
import Derived.Laws.Tables
import Derived.Laws.Cells
import Derived.Conc.AppendEvents
import Derived.Conc.EventLaws2
set_option linter.unusedSimpArgs false
/- Package turn's stand.Step, in company: to the send, from there to the receive, and what is done behind it. -/
section
namespace Go.Proofs.Ytgiiicdpbdfemaa
open Go.Conc Go.RowKit Go.Relay

variable {main : Bool} {V : Nat → Option Wait}

noncomputable def ops139 : Array Oper := match Try.f139.body with | some (.seq (.region _ ops _) _) => ops | _ => #[]
noncomputable def rest139 : Code := match Try.f139.body with | some (.seq _ c) => c | _ => .skip
noncomputable def ops139r : Array Oper := match rest139 with | .seq (.region _ ops _) _ => ops | _ => #[]
noncomputable def rest139r : Code := match rest139 with | .seq _ c => c | _ => .skip
/-- Where Step's send stands; and where its receive stands. -/
noncomputable def rec139s (p r : Nat) (cs : List Frame) : Goroutine :=
  G ((base 139).at { tmps := #[.pointer (some ⟨p, 0, none⟩), undef, undef, undef, .pointer (some ⟨p, 0, none⟩), .pointer (some ⟨p, 0, none⟩), .pointer (some ⟨p, 1, none⟩), .chan (some r), .agg #[], undef, undef, undef, undef, undef, undef, undef, undef, undef, undef, undef, undef], defers := [] } [.inRegion ops139 [5], .code rest139]) cs
noncomputable def rec139r (p r t : Nat) (cs : List Frame) : Goroutine :=
  G ((base 139).at { tmps := #[.pointer (some ⟨p, 0, none⟩), undef, undef, undef, .pointer (some ⟨p, 0, none⟩), .pointer (some ⟨p, 0, none⟩), .pointer (some ⟨p, 1, none⟩), .chan (some r), .agg #[], undef, .pointer (some ⟨p, 0, none⟩), .pointer (some ⟨p, 0, none⟩), .pointer (some ⟨p, 0, none⟩), .chan (some t), undef, undef, undef, undef, undef, undef, undef], defers := [] } [.inRegion ops139r [4, 5, 6, 7, 8, 9, 10], .code rest139r]) cs

set_option maxHeartbeats 4000000 in
set_option maxRecDepth 100000 in
/-- Into Step, up to its send. -/
theorem step_send {Stop : Goroutine → World → Prop} (p r : Nat) (cs : List Frame) (w : World) (h1 : w.cell? ⟨p, 1, none⟩ = some (.chan (some r))) (hk : Walk Try.prog main (DR V) Stop (rec139s p r cs) w) :
    Walk Try.prog main (DR V) Stop (G (Frame.enter Try.prog 139 #[.pointer (some ⟨p, 0, none⟩)] .normal) cs) w := by
  rw [enter_at _ Try.func139 rfl]
  unfold rec139s at hk
  simp only [ops139, rest139, Try.f139] at hk
  simp only [Try.f139, Option.getD_some, List.size_toArray, List.length_cons, List.length_nil, Nat.reduceAdd, Nat.reduceSub, Array.replicate_succ, Array.replicate_zero, List.push_toArray, List.append_toArray, List.nil_append, List.cons_append]
  repeat (first | (refine Walk.c rfl ?_) | (refine Walk.cReg ?_; simp only [List.size_toArray, List.length_cons, List.length_nil, Nat.reduceAdd, Nat.zero_add, List.range, List.range.loop]) | (refine Walk.cRet ?_) | (refine Walk.cEnd ?_) | (refine Walk.opq (ho_of (by conv => lhs; whnf) (by kernel_rfl)) (by rfl) (by decide) (fun dd e he => ?_) (fun dd K hK => ?_); (· (simp [go_sem, *] at he; try (subst he; exact evR_read _ _))); go_simp; refine hK _ ?_; clear hK K; try walk_nrm) | (refine Walk.ctl rfl (fun w => stepG_unwanted (ho_of (by conv => lhs; whnf) (by kernel_rfl)) (by rfl)) ?_; walk_nrm))
  exact hk

theorem send139 (p r : Nat) (cs : List Frame) (w : World) : ∃ z' es, (∀ e ∈ es, EvR V e) ∧ ∀ d, stepG Try.prog main (rec139s p r cs) (w.at d) = .comm (rec139s p r cs) #[scase r (.agg #[]) z'] true .send (w.at d) es := by
  refine ⟨.tuple #[], #[], by simp, fun d => ?_⟩
  unfold rec139s
  simp only [ops139, rest139, Try.f139]
  rw [stepG_comm (cases := #[scase r (.agg #[]) (.tuple #[])]) (blocking := true) (shape := .send) (w' := w.at d) rfl (by rfl) (by decide) (by simp [execOp, scase, Act.eval]), listed_none (by simp [go_sem, execOp, Act.eval])]

set_option maxHeartbeats 4000000 in
set_option maxRecDepth 100000 in
/-- Behind the send: on the way to the receive. -/
theorem way139 (p r t : Nat) (cs : List Frame) (v : Wait) (hch : v.ch = t) (hz : v.z = .agg #[]) (hok : v.ok = true) (hf : v.f ⟨p, 0, none⟩ = some (.chan (some t))) (hh : v.home (rec139r p r t cs)) : Yonder Try.prog main v (Go.Conc.served (rec139s p r cs) undef) := by
  unfold rec139r at hh
  simp only [ops139r, rest139r, rest139, Try.f139] at hh
  unfold rec139s
  rw [served_fr, Frame.finish_at]
  simp only [ops139, rest139, Try.f139]
  walk_nrm
  try (first | (refine Yonder.ctl rfl (fun w => stepG_seq) ?_) | (refine Yonder.ctl rfl (fun w => stepG_region) ?_; simp only [List.size_toArray, List.length_cons, List.length_nil, Nat.reduceAdd, Nat.zero_add, List.range, List.range.loop]) | (refine Yonder.ctl rfl (fun w => stepG_region_end) ?_) | (refine Yonder.ctl rfl (fun w => stepG_block) ?_) | (refine Yonder.ctl rfl (fun w => stepG_skip) ?_) | (refine Yonder.ctl rfl (fun w => stepG_inBlock) ?_) | (refine Yonder.ctl rfl (fun w => stepG_ret') ?_) | (refine Yonder.ctl rfl (fun w => stepG_end) ?_) | (refine Yonder.ctl rfl (fun w => stepG_exit rfl) ?_) | (refine Yonder.ctl rfl (fun w => stepG_cond (t := true) rfl) ?_; simp only [if_true, if_false, reduceIte, Bool.false_eq_true]) | (refine Yonder.ctl rfl (fun w => stepG_cond (t := false) rfl) ?_; simp only [if_true, if_false, reduceIte, Bool.false_eq_true]) | (co_applyP Yonder.opq rfl (by rfl) (by decide) ?krun3 ?kev3 ?krest3; (case krun3 => (intro w hw K hK; go_simp; exact hK)); (case kev3 => (intro w hw e he; simp [go_sem, *] at he)); try walk_nrm))
  try (first | (refine Yonder.ctl rfl (fun w => stepG_seq) ?_) | (refine Yonder.ctl rfl (fun w => stepG_region) ?_; simp only [List.size_toArray, List.length_cons, List.length_nil, Nat.reduceAdd, Nat.zero_add, List.range, List.range.loop]) | (refine Yonder.ctl rfl (fun w => stepG_region_end) ?_) | (refine Yonder.ctl rfl (fun w => stepG_block) ?_) | (refine Yonder.ctl rfl (fun w => stepG_skip) ?_) | (refine Yonder.ctl rfl (fun w => stepG_inBlock) ?_) | (refine Yonder.ctl rfl (fun w => stepG_ret') ?_) | (refine Yonder.ctl rfl (fun w => stepG_end) ?_) | (refine Yonder.ctl rfl (fun w => stepG_exit rfl) ?_) | (refine Yonder.ctl rfl (fun w => stepG_cond (t := true) rfl) ?_; simp only [if_true, if_false, reduceIte, Bool.false_eq_true]) | (refine Yonder.ctl rfl (fun w => stepG_cond (t := false) rfl) ?_; simp only [if_true, if_false, reduceIte, Bool.false_eq_true]) | (co_applyP Yonder.opq rfl (by rfl) (by decide) ?krun4 ?kev4 ?krest4; (case krun4 => (intro w hw K hK; go_simp; exact hK)); (case kev4 => (intro w hw e he; simp [go_sem, *] at he)); try walk_nrm))
  try (first | (refine Yonder.ctl rfl (fun w => stepG_seq) ?_) | (refine Yonder.ctl rfl (fun w => stepG_region) ?_; simp only [List.size_toArray, List.length_cons, List.length_nil, Nat.reduceAdd, Nat.zero_add, List.range, List.range.loop]) | (refine Yonder.ctl rfl (fun w => stepG_region_end) ?_) | (refine Yonder.ctl rfl (fun w => stepG_block) ?_) | (refine Yonder.ctl rfl (fun w => stepG_skip) ?_) | (refine Yonder.ctl rfl (fun w => stepG_inBlock) ?_) | (refine Yonder.ctl rfl (fun w => stepG_ret') ?_) | (refine Yonder.ctl rfl (fun w => stepG_end) ?_) | (refine Yonder.ctl rfl (fun w => stepG_exit rfl) ?_) | (refine Yonder.ctl rfl (fun w => stepG_cond (t := true) rfl) ?_; simp only [if_true, if_false, reduceIte, Bool.false_eq_true]) | (refine Yonder.ctl rfl (fun w => stepG_cond (t := false) rfl) ?_; simp only [if_true, if_false, reduceIte, Bool.false_eq_true]) | (co_applyP Yonder.opq rfl (by rfl) (by decide) ?krun5 ?kev5 ?krest5; (case krun5 => (intro w hw K hK; go_simp; exact hK)); (case kev5 => (intro w hw e he; simp [go_sem, *] at he)); try walk_nrm))
  try (first | (refine Yonder.ctl rfl (fun w => stepG_seq) ?_) | (refine Yonder.ctl rfl (fun w => stepG_region) ?_; simp only [List.size_toArray, List.length_cons, List.length_nil, Nat.reduceAdd, Nat.zero_add, List.range, List.range.loop]) | (refine Yonder.ctl rfl (fun w => stepG_region_end) ?_) | (refine Yonder.ctl rfl (fun w => stepG_block) ?_) | (refine Yonder.ctl rfl (fun w => stepG_skip) ?_) | (refine Yonder.ctl rfl (fun w => stepG_inBlock) ?_) | (refine Yonder.ctl rfl (fun w => stepG_ret') ?_) | (refine Yonder.ctl rfl (fun w => stepG_end) ?_) | (refine Yonder.ctl rfl (fun w => stepG_exit rfl) ?_) | (refine Yonder.ctl rfl (fun w => stepG_cond (t := true) rfl) ?_; simp only [if_true, if_false, reduceIte, Bool.false_eq_true]) | (refine Yonder.ctl rfl (fun w => stepG_cond (t := false) rfl) ?_; simp only [if_true, if_false, reduceIte, Bool.false_eq_true]) | (co_applyP Yonder.opq rfl (by rfl) (by decide) ?krun6 ?kev6 ?krest6; (case krun6 => (intro w hw K hK; go_simp; exact hK)); (case kev6 => (intro w hw e he; simp [go_sem, *] at he)); try walk_nrm))
  try (first | (refine Yonder.ctl rfl (fun w => stepG_seq) ?_) | (refine Yonder.ctl rfl (fun w => stepG_region) ?_; simp only [List.size_toArray, List.length_cons, List.length_nil, Nat.reduceAdd, Nat.zero_add, List.range, List.range.loop]) | (refine Yonder.ctl rfl (fun w => stepG_region_end) ?_) | (refine Yonder.ctl rfl (fun w => stepG_block) ?_) | (refine Yonder.ctl rfl (fun w => stepG_skip) ?_) | (refine Yonder.ctl rfl (fun w => stepG_inBlock) ?_) | (refine Yonder.ctl rfl (fun w => stepG_ret') ?_) | (refine Yonder.ctl rfl (fun w => stepG_end) ?_) | (refine Yonder.ctl rfl (fun w => stepG_exit rfl) ?_) | (refine Yonder.ctl rfl (fun w => stepG_cond (t := true) rfl) ?_; simp only [if_true, if_false, reduceIte, Bool.false_eq_true]) | (refine Yonder.ctl rfl (fun w => stepG_cond (t := false) rfl) ?_; simp only [if_true, if_false, reduceIte, Bool.false_eq_true]) | (co_applyP Yonder.opq rfl (by rfl) (by decide) ?krun7 ?kev7 ?krest7; (case krun7 => (intro w hw K hK; go_simp; exact hK)); (case kev7 => (intro w hw e he; simp [go_sem, *] at he)); try walk_nrm))
  try (first | (refine Yonder.ctl rfl (fun w => stepG_seq) ?_) | (refine Yonder.ctl rfl (fun w => stepG_region) ?_; simp only [List.size_toArray, List.length_cons, List.length_nil, Nat.reduceAdd, Nat.zero_add, List.range, List.range.loop]) | (refine Yonder.ctl rfl (fun w => stepG_region_end) ?_) | (refine Yonder.ctl rfl (fun w => stepG_block) ?_) | (refine Yonder.ctl rfl (fun w => stepG_skip) ?_) | (refine Yonder.ctl rfl (fun w => stepG_inBlock) ?_) | (refine Yonder.ctl rfl (fun w => stepG_ret') ?_) | (refine Yonder.ctl rfl (fun w => stepG_end) ?_) | (refine Yonder.ctl rfl (fun w => stepG_exit rfl) ?_) | (refine Yonder.ctl rfl (fun w => stepG_cond (t := true) rfl) ?_; simp only [if_true, if_false, reduceIte, Bool.false_eq_true]) | (refine Yonder.ctl rfl (fun w => stepG_cond (t := false) rfl) ?_; simp only [if_true, if_false, reduceIte, Bool.false_eq_true]) | (co_applyP Yonder.opq rfl (by rfl) (by decide) ?krun8 ?kev8 ?krest8; (case krun8 => (intro w hw K hK; go_simp; exact hK)); (case kev8 => (intro w hw e he; simp [go_sem, *] at he)); try walk_nrm))
  co_applyP Yonder.ld _ hf rfl (by rfl) (by decide) ?krun9 ?kev9 ?krest9; (case krun9 => (intro w hw K hK; have hcx := hw _ _ hf; go_simp; exact hK)); (case kev9 => (intro w hw e he; have hcx := hw _ _ hf; simp [go_sem, *] at he; exact he)); try walk_nrm
  exact Yonder.there rfl (by rfl) (by decide) (fun w => by simp [go_sem, execOp, rcase, Act.eval, hch, hz, hok]) (fun w => by simp [go_sem, execOp, Act.eval]) hh

set_option maxHeartbeats 4000000 in
set_option maxRecDepth 100000 in
/-- Served with a value, Step returns. -/
theorem serve139 (p r t : Nat) (c : Frame) (cs : List Frame) (w : World) :
    Walk Try.prog main (DR V) (fun g w' => g = G (c.finish (.tuple #[])) cs ∧ ∃ d, w' = (w.alloc (.cells #[] 129)).at d) (Go.Conc.served (rec139r p r t (c :: cs)) (recvd true (.agg #[]) true)) w := by
  unfold rec139r
  rw [served_fr, Frame.finish_at]
  simp only [ops139r, rest139r, rest139, Try.f139, recvd, if_true]
  walk_nrm
  repeat (first | (refine Walk.c rfl ?_) | (refine Walk.cReg ?_; simp only [List.size_toArray, List.length_cons, List.length_nil, Nat.reduceAdd, Nat.zero_add, List.range, List.range.loop]) | (refine Walk.cRet ?_) | (refine Walk.cEnd ?_) | (refine Walk.opq (ho_of (by conv => lhs; whnf) (by kernel_rfl)) (by rfl) (by decide) (fun dd e he => ?_) (fun dd K hK => ?_); (· (simp [go_sem, *] at he; try (subst he; exact evR_read _ _))); go_simp; refine hK _ ?_; clear hK K; try walk_nrm) | (refine Walk.ctl rfl (fun w => stepG_unwanted (ho_of (by conv => lhs; whnf) (by kernel_rfl)) (by rfl)) ?_; walk_nrm))
  (co_applyP Walk.opw (ho_of (by conv => lhs; whnf) (by kernel_rfl)) (by rfl) (by decide) ?wev1 ?wdr1 ?wrun1; (case' wrun1 => (intro dd K hK; go_simp; simp only [alloc_at', setCell_at']; refine hK _ ?wmore1; clear hK K)); (case wdr1 => exact fun dd es hes => DR.alloc' dd es hes); (case wev1 => (intro dd e he; simp [go_sem, *] at he)); try walk_nrm)
  repeat (first | (refine Walk.c rfl ?_) | (refine Walk.cReg ?_; simp only [List.size_toArray, List.length_cons, List.length_nil, Nat.reduceAdd, Nat.zero_add, List.range, List.range.loop]) | (refine Walk.cRet ?_) | (refine Walk.cEnd ?_) | (refine Walk.opq (ho_of (by conv => lhs; whnf) (by kernel_rfl)) (by rfl) (by decide) (fun dd e he => ?_) (fun dd K hK => ?_); (· (simp [go_sem, *] at he; try (subst he; exact evR_read _ _))); go_simp; refine hK _ ?_; clear hK K; try walk_nrm) | (refine Walk.ctl rfl (fun w => stepG_unwanted (ho_of (by conv => lhs; whnf) (by kernel_rfl)) (by rfl)) ?_; walk_nrm))
  exact Walk.ctl rfl (fun w => stepG_leave rfl rfl Try.func139 (results_none rfl _ _ w) (events_results_none rfl _ _)) (.stop fun d => ⟨rfl, d, rfl⟩)

/-- Step's frame where it has panicked with the turnstile's own value. -/
noncomputable def rec139p (p r t N : Nat) (cs : List Frame) : Goroutine :=
  G { (base 139).at { tmps := #[.pointer (some ⟨p, 0, none⟩), undef, .pointer (some ⟨N, 0, none⟩), .bool false, .pointer (some ⟨p, 0, none⟩), .pointer (some ⟨p, 0, none⟩), .pointer (some ⟨p, 1, none⟩), .chan (some r), .agg #[], .tuple #[.agg #[], .bool false], .pointer (some ⟨p, 0, none⟩), .pointer (some ⟨p, 0, none⟩), .pointer (some ⟨p, 0, none⟩), .chan (some t), .tuple #[.agg #[], .bool false], .agg #[], .bool false, .bool false, .bool true, .agg #[], .iface 147 (.agg #[])], defers := [] }
    [.inRegion (match rest139r with | .seq _ (.cond _ (.region _ ops _) _) => ops | _ => #[]) [2]] with mode := .panicking [{ v := .iface 147 (.agg #[]), recovered := false }] } cs

theorem run_iface147 (w : World) : (Instr.makeInterface 147 (.agg #[])).run Try.prog w = .ok (.iface 147 (.agg #[])) w := by
  simp [Instr.makeInterface, run_underlying (show Try.prog.underlying 147 = some (.struct #[]) by kernel_rfl)]
theorem ev_iface147 (w : World) (es : Array Event) : (Instr.makeInterface 147 (.agg #[])).events Try.prog w es = es := by
  simp [Instr.makeInterface, run_underlying (show Try.prog.underlying 147 = some (.struct #[]) by kernel_rfl)]

set_option maxHeartbeats 4000000 in
set_option maxRecDepth 100000 in
/-- Served with the close, Step panics with the turnstile's own value. -/
theorem stop139 (p r t : Nat) (cs : List Frame) (w : World) :
    Walk Try.prog main (DR V) (fun g w' => g = rec139p p r t w.heap.size cs ∧ ∃ d, w' = (w.alloc (.cells #[] 129)).at d) (Go.Conc.served (rec139r p r t cs) (recvd true (.agg #[]) false)) w := by
  unfold rec139r
  rw [served_fr, Frame.finish_at]
  simp only [ops139r, rest139r, rest139, Try.f139, recvd, if_true]
  walk_nrm
  repeat (first | (refine Walk.c rfl ?_) | (refine Walk.cReg ?_; simp only [List.size_toArray, List.length_cons, List.length_nil, Nat.reduceAdd, Nat.zero_add, List.range, List.range.loop]) | (refine Walk.cRet ?_) | (refine Walk.cEnd ?_) | (refine Walk.opq (ho_of (by conv => lhs; whnf) (by kernel_rfl)) (by rfl) (by decide) (fun dd e he => ?_) (fun dd K hK => ?_); (· (simp [go_sem, *] at he; try (subst he; exact evR_read _ _))); go_simp; refine hK _ ?_; clear hK K; try walk_nrm) | (refine Walk.ctl rfl (fun w => stepG_unwanted (ho_of (by conv => lhs; whnf) (by kernel_rfl)) (by rfl)) ?_; walk_nrm))
  (co_applyP Walk.opw (ho_of (by conv => lhs; whnf) (by kernel_rfl)) (by rfl) (by decide) ?wev2 ?wdr2 ?wrun2; (case' wrun2 => (intro dd K hK; go_simp; simp only [alloc_at', setCell_at']; refine hK _ ?wmore2; clear hK K)); (case wdr2 => exact fun dd es hes => DR.alloc' dd es hes); (case wev2 => (intro dd e he; simp [go_sem, *] at he)); try walk_nrm)
  have hi1 := run_iface147
  have hi2 := ev_iface147
  repeat (first | (refine Walk.c rfl ?_) | (refine Walk.cReg ?_; simp only [List.size_toArray, List.length_cons, List.length_nil, Nat.reduceAdd, Nat.zero_add, List.range, List.range.loop]) | (refine Walk.cRet ?_) | (refine Walk.cEnd ?_) | (refine Walk.opq (ho_of (by conv => lhs; whnf) (by kernel_rfl)) (by rfl) (by decide) (fun dd e he => ?_) (fun dd K hK => ?_); (· (simp [go_sem, *] at he; try (subst he; exact evR_read _ _))); go_simp; refine hK _ ?_; clear hK K; try walk_nrm) | (refine Walk.ctl rfl (fun w => stepG_unwanted (ho_of (by conv => lhs; whnf) (by kernel_rfl)) (by rfl)) ?_; walk_nrm))
  refine Walk.ctl rfl (fun w => stepG_raise (x := .iface 147 (.agg #[])) rfl (by rfl) (by decide) (by simp [go_sem, execOp, Act.eval, Instr.panic]) (by simp [go_sem, execOp, Act.eval, Instr.panic])) ?_
  refine .stop fun d => ⟨?_, d, rfl⟩
  simp only [rec139p, rest139r, rest139, Try.f139]
end Go.Proofs.Ytgiiicdpbdfemaa
end

/- The statement's side: Counter's Step; beyond. -/
section
namespace Go.Proofs.Ytgiiicdpbdfemaa
open Go.Conc Go.RowKit Go.Relay
open Go.ConcN (upd upd_ne upd_same)

variable {main : Bool} {V : Nat → Option Wait}

section
variable {P : Program} {Stop : Goroutine → World → Prop} {w w' : World} {b : Frame} {a : Act} {k : List Item} {cs : List Frame} {ops : Array Oper} {i : Nat} {rest : List Nat} {o : Oper}
theorem stepG_raiseW {x : Value} (ho : ops[i]? = some o) (hw : Region.wanted o (yielded ops a.tmps) = true) (hk : b.kind ≠ .early) (hr : (execOp a.eval o).run P w = .halt (.panic x) w') (he : (execOp a.eval o).events P w #[] = #[]) :
    stepG P main (G (b.at a (.inRegion ops (i :: rest) :: k)) cs) w = .go (G { b.at a (.inRegion ops (i :: rest) :: k) with mode := .panicking [{ v := x, recovered := false }] } cs) w' := by
  have hk' : (b.kind == CallKind.early) = false := by simpa using hk
  rw [stepG_oper ho hw]
  simp [stepG.apply, hr, he, G, Frame.at, Frame.raise, hk', GStep.after, seen_none]
/-- An operation that panics, with a value that the tape may turn. -/
theorem Walk.raiseD {Q : Value → Prop} (ho : ops[i]? = some o) (hw : Region.wanted o (yielded ops a.tmps) = true) (hk : b.kind ≠ .early) (hr : ∀ d, ∃ x d', Q x ∧ (execOp a.eval o).run P (w.at d) = .halt (.panic x) (w.at d') ∧ (execOp a.eval o).events P (w.at d) #[] = #[])
    (h : ∀ x, Q x → Walk P main (DR V) Stop (G { b.at a (.inRegion ops (i :: rest) :: k) with mode := .panicking [{ v := x, recovered := false }] } cs) w) : Walk P main (DR V) Stop (G (b.at a (.inRegion ops (i :: rest) :: k)) cs) w := by
  refine Walk.go rfl fun d => ?_
  obtain ⟨x, d', hq, h1, h2⟩ := hr d
  rw [stepG_raiseW ho hw hk h1 h2]
  exact ⟨⟨fun _ _ _ => id, fun _ _ _ _ h _ => h, by simp, ⟨rfl, rfl⟩⟩, (h x hq).back d'⟩
theorem draw_panic {α : Type} (P : Program) (q : Question) (f : Nat → Bool) (k : Bool → Sem α) (v : Bool → Value) (hk : ∀ (s : Bool) (w : World), (k s).run P w = .halt (.panic (v s)) w ∧ (k s).events P w #[] = #[]) (w : World) (d : Nat) :
    ∃ s d', ((f <$> choose q) >>= k).run P (w.at d) = .halt (.panic (v s)) (w.at d') ∧ ((f <$> choose q) >>= k).events P (w.at d) #[] = #[] := by
  obtain ⟨n, d', hc⟩ : ∃ n d', (choose q).run P (w.at d) = .ok n (w.at d') := by
    rw [run_choose]
    by_cases hq : q.forced = true
    · exact ⟨0, d, by rw [if_pos hq]⟩
    · exact ⟨_, d + 1, by rw [if_neg hq]; rfl⟩
  have he : (choose q).events P (w.at d) #[] = #[] := by rw [events_choose]
  generalize choose q = c at hc he
  refine ⟨f n, d', ?_, ?_⟩
  · simp [hc, (hk (f n) (w.at d')).1]
  · simp [hc, he, (hk (f n) (w.at d')).2, Sem.events_bind]
theorem bounds_at {α : Type} (P : Program) (k : IntKind) (x y : Int) (code : BoundsCode) (w : World) (d : Nat) : ∃ s d', (boundsPanic k x y code : Sem α).run P (w.at d) = .halt (.panic (.iface P.rt.boundsError (.agg #[.int .i64 (IntKind.i64.wrap x), .int .i64 y, .bool s, .int .u8 code.toNat]))) (w.at d') ∧ (boundsPanic k x y code : Sem α).events P (w.at d) #[] = #[] := by
  have hk : ∀ (s : Bool) (w : World), (runtimePanic (.bounds (IntKind.i64.wrap x) y s code) : Sem α).run P w = .halt (.panic (.iface P.rt.boundsError (.agg #[.int .i64 (IntKind.i64.wrap x), .int .i64 y, .bool s, .int .u8 code.toNat]))) w ∧ (runtimePanic (.bounds (IntKind.i64.wrap x) y s code) : Sem α).events P w #[] = #[] := fun s w => by
    constructor
    · simp [runtimePanic, goPanic, go_sem]
    · simp [runtimePanic, goPanic, go_sem, Sem.events_bind]
  unfold boundsPanic
  split
  · exact draw_panic P _ _ _ _ hk w d
  · refine ⟨k != .u64, d, ?_, ?_⟩
    · simp [(hk (k != .u64) (w.at d)).1, go_sem]
    · simp [(hk (k != .u64) (w.at d)).2, go_sem, Sem.events_bind]
end

noncomputable def reg31_0 : Array Oper := match Try.f31.body with | some (.seq (.seq (.region _ ops _) _) _) => ops | _ => #[]
theorem size31_0 : reg31_0.size = 2 := by kernel_rfl
noncomputable def reg31_1 : Array Oper := match Try.f31.body with | some (.seq _ (.block _ (.loop (.block _ (.seq (.region _ ops _) _))))) => ops | _ => #[]
theorem size31_1 : reg31_1.size = 5 := by kernel_rfl
noncomputable def reg31_2 : Array Oper := match Try.f31.body with | some (.seq _ (.block _ (.loop (.block _ (.seq _ (.seq (.seq (.region _ ops _) _) _)))))) => ops | _ => #[]
theorem size31_2 : reg31_2.size = 6 := by kernel_rfl
noncomputable def reg31_3 : Array Oper := match Try.f31.body with | some (.seq _ (.block _ (.loop (.block _ (.seq _ (.seq (.seq _ (.cond _ (.region _ ops _) _)) _)))))) => ops | _ => #[]
theorem size31_3 : reg31_3.size = 3 := by kernel_rfl
noncomputable def reg31_4 : Array Oper := match Try.f31.body with | some (.seq _ (.block _ (.loop (.block _ (.seq _ (.seq _ (.seq (.region _ ops _) _))))))) => ops | _ => #[]
theorem size31_4 : reg31_4.size = 7 := by kernel_rfl
theorem code31_is : Try.f31.body = some (.seq (.seq (.region 0 reg31_0 false) (.cond (.tmp 4 ) (.ret) (.skip))) (.block 0 (.loop (.block 1 (.seq (.region 1 reg31_1 false) (.seq (.seq (.region 2 reg31_2 false) (.cond (.tmp 14 ) (.region 3 reg31_3 false) (.skip))) (.seq (.region 4 reg31_4 false) (.cond (.tmp 23 ) (.ret) (.skip))))))))) := by kernel_rfl
noncomputable def reg66_0 : Array Oper := match Try.f66.body with | some (.seq (.region _ ops _) _) => ops | _ => #[]
theorem size66_0 : reg66_0.size = 1 := by kernel_rfl
noncomputable def reg66_1 : Array Oper := match Try.f66.body with | some (.seq _ (.seq (.region _ ops _) _)) => ops | _ => #[]
theorem size66_1 : reg66_1.size = 1 := by kernel_rfl
noncomputable def reg66_2 : Array Oper := match Try.f66.body with | some (.seq _ (.seq _ (.seq (.region _ ops _) _))) => ops | _ => #[]
theorem size66_2 : reg66_2.size = 5 := by kernel_rfl
theorem code66_is : Try.f66.body = some (.seq (.region 0 reg66_0 false) (.seq (.region 1 reg66_1 false) (.seq (.region 2 reg66_2 false) (.ret)))) := by kernel_rfl

set_option maxHeartbeats 8000000 in
set_option maxRecDepth 100000 in
theorem step31_nil (w : World) : CallV Try.prog main V 31 #[.pointer none] w (.tuple #[]) w := by
  have q1 := run_eql_ptr 63 und63
  have q2 := ev_eql_ptr 63 und63
  refine callW_in Try.func31 code31_is fun fr cs => ?_
  simp only [Try.ntmps31, List.size_toArray, List.length_cons, List.length_nil, Nat.reduceAdd, Nat.reduceSub, Array.replicate_succ, Array.replicate_zero, List.push_toArray, List.append_toArray, List.nil_append, List.cons_append]
  repeat (first | (refine Walk.c rfl ?_) | (refine Walk.cRet ?_) | (refine Walk.cEnd ?_) | (refine Walk.cReg ?_; simp only [size31_0, size31_1, size31_2, size31_3, size31_4, List.range, List.range.loop]) | (refine Walk.opq (ho_of (by conv => lhs; whnf) (by kernel_rfl)) (by rfl) (by decide) (fun dd e he => ?_) (fun dd K hK => ?_); (· (simp [go_sem, *] at he; try (subst he; exact evR_read _ _))); go_simp; refine hK _ ?_; clear hK K; try walk_nrm) | (refine Walk.ctl rfl (fun w => stepG_unwanted (ho_of (by conv => lhs; whnf) (by kernel_rfl)) (by rfl)) ?_; walk_nrm))
  exact Walk.ret0 rfl rfl Try.func31 rfl fun d => ⟨rfl, d, rfl⟩

set_option maxHeartbeats 8000000 in
set_option maxRecDepth 100000 in
theorem step31_go (c : Nat) (n most : Int) (w : World) (h0 : w.cell? ⟨c, 0, none⟩ = some (.int .i64 most)) (h1 : w.cell? ⟨c, 1, none⟩ = some (.int .i64 n)) (hz : w.frozen? ⟨c, 1, none⟩ = false) (hf : Free V ⟨c, 1, none⟩) (hlt : n < most) (hb : most ≤ 1048576) (hn0 : 0 ≤ n) :
    CallV Try.prog main V 31 #[.pointer (some ⟨c, 0, none⟩)] w (.tuple #[]) (w.setCell ⟨c, 1, none⟩ (.int .i64 (n + 1))) := by
  have q1 := run_eql_ptr 63 und63
  have q2 := ev_eql_ptr 63 und63
  have hw1 : IntKind.wrap .i64 (n + 1) = n + 1 := by rw [IntKind.wrap_i64]; omega
  have hd : decide (most ≤ n) = false := decide_eq_false (by omega)
  refine callW_in Try.func31 code31_is fun fr cs => ?_
  simp only [Try.ntmps31, List.size_toArray, List.length_cons, List.length_nil, Nat.reduceAdd, Nat.reduceSub, Array.replicate_succ, Array.replicate_zero, List.push_toArray, List.append_toArray, List.nil_append, List.cons_append]
  repeat (first | (refine Walk.c rfl ?_) | (refine Walk.cRet ?_) | (refine Walk.cEnd ?_) | (refine Walk.cReg ?_; simp only [size31_0, size31_1, size31_2, size31_3, size31_4, List.range, List.range.loop]) | (refine Walk.opq (ho_of (by conv => lhs; whnf) (by kernel_rfl)) (by rfl) (by decide) (fun dd e he => ?_) (fun dd K hK => ?_); (· (simp [go_sem, *] at he; try (subst he; exact evR_read _ _))); go_simp; refine hK _ ?_; clear hK K; try walk_nrm) | (refine Walk.ctl rfl (fun w => stepG_unwanted (ho_of (by conv => lhs; whnf) (by kernel_rfl)) (by rfl)) ?_; walk_nrm))
  refine Walk.ctl rfl (fun w => stepG_loop) ?_
  repeat (first | (refine Walk.c rfl ?_) | (refine Walk.cRet ?_) | (refine Walk.cEnd ?_) | (refine Walk.cReg ?_; simp only [size31_0, size31_1, size31_2, size31_3, size31_4, List.range, List.range.loop]) | (refine Walk.opq (ho_of (by conv => lhs; whnf) (by kernel_rfl)) (by rfl) (by decide) (fun dd e he => ?_) (fun dd K hK => ?_); (· (simp [go_sem, *] at he; try (subst he; exact evR_read _ _))); go_simp; refine hK _ ?_; clear hK K; try walk_nrm) | (refine Walk.ctl rfl (fun w => stepG_unwanted (ho_of (by conv => lhs; whnf) (by kernel_rfl)) (by rfl)) ?_; walk_nrm))
  refine Walk.callV (x := .int .i64 n) (W := w) ?_ (ho_of (by conv => lhs; whnf) (by kernel_rfl)) (by rfl) (by decide) rfl Try.func63 (by kernel_rfl) (by rfl) ?_
  · walk_nrm
    exact load63 _ _ w h1
  walk_nrm
  repeat (first | (refine Walk.c rfl ?_) | (refine Walk.cRet ?_) | (refine Walk.cEnd ?_) | (refine Walk.cReg ?_; simp only [size31_0, size31_1, size31_2, size31_3, size31_4, List.range, List.range.loop]) | (refine Walk.opq (ho_of (by conv => lhs; whnf) (by kernel_rfl)) (by rfl) (by decide) (fun dd e he => ?_) (fun dd K hK => ?_); (· (simp [go_sem, *] at he; try (subst he; exact evR_read _ _))); go_simp; refine hK _ ?_; clear hK K; try walk_nrm) | (refine Walk.ctl rfl (fun w => stepG_unwanted (ho_of (by conv => lhs; whnf) (by kernel_rfl)) (by rfl)) ?_; walk_nrm))
  refine Walk.callV (x := .bool true) (W := w.setCell ⟨c, 1, none⟩ (.int .i64 (n + 1))) ?_ (ho_of (by conv => lhs; whnf) (by kernel_rfl)) (by rfl) (by decide) rfl Try.func64 (by kernel_rfl) (by rfl) ?_
  · walk_nrm
    exact cas64_hit ⟨c, 1, none⟩ n (n + 1) w h1 hz hf
  walk_nrm
  repeat (first | (refine Walk.c rfl ?_) | (refine Walk.cRet ?_) | (refine Walk.cEnd ?_) | (refine Walk.cReg ?_; simp only [size31_0, size31_1, size31_2, size31_3, size31_4, List.range, List.range.loop]) | (refine Walk.opq (ho_of (by conv => lhs; whnf) (by kernel_rfl)) (by rfl) (by decide) (fun dd e he => ?_) (fun dd K hK => ?_); (· (simp [go_sem, *] at he; try (subst he; exact evR_read _ _))); go_simp; refine hK _ ?_; clear hK K; try walk_nrm) | (refine Walk.ctl rfl (fun w => stepG_unwanted (ho_of (by conv => lhs; whnf) (by kernel_rfl)) (by rfl)) ?_; walk_nrm))
  exact Walk.ret0 rfl rfl Try.func31 rfl fun d => ⟨rfl, d, rfl⟩

set_option maxHeartbeats 8000000 in
set_option maxRecDepth 100000 in
theorem step31_stop (c : Nat) (n most : Int) (w : World) (h0 : w.cell? ⟨c, 0, none⟩ = some (.int .i64 most)) (h1 : w.cell? ⟨c, 1, none⟩ = some (.int .i64 n)) (hle : most ≤ n) (fr : Frame) (cs : List Frame) :
    Walk Try.prog main (DR V) (fun g w' => g = G (fr.raise [{ v := .iface 147 (.agg #[]), recovered := false }]) cs ∧ ∃ d, w' = w.at d) (G (Frame.enter Try.prog 31 #[.pointer (some ⟨c, 0, none⟩)] .normal) (fr :: cs)) w := by
  have q1 := run_eql_ptr 63 und63
  have q2 := ev_eql_ptr 63 und63
  have hd : decide (most ≤ n) = true := decide_eq_true hle
  have hi1 := run_iface147
  have hi2 := ev_iface147
  rw [enter_at _ Try.func31 code31_is]
  simp only [Try.ntmps31, List.size_toArray, List.length_cons, List.length_nil, Nat.reduceAdd, Nat.reduceSub, Array.replicate_succ, Array.replicate_zero, List.push_toArray, List.append_toArray, List.nil_append, List.cons_append]
  repeat (first | (refine Walk.c rfl ?_) | (refine Walk.cRet ?_) | (refine Walk.cEnd ?_) | (refine Walk.cReg ?_; simp only [size31_0, size31_1, size31_2, size31_3, size31_4, List.range, List.range.loop]) | (refine Walk.opq (ho_of (by conv => lhs; whnf) (by kernel_rfl)) (by rfl) (by decide) (fun dd e he => ?_) (fun dd K hK => ?_); (· (simp [go_sem, *] at he; try (subst he; exact evR_read _ _))); go_simp; refine hK _ ?_; clear hK K; try walk_nrm) | (refine Walk.ctl rfl (fun w => stepG_unwanted (ho_of (by conv => lhs; whnf) (by kernel_rfl)) (by rfl)) ?_; walk_nrm))
  refine Walk.ctl rfl (fun w => stepG_loop) ?_
  repeat (first | (refine Walk.c rfl ?_) | (refine Walk.cRet ?_) | (refine Walk.cEnd ?_) | (refine Walk.cReg ?_; simp only [size31_0, size31_1, size31_2, size31_3, size31_4, List.range, List.range.loop]) | (refine Walk.opq (ho_of (by conv => lhs; whnf) (by kernel_rfl)) (by rfl) (by decide) (fun dd e he => ?_) (fun dd K hK => ?_); (· (simp [go_sem, *] at he; try (subst he; exact evR_read _ _))); go_simp; refine hK _ ?_; clear hK K; try walk_nrm) | (refine Walk.ctl rfl (fun w => stepG_unwanted (ho_of (by conv => lhs; whnf) (by kernel_rfl)) (by rfl)) ?_; walk_nrm))
  refine Walk.callV (x := .int .i64 n) (W := w) ?_ (ho_of (by conv => lhs; whnf) (by kernel_rfl)) (by rfl) (by decide) rfl Try.func63 (by kernel_rfl) (by rfl) ?_
  · walk_nrm
    exact load63 _ _ w h1
  walk_nrm
  repeat (first | (refine Walk.c rfl ?_) | (refine Walk.cRet ?_) | (refine Walk.cEnd ?_) | (refine Walk.cReg ?_; simp only [size31_0, size31_1, size31_2, size31_3, size31_4, List.range, List.range.loop]) | (refine Walk.opq (ho_of (by conv => lhs; whnf) (by kernel_rfl)) (by rfl) (by decide) (fun dd e he => ?_) (fun dd K hK => ?_); (· (simp [go_sem, *] at he; try (subst he; exact evR_read _ _))); go_simp; refine hK _ ?_; clear hK K; try walk_nrm) | (refine Walk.ctl rfl (fun w => stepG_unwanted (ho_of (by conv => lhs; whnf) (by kernel_rfl)) (by rfl)) ?_; walk_nrm))
  refine Walk.ctl rfl (fun w => stepG_raise (x := .iface 147 (.agg #[])) (ho_of (by conv => lhs; whnf) (by kernel_rfl)) (by rfl) (by decide) (by simp [go_sem, execOp, Act.eval, Instr.panic]) (by simp [go_sem, execOp, Act.eval, Instr.panic])) ?_
  refine Walk.ctl rfl (fun w => stepG_pop rfl rfl (by kernel_rfl)) ?_
  exact .stop fun d => ⟨rfl, d, rfl⟩

theorem und24 : Try.prog.underlying 24 = some (.slice 3) := by kernel_rfl
theorem bounds_type : Try.prog.rt.boundsError ≠ 147 := by
  have : Try.prog.rt.boundsError = 8 := by kernel_rfl
  rw [this]; decide
/-- An element of an empty list. -/
theorem nil_at (n : Int) (w : World) (d : Nat) : ∃ x d', (∃ t v, t ≠ 147 ∧ x = .iface t v) ∧ (Instr.indexAt 24 (.slice none 0 0) (.int .i64 n)).run Try.prog (w.at d) = .halt (.panic x) (w.at d') ∧ (Instr.indexAt 24 (.slice none 0 0) (.int .i64 n)).events Try.prog (w.at d) #[] = #[] := by
  obtain ⟨s, d', h1, h2⟩ := bounds_at (α := Value) Try.prog .i64 n 0 .index w d
  have e1 : (Instr.indexAt 24 (.slice none 0 0) (.int .i64 n)).run Try.prog (w.at d) = (boundsPanic .i64 n 0 .index : Sem Value).run Try.prog (w.at d) := by simp [Instr.indexAt, run_underlying und24, asIntOf]
  have e2 : (Instr.indexAt 24 (.slice none 0 0) (.int .i64 n)).events Try.prog (w.at d) #[] = (boundsPanic .i64 n 0 .index : Sem Value).events Try.prog (w.at d) #[] := by simp [Instr.indexAt, run_underlying und24, asIntOf]
  exact ⟨_, d', ⟨_, _, bounds_type, rfl⟩, e1.trans h1, e2.trans h2⟩

set_option maxHeartbeats 8000000 in
set_option maxRecDepth 100000 in
theorem beyond_panics (n : Int) (w : World) (fr : Frame) (cs : List Frame) :
    Walk Try.prog main (DR V) (fun g w' => (∃ t v, t ≠ 147 ∧ g = G (fr.raise [{ v := .iface t v, recovered := false }]) cs) ∧ ∃ d, w' = w.at d) (G (Frame.enter Try.prog 66 #[.int .i64 n] .normal) (fr :: cs)) w := by
  rw [enter_at _ Try.func66 code66_is]
  simp only [Try.ntmps66, List.size_toArray, List.length_cons, List.length_nil, Nat.reduceAdd, Nat.reduceSub, Array.replicate_succ, Array.replicate_zero, List.push_toArray, List.append_toArray, List.nil_append, List.cons_append]
  repeat (first | (refine Walk.c rfl ?_) | (refine Walk.cRet ?_) | (refine Walk.cEnd ?_) | (refine Walk.cReg ?_; simp only [size66_0, size66_1, size66_2, List.range, List.range.loop]) | (refine Walk.opq (ho_of (by conv => lhs; whnf) (by kernel_rfl)) (by rfl) (by decide) (fun dd e he => ?_) (fun dd K hK => ?_); (· (simp [go_sem, *] at he; try (subst he; exact evR_read _ _))); go_simp; refine hK _ ?_; clear hK K; try walk_nrm) | (refine Walk.ctl rfl (fun w => stepG_unwanted (ho_of (by conv => lhs; whnf) (by kernel_rfl)) (by rfl)) ?_; walk_nrm))
  refine Walk.raiseD (Q := fun x => ∃ t v, t ≠ 147 ∧ x = .iface t v) (ho_of (by conv => lhs; whnf) (by kernel_rfl)) (by rfl) (by decide) (fun d => ?_) ?_
  · obtain ⟨x, d', hq, h1, h2⟩ := nil_at n w d
    refine ⟨x, d', hq, ?_, ?_⟩
    · unfold execOp
      simp [Act.eval, h1]
    · unfold execOp
      simp [Act.eval, h1, h2]
  · rintro x ⟨t, v, ht, rfl⟩
    refine Walk.ctl rfl (fun w => stepG_pop rfl rfl (by kernel_rfl)) ?_
    exact .stop fun d => ⟨⟨t, v, ht, rfl⟩, d, rfl⟩
end Go.Proofs.Ytgiiicdpbdfemaa
end

/- The relay's walk: a struct is loaded whole; a struct is stored whole into a block of its own. -/
section
namespace Go.Relay
open Go.Conc Go.RowKit

variable {P : Program} {main : Bool} {V : Nat → Option Wait} {Stop : Goroutine → World → Prop} {w : World} {b : Frame} {a : Act} {k : List Item} {cs : List Frame} {ops : Array Oper} {i : Nat} {rest : List Nat} {o : Oper}

theorem add_none (g o j : Nat) : (⟨g, o, none⟩ : Addr).add j = ⟨g, o + j, none⟩ := by unfold Addr.add; split <;> simp_all

theorem run_loadVar_at (w : World) (g o : Nat) (ty : TypeId) (cs : List Value) (d : TypeDesc) (hc : ∀ j v, cs[j]? = some v → w.cell? ⟨g, o + j, none⟩ = some v)
    (hu : P.underlying ty = some d) (hd : (match d with | .struct _ | .array _ _ => true | _ => false) = true) (hi : (P.info? ty).map (·.size) = some cs.length) :
    (loadVar ty ⟨g, o, none⟩).run P w = .ok (.agg cs.toArray) w := by
  have hl : (loadCells ⟨g, o, none⟩ cs.length).run P w = .ok cs.toArray w := run_loadCells_list (P := P) w ⟨g, o, none⟩ cs (fun j v hv => by rw [add_none]; exact hc j v hv)
  cases hq : P.info? ty with
  | none => simp [hq] at hi
  | some i =>
    have hs : i.size = cs.length := by simpa [hq] using hi
    have hagg : (isAgg ty).run P w = .ok true w := by
      unfold isAgg
      rw [Sem.run_bind, run_underlying hu w]
      cases d <;> simp_all
    simp [loadVar, Sem.run_bind, hagg, sizeOf, typeInfo, hq, hs, hl]

theorem events_loadVar_reads (w : World) (ad : Addr) (ty : TypeId) {d : TypeDesc} (hu : P.underlying ty = some d) (hd : (match d with | .struct _ | .array _ _ => true | _ => false) = true) {n : Nat} (hi : (P.info? ty).map (·.size) = some n) :
    ∀ e ∈ (loadVar ty ad).events P w #[], e.isRead := by
  cases hq : P.info? ty with
  | none => simp [hq] at hi
  | some i =>
    have hagg : (isAgg ty).run P w = .ok true w := by
      unfold isAgg
      rw [Sem.run_bind, run_underlying hu w]
      cases d <;> simp_all
    have hagge : ∀ es, (isAgg ty).events P w es = es := fun es => by
      unfold isAgg
      simp only [Sem.events_bind, run_underlying hu w, events_underlying, Result.evThen_ok]
      cases d <;> simp
    intro e he
    have hsz : ∀ es, (sizeOf ty).events P w es = es := fun es => by simp [sizeOf, typeInfo, hq]
    have hszr : (sizeOf ty).run P w = .ok i.size w := by simp [sizeOf, typeInfo, hq]
    simp only [loadVar, Sem.events_bind, hagg, hagge, Result.evThen_ok, if_true, hszr, hsz, loadCells] at he
    have : e ∈ (loadCellsFrom ad 0 i.size #[]).events P w #[] := by
      revert he
      cases (loadCellsFrom ad 0 i.size #[]).run P w <;> simp
    rcases events_loadCellsFrom_reads _ _ _ _ _ _ e this with h | h
    · simp at h
    · exact h

theorem Walk.loadS (t : TypeId) (x : Operand) (ho : ops[i]? = some o) (hw : Region.wanted o (yielded ops a.tmps) = true) (hk : b.kind ≠ .early) (hop : o.op = .load t x) (g off : Nat) (vals : List Value) (d : TypeDesc) (hx : a.eval x = .pointer (some ⟨g, off, none⟩)) (hc : ∀ j v, vals[j]? = some v → w.cell? ⟨g, off + j, none⟩ = some v)
    (hu : P.underlying t = some d) (hd : (match d with | .struct _ | .array _ _ => true | _ => false) = true) (hi : (P.info? t).map (·.size) = some vals.length)
    (h : Walk P main (DR V) Stop (G (b.at (a.put o.dst (.agg vals.toArray)) (.inRegion ops rest :: k)) cs) w) : Walk P main (DR V) Stop (G (b.at a (.inRegion ops (i :: rest) :: k)) cs) w := by
  refine Walk.opq ho hw hk (fun dd e he => ?_) (fun dd K hK => ?_)
  · refine evR_isRead (events_loadVar_reads (P := P) (w.at dd) ⟨g, off, none⟩ t hu hd hi e ?_)
    unfold execOp at he
    simpa [hop, hx, Instr.loadAt, Instr.sureAddr, Sem.events_bind] using he
  · unfold execOp
    simp only [hop, hx, Instr.loadAt, Instr.sureAddr, Sem.run_bind, Sem.run_pure, Result.andThen_ok, run_loadVar_at (P := P) (w.at dd) g off t vals d hc hu hd hi]
    exact hK _ h

theorem events_storeVar_at (w : World) (g : Nat) (t ty : TypeId) (old cells : Array Value) (hg : w.heap[g]? = some (.cells old t (0, 0))) (hi : (P.info? ty).map (·.size) = some cells.size) (ho : old.size = cells.size) (h1 : cells.all (·.oneCell') = true) :
    ∀ e ∈ (storeVar ty ⟨g, 0, none⟩ (.agg cells)).events P w #[], ∃ ad, e.loc = .cell ad ∧ ad.block = g := by
  cases hq : P.info? ty with
  | none => simp [hq] at hi
  | some i =>
    have hs : cells.size = i.size := by simp [hq] at hi; omega
    intro e he
    have : e ∈ (storeCells ⟨g, 0, none⟩ cells.toList 0).events P w #[] := by
      simpa [storeVar, sizeOf, typeInfo, hq, Value.cells, hs, Sem.events_bind] using he
    rcases events_storeCells_at g 0 t cells.toList 0 old w #[] hg (by simp; omega) (fun v hv => (Array.all_eq_true_iff_forall_mem.1 h1) v (by simpa using hv)) e this with h | h
    · simp at h
    · exact h

theorem Walk.storeS (t : TypeId) (x y : Operand) (ho : ops[i]? = some o) (hw : Region.wanted o (yielded ops a.tmps) = true) (hk : b.kind ≠ .early) (hop : o.op = .store t x y) (g : Nat) (cells old : Array Value) (tt : TypeId) (hx : a.eval x = .pointer (some ⟨g, 0, none⟩)) (hy : a.eval y = .agg cells)
    (hg : w.heap[g]? = some (.cells old tt (0, 0))) (hi : (P.info? t).map (·.size) = some cells.size) (hold : old.size = cells.size) (h1 : cells.all (·.oneCell') = true) (hap : Apart V g)
    (h : Walk P main (DR V) Stop (G (b.at (a.put o.dst undef) (.inRegion ops rest :: k)) cs) (w.setRow g cells)) : Walk P main (DR V) Stop (G (b.at a (.inRegion ops (i :: rest) :: k)) cs) w := by
  have hgr : ∀ d, (w.at d).grownBy ((w.setRow g cells).at d) (some g) := fun d => by
    refine ⟨rfl, rfl, rfl, ?_, fun k hk hne => ?_⟩
    · simp [World.setRow, World.at]
    · have : k ≠ g := fun e => hne (by rw [e])
      simp only [World.setRow, World.at]
      rw [Array.getElem?_modify, if_neg (Ne.symm this)]
  refine Walk.opw (W := w.setRow g cells) ho hw hk (fun dd e he => ?_) (fun dd es hes => DR.grown (hgr dd) (fun g' e => by cases e; exact hap) hes) (fun dd K hK => ?_)
  · obtain ⟨ad, h1', h2'⟩ := events_storeVar_at (P := P) (w.at dd) g tt t old cells hg hi hold h1 e (by
      unfold execOp at he
      have hr := run_storeVar_row (P := P) (w.at dd) g tt t old cells hg hi hold h1
      simpa [hop, hx, hy, Instr.storeAt, Instr.sureAddr, Sem.events_bind, hr] using he)
    exact evR_cell h1' (hap.1 ad h2')
  · unfold execOp
    simp only [hop, hx, hy, Instr.storeAt, Instr.sureAddr, Sem.run_bind, Sem.run_pure, Result.andThen_ok, run_storeVar_row (P := P) (w.at dd) g tt t old cells hg hi hold h1]
    exact hK _ h
end Go.Relay
end

/- Package turn's programs, in company: the registers. -/
section
namespace Go.Proofs.Ytgiiicdpbdfemaa
open Go.Conc Go.RowKit Go.Relay

variable {main : Bool} {V : Nat → Option Wait}

theorem bits_and3 (n : Int) : bits .and .i64 n 3 = n % 4 := by
  have h3 : BitVec.ofInt 64 3 = 3#64 := by decide
  have hx : (BitVec.ofInt 64 n).toNat = (n % 18446744073709551616).toNat := by rw [BitVec.toNat_ofInt]; rfl
  have hb : (BitVec.ofInt 64 n &&& 3#64).toNat = (BitVec.ofInt 64 n).toNat % 4 := by
    rw [BitVec.toNat_and]
    exact Nat.and_two_pow_sub_one_eq_mod _ 2
  show IntKind.i64.wrap ((BitVec.ofInt 64 n &&& BitVec.ofInt 64 3).toNat : Int) = n % 4
  rw [h3, hb, hx]
  simp [IntKind.wrap, IntKind.bits, IntKind.signed]
  omega

set_option maxHeartbeats 8000000 in
set_option maxRecDepth 100000 in
theorem register104 (W : Nat) (n : Int) (w : World) : CallV Try.prog main V 104 #[.pointer (some ⟨W, 0, none⟩), .int .i64 n] w (.pointer (some ⟨W, 2 + (n % 4).toNat, none⟩)) w := by
  refine callW_in Try.func104 rfl fun fr cs => ?_
  simp only [Try.ntmps104, List.size_toArray, List.length_cons, List.length_nil, Nat.reduceAdd, Nat.reduceSub, Array.replicate_succ, Array.replicate_zero, List.push_toArray, List.append_toArray, List.nil_append, List.cons_append]
  obtain ⟨k, hk, hk4⟩ : ∃ k : Nat, n % 4 = k ∧ k < 4 := ⟨(n % 4).toNat, by omega, by omega⟩
  have hbk : bits .and .i64 n 3 = (k : Int) := (bits_and3 n).trans hk
  have hk4' : (k : Int) < 4 := by omega
  have hia := fun (a : Addr) (w : World) (es : Array Event) => events_indexAt_array (P := Try.prog) (w := w) (es := es) 103 2 4 a .i64 (k : Int) (by kernel_rfl) ⟨by omega, hk4'⟩
  rw [hk]
  repeat (first | (refine Walk.c rfl ?_) | (refine Walk.cReg ?_; simp only [List.size_toArray, List.length_cons, List.length_nil, Nat.reduceAdd, Nat.zero_add, List.range, List.range.loop]) | (refine Walk.cRet ?_) | (refine Walk.cEnd ?_) | (refine Walk.opq (ho_of (by conv => lhs; whnf) (by kernel_rfl)) (by rfl) (by decide) (fun dd e he => ?_) (fun dd K hK => ?_); (· (simp [go_sem, *] at he; try (subst he; exact evR_read _ _))); go_simp; refine hK _ ?_; clear hK K; try walk_nrm) | (refine Walk.ctl rfl (fun w => stepG_unwanted (ho_of (by conv => lhs; whnf) (by kernel_rfl)) (by rfl)) ?_; walk_nrm))
  exact Walk.ret1 rfl rfl Try.func104 rfl fun d => ⟨by simp, d, rfl⟩
end Go.Proofs.Ytgiiicdpbdfemaa
end

/- The relay's walk through a region that draws its order and holds calls: whichever operation comes up, the walk goes on from it. -/
section
namespace Go.Relay
open Go.Conc Go.RowKit

section
variable (P : Program) (main : Bool) (V : Nat → Option Wait) (Stop : Goroutine → World → Prop) (b : Frame) (k : List Item) (cs : List Frame) (ops : Array Oper)

/-- Operation number i, whatever comes behind it: K is asked of the state in which it ends. -/
def OpW (i : Nat) (K : Act → World → Prop) (a : Act) (w : World) : Prop :=
  ∀ rest, (∀ a' w', K a' w' → Walk P main (DR V) Stop (G (b.at a' (.inRegion ops rest :: k)) cs) w') → Walk P main (DR V) Stop (G (b.at a (.inRegion ops (i :: rest) :: k)) cs) w

/-- Whatever order is picked from here on. -/
def AnyW (md : Region.Mode) (Q : Act → World → Prop) : Nat → Array Bool → Act → World → Prop
  | 0, listed, a, w => Region.ready md ops listed = [] ∧ Q a w
  | fuel + 1, listed, a, w => (Region.ready md ops listed = [] → Q a w) ∧ ∀ i ∈ Region.ready md ops listed, OpW P main V Stop b k cs ops i (fun a' w' => AnyW md Q fuel (listed.setIfInBounds i true) a' w') a w
end

section
variable {P : Program} {main : Bool} {V : Nat → Option Wait} {Stop : Goroutine → World → Prop} {b : Frame} {k : List Item} {cs : List Frame} {ops : Array Oper} {md : Region.Mode} {Q : Act → World → Prop}

theorem anyW_sound (hc : ∀ a w, Q a w → Walk P main (DR V) Stop (G (b.at a (.inRegion ops [] :: k)) cs) w) : ∀ (fuel t : Nat) (listed : Array Bool) (a : Act) (w : World), AnyW P main V Stop b k cs ops md Q fuel listed a w →
    Walk P main (DR V) Stop (G (b.at a (.inRegion ops (Region.linearise.go md ops fuel t listed []) :: k)) cs) w := by
  intro fuel
  induction fuel with
  | zero => intro t listed a w h; exact hc _ _ h.2
  | succ fuel ih =>
    intro t listed a w h
    obtain ⟨h₀, h₁⟩ := h
    simp only [Region.linearise.go]
    change Walk P main (DR V) Stop (G (b.at a (.inRegion ops (match (Region.ready md ops listed)[t % (Region.ready md ops listed).length]? with
      | some i => Region.linearise.go md ops fuel (t / (Region.ready md ops listed).length) (listed.setIfInBounds i true) [i]
      | none => [].reverse) :: k)) cs) w
    cases hi : (Region.ready md ops listed)[t % (Region.ready md ops listed).length]? with
    | none =>
      have hnil : Region.ready md ops listed = [] := by
        cases hr : Region.ready md ops listed with
        | nil => rfl
        | cons x xs =>
          rw [hr] at hi
          have hlt : t % (x :: xs).length < (x :: xs).length := Nat.mod_lt _ (by simp)
          simp at hi
          simp at hlt
          omega
      exact hc _ _ (h₀ hnil)
    | some i =>
      simp only []
      rw [linearise_go_acc, List.reverse_singleton, List.singleton_append]
      exact h₁ i (List.mem_of_getElem? hi) _ fun a' w' x => ih _ _ a' w' x

theorem anyW_all {rs : List Nat} {fuel : Nat} {listed : Array Bool} {a : Act} {w : World} (hr : Region.ready md ops listed = rs) (hne : rs ≠ [])
    (h : ∀ i ∈ rs, OpW P main V Stop b k cs ops i (fun a' w' => AnyW P main V Stop b k cs ops md Q fuel (listed.setIfInBounds i true) a' w') a w) : AnyW P main V Stop b k cs ops md Q (fuel + 1) listed a w :=
  ⟨fun h0 => absurd (hr ▸ h0) hne, hr ▸ h⟩

theorem anyW_done {listed : Array Bool} {a : Act} {w : World} (hr : Region.ready md ops listed = []) (h : Q a w) : ∀ fuel, AnyW P main V Stop b k cs ops md Q fuel listed a w
  | 0 => ⟨hr, h⟩
  | _ + 1 => ⟨fun _ => h, fun i hi => by rw [hr] at hi; cases hi⟩

/-- The beginning of such a region. -/
theorem Walk.drawnW {id : Nat} {a : Act} {w : World} (hm : P.follows .mixedOrders = true)
    (h : ∀ d, AnyW P main V Stop b k cs ops .any Q ops.size (Array.replicate ops.size false) a (w.at d))
    (hc : ∀ a' w', Q a' w' → Walk P main (DR V) Stop (G (b.at a' (.inRegion ops [] :: k)) cs) w') : Walk P main (DR V) Stop (G (b.at a (.code (.region id ops true) :: k)) cs) w := by
  refine Walk.step rfl (fun d => G (b.at a (.inRegion ops (Region.linearise .any ops (w.tape d (.order b.fn id))) :: k)) cs) (fun d => w.at (d + 1)) (fun _ => #[]) (fun d => ?_) (fun d => drawsR _) (fun d => anyW_sound hc ops.size _ _ a _ (h (d + 1)))
  rw [stepG_region_draw]
  simp only [Region.schedule, hm, Bool.true_or, if_true]
  rfl
end
end Go.Relay
end

/- The relay's walk through a region that draws its order and holds calls, by an invariant that speaks of the operations that have come up. -/
section
namespace Go.Relay
open Go.Conc Go.RowKit
open Go.ConcN (upd upd_ne upd_same)

/-- Every operation waits for earlier ones only. -/
def lowB (ops : Array Oper) : Bool := (List.range ops.size).all fun i => (ops[i]?).any fun o => o.after.all fun e => decide (e.on < i)
/-- Operation i waits for all of l. -/
def depB (ops : Array Oper) (i : Nat) (l : List Nat) : Bool := (ops[i]?).any fun o => l.all fun j => o.after.any fun e => decide (e.on = j) && Region.binds .any e
def upTo (L : Array Bool) : Nat → Bool := fun j => L.getD j false
def leftOf (n : Nat) (f : Nat → Bool) : Nat := (List.range n).countP (fun i => !f i)

theorem leftOf_pos {n : Nat} {f : Nat → Bool} {i : Nat} (hi : i < n) (h : f i = false) : 1 ≤ leftOf n f := List.countP_pos_iff.2 ⟨i, by simpa using hi, by simp [h]⟩
theorem leftOf_set {n : Nat} {f : Nat → Bool} {i : Nat} (hi : i < n) (h : f i = false) : leftOf n (upd f i true) = leftOf n f - 1 := by
  unfold leftOf
  induction n with
  | zero => omega
  | succ n ih =>
    rw [List.range_succ, List.countP_append, List.countP_append]
    by_cases e : i = n
    · subst e
      have : (List.range i).countP (fun j => !upd f i true j) = (List.range i).countP (fun j => !f j) := List.countP_congr fun j hj => by
        have : j ≠ i := by have := List.mem_range.1 hj; omega
        simp [upd_ne _ _ this]
      rw [this]
      simp [upd_same, h]
    · have hp := leftOf_pos (n := n) (by omega) h
      unfold leftOf at hp
      have := ih (by omega)
      rw [this]
      simp only [List.countP_singleton, upd_ne _ _ (Ne.symm e)]
      omega
theorem upTo_set {L : Array Bool} {i : Nat} (hi : i < L.size) : upTo (L.setIfInBounds i true) = upd (upTo L) i true := by
  funext j
  unfold upTo
  by_cases e : j = i
  · subst e
    rw [upd_same, Array.getD_eq_getD_getElem?, Array.getElem?_setIfInBounds_self_of_lt hi]; rfl
  · rw [upd_ne _ _ e, Array.getD_eq_getD_getElem?, Array.getElem?_setIfInBounds_ne (Ne.symm e), ← Array.getD_eq_getD_getElem?]
theorem upTo_in {L : Array Bool} {i : Nat} (hi : i < L.size) : L.getD i true = upTo L i := by
  unfold upTo
  rw [Array.getD_eq_getD_getElem?, Array.getD_eq_getD_getElem?, Array.getElem?_eq_getElem hi]; rfl

section
variable {P : Program} {main : Bool} {V : Nat → Option Wait} {Stop : Goroutine → World → Prop} {b : Frame} {k : List Item} {cs : List Frame} {ops : Array Oper} {Q : Act → World → Prop}

theorem deps_of {i : Nat} {l : List Nat} {o : Oper} {f : Nat → Bool} (h : depB ops i l = true) (ho : ops[i]? = some o) (hd : ∀ e ∈ o.after, Region.binds .any e = true → f e.on = true) : ∀ j ∈ l, f j = true := by
  intro j hj
  unfold depB at h
  rw [ho] at h
  simp only [Option.any_some, List.all_eq_true] at h
  have := h j hj
  obtain ⟨x, hx, hb⟩ := Array.any_eq_true.1 this
  simp only [Bool.and_eq_true, decide_eq_true_eq] at hb
  exact hb.1 ▸ hd _ (Array.getElem_mem hx) hb.2

theorem OpW.mono {i : Nat} {K K' : Act → World → Prop} {a : Act} {w : World} (h : OpW P main V Stop b k cs ops i K a w) (hK : ∀ a w, K a w → K' a w) : OpW P main V Stop b k cs ops i K' a w :=
  fun rest hr => h rest fun a' w' x => hr a' w' (hK a' w' x)

theorem all_up (hlow : lowB ops = true) {L : Array Bool} (hL : L.size = ops.size) (hr : Region.ready .any ops L = []) : ∀ i, i < ops.size → upTo L i = true := by
  intro i
  induction i using Nat.strongRecOn with
  | _ i ih =>
    intro hi
    refine Classical.byContradiction fun hne => ?_
    have hf : upTo L i = false := by simpa using hne
    have hm : i ∈ Region.ready .any ops L := mem_ready.2 ⟨by rw [upTo_in (by omega)]; exact hf, ops[i], Array.getElem?_eq_getElem hi, fun e he _ => ih e.on ?_ ?_⟩
    · rw [hr] at hm; cases hm
    · have := List.all_eq_true.1 hlow i (List.mem_range.2 hi)
      rw [Array.getElem?_eq_getElem hi] at this
      simp only [Option.any_some] at this
      have := (Array.all_eq_true_iff_forall_mem.1 this) e he
      simpa using this
    · have := List.all_eq_true.1 hlow i (List.mem_range.2 hi)
      rw [Array.getElem?_eq_getElem hi] at this
      simp only [Option.any_some] at this
      have := (Array.all_eq_true_iff_forall_mem.1 this) e he
      have : e.on < i := by simpa using this
      omega

/-- What has come up is closed under waiting. -/
def Closed (ops : Array Oper) (f : Nat → Bool) : Prop := ∀ j o, ops[j]? = some o → f j = true → ∀ e ∈ o.after, Region.binds .any e = true → f e.on = true
theorem Closed.deps {f : Nat → Bool} {i : Nat} {l : List Nat} (hC : Closed ops f) (hi : f i = true) (h : depB ops i l = true) : ∀ j ∈ l, f j = true := by
  cases ho : ops[i]? with
  | none => intro j hj; unfold depB at h; rw [ho] at h; cases h
  | some o => exact deps_of h ho (hC i o ho hi)

theorem anyW_inv {Inv : (Nat → Bool) → Act → World → Prop} (hlow : lowB ops = true)
    (hop : ∀ f i o a w, Inv f a w → Closed ops f → f i = false → ops[i]? = some o → (∀ e ∈ o.after, Region.binds .any e = true → f e.on = true) → OpW P main V Stop b k cs ops i (fun a' w' => Inv (upd f i true) a' w') a w)
    (hend : ∀ f a w, Inv f a w → (∀ i, i < ops.size → f i = true) → Q a w) :
    ∀ (fuel : Nat) (L : Array Bool) (a : Act) (w : World), L.size = ops.size → Inv (upTo L) a w → Closed ops (upTo L) → leftOf ops.size (upTo L) ≤ fuel → AnyW P main V Stop b k cs ops .any Q fuel L a w := by
  intro fuel
  induction fuel with
  | zero =>
    intro L a w hL hI _ hf
    have hall : ∀ i, i < ops.size → upTo L i = true := fun i hi => by
      refine Classical.byContradiction fun hne => ?_
      have := leftOf_pos hi (f := upTo L) (by simpa using hne)
      omega
    have hr : Region.ready .any ops L = [] := List.eq_nil_iff_forall_not_mem.2 fun i hm => by
      obtain ⟨h0, o, ho, _⟩ := mem_ready.1 hm
      have hi : i < ops.size := (Array.getElem?_eq_some_iff.1 ho).1
      rw [upTo_in (by omega), hall i hi] at h0
      cases h0
    exact ⟨hr, hend _ a w hI hall⟩
  | succ fuel ih =>
    intro L a w hL hI hC hf
    refine ⟨fun hr => hend _ a w hI (all_up hlow hL hr), fun i hm => ?_⟩
    obtain ⟨h0, o, ho, hd⟩ := mem_ready.1 hm
    have hi : i < ops.size := (Array.getElem?_eq_some_iff.1 ho).1
    rw [upTo_in (by omega)] at h0
    refine (hop (upTo L) i o a w hI hC h0 ho hd).mono fun a' w' hI' => ?_
    refine ih _ a' w' (by simp [hL]) (by rw [upTo_set (by omega)]; exact hI') ?_ ?_
    · rw [upTo_set (by omega)]
      intro j o' ho' hj e he hb
      have hup : ∀ x, upTo L x = true → upd (upTo L) i true x = true := fun x hx => by
        by_cases ex : x = i
        · subst ex; exact upd_same _ _ _
        · rw [upd_ne _ _ ex]; exact hx
      by_cases ej : j = i
      · subst ej
        rw [ho] at ho'; cases ho'
        exact hup _ (hd e he hb)
      · rw [upd_ne _ _ ej] at hj
        exact hup _ (hC j o' ho' hj e he hb)
    · rw [upTo_set (by omega), leftOf_set hi h0]
      omega

theorem Walk.drawnJ {id : Nat} {a : Act} {w : World} {Inv : (Nat → Bool) → Act → World → Prop} (hm : P.follows .mixedOrders = true) (hlow : lowB ops = true) (h0 : ∀ d, Inv (fun _ => false) a (w.at d))
    (hop : ∀ f i o a w, Inv f a w → Closed ops f → f i = false → ops[i]? = some o → (∀ e ∈ o.after, Region.binds .any e = true → f e.on = true) → OpW P main V Stop b k cs ops i (fun a' w' => Inv (upd f i true) a' w') a w)
    (hend : ∀ f a w, Inv f a w → (∀ i, i < ops.size → f i = true) → Walk P main (DR V) Stop (G (b.at a (.inRegion ops [] :: k)) cs) w) : Walk P main (DR V) Stop (G (b.at a (.code (.region id ops true) :: k)) cs) w := by
  refine Walk.drawnW (Q := fun a w => Walk P main (DR V) Stop (G (b.at a (.inRegion ops [] :: k)) cs) w) hm (fun d => ?_) (fun a' w' h => h)
  have hu : upTo (Array.replicate ops.size false) = fun _ => false := by
    funext j
    unfold upTo
    rw [Array.getD_eq_getD_getElem?, Array.getElem?_replicate]
    split <;> rfl
  refine anyW_inv hlow hop hend _ _ a (w.at d) (by simp) (by rw [hu]; exact h0 d) (by rw [hu]; intro _ _ _ h; cases h) ?_
  unfold leftOf
  exact Nat.le_trans List.countP_le_length (by simp)

theorem Walk.drawnI {id : Nat} {a : Act} {w : World} {Inv : (Nat → Bool) → Act → World → Prop} (hm : P.follows .mixedOrders = true) (hlow : lowB ops = true) (h0 : ∀ d, Inv (fun _ => false) a (w.at d))
    (hop : ∀ f i o a w, Inv f a w → f i = false → ops[i]? = some o → (∀ e ∈ o.after, Region.binds .any e = true → f e.on = true) → OpW P main V Stop b k cs ops i (fun a' w' => Inv (upd f i true) a' w') a w)
    (hend : ∀ f a w, Inv f a w → (∀ i, i < ops.size → f i = true) → Walk P main (DR V) Stop (G (b.at a (.inRegion ops [] :: k)) cs) w) : Walk P main (DR V) Stop (G (b.at a (.code (.region id ops true) :: k)) cs) w :=
  Walk.drawnJ hm hlow h0 (fun f i o a w h _ => hop f i o a w h) hend
end

/-- What the operations that have come up have left in the slots. -/
def Facts (dsts : List Nat) (vals : List Value) (f : Nat → Bool) (u : Nat → Value) : Prop := ∀ j d v, f j = true → dsts[j]? = some d → vals[j]? = some v → u d = v
theorem Facts.none (dsts : List Nat) (vals : List Value) (u : Nat → Value) : Facts dsts vals (fun _ => false) u := fun _ _ _ h => by cases h
theorem Facts.set {dsts : List Nat} {vals : List Value} {f : Nat → Bool} {u : Nat → Value} (F : Facts dsts vals f u) (hn : dsts.Nodup) {i d : Nat} {v : Value} (hd : dsts[i]? = some d) (hv : vals[i]? = some v) : Facts dsts vals (upd f i true) (upd u d v) := by
  intro j d' v' hf hd' hv'
  by_cases e : j = i
  · subst e
    rw [hd] at hd'; rw [hv] at hv'
    cases hd'; cases hv'
    exact upd_same _ _ _
  · rw [upd_ne _ _ e] at hf
    have hne : d' ≠ d := fun h => by
      subst h
      obtain ⟨h1, h1'⟩ := List.getElem?_eq_some_iff.1 hd
      obtain ⟨h2, h2'⟩ := List.getElem?_eq_some_iff.1 hd'
      exact e ((List.getElem_inj hn).1 (h2'.trans h1'.symm))
    rw [upd_ne _ _ hne]
    exact F j d' v' hf hd' hv'
end Go.Relay
end

/- Package turn's programs, in company: reckon's beginning. -/
section
namespace Go.Proofs.Ytgiiicdpbdfemaa
open Go.Conc Go.RowKit Go.Relay
open Go.ConcN (upd upd_ne upd_same)

variable {main : Bool} {V : Nat → Option Wait}

noncomputable def reg73 : Array Oper := match Try.f73.body with | some (.seq _ (.seq (.region _ ops _) _)) => ops | _ => #[]
noncomputable def rest73 : Code := match Try.f73.body with | some (.seq _ (.seq _ c)) => c | _ => .skip
def tm73 (W X : Nat) (c : Value) (next : Int) (u : Nat → Value) : Array Value := #[.pointer (some ⟨W, 0, none⟩), c, .int .i64 next, undef, .pointer (some ⟨X, 0, none⟩), undef, .int .i64 0, u 7, u 8, u 9, u 10, u 11, u 12, u 13, u 14, u 15, u 16, u 17, u 18, u 19, u 20, u 21, u 22, u 23, u 24, u 25, u 26, u 27, u 28, u 29, u 30, u 31, u 32, u 33, u 34, u 35, u 36, u 37, u 38, u 39, u 40, u 41, u 42, u 43, u 44, u 45, u 46, u 47, u 48, u 49, u 50, u 51, u 52, u 53, u 54, u 55, u 56, u 57, u 58, u 59, u 60, u 61, u 62, u 63, u 64, u 65, u 66, u 67, u 68, u 69, u 70, u 71, u 72, u 73, u 74, u 75, u 76, u 77, u 78, u 79, u 80, u 81, u 82, u 83, u 84, u 85, u 86]
def codeV (cd cr ca cb cv : Int) : Value := .agg #[.int .i64 cd, .int .i64 cr, .int .i64 ca, .int .i64 cb, .int .i64 cv]
def boxW (w : World) (cd cr ca cb cv : Int) : World := w.alloc (.cells #[.int .i64 cd, .int .i64 cr, .int .i64 ca, .int .i64 cb, .int .i64 cv] 99)

set_option maxHeartbeats 8000000 in
set_option maxRecDepth 100000 in
theorem reg73_walk {Stop : Goroutine → World → Prop} (W X : Nat) (c : Value) (cr ca cb next : Int) (cs : List Frame) (u0 : Nat → Value) (w : World) (h1 : w.cell? ⟨X, 1, none⟩ = some (.int .i64 cr)) (h2 : w.cell? ⟨X, 2, none⟩ = some (.int .i64 ca)) (h3 : w.cell? ⟨X, 3, none⟩ = some (.int .i64 cb))
    (hk : ∀ u : Nat → Value, u 7 = .pointer (some ⟨W, 2 + (cr % 4).toNat, none⟩) → u 8 = .pointer (some ⟨W, 2 + (ca % 4).toNat, none⟩) → u 9 = .pointer (some ⟨W, 2 + (cb % 4).toNat, none⟩) → Walk Try.prog main (DR V) Stop (G ((base 73).at ⟨tm73 W X c next u, []⟩ [.inRegion reg73 [], .code rest73]) cs) w) :
    Walk Try.prog main (DR V) Stop (G ((base 73).at ⟨tm73 W X c next u0, []⟩ [.code (.region 1 reg73 true), .code rest73]) cs) w := by
  refine Walk.drawnI (Inv := fun f a w' => ∃ u, a = ⟨tm73 W X c next u, []⟩ ∧ (∃ d, w' = w.at d) ∧ Facts [10, 11, 12, 13, 14, 15, 16, 17, 18, 19, 20, 21, 7, 8, 9] [.pointer (some ⟨W, 0, none⟩), .pointer (some ⟨X, 1, none⟩), .int .i64 cr, .pointer (some ⟨W, 2 + (cr % 4).toNat, none⟩), .pointer (some ⟨W, 0, none⟩), .pointer (some ⟨X, 2, none⟩), .int .i64 ca, .pointer (some ⟨W, 2 + (ca % 4).toNat, none⟩), .pointer (some ⟨W, 0, none⟩), .pointer (some ⟨X, 3, none⟩), .int .i64 cb, .pointer (some ⟨W, 2 + (cb % 4).toNat, none⟩), .pointer (some ⟨W, 2 + (cr % 4).toNat, none⟩), .pointer (some ⟨W, 2 + (ca % 4).toNat, none⟩), .pointer (some ⟨W, 2 + (cb % 4).toNat, none⟩)] f u) (by kernel_rfl) (by kernel_rfl) (fun d => ⟨u0, rfl, ⟨d, rfl⟩, Facts.none _ _ _⟩) ?_ ?_
  · rintro f i o a w' ⟨u, rfl, ⟨d, rfl⟩, F⟩ hfi ho hdeps rest hr
    refine Walk.back ?_ d
    have hi : i < 15 := (Array.getElem?_eq_some_iff.1 ho).1
    match i, hi with
    | 0, _ =>
      clear hdeps hfi ho
      simp only [tm73, reg73, Try.f73] at hr ⊢
      (refine Walk.opq (ho_of (by conv => lhs; whnf) (by kernel_rfl)) (by rfl) (by decide) (fun dd e he => ?_) (fun dd K hK => ?_); (· (simp [go_sem, *] at he; try (subst he; exact evR_read _ _))); go_simp; refine hK _ ?_; clear hK K; try walk_nrm)
      refine hr _ _ ⟨upd u 10 (.pointer (some ⟨W, 0, none⟩)), ?_, ⟨w.drawn, rfl⟩, F.set (by decide) rfl rfl⟩
      simp [upd]
    | 1, _ =>
      clear hdeps hfi ho
      simp only [tm73, reg73, Try.f73] at hr ⊢
      (refine Walk.opq (ho_of (by conv => lhs; whnf) (by kernel_rfl)) (by rfl) (by decide) (fun dd e he => ?_) (fun dd K hK => ?_); (· (simp [go_sem, *] at he; try (subst he; exact evR_read _ _))); go_simp; refine hK _ ?_; clear hK K; try walk_nrm)
      refine hr _ _ ⟨upd u 11 (.pointer (some ⟨X, 1, none⟩)), ?_, ⟨w.drawn, rfl⟩, F.set (by decide) rfl rfl⟩
      simp [upd]
    | 2, _ =>
      have hd := deps_of (l := [1]) (by kernel_rfl) ho hdeps
      have e11 := F 1 11 _ (hd 1 (by simp)) rfl rfl
      clear hdeps hfi ho
      simp only [tm73, reg73, Try.f73] at hr ⊢
      (refine Walk.opq (ho_of (by conv => lhs; whnf) (by kernel_rfl)) (by rfl) (by decide) (fun dd e he => ?_) (fun dd K hK => ?_); (· (simp [go_sem, *] at he; try (subst he; exact evR_read _ _))); go_simp; refine hK _ ?_; clear hK K; try walk_nrm)
      refine hr _ _ ⟨upd u 12 (.int .i64 cr), ?_, ⟨w.drawn, rfl⟩, F.set (by decide) rfl rfl⟩
      simp [upd, e11]
    | 3, _ =>
      have hd := deps_of (l := [0, 2]) (by kernel_rfl) ho hdeps
      have e10 := F 0 10 _ (hd 0 (by simp)) rfl rfl
      have e12 := F 2 12 _ (hd 2 (by simp)) rfl rfl
      clear hdeps hfi ho
      simp only [tm73, reg73, Try.f73] at hr ⊢
      refine Walk.callV (x := .pointer (some ⟨W, 2 + (cr % 4).toNat, none⟩)) (W := w) ?_ rfl (by rfl) (by decide) rfl Try.func104 (by kernel_rfl) (by rfl) ?_
      · walk_nrm
        simp only [e10, e12]
        exact register104 W cr _
      walk_nrm
      refine hr _ _ ⟨upd u 13 (.pointer (some ⟨W, 2 + (cr % 4).toNat, none⟩)), ?_, ⟨w.drawn, rfl⟩, F.set (by decide) rfl rfl⟩
      simp [upd, e10, e12]
    | 4, _ =>
      clear hdeps hfi ho
      simp only [tm73, reg73, Try.f73] at hr ⊢
      (refine Walk.opq (ho_of (by conv => lhs; whnf) (by kernel_rfl)) (by rfl) (by decide) (fun dd e he => ?_) (fun dd K hK => ?_); (· (simp [go_sem, *] at he; try (subst he; exact evR_read _ _))); go_simp; refine hK _ ?_; clear hK K; try walk_nrm)
      refine hr _ _ ⟨upd u 14 (.pointer (some ⟨W, 0, none⟩)), ?_, ⟨w.drawn, rfl⟩, F.set (by decide) rfl rfl⟩
      simp [upd]
    | 5, _ =>
      clear hdeps hfi ho
      simp only [tm73, reg73, Try.f73] at hr ⊢
      (refine Walk.opq (ho_of (by conv => lhs; whnf) (by kernel_rfl)) (by rfl) (by decide) (fun dd e he => ?_) (fun dd K hK => ?_); (· (simp [go_sem, *] at he; try (subst he; exact evR_read _ _))); go_simp; refine hK _ ?_; clear hK K; try walk_nrm)
      refine hr _ _ ⟨upd u 15 (.pointer (some ⟨X, 2, none⟩)), ?_, ⟨w.drawn, rfl⟩, F.set (by decide) rfl rfl⟩
      simp [upd]
    | 6, _ =>
      have hd := deps_of (l := [5]) (by kernel_rfl) ho hdeps
      have e15 := F 5 15 _ (hd 5 (by simp)) rfl rfl
      clear hdeps hfi ho
      simp only [tm73, reg73, Try.f73] at hr ⊢
      (refine Walk.opq (ho_of (by conv => lhs; whnf) (by kernel_rfl)) (by rfl) (by decide) (fun dd e he => ?_) (fun dd K hK => ?_); (· (simp [go_sem, *] at he; try (subst he; exact evR_read _ _))); go_simp; refine hK _ ?_; clear hK K; try walk_nrm)
      refine hr _ _ ⟨upd u 16 (.int .i64 ca), ?_, ⟨w.drawn, rfl⟩, F.set (by decide) rfl rfl⟩
      simp [upd, e15]
    | 7, _ =>
      have hd := deps_of (l := [4, 6]) (by kernel_rfl) ho hdeps
      have e14 := F 4 14 _ (hd 4 (by simp)) rfl rfl
      have e16 := F 6 16 _ (hd 6 (by simp)) rfl rfl
      clear hdeps hfi ho
      simp only [tm73, reg73, Try.f73] at hr ⊢
      refine Walk.callV (x := .pointer (some ⟨W, 2 + (ca % 4).toNat, none⟩)) (W := w) ?_ rfl (by rfl) (by decide) rfl Try.func104 (by kernel_rfl) (by rfl) ?_
      · walk_nrm
        simp only [e14, e16]
        exact register104 W ca _
      walk_nrm
      refine hr _ _ ⟨upd u 17 (.pointer (some ⟨W, 2 + (ca % 4).toNat, none⟩)), ?_, ⟨w.drawn, rfl⟩, F.set (by decide) rfl rfl⟩
      simp [upd, e14, e16]
    | 8, _ =>
      clear hdeps hfi ho
      simp only [tm73, reg73, Try.f73] at hr ⊢
      (refine Walk.opq (ho_of (by conv => lhs; whnf) (by kernel_rfl)) (by rfl) (by decide) (fun dd e he => ?_) (fun dd K hK => ?_); (· (simp [go_sem, *] at he; try (subst he; exact evR_read _ _))); go_simp; refine hK _ ?_; clear hK K; try walk_nrm)
      refine hr _ _ ⟨upd u 18 (.pointer (some ⟨W, 0, none⟩)), ?_, ⟨w.drawn, rfl⟩, F.set (by decide) rfl rfl⟩
      simp [upd]
    | 9, _ =>
      clear hdeps hfi ho
      simp only [tm73, reg73, Try.f73] at hr ⊢
      (refine Walk.opq (ho_of (by conv => lhs; whnf) (by kernel_rfl)) (by rfl) (by decide) (fun dd e he => ?_) (fun dd K hK => ?_); (· (simp [go_sem, *] at he; try (subst he; exact evR_read _ _))); go_simp; refine hK _ ?_; clear hK K; try walk_nrm)
      refine hr _ _ ⟨upd u 19 (.pointer (some ⟨X, 3, none⟩)), ?_, ⟨w.drawn, rfl⟩, F.set (by decide) rfl rfl⟩
      simp [upd]
    | 10, _ =>
      have hd := deps_of (l := [9]) (by kernel_rfl) ho hdeps
      have e19 := F 9 19 _ (hd 9 (by simp)) rfl rfl
      clear hdeps hfi ho
      simp only [tm73, reg73, Try.f73] at hr ⊢
      (refine Walk.opq (ho_of (by conv => lhs; whnf) (by kernel_rfl)) (by rfl) (by decide) (fun dd e he => ?_) (fun dd K hK => ?_); (· (simp [go_sem, *] at he; try (subst he; exact evR_read _ _))); go_simp; refine hK _ ?_; clear hK K; try walk_nrm)
      refine hr _ _ ⟨upd u 20 (.int .i64 cb), ?_, ⟨w.drawn, rfl⟩, F.set (by decide) rfl rfl⟩
      simp [upd, e19]
    | 11, _ =>
      have hd := deps_of (l := [8, 10]) (by kernel_rfl) ho hdeps
      have e18 := F 8 18 _ (hd 8 (by simp)) rfl rfl
      have e20 := F 10 20 _ (hd 10 (by simp)) rfl rfl
      clear hdeps hfi ho
      simp only [tm73, reg73, Try.f73] at hr ⊢
      refine Walk.callV (x := .pointer (some ⟨W, 2 + (cb % 4).toNat, none⟩)) (W := w) ?_ rfl (by rfl) (by decide) rfl Try.func104 (by kernel_rfl) (by rfl) ?_
      · walk_nrm
        simp only [e18, e20]
        exact register104 W cb _
      walk_nrm
      refine hr _ _ ⟨upd u 21 (.pointer (some ⟨W, 2 + (cb % 4).toNat, none⟩)), ?_, ⟨w.drawn, rfl⟩, F.set (by decide) rfl rfl⟩
      simp [upd, e18, e20]
    | 12, _ =>
      have hd := deps_of (l := [3]) (by kernel_rfl) ho hdeps
      have e13 := F 3 13 _ (hd 3 (by simp)) rfl rfl
      clear hdeps hfi ho
      simp only [tm73, reg73, Try.f73] at hr ⊢
      (refine Walk.opq (ho_of (by conv => lhs; whnf) (by kernel_rfl)) (by rfl) (by decide) (fun dd e he => ?_) (fun dd K hK => ?_); (· (simp [go_sem, *] at he; try (subst he; exact evR_read _ _))); go_simp; refine hK _ ?_; clear hK K; try walk_nrm)
      refine hr _ _ ⟨upd u 7 (.pointer (some ⟨W, 2 + (cr % 4).toNat, none⟩)), ?_, ⟨w.drawn, rfl⟩, F.set (by decide) rfl rfl⟩
      simp [upd, e13]
    | 13, _ =>
      have hd := deps_of (l := [7]) (by kernel_rfl) ho hdeps
      have e17 := F 7 17 _ (hd 7 (by simp)) rfl rfl
      clear hdeps hfi ho
      simp only [tm73, reg73, Try.f73] at hr ⊢
      (refine Walk.opq (ho_of (by conv => lhs; whnf) (by kernel_rfl)) (by rfl) (by decide) (fun dd e he => ?_) (fun dd K hK => ?_); (· (simp [go_sem, *] at he; try (subst he; exact evR_read _ _))); go_simp; refine hK _ ?_; clear hK K; try walk_nrm)
      refine hr _ _ ⟨upd u 8 (.pointer (some ⟨W, 2 + (ca % 4).toNat, none⟩)), ?_, ⟨w.drawn, rfl⟩, F.set (by decide) rfl rfl⟩
      simp [upd, e17]
    | 14, _ =>
      have hd := deps_of (l := [11]) (by kernel_rfl) ho hdeps
      have e21 := F 11 21 _ (hd 11 (by simp)) rfl rfl
      clear hdeps hfi ho
      simp only [tm73, reg73, Try.f73] at hr ⊢
      (refine Walk.opq (ho_of (by conv => lhs; whnf) (by kernel_rfl)) (by rfl) (by decide) (fun dd e he => ?_) (fun dd K hK => ?_); (· (simp [go_sem, *] at he; try (subst he; exact evR_read _ _))); go_simp; refine hK _ ?_; clear hK K; try walk_nrm)
      refine hr _ _ ⟨upd u 9 (.pointer (some ⟨W, 2 + (cb % 4).toNat, none⟩)), ?_, ⟨w.drawn, rfl⟩, F.set (by decide) rfl rfl⟩
      simp [upd, e21]
  · rintro f a w' ⟨u, rfl, ⟨d, rfl⟩, F⟩ hall
    have hsz : reg73.size = 15 := by kernel_rfl
    exact (hk u (F 12 7 _ (hall 12 (by rw [hsz]; omega)) rfl rfl) (F 13 8 _ (hall 13 (by rw [hsz]; omega)) rfl rfl) (F 14 9 _ (hall 14 (by rw [hsz]; omega)) rfl rfl)).back d
end Go.Proofs.Ytgiiicdpbdfemaa
end

/- Package turn's programs, in company: reckon, by what the code does. -/
section
namespace Go.Proofs.Ytgiiicdpbdfemaa
open Go.Conc Go.RowKit Go.Relay
open Go.ConcN (upd upd_ne upd_same)

variable {main : Bool} {V : Nat → Option Wait}

theorem wrap_ok (n : Int) (h1 : -9223372036854775808 ≤ n) (h2 : n < 9223372036854775808) : IntKind.i64.wrap n = n := by
  simp [IntKind.wrap, IntKind.bits, IntKind.signed]
  omega

theorem box_cells (w : World) (cd cr ca cb cv : Int) : (boxW w cd cr ca cb cv).cell? ⟨w.heap.size, 0, none⟩ = some (.int .i64 cd) ∧ (boxW w cd cr ca cb cv).cell? ⟨w.heap.size, 1, none⟩ = some (.int .i64 cr) ∧ (boxW w cd cr ca cb cv).cell? ⟨w.heap.size, 2, none⟩ = some (.int .i64 ca) ∧
    (boxW w cd cr ca cb cv).cell? ⟨w.heap.size, 3, none⟩ = some (.int .i64 cb) ∧ (boxW w cd cr ca cb cv).cell? ⟨w.heap.size, 4, none⟩ = some (.int .i64 cv) := by
  unfold boxW
  refine ⟨?_, ?_, ?_, ?_, ?_⟩ <;> exact World.cell?_alloc_at _ _ _ _ rfl

set_option maxHeartbeats 8000000 in
set_option maxRecDepth 100000 in
theorem head73 {Stop : Goroutine → World → Prop} (W : Nat) (cd cr ca cb cv next : Int) (cs : List Frame) (w : World)
    (hk : ∀ u : Nat → Value, u 7 = .pointer (some ⟨W, 2 + (cr % 4).toNat, none⟩) → u 8 = .pointer (some ⟨W, 2 + (ca % 4).toNat, none⟩) → u 9 = .pointer (some ⟨W, 2 + (cb % 4).toNat, none⟩) →
      Walk Try.prog main (DR V) Stop (G ((base 73).at ⟨tm73 W w.heap.size (codeV cd cr ca cb cv) next u, []⟩ [.inRegion reg73 [], .code rest73]) cs) (boxW w cd cr ca cb cv)) :
    Walk Try.prog main (DR V) Stop (G ((base 73).at { tmps := #[.pointer (some ⟨W, 0, none⟩), codeV cd cr ca cb cv, .int .i64 next] ++ Array.replicate 84 undef, defers := [] } [.code (Try.f73.body.getD .skip)]) cs) w := by
  simp only [codeV, Try.f73, Option.getD_some, Array.replicate_succ, Array.replicate_zero, List.push_toArray, List.append_toArray, List.nil_append, List.cons_append]
  repeat (first | (refine Walk.c rfl ?_) | (refine Walk.cReg ?_; simp only [List.size_toArray, List.length_cons, List.length_nil, Nat.reduceAdd, Nat.zero_add, List.range, List.range.loop]) | (refine Walk.cRet ?_) | (refine Walk.cEnd ?_) | (refine Walk.opq (ho_of (by conv => lhs; whnf) (by kernel_rfl)) (by rfl) (by decide) (fun dd e he => ?_) (fun dd K hK => ?_); (· (simp [go_sem, *] at he; try (subst he; exact evR_read _ _))); go_simp; refine hK _ ?_; clear hK K; try walk_nrm) | (refine Walk.ctl rfl (fun w => stepG_unwanted (ho_of (by conv => lhs; whnf) (by kernel_rfl)) (by rfl)) ?_; walk_nrm))
  (co_applyP Walk.opw (ho_of (by conv => lhs; whnf) (by kernel_rfl)) (by rfl) (by decide) ?wev1 ?wdr1 ?wrun1; (case' wrun1 => (intro dd K hK; go_simp; simp only [alloc_at', setCell_at']; refine hK _ ?wmore1; clear hK K)); (case wdr1 => exact fun dd es hes => DR.alloc' dd es hes); (case wev1 => (intro dd e he; simp [go_sem, *] at he)); try walk_nrm)
  repeat (first | (refine Walk.c rfl ?_) | (refine Walk.cReg ?_; simp only [List.size_toArray, List.length_cons, List.length_nil, Nat.reduceAdd, Nat.zero_add, List.range, List.range.loop]) | (refine Walk.cRet ?_) | (refine Walk.cEnd ?_) | (refine Walk.opq (ho_of (by conv => lhs; whnf) (by kernel_rfl)) (by rfl) (by decide) (fun dd e he => ?_) (fun dd K hK => ?_); (· (simp [go_sem, *] at he; try (subst he; exact evR_read _ _))); go_simp; refine hK _ ?_; clear hK K; try walk_nrm) | (refine Walk.ctl rfl (fun w => stepG_unwanted (ho_of (by conv => lhs; whnf) (by kernel_rfl)) (by rfl)) ?_; walk_nrm))
  obtain ⟨b0, b1, b2, b3, b4⟩ := box_cells w cd cr ca cb cv
  unfold boxW at hk b1 b2 b3
  refine reg73_walk W w.heap.size (.agg #[.int .i64 cd, .int .i64 cr, .int .i64 ca, .int .i64 cb, .int .i64 cv]) cr ca cb next cs (fun _ => undef) _ b1 b2 b3 ?_
  intro u h7 h8 h9
  exact hk u h7 h8 h9

/-- A register's cell, of a world in which the code is boxed. -/
theorem box_reg {w : World} {W k : Nat} {x : Value} (cd cr ca cb cv : Int) (hc : w.cell? ⟨W, k, none⟩ = some x) : (boxW w cd cr ca cb cv).cell? ⟨W, k, none⟩ = some x ∧ (boxW w cd cr ca cb cv).frozen? ⟨W, k, none⟩ = w.frozen? ⟨W, k, none⟩ :=
  ⟨cell_alloc w _ hc, frozen_alloc w _ hc rfl⟩

end Go.Proofs.Ytgiiicdpbdfemaa
end

/- Package turn's programs, in company: whether a code is a step. -/
section
namespace Go.Proofs.Ytgiiicdpbdfemaa
open Go.Conc Go.RowKit Go.Relay
open Go.ConcN (upd upd_ne upd_same)

variable {main : Bool} {V : Nat → Option Wait}

/-- What isStep answers. -/
def isStepB (cd ca : Int) (len : Nat) : Bool := decide (7 ≤ cd) && decide (cd ≤ 11) && decide (0 ≤ ca) && decide (ca < len)

set_option maxHeartbeats 8000000 in
set_option maxRecDepth 100000 in
theorem isStep_yes (W : Nat) (cd cr ca cb cv : Int) (sa : Option Addr) (len cap : Nat) (w : World) (h0 : w.cell? ⟨W, 0, none⟩ = some (.slice sa len cap)) (g1 : 7 ≤ cd) (g2 : cd ≤ 11) (g3 : 0 ≤ ca) :
    CallV Try.prog main V 71 #[.pointer (some ⟨W, 0, none⟩), .agg #[.int .i64 cd, .int .i64 cr, .int .i64 ca, .int .i64 cb, .int .i64 cv]] w (.bool (decide (ca < len))) (w.alloc (.cells #[.int .i64 cd, .int .i64 cr, .int .i64 ca, .int .i64 cb, .int .i64 cv] 99)) := by
  refine callW_in Try.func71 rfl fun fr cs => ?_
  simp only [Try.ntmps71, List.size_toArray, List.length_cons, List.length_nil, Nat.reduceAdd, Nat.reduceSub, Array.replicate_succ, Array.replicate_zero, List.push_toArray, List.append_toArray, List.nil_append, List.cons_append]
  repeat (first | (refine Walk.c rfl ?_) | (refine Walk.cReg ?_; simp only [List.size_toArray, List.length_cons, List.length_nil, Nat.reduceAdd, Nat.zero_add, List.range, List.range.loop]) | (refine Walk.cRet ?_) | (refine Walk.cEnd ?_) | (refine Walk.opq (ho_of (by conv => lhs; whnf) (by kernel_rfl)) (by rfl) (by decide) (fun dd e he => ?_) (fun dd K hK => ?_); (· (simp [go_sem, *] at he; try (subst he; exact evR_read _ _))); go_simp; refine hK _ ?_; clear hK K; try walk_nrm) | (refine Walk.ctl rfl (fun w => stepG_unwanted (ho_of (by conv => lhs; whnf) (by kernel_rfl)) (by rfl)) ?_; walk_nrm))
  (co_applyP Walk.opw (ho_of (by conv => lhs; whnf) (by kernel_rfl)) (by rfl) (by decide) ?wev1 ?wdr1 ?wrun1; (case' wrun1 => (intro dd K hK; go_simp; simp only [alloc_at', setCell_at']; refine hK _ ?wmore1; clear hK K)); (case wdr1 => exact fun dd es hes => DR.alloc' dd es hes); (case wev1 => (intro dd e he; simp [go_sem, *] at he)); try walk_nrm)
  repeat (first | (refine Walk.c rfl ?_) | (refine Walk.cReg ?_; simp only [List.size_toArray, List.length_cons, List.length_nil, Nat.reduceAdd, Nat.zero_add, List.range, List.range.loop]) | (refine Walk.cRet ?_) | (refine Walk.cEnd ?_) | (refine Walk.opq (ho_of (by conv => lhs; whnf) (by kernel_rfl)) (by rfl) (by decide) (fun dd e he => ?_) (fun dd K hK => ?_); (· (simp [go_sem, *] at he; try (subst he; exact evR_read _ _))); go_simp; refine hK _ ?_; clear hK K; try walk_nrm) | (refine Walk.ctl rfl (fun w => stepG_unwanted (ho_of (by conv => lhs; whnf) (by kernel_rfl)) (by rfl)) ?_; walk_nrm))
  have hc0 := cell_alloc w (.cells #[.int .i64 cd, .int .i64 cr, .int .i64 ca, .int .i64 cb, .int .i64 cv] 99) h0
  have b0 := World.cell?_alloc_at (w := w) #[.int .i64 cd, .int .i64 cr, .int .i64 ca, .int .i64 cb, .int .i64 cv] 99 w.heap.size 0 rfl
  have b2 := World.cell?_alloc_at (w := w) #[.int .i64 cd, .int .i64 cr, .int .i64 ca, .int .i64 cb, .int .i64 cv] 99 w.heap.size 2 rfl
  replace b0 : (w.alloc (.cells #[.int .i64 cd, .int .i64 cr, .int .i64 ca, .int .i64 cb, .int .i64 cv] 99)).cell? ⟨w.heap.size, 0, none⟩ = some (.int .i64 cd) := b0
  replace b2 : (w.alloc (.cells #[.int .i64 cd, .int .i64 cr, .int .i64 ca, .int .i64 cb, .int .i64 cv] 99)).cell? ⟨w.heap.size, 2, none⟩ = some (.int .i64 ca) := b2
  generalize w.alloc (.cells #[.int .i64 cd, .int .i64 cr, .int .i64 ca, .int .i64 cb, .int .i64 cv] 99) = w1 at *
  generalize w.heap.size = X at *
  have d1 : decide (7 ≤ cd) = true := decide_eq_true g1
  have d2 : decide (cd ≤ 11) = true := decide_eq_true g2
  have d3 : decide (0 ≤ ca) = true := decide_eq_true g3
  let S : World → Prop := fun w' => ∃ d, w' = w1.at d
  have hrl : ∀ w₁ w₂, S w₁ → AtRel w₁ w₂ → S w₂ := by
    rintro _ _ ⟨d, rfl⟩ ⟨d', rfl⟩; exact ⟨d', rfl⟩
  have hF : S w1 := ⟨w1.drawn, rfl⟩
  refine Walk.held S hrl hF (by kernel_rfl) (by decide) (Q := fun a' => a'.tmps.getD 4 undef = .bool (decide (ca < len)) ∧ a'.defers = []) (fun w₁ hF => ?_) ?_
  · simp only [List.size_toArray, List.length_cons, List.length_nil, Nat.reduceAdd, Nat.zero_add]
    (co_applyP anyCH_take termsR (fun _ _ h r => hrl _ _ h r) (fun _ _ _ h r => ⟨h.1, hrl _ _ h.2.1 r, h.2.2⟩) (i := 0) rfl (by first | kernel_rfl | decide +kernel) (by first | kernel_rfl | decide +kernel) (by first | kernel_rfl | decide +kernel) (.inl ⟨by rfl, fun _ hw => ⟨run_eq_of ?run2, ?guar2⟩⟩) hF ?rest2; (case run2 => (intro K hK; obtain ⟨dx, hdx⟩ := hw; subst hdx; go_simp; exact hK)); (case guar2 => (obtain ⟨dx, hdx⟩ := hw; subst hdx; refine DR.quiet (fun e he => ?_); have hm := mem_listed he; simp [go_sem, *] at hm; try (subst hm; exact evR_read _ _))); try walk_nrm)
    (co_applyP anyCH_take termsR (fun _ _ h r => hrl _ _ h r) (fun _ _ _ h r => ⟨h.1, hrl _ _ h.2.1 r, h.2.2⟩) (i := 1) rfl (by first | kernel_rfl | decide +kernel) (by first | kernel_rfl | decide +kernel) (by first | kernel_rfl | decide +kernel) (.inl ⟨by rfl, fun _ hw => ⟨run_eq_of ?run3, ?guar3⟩⟩) hF ?rest3; (case run3 => (intro K hK; obtain ⟨dx, hdx⟩ := hw; subst hdx; go_simp; exact hK)); (case guar3 => (obtain ⟨dx, hdx⟩ := hw; subst hdx; refine DR.quiet (fun e he => ?_); have hm := mem_listed he; simp [go_sem, *] at hm; try (subst hm; exact evR_read _ _))); try walk_nrm)
    (co_applyP anyCH_take termsR (fun _ _ h r => hrl _ _ h r) (fun _ _ _ h r => ⟨h.1, hrl _ _ h.2.1 r, h.2.2⟩) (i := 2) rfl (by first | kernel_rfl | decide +kernel) (by first | kernel_rfl | decide +kernel) (by first | kernel_rfl | decide +kernel) (.inl ⟨by rfl, fun _ hw => ⟨run_eq_of ?run4, ?guar4⟩⟩) hF ?rest4; (case run4 => (intro K hK; obtain ⟨dx, hdx⟩ := hw; subst hdx; go_simp; exact hK)); (case guar4 => (obtain ⟨dx, hdx⟩ := hw; subst hdx; refine DR.quiet (fun e he => ?_); have hm := mem_listed he; simp [go_sem, *] at hm; try (subst hm; exact evR_read _ _))); try walk_nrm)
    (co_applyP anyCH_take termsR (fun _ _ h r => hrl _ _ h r) (fun _ _ _ h r => ⟨h.1, hrl _ _ h.2.1 r, h.2.2⟩) (i := 3) rfl (by first | kernel_rfl | decide +kernel) (by first | kernel_rfl | decide +kernel) (by first | kernel_rfl | decide +kernel) (.inl ⟨by rfl, fun _ hw => ⟨run_eq_of ?run5, ?guar5⟩⟩) hF ?rest5; (case run5 => (intro K hK; obtain ⟨dx, hdx⟩ := hw; subst hdx; go_simp; exact hK)); (case guar5 => (obtain ⟨dx, hdx⟩ := hw; subst hdx; refine DR.quiet (fun e he => ?_); have hm := mem_listed he; simp [go_sem, *] at hm; try (subst hm; exact evR_read _ _))); try walk_nrm)
    (co_applyP anyCH_take termsR (fun _ _ h r => hrl _ _ h r) (fun _ _ _ h r => ⟨h.1, hrl _ _ h.2.1 r, h.2.2⟩) (i := 4) rfl (by first | kernel_rfl | decide +kernel) (by first | kernel_rfl | decide +kernel) (by first | kernel_rfl | decide +kernel) (.inl ⟨by rfl, fun _ hw => ⟨run_eq_of ?run6, ?guar6⟩⟩) hF ?rest6; (case run6 => (intro K hK; obtain ⟨dx, hdx⟩ := hw; subst hdx; go_simp; exact hK)); (case guar6 => (obtain ⟨dx, hdx⟩ := hw; subst hdx; refine DR.quiet (fun e he => ?_); have hm := mem_listed he; simp [go_sem, *] at hm; try (subst hm; exact evR_read _ _))); try walk_nrm)
    (co_applyP anyCH_take termsR (fun _ _ h r => hrl _ _ h r) (fun _ _ _ h r => ⟨h.1, hrl _ _ h.2.1 r, h.2.2⟩) (i := 5) rfl (by first | kernel_rfl | decide +kernel) (by first | kernel_rfl | decide +kernel) (by first | kernel_rfl | decide +kernel) (.inl ⟨by rfl, fun _ hw => ⟨run_eq_of ?run7, ?guar7⟩⟩) hF ?rest7; (case run7 => (intro K hK; obtain ⟨dx, hdx⟩ := hw; subst hdx; go_simp; exact hK)); (case guar7 => (obtain ⟨dx, hdx⟩ := hw; subst hdx; refine DR.quiet (fun e he => ?_); have hm := mem_listed he; simp [go_sem, *] at hm; try (subst hm; exact evR_read _ _))); try walk_nrm)
    (co_applyP anyCH_take termsR (fun _ _ h r => hrl _ _ h r) (fun _ _ _ h r => ⟨h.1, hrl _ _ h.2.1 r, h.2.2⟩) (i := 6) rfl (by first | kernel_rfl | decide +kernel) (by first | kernel_rfl | decide +kernel) (by first | kernel_rfl | decide +kernel) (.inl ⟨by rfl, fun _ hw => ⟨run_eq_of ?run8, ?guar8⟩⟩) hF ?rest8; (case run8 => (intro K hK; obtain ⟨dx, hdx⟩ := hw; subst hdx; go_simp; exact hK)); (case guar8 => (obtain ⟨dx, hdx⟩ := hw; subst hdx; refine DR.quiet (fun e he => ?_); have hm := mem_listed he; simp [go_sem, *] at hm; try (subst hm; exact evR_read _ _))); try walk_nrm)
    (co_applyP anyCH_take termsR (fun _ _ h r => hrl _ _ h r) (fun _ _ _ h r => ⟨h.1, hrl _ _ h.2.1 r, h.2.2⟩) (i := 7) rfl (by first | kernel_rfl | decide +kernel) (by first | kernel_rfl | decide +kernel) (by first | kernel_rfl | decide +kernel) (.inl ⟨by rfl, fun _ hw => ⟨run_eq_of ?run9, ?guar9⟩⟩) hF ?rest9; (case run9 => (intro K hK; obtain ⟨dx, hdx⟩ := hw; subst hdx; go_simp; exact hK)); (case guar9 => (obtain ⟨dx, hdx⟩ := hw; subst hdx; refine DR.quiet (fun e he => ?_); have hm := mem_listed he; simp [go_sem, *] at hm; try (subst hm; exact evR_read _ _))); try walk_nrm)
    (co_applyP anyCH_take termsR (fun _ _ h r => hrl _ _ h r) (fun _ _ _ h r => ⟨h.1, hrl _ _ h.2.1 r, h.2.2⟩) (i := 8) rfl (by first | kernel_rfl | decide +kernel) (by first | kernel_rfl | decide +kernel) (by first | kernel_rfl | decide +kernel) (.inl ⟨by rfl, fun _ hw => ⟨run_eq_of ?run10, ?guar10⟩⟩) hF ?rest10; (case run10 => (intro K hK; obtain ⟨dx, hdx⟩ := hw; subst hdx; go_simp; exact hK)); (case guar10 => (obtain ⟨dx, hdx⟩ := hw; subst hdx; refine DR.quiet (fun e he => ?_); have hm := mem_listed he; simp [go_sem, *] at hm; try (subst hm; exact evR_read _ _))); try walk_nrm)
    (co_applyP anyCH_take termsR (fun _ _ h r => hrl _ _ h r) (fun _ _ _ h r => ⟨h.1, hrl _ _ h.2.1 r, h.2.2⟩) (i := 9) rfl (by first | kernel_rfl | decide +kernel) (by first | kernel_rfl | decide +kernel) (by first | kernel_rfl | decide +kernel) (.inl ⟨by rfl, fun _ hw => ⟨run_eq_of ?run11, ?guar11⟩⟩) hF ?rest11; (case run11 => (intro K hK; obtain ⟨dx, hdx⟩ := hw; subst hdx; go_simp; exact hK)); (case guar11 => (obtain ⟨dx, hdx⟩ := hw; subst hdx; refine DR.quiet (fun e he => ?_); have hm := mem_listed he; simp [go_sem, *] at hm; try (subst hm; exact evR_read _ _))); try walk_nrm)
    (co_applyP anyCH_take termsR (fun _ _ h r => hrl _ _ h r) (fun _ _ _ h r => ⟨h.1, hrl _ _ h.2.1 r, h.2.2⟩) (i := 10) rfl (by first | kernel_rfl | decide +kernel) (by first | kernel_rfl | decide +kernel) (by first | kernel_rfl | decide +kernel) (.inl ⟨by rfl, fun _ hw => ⟨run_eq_of ?run12, ?guar12⟩⟩) hF ?rest12; (case run12 => (intro K hK; obtain ⟨dx, hdx⟩ := hw; subst hdx; go_simp; exact hK)); (case guar12 => (obtain ⟨dx, hdx⟩ := hw; subst hdx; refine DR.quiet (fun e he => ?_); have hm := mem_listed he; simp [go_sem, *] at hm; try (subst hm; exact evR_read _ _))); try walk_nrm)
    (co_applyP anyCH_take termsR (fun _ _ h r => hrl _ _ h r) (fun _ _ _ h r => ⟨h.1, hrl _ _ h.2.1 r, h.2.2⟩) (i := 11) rfl (by first | kernel_rfl | decide +kernel) (by first | kernel_rfl | decide +kernel) (by first | kernel_rfl | decide +kernel) (.inl ⟨by rfl, fun _ hw => ⟨run_eq_of ?run13, ?guar13⟩⟩) hF ?rest13; (case run13 => (intro K hK; obtain ⟨dx, hdx⟩ := hw; subst hdx; go_simp; exact hK)); (case guar13 => (obtain ⟨dx, hdx⟩ := hw; subst hdx; refine DR.quiet (fun e he => ?_); have hm := mem_listed he; simp [go_sem, *] at hm; try (subst hm; exact evR_read _ _))); try walk_nrm)
    (co_applyP anyCH_take termsR (fun _ _ h r => hrl _ _ h r) (fun _ _ _ h r => ⟨h.1, hrl _ _ h.2.1 r, h.2.2⟩) (i := 12) rfl (by first | kernel_rfl | decide +kernel) (by first | kernel_rfl | decide +kernel) (by first | kernel_rfl | decide +kernel) (.inl ⟨by rfl, fun _ hw => ⟨run_eq_of ?run14, ?guar14⟩⟩) hF ?rest14; (case run14 => (intro K hK; obtain ⟨dx, hdx⟩ := hw; subst hdx; go_simp; exact hK)); (case guar14 => (obtain ⟨dx, hdx⟩ := hw; subst hdx; refine DR.quiet (fun e he => ?_); have hm := mem_listed he; simp [go_sem, *] at hm; try (subst hm; exact evR_read _ _))); try walk_nrm)
    (co_applyP anyCH_take termsR (fun _ _ h r => hrl _ _ h r) (fun _ _ _ h r => ⟨h.1, hrl _ _ h.2.1 r, h.2.2⟩) (i := 13) rfl (by first | kernel_rfl | decide +kernel) (by first | kernel_rfl | decide +kernel) (by first | kernel_rfl | decide +kernel) (.inl ⟨by rfl, fun _ hw => ⟨run_eq_of ?run15, ?guar15⟩⟩) hF ?rest15; (case run15 => (intro K hK; obtain ⟨dx, hdx⟩ := hw; subst hdx; go_simp; exact hK)); (case guar15 => (obtain ⟨dx, hdx⟩ := hw; subst hdx; refine DR.quiet (fun e he => ?_); have hm := mem_listed he; simp [go_sem, *] at hm; try (subst hm; exact evR_read _ _))); try walk_nrm)
    (co_applyP anyCH_take termsR (fun _ _ h r => hrl _ _ h r) (fun _ _ _ h r => ⟨h.1, hrl _ _ h.2.1 r, h.2.2⟩) (i := 14) rfl (by first | kernel_rfl | decide +kernel) (by first | kernel_rfl | decide +kernel) (by first | kernel_rfl | decide +kernel) (.inl ⟨by rfl, fun _ hw => ⟨run_eq_of ?run16, ?guar16⟩⟩) hF ?rest16; (case run16 => (intro K hK; obtain ⟨dx, hdx⟩ := hw; subst hdx; go_simp; exact hK)); (case guar16 => (obtain ⟨dx, hdx⟩ := hw; subst hdx; refine DR.quiet (fun e he => ?_); have hm := mem_listed he; simp [go_sem, *] at hm; try (subst hm; exact evR_read _ _))); try walk_nrm)
    (co_applyP anyCH_take termsR (fun _ _ h r => hrl _ _ h r) (fun _ _ _ h r => ⟨h.1, hrl _ _ h.2.1 r, h.2.2⟩) (i := 15) rfl (by first | kernel_rfl | decide +kernel) (by first | kernel_rfl | decide +kernel) (by first | kernel_rfl | decide +kernel) (.inl ⟨by rfl, fun _ hw => ⟨run_eq_of ?run17, ?guar17⟩⟩) hF ?rest17; (case run17 => (intro K hK; obtain ⟨dx, hdx⟩ := hw; subst hdx; go_simp; exact hK)); (case guar17 => (obtain ⟨dx, hdx⟩ := hw; subst hdx; refine DR.quiet (fun e he => ?_); have hm := mem_listed he; simp [go_sem, *] at hm; try (subst hm; exact evR_read _ _))); try walk_nrm)
    (co_applyP anyCH_take termsR (fun _ _ h r => hrl _ _ h r) (fun _ _ _ h r => ⟨h.1, hrl _ _ h.2.1 r, h.2.2⟩) (i := 16) rfl (by first | kernel_rfl | decide +kernel) (by first | kernel_rfl | decide +kernel) (by first | kernel_rfl | decide +kernel) (.inl ⟨by rfl, fun _ hw => ⟨run_eq_of ?run18, ?guar18⟩⟩) hF ?rest18; (case run18 => (intro K hK; obtain ⟨dx, hdx⟩ := hw; subst hdx; go_simp; exact hK)); (case guar18 => (obtain ⟨dx, hdx⟩ := hw; subst hdx; refine DR.quiet (fun e he => ?_); have hm := mem_listed he; simp [go_sem, *] at hm; try (subst hm; exact evR_read _ _))); try walk_nrm)
    (co_applyP anyCH_take termsR (fun _ _ h r => hrl _ _ h r) (fun _ _ _ h r => ⟨h.1, hrl _ _ h.2.1 r, h.2.2⟩) (i := 17) rfl (by first | kernel_rfl | decide +kernel) (by first | kernel_rfl | decide +kernel) (by first | kernel_rfl | decide +kernel) (.inl ⟨by rfl, fun _ hw => ⟨run_eq_of ?run19, ?guar19⟩⟩) hF ?rest19; (case run19 => (intro K hK; obtain ⟨dx, hdx⟩ := hw; subst hdx; go_simp; exact hK)); (case guar19 => (obtain ⟨dx, hdx⟩ := hw; subst hdx; refine DR.quiet (fun e he => ?_); have hm := mem_listed he; simp [go_sem, *] at hm; try (subst hm; exact evR_read _ _))); try walk_nrm)
    (co_applyP anyCH_take termsR (fun _ _ h r => hrl _ _ h r) (fun _ _ _ h r => ⟨h.1, hrl _ _ h.2.1 r, h.2.2⟩) (i := 18) rfl (by first | kernel_rfl | decide +kernel) (by first | kernel_rfl | decide +kernel) (by first | kernel_rfl | decide +kernel) (.inl ⟨by rfl, fun _ hw => ⟨run_eq_of ?run20, ?guar20⟩⟩) hF ?rest20; (case run20 => (intro K hK; obtain ⟨dx, hdx⟩ := hw; subst hdx; go_simp; exact hK)); (case guar20 => (obtain ⟨dx, hdx⟩ := hw; subst hdx; refine DR.quiet (fun e he => ?_); have hm := mem_listed he; simp [go_sem, *] at hm; try (subst hm; exact evR_read _ _))); try walk_nrm)
    (co_applyP anyCH_take termsR (fun _ _ h r => hrl _ _ h r) (fun _ _ _ h r => ⟨h.1, hrl _ _ h.2.1 r, h.2.2⟩) (i := 19) rfl (by first | kernel_rfl | decide +kernel) (by first | kernel_rfl | decide +kernel) (by first | kernel_rfl | decide +kernel) (.inl ⟨by rfl, fun _ hw => ⟨run_eq_of ?run21, ?guar21⟩⟩) hF ?rest21; (case run21 => (intro K hK; obtain ⟨dx, hdx⟩ := hw; subst hdx; go_simp; exact hK)); (case guar21 => (obtain ⟨dx, hdx⟩ := hw; subst hdx; refine DR.quiet (fun e he => ?_); have hm := mem_listed he; simp [go_sem, *] at hm; try (subst hm; exact evR_read _ _))); try walk_nrm)
    (co_applyP anyCH_take termsR (fun _ _ h r => hrl _ _ h r) (fun _ _ _ h r => ⟨h.1, hrl _ _ h.2.1 r, h.2.2⟩) (i := 20) rfl (by first | kernel_rfl | decide +kernel) (by first | kernel_rfl | decide +kernel) (by first | kernel_rfl | decide +kernel) (.inl ⟨by rfl, fun _ hw => ⟨run_eq_of ?run22, ?guar22⟩⟩) hF ?rest22; (case run22 => (intro K hK; obtain ⟨dx, hdx⟩ := hw; subst hdx; go_simp; exact hK)); (case guar22 => (obtain ⟨dx, hdx⟩ := hw; subst hdx; refine DR.quiet (fun e he => ?_); have hm := mem_listed he; simp [go_sem, *] at hm; try (subst hm; exact evR_read _ _))); try walk_nrm)
    (co_applyP anyCH_take termsR (fun _ _ h r => hrl _ _ h r) (fun _ _ _ h r => ⟨h.1, hrl _ _ h.2.1 r, h.2.2⟩) (i := 21) rfl (by first | kernel_rfl | decide +kernel) (by first | kernel_rfl | decide +kernel) (by first | kernel_rfl | decide +kernel) (.inl ⟨by rfl, fun _ hw => ⟨run_eq_of ?run23, ?guar23⟩⟩) hF ?rest23; (case run23 => (intro K hK; obtain ⟨dx, hdx⟩ := hw; subst hdx; go_simp; exact hK)); (case guar23 => (obtain ⟨dx, hdx⟩ := hw; subst hdx; refine DR.quiet (fun e he => ?_); have hm := mem_listed he; simp [go_sem, *] at hm; try (subst hm; exact evR_read _ _))); try walk_nrm)
    (co_applyP anyCH_take termsR (fun _ _ h r => hrl _ _ h r) (fun _ _ _ h r => ⟨h.1, hrl _ _ h.2.1 r, h.2.2⟩) (i := 22) rfl (by first | kernel_rfl | decide +kernel) (by first | kernel_rfl | decide +kernel) (by first | kernel_rfl | decide +kernel) (.inl ⟨by rfl, fun _ hw => ⟨run_eq_of ?run24, ?guar24⟩⟩) hF ?rest24; (case run24 => (intro K hK; obtain ⟨dx, hdx⟩ := hw; subst hdx; go_simp; exact hK)); (case guar24 => (obtain ⟨dx, hdx⟩ := hw; subst hdx; refine DR.quiet (fun e he => ?_); have hm := mem_listed he; simp [go_sem, *] at hm; try (subst hm; exact evR_read _ _))); try walk_nrm)
    (co_applyP anyCH_take termsR (fun _ _ h r => hrl _ _ h r) (fun _ _ _ h r => ⟨h.1, hrl _ _ h.2.1 r, h.2.2⟩) (i := 23) rfl (by first | kernel_rfl | decide +kernel) (by first | kernel_rfl | decide +kernel) (by first | kernel_rfl | decide +kernel) (.inl ⟨by rfl, fun _ hw => ⟨run_eq_of ?run25, ?guar25⟩⟩) hF ?rest25; (case run25 => (intro K hK; obtain ⟨dx, hdx⟩ := hw; subst hdx; go_simp; exact hK)); (case guar25 => (obtain ⟨dx, hdx⟩ := hw; subst hdx; refine DR.quiet (fun e he => ?_); have hm := mem_listed he; simp [go_sem, *] at hm; try (subst hm; exact evR_read _ _))); try walk_nrm)
    refine anyCH_done (by first | kernel_rfl | decide +kernel) ⟨rfl, hF, by simp, rfl⟩ _
  · rintro a' w' ⟨d, rfl⟩ ⟨h, hd⟩
    repeat (first | (refine Walk.c rfl ?_) | (refine Walk.cReg ?_; simp only [List.size_toArray, List.length_cons, List.length_nil, Nat.reduceAdd, Nat.zero_add, List.range, List.range.loop]) | (refine Walk.cRet ?_) | (refine Walk.cEnd ?_) | (refine Walk.opq (ho_of (by conv => lhs; whnf) (by kernel_rfl)) (by rfl) (by decide) (fun dd e he => ?_) (fun dd K hK => ?_); (· (simp [go_sem, *] at he; try (subst he; exact evR_read _ _))); go_simp; refine hK _ ?_; clear hK K; try walk_nrm) | (refine Walk.ctl rfl (fun w => stepG_unwanted (ho_of (by conv => lhs; whnf) (by kernel_rfl)) (by rfl)) ?_; walk_nrm))
    exact Walk.ret1 rfl hd Try.func71 rfl fun d' => ⟨h, d', rfl⟩
end Go.Proofs.Ytgiiicdpbdfemaa
end
