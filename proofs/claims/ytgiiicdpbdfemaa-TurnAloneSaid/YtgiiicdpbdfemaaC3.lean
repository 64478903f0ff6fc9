/- Part 3. -/
import Derived.Test.YtgiiicdpbdfemaaC2
import Derived.Conc.TokenWalk
import Derived.Test.YtgiiicdpbdfemaaProg
import Derived.Laws.Build
import Derived.KernelRfl
import Derived.Handy
set_option linter.unusedSimpArgs false
/- The relay: the way to a receive, step by step, of one that does not work: moves of control, calls, reads of the cells on its list. -/
section
namespace Go.Relay
open Go.Conc Go.RowKit

section
variable {P : Program} {main : Bool} {v : Wait} {g : Goroutine}

/-- On the way, whatever the others do to the world while v's cells stand. -/
def Yonder (P : Program) (main : Bool) (v : Wait) (g : Goroutine) : Prop := ∃ B k, ∀ w, Goes P main (RK v.K) (DS v.S B) (fun g _ => ∃ g₂, AtIn P main v.K v.S B v.seat g g₂) k g w

theorem Yonder.waits (h : Yonder P main v g) : ∃ B k, Waits P main B v k g := by
  obtain ⟨B, k, h⟩ := h
  exact ⟨B, k + 1, .inl ⟨k, default, rfl, h default⟩⟩

theorem ds_mono {S : Loc → Prop} {B B' : Nat} (hB : B ≤ B') (w w' : World) (es : Array Event) (h : DS S B w w' es) : DS S B' w w' es := ⟨h.1, fun e he => evC_mono hB (h.2 e he)⟩

theorem Yonder.step (hr : g.status = .running) (h : ∃ g' B', Yonder P main v g' ∧ ∀ w, v.K w → ∃ es, stepG P main g w = .go g' w es ∧ ∀ e ∈ es, EvC v.S B' e) : Yonder P main v g := by
  obtain ⟨g', B', ⟨B, k, hW⟩, hs⟩ := h
  refine ⟨max B B', k + 1, fun w => Goes.step hr fun w₁ h₁ => ?_⟩
  obtain ⟨es, he, hes⟩ := hs w₁ h₁
  rw [he, goes_go]
  exact ⟨⟨rfl, fun e hm => evC_mono (Nat.le_max_right _ _) (hes e hm)⟩, goes_mono (ds_mono (Nat.le_max_left _ _)) (fun _ _ ⟨g₂, h⟩ => ⟨g₂, atIn_mono (Nat.le_max_left _ _) h⟩) (hW w₁)⟩

theorem Yonder.ctl {g' : Goroutine} (hr : g.status = .running) (hs : ∀ w, stepG P main g w = .go g' w) (h : Yonder P main v g') : Yonder P main v g :=
  .step hr ⟨g', 0, h, fun w _ => ⟨#[], hs w, by simp⟩⟩

variable {b : Frame} {a : Act} {k : List Item} {cs : List Frame} {ops : Array Oper} {i : Nat} {rest : List Nat} {o : Oper}

/-- An operation that yields x and reads only the cells on the list. -/
theorem Yonder.op {x : Value} {B : Nat} (ho : ops[i]? = some o) (hw : Region.wanted o (yielded ops a.tmps) = true) (hk : b.kind ≠ .early)
    (hr : ∀ w, v.K w → ∀ K : Result Next → Prop, K (.ok (.value x) w) → K ((execOp a.eval o).run P w)) (he : ∀ w, v.K w → ∀ e ∈ (execOp a.eval o).events P w #[], EvC v.S B e) (h : Yonder P main v (G (b.at (a.put o.dst x) (.inRegion ops rest :: k)) cs)) :
    Yonder P main v (G (b.at a (.inRegion ops (i :: rest) :: k)) cs) :=
  .step rfl ⟨_, B, h, fun w hK => ⟨_, stepG_value ho hw hk (run_eq_of (hr w hK)), fun e hm => he w hK e (mem_listed hm)⟩⟩

/-- .. that lists nothing. -/
theorem Yonder.opq {x : Value} (ho : ops[i]? = some o) (hw : Region.wanted o (yielded ops a.tmps) = true) (hk : b.kind ≠ .early)
    (hr : ∀ w, v.K w → ∀ K : Result Next → Prop, K (.ok (.value x) w) → K ((execOp a.eval o).run P w)) (he : ∀ w, v.K w → ∀ e ∈ (execOp a.eval o).events P w #[], False) (h : Yonder P main v (G (b.at (a.put o.dst x) (.inRegion ops rest :: k)) cs)) :
    Yonder P main v (G (b.at a (.inRegion ops (i :: rest) :: k)) cs) := Yonder.op (B := 0) ho hw hk hr (fun w hK e he' => (he w hK e he').elim) h
/-- .. a load of a cell on the list. -/
theorem Yonder.ld {x y : Value} (c : Addr) (hc : v.f c = some y) (ho : ops[i]? = some o) (hw : Region.wanted o (yielded ops a.tmps) = true) (hk : b.kind ≠ .early)
    (hr : ∀ w, v.K w → ∀ K : Result Next → Prop, K (.ok (.value x) w) → K ((execOp a.eval o).run P w)) (he : ∀ w, v.K w → ∀ e ∈ (execOp a.eval o).events P w #[], e = ⟨.cell c, false, false⟩) (h : Yonder P main v (G (b.at (a.put o.dst x) (.inRegion ops rest :: k)) cs)) :
    Yonder P main v (G (b.at a (.inRegion ops (i :: rest) :: k)) cs) := Yonder.op (B := c.block + 1) ho hw hk hr (fun w hK e he' => ⟨c, he w hK e he', ⟨c, y, rfl, hc⟩, Nat.lt_succ_self _⟩) h

/-- A call. -/
theorem Yonder.call {f : FuncId} {fn : Func} {c : Code} {args : Array Operand} {ats : Array TypeId} (ho : ops[i]? = some o) (hw : Region.wanted o (yielded ops a.tmps) = true) (hk : b.kind ≠ .early) (hop : o.op = .call { callee := .value (.func f), args, argTypes := ats })
    (hf : P.funcs[f]? = some fn) (hname : (fn.name == "runtime.NumGoroutine") = false) (hb : fn.body = some c)
    (h : Yonder P main v (G ((base f).at { tmps := args.map a.eval ++ Array.replicate (fn.ntmps - (args.map a.eval).size) undef, defers := [] } [.code c]) (b.at a (.inRegion ops (i :: rest) :: k) :: cs))) :
    Yonder P main v (G (b.at a (.inRegion ops (i :: rest) :: k)) cs) := by
  refine .ctl rfl (fun w => ?_) h
  have hb' : fn.body.isNone = false := by rw [hb]; rfl
  rw [stepG_enter ho hw hk (run_call_body hop hf hname hb'), enter_at _ hf hb]
  have : listed P b.fn a o w = #[] := by unfold listed; rw [events_call_body hop hf hname hb']; exact seen_none P _
  rw [this]

/-- A call, the callee's frame by its name. -/
theorem Yonder.callE {f : FuncId} {fn : Func} {args : Array Operand} {ats : Array TypeId} (ho : ops[i]? = some o) (hw : Region.wanted o (yielded ops a.tmps) = true) (hk : b.kind ≠ .early) (hop : o.op = .call { callee := .value (.func f), args, argTypes := ats })
    (hf : P.funcs[f]? = some fn) (hname : (fn.name == "runtime.NumGoroutine") = false) (hb : fn.body.isNone = false) (h : Yonder P main v (G (Frame.enter P f (args.map a.eval) .normal) (b.at a (.inRegion ops (i :: rest) :: k) :: cs))) :
    Yonder P main v (G (b.at a (.inRegion ops (i :: rest) :: k)) cs) := by
  refine .ctl rfl (fun w => ?_) h
  rw [stepG_enter ho hw hk (run_call_body hop hf hname hb)]
  have : listed P b.fn a o w = #[] := by unfold listed; rw [events_call_body hop hf hname hb]; exact seen_none P _
  rw [this]

/-- It has come there. -/
theorem Yonder.there (ho : ops[i]? = some o) (hw : Region.wanted o (yielded ops a.tmps) = true) (hk : b.kind ≠ .early)
    (hr : ∀ w, (execOp a.eval o).run P w = .ok (.comm #[rcase v.ch v.z] true (.recv v.ok)) w) (he : ∀ w, (execOp a.eval o).events P w #[] = #[]) (h : v.home (G (b.at a (.inRegion ops (i :: rest) :: k)) cs)) :
    Yonder P main v (G (b.at a (.inRegion ops (i :: rest) :: k)) cs) :=
  ⟨0, 0, fun _ _ _ => ⟨_, atIn_of (s := v.seat) ho hw hk (fun w => by rw [hr]; rfl) he h⟩⟩
end
end Go.Relay
end

/- Package turn's await, in company: the way to the receive, and what is done behind it. -/
section
namespace Go.Proofs.Ytgiiicdpbdfemaa
open Go.Conc Go.RowKit Go.Relay

variable {main : Bool} {V : Nat → Option Wait}

noncomputable def ops107 : Array Oper := match Try.f107.body with | some (.seq (.region _ ops _) _) => ops | _ => #[]
noncomputable def rest107 : Code := match Try.f107.body with | some (.seq _ c) => c | _ => .skip
/-- Where await's receive stands. -/
noncomputable def rec107 (p r : Nat) (cs : List Frame) : Goroutine :=
  G ((base 107).at { tmps := #[.pointer (some ⟨p, 0, none⟩), undef, undef, undef, undef, .pointer (some ⟨p, 0, none⟩), .pointer (some ⟨p, 0, none⟩), .pointer (some ⟨p, 1, none⟩), .chan (some r), undef, undef, undef, undef, undef, undef, undef, undef], defers := [] } [.inRegion ops107 [4, 5, 6, 7, 8, 9, 10], .code rest107]) cs

set_option maxHeartbeats 4000000 in
set_option maxRecDepth 100000 in
theorem way107 (p r : Nat) (cs : List Frame) (v : Wait) (hch : v.ch = r) (hz : v.z = .agg #[]) (hok : v.ok = true) (hf : v.f ⟨p, 1, none⟩ = some (.chan (some r))) (hh : v.home (rec107 p r cs)) :
    Yonder Try.prog main v (G (Frame.enter Try.prog 107 #[.pointer (some ⟨p, 0, none⟩)] .normal) cs) := by
  rw [enter_at _ Try.func107 rfl]
  simp only [Try.f107, Option.getD_some, List.size_toArray, List.length_cons, List.length_nil, Nat.reduceAdd, Nat.reduceSub, Array.replicate_succ, Array.replicate_zero, List.push_toArray, List.append_toArray, List.nil_append, List.cons_append]
  try (first | (refine Yonder.ctl rfl (fun w => stepG_seq) ?_) | (refine Yonder.ctl rfl (fun w => stepG_region) ?_; simp only [List.size_toArray, List.length_cons, List.length_nil, Nat.reduceAdd, Nat.zero_add, List.range, List.range.loop]) | (refine Yonder.ctl rfl (fun w => stepG_region_end) ?_) | (refine Yonder.ctl rfl (fun w => stepG_block) ?_) | (refine Yonder.ctl rfl (fun w => stepG_skip) ?_) | (refine Yonder.ctl rfl (fun w => stepG_inBlock) ?_) | (refine Yonder.ctl rfl (fun w => stepG_ret') ?_) | (refine Yonder.ctl rfl (fun w => stepG_end) ?_) | (refine Yonder.ctl rfl (fun w => stepG_exit rfl) ?_) | (refine Yonder.ctl rfl (fun w => stepG_cond (t := true) rfl) ?_; simp only [if_true, if_false, reduceIte, Bool.false_eq_true]) | (refine Yonder.ctl rfl (fun w => stepG_cond (t := false) rfl) ?_; simp only [if_true, if_false, reduceIte, Bool.false_eq_true]) | (co_applyP Yonder.opq rfl (by rfl) (by decide) ?krun3 ?kev3 ?krest3; (case krun3 => (intro w hw K hK; go_simp; exact hK)); (case kev3 => (intro w hw e he; simp [go_sem, *] at he)); try walk_nrm))
  try (first | (refine Yonder.ctl rfl (fun w => stepG_seq) ?_) | (refine Yonder.ctl rfl (fun w => stepG_region) ?_; simp only [List.size_toArray, List.length_cons, List.length_nil, Nat.reduceAdd, Nat.zero_add, List.range, List.range.loop]) | (refine Yonder.ctl rfl (fun w => stepG_region_end) ?_) | (refine Yonder.ctl rfl (fun w => stepG_block) ?_) | (refine Yonder.ctl rfl (fun w => stepG_skip) ?_) | (refine Yonder.ctl rfl (fun w => stepG_inBlock) ?_) | (refine Yonder.ctl rfl (fun w => stepG_ret') ?_) | (refine Yonder.ctl rfl (fun w => stepG_end) ?_) | (refine Yonder.ctl rfl (fun w => stepG_exit rfl) ?_) | (refine Yonder.ctl rfl (fun w => stepG_cond (t := true) rfl) ?_; simp only [if_true, if_false, reduceIte, Bool.false_eq_true]) | (refine Yonder.ctl rfl (fun w => stepG_cond (t := false) rfl) ?_; simp only [if_true, if_false, reduceIte, Bool.false_eq_true]) | (co_applyP Yonder.opq rfl (by rfl) (by decide) ?krun4 ?kev4 ?krest4; (case krun4 => (intro w hw K hK; go_simp; exact hK)); (case kev4 => (intro w hw e he; simp [go_sem, *] at he)); try walk_nrm))
  try (first | (refine Yonder.ctl rfl (fun w => stepG_seq) ?_) | (refine Yonder.ctl rfl (fun w => stepG_region) ?_; simp only [List.size_toArray, List.length_cons, List.length_nil, Nat.reduceAdd, Nat.zero_add, List.range, List.range.loop]) | (refine Yonder.ctl rfl (fun w => stepG_region_end) ?_) | (refine Yonder.ctl rfl (fun w => stepG_block) ?_) | (refine Yonder.ctl rfl (fun w => stepG_skip) ?_) | (refine Yonder.ctl rfl (fun w => stepG_inBlock) ?_) | (refine Yonder.ctl rfl (fun w => stepG_ret') ?_) | (refine Yonder.ctl rfl (fun w => stepG_end) ?_) | (refine Yonder.ctl rfl (fun w => stepG_exit rfl) ?_) | (refine Yonder.ctl rfl (fun w => stepG_cond (t := true) rfl) ?_; simp only [if_true, if_false, reduceIte, Bool.false_eq_true]) | (refine Yonder.ctl rfl (fun w => stepG_cond (t := false) rfl) ?_; simp only [if_true, if_false, reduceIte, Bool.false_eq_true]) | (co_applyP Yonder.opq rfl (by rfl) (by decide) ?krun5 ?kev5 ?krest5; (case krun5 => (intro w hw K hK; go_simp; exact hK)); (case kev5 => (intro w hw e he; simp [go_sem, *] at he)); try walk_nrm))
  try (first | (refine Yonder.ctl rfl (fun w => stepG_seq) ?_) | (refine Yonder.ctl rfl (fun w => stepG_region) ?_; simp only [List.size_toArray, List.length_cons, List.length_nil, Nat.reduceAdd, Nat.zero_add, List.range, List.range.loop]) | (refine Yonder.ctl rfl (fun w => stepG_region_end) ?_) | (refine Yonder.ctl rfl (fun w => stepG_block) ?_) | (refine Yonder.ctl rfl (fun w => stepG_skip) ?_) | (refine Yonder.ctl rfl (fun w => stepG_inBlock) ?_) | (refine Yonder.ctl rfl (fun w => stepG_ret') ?_) | (refine Yonder.ctl rfl (fun w => stepG_end) ?_) | (refine Yonder.ctl rfl (fun w => stepG_exit rfl) ?_) | (refine Yonder.ctl rfl (fun w => stepG_cond (t := true) rfl) ?_; simp only [if_true, if_false, reduceIte, Bool.false_eq_true]) | (refine Yonder.ctl rfl (fun w => stepG_cond (t := false) rfl) ?_; simp only [if_true, if_false, reduceIte, Bool.false_eq_true]) | (co_applyP Yonder.opq rfl (by rfl) (by decide) ?krun6 ?kev6 ?krest6; (case krun6 => (intro w hw K hK; go_simp; exact hK)); (case kev6 => (intro w hw e he; simp [go_sem, *] at he)); try walk_nrm))
  try (first | (refine Yonder.ctl rfl (fun w => stepG_seq) ?_) | (refine Yonder.ctl rfl (fun w => stepG_region) ?_; simp only [List.size_toArray, List.length_cons, List.length_nil, Nat.reduceAdd, Nat.zero_add, List.range, List.range.loop]) | (refine Yonder.ctl rfl (fun w => stepG_region_end) ?_) | (refine Yonder.ctl rfl (fun w => stepG_block) ?_) | (refine Yonder.ctl rfl (fun w => stepG_skip) ?_) | (refine Yonder.ctl rfl (fun w => stepG_inBlock) ?_) | (refine Yonder.ctl rfl (fun w => stepG_ret') ?_) | (refine Yonder.ctl rfl (fun w => stepG_end) ?_) | (refine Yonder.ctl rfl (fun w => stepG_exit rfl) ?_) | (refine Yonder.ctl rfl (fun w => stepG_cond (t := true) rfl) ?_; simp only [if_true, if_false, reduceIte, Bool.false_eq_true]) | (refine Yonder.ctl rfl (fun w => stepG_cond (t := false) rfl) ?_; simp only [if_true, if_false, reduceIte, Bool.false_eq_true]) | (co_applyP Yonder.opq rfl (by rfl) (by decide) ?krun7 ?kev7 ?krest7; (case krun7 => (intro w hw K hK; go_simp; exact hK)); (case kev7 => (intro w hw e he; simp [go_sem, *] at he)); try walk_nrm))
  try (first | (refine Yonder.ctl rfl (fun w => stepG_seq) ?_) | (refine Yonder.ctl rfl (fun w => stepG_region) ?_; simp only [List.size_toArray, List.length_cons, List.length_nil, Nat.reduceAdd, Nat.zero_add, List.range, List.range.loop]) | (refine Yonder.ctl rfl (fun w => stepG_region_end) ?_) | (refine Yonder.ctl rfl (fun w => stepG_block) ?_) | (refine Yonder.ctl rfl (fun w => stepG_skip) ?_) | (refine Yonder.ctl rfl (fun w => stepG_inBlock) ?_) | (refine Yonder.ctl rfl (fun w => stepG_ret') ?_) | (refine Yonder.ctl rfl (fun w => stepG_end) ?_) | (refine Yonder.ctl rfl (fun w => stepG_exit rfl) ?_) | (refine Yonder.ctl rfl (fun w => stepG_cond (t := true) rfl) ?_; simp only [if_true, if_false, reduceIte, Bool.false_eq_true]) | (refine Yonder.ctl rfl (fun w => stepG_cond (t := false) rfl) ?_; simp only [if_true, if_false, reduceIte, Bool.false_eq_true]) | (co_applyP Yonder.opq rfl (by rfl) (by decide) ?krun8 ?kev8 ?krest8; (case krun8 => (intro w hw K hK; go_simp; exact hK)); (case kev8 => (intro w hw e he; simp [go_sem, *] at he)); try walk_nrm))
  co_applyP Yonder.ld _ hf rfl (by rfl) (by decide) ?krun9 ?kev9 ?krest9; (case krun9 => (intro w hw K hK; have hcx := hw _ _ hf; go_simp; exact hK)); (case kev9 => (intro w hw e he; have hcx := hw _ _ hf; simp [go_sem, *] at he; exact he)); try walk_nrm
  exact Yonder.there rfl (by rfl) (by decide) (fun w => by simp [go_sem, execOp, rcase, Act.eval, hch, hz, hok]) (fun w => by simp [go_sem, execOp, Act.eval]) hh

set_option maxHeartbeats 4000000 in
set_option maxRecDepth 100000 in
/-- Served, await notes whether the thread has ended, and returns. -/
theorem serve107 (p r : Nat) (c : Frame) (cs : List Frame) (ok e0 : Bool) (w : World) (h2 : w.cell? ⟨p, 2, none⟩ = some (.bool e0)) (hz2 : w.frozen? ⟨p, 2, none⟩ = false) (hfr : Free V ⟨p, 2, none⟩) :
    Walk Try.prog main (DR V) (fun g w' => g = G (c.finish (.tuple #[])) cs ∧ ∃ d, w' = ((w.alloc (.cells #[] 129)).setCell ⟨p, 2, none⟩ (.bool (!ok))).at d) (Go.Conc.served (rec107 p r (c :: cs)) (recvd true (.agg #[]) ok)) w := by
  unfold rec107
  rw [served_fr, Frame.finish_at]
  simp only [ops107, rest107, Try.f107, recvd, if_true]
  walk_nrm
  repeat (first | (refine Walk.c rfl ?_) | (refine Walk.cReg ?_; simp only [List.size_toArray, List.length_cons, List.length_nil, Nat.reduceAdd, Nat.zero_add, List.range, List.range.loop]) | (refine Walk.cRet ?_) | (refine Walk.cEnd ?_) | (refine Walk.opq (ho_of (by conv => lhs; whnf) (by kernel_rfl)) (by rfl) (by decide) (fun dd e he => ?_) (fun dd K hK => ?_); (· (simp [go_sem, *] at he; try (subst he; exact evR_read _ _))); go_simp; refine hK _ ?_; clear hK K; try walk_nrm) | (refine Walk.ctl rfl (fun w => stepG_unwanted (ho_of (by conv => lhs; whnf) (by kernel_rfl)) (by rfl)) ?_; walk_nrm))
  (co_applyP Walk.opw (ho_of (by conv => lhs; whnf) (by kernel_rfl)) (by rfl) (by decide) ?wev1 ?wdr1 ?wrun1; (case' wrun1 => (intro dd K hK; go_simp; simp only [alloc_at', setCell_at']; refine hK _ ?wmore1; clear hK K)); (case wdr1 => exact fun dd es hes => DR.alloc' dd es hes); (case wev1 => (intro dd e he; simp [go_sem, *] at he)); try walk_nrm)
  have h2' := cell_alloc w (.cells #[] 129) h2
  have hz2' := frozen_alloc w (.cells #[] 129) h2 hz2
  repeat (first | (refine Walk.c rfl ?_) | (refine Walk.cReg ?_; simp only [List.size_toArray, List.length_cons, List.length_nil, Nat.reduceAdd, Nat.zero_add, List.range, List.range.loop]) | (refine Walk.cRet ?_) | (refine Walk.cEnd ?_) | (refine Walk.opq (ho_of (by conv => lhs; whnf) (by kernel_rfl)) (by rfl) (by decide) (fun dd e he => ?_) (fun dd K hK => ?_); (· (simp [go_sem, *] at he; try (subst he; exact evR_read _ _))); go_simp; refine hK _ ?_; clear hK K; try walk_nrm) | (refine Walk.ctl rfl (fun w => stepG_unwanted (ho_of (by conv => lhs; whnf) (by kernel_rfl)) (by rfl)) ?_; walk_nrm))
  (co_applyP Walk.opw (ho_of (by conv => lhs; whnf) (by kernel_rfl)) (by rfl) (by decide) ?wev2 ?wdr2 ?wrun2; (case' wrun2 => (intro dd K hK; go_simp; simp only [alloc_at', setCell_at']; refine hK _ ?wmore2; clear hK K)); (case wdr2 => exact fun dd es hes => DR.set' hfr h2' dd es hes); (case wev2 => (intro dd e he; simp [go_sem, storedEv, ev_store_bool, ev_store_int, ev_store_slice, ev_store_pointer, *] at he; subst he; exact evR_write _ _ hfr)); try walk_nrm)
  repeat (first | (refine Walk.c rfl ?_) | (refine Walk.cReg ?_; simp only [List.size_toArray, List.length_cons, List.length_nil, Nat.reduceAdd, Nat.zero_add, List.range, List.range.loop]) | (refine Walk.cRet ?_) | (refine Walk.cEnd ?_) | (refine Walk.opq (ho_of (by conv => lhs; whnf) (by kernel_rfl)) (by rfl) (by decide) (fun dd e he => ?_) (fun dd K hK => ?_); (· (simp [go_sem, *] at he; try (subst he; exact evR_read _ _))); go_simp; refine hK _ ?_; clear hK K; try walk_nrm) | (refine Walk.ctl rfl (fun w => stepG_unwanted (ho_of (by conv => lhs; whnf) (by kernel_rfl)) (by rfl)) ?_; walk_nrm))
  exact Walk.ctl rfl (fun w => stepG_leave rfl rfl Try.func107 (results_none rfl _ _ w) (events_results_none rfl _ _)) (.stop fun d => ⟨rfl, d, rfl⟩)
end Go.Proofs.Ytgiiicdpbdfemaa
end

/- Package turn's stand.end, in company: to the close, from there to the receive, and what is done behind it. -/
section
namespace Go.Proofs.Ytgiiicdpbdfemaa
open Go.Conc Go.RowKit Go.Relay

variable {main : Bool} {V : Nat → Option Wait}

noncomputable def ops82 : Array Oper := match Try.f82.body with | some (.seq (.region _ ops _) _) => ops | _ => #[]
noncomputable def rest82 : Code := match Try.f82.body with | some (.seq _ c) => c | _ => .skip
noncomputable def body82 : Code := match rest82 with | .block _ (.loop c) => c | _ => .skip
noncomputable def ops82w : Array Oper := match body82 with | .seq _ (.block _ (.region _ ops _)) => ops | _ => #[]
/-- Where end's close stands; end behind the close; its frame while it is in stand.await. -/
noncomputable def rec82 (p t : Nat) (cs : List Frame) : Goroutine :=
  G ((base 82).at { tmps := #[.pointer (some ⟨p, 0, none⟩), undef, .pointer (some ⟨p, 0, none⟩), .pointer (some ⟨p, 0, none⟩), .pointer (some ⟨p, 0, none⟩), .chan (some t), undef, undef, undef, undef, undef, undef, undef], defers := [] } [.inRegion ops82 [4], .code rest82]) cs
noncomputable def rec82a (p t : Nat) (cs : List Frame) : Goroutine :=
  G ((base 82).at { tmps := #[.pointer (some ⟨p, 0, none⟩), undef, .pointer (some ⟨p, 0, none⟩), .pointer (some ⟨p, 0, none⟩), .pointer (some ⟨p, 0, none⟩), .chan (some t), undef, undef, undef, undef, undef, undef, undef], defers := [] } [.inRegion ops82 [], .code rest82]) cs
noncomputable def fr82 (p t : Nat) : Frame :=
  (base 82).at { tmps := #[.pointer (some ⟨p, 0, none⟩), undef, .pointer (some ⟨p, 0, none⟩), .pointer (some ⟨p, 0, none⟩), .pointer (some ⟨p, 0, none⟩), .chan (some t), .pointer (some ⟨p, 0, none⟩), .pointer (some ⟨p, 0, none⟩), .pointer (some ⟨p, 2, none⟩), .bool false, .bool true, .pointer (some ⟨p, 0, none⟩), undef], defers := [] } [.inRegion ops82w [1], .inBlock 1, .inLoop body82, .inBlock 0]

set_option maxHeartbeats 8000000 in
set_option maxRecDepth 100000 in
theorem end1_in (p t : Nat) (cs : List Frame) (w : World) (h0 : w.cell? ⟨p, 0, none⟩ = some (.chan (some t))) :
    Walk Try.prog main (DR V) (fun g w' => g = rec82 p t cs ∧ ∃ d, w' = w.at d) (G (Frame.enter Try.prog 82 #[.pointer (some ⟨p, 0, none⟩)] .normal) cs) w := by
  rw [enter_at _ Try.func82 rfl]
  simp only [Try.f82, List.size_toArray, List.length_cons, List.length_nil, Nat.reduceAdd, Nat.reduceSub, Array.replicate_succ, Array.replicate_zero, List.push_toArray, List.append_toArray, List.nil_append, List.cons_append]
  repeat (first | (refine Walk.c rfl ?_) | (refine Walk.cReg ?_; simp only [List.size_toArray, List.length_cons, List.length_nil, Nat.reduceAdd, Nat.zero_add, List.range, List.range.loop]) | (refine Walk.cRet ?_) | (refine Walk.cEnd ?_) | (refine Walk.opq (ho_of (by conv => lhs; whnf) (by kernel_rfl)) (by rfl) (by decide) (fun dd e he => ?_) (fun dd K hK => ?_); (· (simp [go_sem, *] at he; try (subst he; exact evR_read _ _))); go_simp; refine hK _ ?_; clear hK K; try walk_nrm) | (refine Walk.ctl rfl (fun w => stepG_unwanted (ho_of (by conv => lhs; whnf) (by kernel_rfl)) (by rfl)) ?_; walk_nrm))
  refine .stop fun d => ⟨?_, d, rfl⟩
  simp only [rec82, ops82, rest82, Try.f82]

theorem close82 (p t : Nat) (cs : List Frame) (w : World) (k : Nat) (hc : w.heap[t]? = some (.chan 0 #[] false k k false)) :
    stepG Try.prog main (rec82 p t cs) w = .go (rec82a p t cs) (w.setChan t 0 #[] true k k false) (closeEvents t) := by
  unfold rec82 rec82a
  simp only [ops82, rest82, Try.f82]
  rw [stepG_close (c := t) (cap := 0) (buf := #[]) (s := k) (r := k) (tm := false) rfl (by rfl) (by decide) rfl rfl hc (by kernel_rfl)]
  rfl

theorem wake82 (p t : Nat) (cs : List Frame) : mayWake Try.prog (rec82 p t cs) = true := by
  unfold rec82
  simp only [ops82, rest82, Try.f82]
  rfl

set_option maxHeartbeats 8000000 in
set_option maxRecDepth 100000 in
theorem end1_way (p t r : Nat) (cs : List Frame) (v : Wait) (hch : v.ch = r) (hz : v.z = .agg #[]) (hok : v.ok = true) (hf : v.f ⟨p, 1, none⟩ = some (.chan (some r))) (hf2 : v.f ⟨p, 2, none⟩ = some (.bool false)) (hh : v.home (rec107 p r (fr82 p t :: cs))) :
    Yonder Try.prog main v (rec82a p t cs) := by
  unfold rec82a
  simp only [ops82, rest82, Try.f82]
  try (first | (refine Yonder.ctl rfl (fun w => stepG_seq) ?_) | (refine Yonder.ctl rfl (fun w => stepG_region) ?_; simp only [List.size_toArray, List.length_cons, List.length_nil, Nat.reduceAdd, Nat.zero_add, List.range, List.range.loop]) | (refine Yonder.ctl rfl (fun w => stepG_region_end) ?_) | (refine Yonder.ctl rfl (fun w => stepG_block) ?_) | (refine Yonder.ctl rfl (fun w => stepG_skip) ?_) | (refine Yonder.ctl rfl (fun w => stepG_inBlock) ?_) | (refine Yonder.ctl rfl (fun w => stepG_ret') ?_) | (refine Yonder.ctl rfl (fun w => stepG_end) ?_) | (refine Yonder.ctl rfl (fun w => stepG_exit rfl) ?_) | (refine Yonder.ctl rfl (fun w => stepG_cond (t := true) rfl) ?_; simp only [if_true, if_false, reduceIte, Bool.false_eq_true]) | (refine Yonder.ctl rfl (fun w => stepG_cond (t := false) rfl) ?_; simp only [if_true, if_false, reduceIte, Bool.false_eq_true]) | (co_applyP Yonder.opq rfl (by rfl) (by decide) ?krun1 ?kev1 ?krest1; (case krun1 => (intro w hw K hK; go_simp; exact hK)); (case kev1 => (intro w hw e he; simp [go_sem, *] at he)); try walk_nrm))
  try (first | (refine Yonder.ctl rfl (fun w => stepG_seq) ?_) | (refine Yonder.ctl rfl (fun w => stepG_region) ?_; simp only [List.size_toArray, List.length_cons, List.length_nil, Nat.reduceAdd, Nat.zero_add, List.range, List.range.loop]) | (refine Yonder.ctl rfl (fun w => stepG_region_end) ?_) | (refine Yonder.ctl rfl (fun w => stepG_block) ?_) | (refine Yonder.ctl rfl (fun w => stepG_skip) ?_) | (refine Yonder.ctl rfl (fun w => stepG_inBlock) ?_) | (refine Yonder.ctl rfl (fun w => stepG_ret') ?_) | (refine Yonder.ctl rfl (fun w => stepG_end) ?_) | (refine Yonder.ctl rfl (fun w => stepG_exit rfl) ?_) | (refine Yonder.ctl rfl (fun w => stepG_cond (t := true) rfl) ?_; simp only [if_true, if_false, reduceIte, Bool.false_eq_true]) | (refine Yonder.ctl rfl (fun w => stepG_cond (t := false) rfl) ?_; simp only [if_true, if_false, reduceIte, Bool.false_eq_true]) | (co_applyP Yonder.opq rfl (by rfl) (by decide) ?krun2 ?kev2 ?krest2; (case krun2 => (intro w hw K hK; go_simp; exact hK)); (case kev2 => (intro w hw e he; simp [go_sem, *] at he)); try walk_nrm))
  refine Yonder.ctl rfl (fun w => stepG_loop) ?_
  try (first | (refine Yonder.ctl rfl (fun w => stepG_seq) ?_) | (refine Yonder.ctl rfl (fun w => stepG_region) ?_; simp only [List.size_toArray, List.length_cons, List.length_nil, Nat.reduceAdd, Nat.zero_add, List.range, List.range.loop]) | (refine Yonder.ctl rfl (fun w => stepG_region_end) ?_) | (refine Yonder.ctl rfl (fun w => stepG_block) ?_) | (refine Yonder.ctl rfl (fun w => stepG_skip) ?_) | (refine Yonder.ctl rfl (fun w => stepG_inBlock) ?_) | (refine Yonder.ctl rfl (fun w => stepG_ret') ?_) | (refine Yonder.ctl rfl (fun w => stepG_end) ?_) | (refine Yonder.ctl rfl (fun w => stepG_exit rfl) ?_) | (refine Yonder.ctl rfl (fun w => stepG_cond (t := true) rfl) ?_; simp only [if_true, if_false, reduceIte, Bool.false_eq_true]) | (refine Yonder.ctl rfl (fun w => stepG_cond (t := false) rfl) ?_; simp only [if_true, if_false, reduceIte, Bool.false_eq_true]) | (co_applyP Yonder.opq rfl (by rfl) (by decide) ?krun3 ?kev3 ?krest3; (case krun3 => (intro w hw K hK; go_simp; exact hK)); (case kev3 => (intro w hw e he; simp [go_sem, *] at he)); try walk_nrm))
  try (first | (refine Yonder.ctl rfl (fun w => stepG_seq) ?_) | (refine Yonder.ctl rfl (fun w => stepG_region) ?_; simp only [List.size_toArray, List.length_cons, List.length_nil, Nat.reduceAdd, Nat.zero_add, List.range, List.range.loop]) | (refine Yonder.ctl rfl (fun w => stepG_region_end) ?_) | (refine Yonder.ctl rfl (fun w => stepG_block) ?_) | (refine Yonder.ctl rfl (fun w => stepG_skip) ?_) | (refine Yonder.ctl rfl (fun w => stepG_inBlock) ?_) | (refine Yonder.ctl rfl (fun w => stepG_ret') ?_) | (refine Yonder.ctl rfl (fun w => stepG_end) ?_) | (refine Yonder.ctl rfl (fun w => stepG_exit rfl) ?_) | (refine Yonder.ctl rfl (fun w => stepG_cond (t := true) rfl) ?_; simp only [if_true, if_false, reduceIte, Bool.false_eq_true]) | (refine Yonder.ctl rfl (fun w => stepG_cond (t := false) rfl) ?_; simp only [if_true, if_false, reduceIte, Bool.false_eq_true]) | (co_applyP Yonder.opq rfl (by rfl) (by decide) ?krun4 ?kev4 ?krest4; (case krun4 => (intro w hw K hK; go_simp; exact hK)); (case kev4 => (intro w hw e he; simp [go_sem, *] at he)); try walk_nrm))
  try (first | (refine Yonder.ctl rfl (fun w => stepG_seq) ?_) | (refine Yonder.ctl rfl (fun w => stepG_region) ?_; simp only [List.size_toArray, List.length_cons, List.length_nil, Nat.reduceAdd, Nat.zero_add, List.range, List.range.loop]) | (refine Yonder.ctl rfl (fun w => stepG_region_end) ?_) | (refine Yonder.ctl rfl (fun w => stepG_block) ?_) | (refine Yonder.ctl rfl (fun w => stepG_skip) ?_) | (refine Yonder.ctl rfl (fun w => stepG_inBlock) ?_) | (refine Yonder.ctl rfl (fun w => stepG_ret') ?_) | (refine Yonder.ctl rfl (fun w => stepG_end) ?_) | (refine Yonder.ctl rfl (fun w => stepG_exit rfl) ?_) | (refine Yonder.ctl rfl (fun w => stepG_cond (t := true) rfl) ?_; simp only [if_true, if_false, reduceIte, Bool.false_eq_true]) | (refine Yonder.ctl rfl (fun w => stepG_cond (t := false) rfl) ?_; simp only [if_true, if_false, reduceIte, Bool.false_eq_true]) | (co_applyP Yonder.opq rfl (by rfl) (by decide) ?krun5 ?kev5 ?krest5; (case krun5 => (intro w hw K hK; go_simp; exact hK)); (case kev5 => (intro w hw e he; simp [go_sem, *] at he)); try walk_nrm))
  try (first | (refine Yonder.ctl rfl (fun w => stepG_seq) ?_) | (refine Yonder.ctl rfl (fun w => stepG_region) ?_; simp only [List.size_toArray, List.length_cons, List.length_nil, Nat.reduceAdd, Nat.zero_add, List.range, List.range.loop]) | (refine Yonder.ctl rfl (fun w => stepG_region_end) ?_) | (refine Yonder.ctl rfl (fun w => stepG_block) ?_) | (refine Yonder.ctl rfl (fun w => stepG_skip) ?_) | (refine Yonder.ctl rfl (fun w => stepG_inBlock) ?_) | (refine Yonder.ctl rfl (fun w => stepG_ret') ?_) | (refine Yonder.ctl rfl (fun w => stepG_end) ?_) | (refine Yonder.ctl rfl (fun w => stepG_exit rfl) ?_) | (refine Yonder.ctl rfl (fun w => stepG_cond (t := true) rfl) ?_; simp only [if_true, if_false, reduceIte, Bool.false_eq_true]) | (refine Yonder.ctl rfl (fun w => stepG_cond (t := false) rfl) ?_; simp only [if_true, if_false, reduceIte, Bool.false_eq_true]) | (co_applyP Yonder.opq rfl (by rfl) (by decide) ?krun6 ?kev6 ?krest6; (case krun6 => (intro w hw K hK; go_simp; exact hK)); (case kev6 => (intro w hw e he; simp [go_sem, *] at he)); try walk_nrm))
  try (first | (refine Yonder.ctl rfl (fun w => stepG_seq) ?_) | (refine Yonder.ctl rfl (fun w => stepG_region) ?_; simp only [List.size_toArray, List.length_cons, List.length_nil, Nat.reduceAdd, Nat.zero_add, List.range, List.range.loop]) | (refine Yonder.ctl rfl (fun w => stepG_region_end) ?_) | (refine Yonder.ctl rfl (fun w => stepG_block) ?_) | (refine Yonder.ctl rfl (fun w => stepG_skip) ?_) | (refine Yonder.ctl rfl (fun w => stepG_inBlock) ?_) | (refine Yonder.ctl rfl (fun w => stepG_ret') ?_) | (refine Yonder.ctl rfl (fun w => stepG_end) ?_) | (refine Yonder.ctl rfl (fun w => stepG_exit rfl) ?_) | (refine Yonder.ctl rfl (fun w => stepG_cond (t := true) rfl) ?_; simp only [if_true, if_false, reduceIte, Bool.false_eq_true]) | (refine Yonder.ctl rfl (fun w => stepG_cond (t := false) rfl) ?_; simp only [if_true, if_false, reduceIte, Bool.false_eq_true]) | (co_applyP Yonder.opq rfl (by rfl) (by decide) ?krun7 ?kev7 ?krest7; (case krun7 => (intro w hw K hK; go_simp; exact hK)); (case kev7 => (intro w hw e he; simp [go_sem, *] at he)); try walk_nrm))
  try (first | (refine Yonder.ctl rfl (fun w => stepG_seq) ?_) | (refine Yonder.ctl rfl (fun w => stepG_region) ?_; simp only [List.size_toArray, List.length_cons, List.length_nil, Nat.reduceAdd, Nat.zero_add, List.range, List.range.loop]) | (refine Yonder.ctl rfl (fun w => stepG_region_end) ?_) | (refine Yonder.ctl rfl (fun w => stepG_block) ?_) | (refine Yonder.ctl rfl (fun w => stepG_skip) ?_) | (refine Yonder.ctl rfl (fun w => stepG_inBlock) ?_) | (refine Yonder.ctl rfl (fun w => stepG_ret') ?_) | (refine Yonder.ctl rfl (fun w => stepG_end) ?_) | (refine Yonder.ctl rfl (fun w => stepG_exit rfl) ?_) | (refine Yonder.ctl rfl (fun w => stepG_cond (t := true) rfl) ?_; simp only [if_true, if_false, reduceIte, Bool.false_eq_true]) | (refine Yonder.ctl rfl (fun w => stepG_cond (t := false) rfl) ?_; simp only [if_true, if_false, reduceIte, Bool.false_eq_true]) | (co_applyP Yonder.opq rfl (by rfl) (by decide) ?krun8 ?kev8 ?krest8; (case krun8 => (intro w hw K hK; go_simp; exact hK)); (case kev8 => (intro w hw e he; simp [go_sem, *] at he)); try walk_nrm))
  co_applyP Yonder.ld _ hf2 rfl (by rfl) (by decide) ?krun17 ?kev17 ?krest17; (case krun17 => (intro w hw K hK; have hcx := hw _ _ hf2; go_simp; exact hK)); (case kev17 => (intro w hw e he; have hcx := hw _ _ hf2; simp [go_sem, *] at he; exact he)); try walk_nrm
  try (first | (refine Yonder.ctl rfl (fun w => stepG_seq) ?_) | (refine Yonder.ctl rfl (fun w => stepG_region) ?_; simp only [List.size_toArray, List.length_cons, List.length_nil, Nat.reduceAdd, Nat.zero_add, List.range, List.range.loop]) | (refine Yonder.ctl rfl (fun w => stepG_region_end) ?_) | (refine Yonder.ctl rfl (fun w => stepG_block) ?_) | (refine Yonder.ctl rfl (fun w => stepG_skip) ?_) | (refine Yonder.ctl rfl (fun w => stepG_inBlock) ?_) | (refine Yonder.ctl rfl (fun w => stepG_ret') ?_) | (refine Yonder.ctl rfl (fun w => stepG_end) ?_) | (refine Yonder.ctl rfl (fun w => stepG_exit rfl) ?_) | (refine Yonder.ctl rfl (fun w => stepG_cond (t := true) rfl) ?_; simp only [if_true, if_false, reduceIte, Bool.false_eq_true]) | (refine Yonder.ctl rfl (fun w => stepG_cond (t := false) rfl) ?_; simp only [if_true, if_false, reduceIte, Bool.false_eq_true]) | (co_applyP Yonder.opq rfl (by rfl) (by decide) ?krun9 ?kev9 ?krest9; (case krun9 => (intro w hw K hK; go_simp; exact hK)); (case kev9 => (intro w hw e he; simp [go_sem, *] at he)); try walk_nrm))
  try (first | (refine Yonder.ctl rfl (fun w => stepG_seq) ?_) | (refine Yonder.ctl rfl (fun w => stepG_region) ?_; simp only [List.size_toArray, List.length_cons, List.length_nil, Nat.reduceAdd, Nat.zero_add, List.range, List.range.loop]) | (refine Yonder.ctl rfl (fun w => stepG_region_end) ?_) | (refine Yonder.ctl rfl (fun w => stepG_block) ?_) | (refine Yonder.ctl rfl (fun w => stepG_skip) ?_) | (refine Yonder.ctl rfl (fun w => stepG_inBlock) ?_) | (refine Yonder.ctl rfl (fun w => stepG_ret') ?_) | (refine Yonder.ctl rfl (fun w => stepG_end) ?_) | (refine Yonder.ctl rfl (fun w => stepG_exit rfl) ?_) | (refine Yonder.ctl rfl (fun w => stepG_cond (t := true) rfl) ?_; simp only [if_true, if_false, reduceIte, Bool.false_eq_true]) | (refine Yonder.ctl rfl (fun w => stepG_cond (t := false) rfl) ?_; simp only [if_true, if_false, reduceIte, Bool.false_eq_true]) | (co_applyP Yonder.opq rfl (by rfl) (by decide) ?krun10 ?kev10 ?krest10; (case krun10 => (intro w hw K hK; go_simp; exact hK)); (case kev10 => (intro w hw e he; simp [go_sem, *] at he)); try walk_nrm))
  try (first | (refine Yonder.ctl rfl (fun w => stepG_seq) ?_) | (refine Yonder.ctl rfl (fun w => stepG_region) ?_; simp only [List.size_toArray, List.length_cons, List.length_nil, Nat.reduceAdd, Nat.zero_add, List.range, List.range.loop]) | (refine Yonder.ctl rfl (fun w => stepG_region_end) ?_) | (refine Yonder.ctl rfl (fun w => stepG_block) ?_) | (refine Yonder.ctl rfl (fun w => stepG_skip) ?_) | (refine Yonder.ctl rfl (fun w => stepG_inBlock) ?_) | (refine Yonder.ctl rfl (fun w => stepG_ret') ?_) | (refine Yonder.ctl rfl (fun w => stepG_end) ?_) | (refine Yonder.ctl rfl (fun w => stepG_exit rfl) ?_) | (refine Yonder.ctl rfl (fun w => stepG_cond (t := true) rfl) ?_; simp only [if_true, if_false, reduceIte, Bool.false_eq_true]) | (refine Yonder.ctl rfl (fun w => stepG_cond (t := false) rfl) ?_; simp only [if_true, if_false, reduceIte, Bool.false_eq_true]) | (co_applyP Yonder.opq rfl (by rfl) (by decide) ?krun11 ?kev11 ?krest11; (case krun11 => (intro w hw K hK; go_simp; exact hK)); (case kev11 => (intro w hw e he; simp [go_sem, *] at he)); try walk_nrm))
  try (first | (refine Yonder.ctl rfl (fun w => stepG_seq) ?_) | (refine Yonder.ctl rfl (fun w => stepG_region) ?_; simp only [List.size_toArray, List.length_cons, List.length_nil, Nat.reduceAdd, Nat.zero_add, List.range, List.range.loop]) | (refine Yonder.ctl rfl (fun w => stepG_region_end) ?_) | (refine Yonder.ctl rfl (fun w => stepG_block) ?_) | (refine Yonder.ctl rfl (fun w => stepG_skip) ?_) | (refine Yonder.ctl rfl (fun w => stepG_inBlock) ?_) | (refine Yonder.ctl rfl (fun w => stepG_ret') ?_) | (refine Yonder.ctl rfl (fun w => stepG_end) ?_) | (refine Yonder.ctl rfl (fun w => stepG_exit rfl) ?_) | (refine Yonder.ctl rfl (fun w => stepG_cond (t := true) rfl) ?_; simp only [if_true, if_false, reduceIte, Bool.false_eq_true]) | (refine Yonder.ctl rfl (fun w => stepG_cond (t := false) rfl) ?_; simp only [if_true, if_false, reduceIte, Bool.false_eq_true]) | (co_applyP Yonder.opq rfl (by rfl) (by decide) ?krun12 ?kev12 ?krest12; (case krun12 => (intro w hw K hK; go_simp; exact hK)); (case kev12 => (intro w hw e he; simp [go_sem, *] at he)); try walk_nrm))
  try (first | (refine Yonder.ctl rfl (fun w => stepG_seq) ?_) | (refine Yonder.ctl rfl (fun w => stepG_region) ?_; simp only [List.size_toArray, List.length_cons, List.length_nil, Nat.reduceAdd, Nat.zero_add, List.range, List.range.loop]) | (refine Yonder.ctl rfl (fun w => stepG_region_end) ?_) | (refine Yonder.ctl rfl (fun w => stepG_block) ?_) | (refine Yonder.ctl rfl (fun w => stepG_skip) ?_) | (refine Yonder.ctl rfl (fun w => stepG_inBlock) ?_) | (refine Yonder.ctl rfl (fun w => stepG_ret') ?_) | (refine Yonder.ctl rfl (fun w => stepG_end) ?_) | (refine Yonder.ctl rfl (fun w => stepG_exit rfl) ?_) | (refine Yonder.ctl rfl (fun w => stepG_cond (t := true) rfl) ?_; simp only [if_true, if_false, reduceIte, Bool.false_eq_true]) | (refine Yonder.ctl rfl (fun w => stepG_cond (t := false) rfl) ?_; simp only [if_true, if_false, reduceIte, Bool.false_eq_true]) | (co_applyP Yonder.opq rfl (by rfl) (by decide) ?krun13 ?kev13 ?krest13; (case krun13 => (intro w hw K hK; go_simp; exact hK)); (case kev13 => (intro w hw e he; simp [go_sem, *] at he)); try walk_nrm))
  try (first | (refine Yonder.ctl rfl (fun w => stepG_seq) ?_) | (refine Yonder.ctl rfl (fun w => stepG_region) ?_; simp only [List.size_toArray, List.length_cons, List.length_nil, Nat.reduceAdd, Nat.zero_add, List.range, List.range.loop]) | (refine Yonder.ctl rfl (fun w => stepG_region_end) ?_) | (refine Yonder.ctl rfl (fun w => stepG_block) ?_) | (refine Yonder.ctl rfl (fun w => stepG_skip) ?_) | (refine Yonder.ctl rfl (fun w => stepG_inBlock) ?_) | (refine Yonder.ctl rfl (fun w => stepG_ret') ?_) | (refine Yonder.ctl rfl (fun w => stepG_end) ?_) | (refine Yonder.ctl rfl (fun w => stepG_exit rfl) ?_) | (refine Yonder.ctl rfl (fun w => stepG_cond (t := true) rfl) ?_; simp only [if_true, if_false, reduceIte, Bool.false_eq_true]) | (refine Yonder.ctl rfl (fun w => stepG_cond (t := false) rfl) ?_; simp only [if_true, if_false, reduceIte, Bool.false_eq_true]) | (co_applyP Yonder.opq rfl (by rfl) (by decide) ?krun14 ?kev14 ?krest14; (case krun14 => (intro w hw K hK; go_simp; exact hK)); (case kev14 => (intro w hw e he; simp [go_sem, *] at he)); try walk_nrm))
  try (first | (refine Yonder.ctl rfl (fun w => stepG_seq) ?_) | (refine Yonder.ctl rfl (fun w => stepG_region) ?_; simp only [List.size_toArray, List.length_cons, List.length_nil, Nat.reduceAdd, Nat.zero_add, List.range, List.range.loop]) | (refine Yonder.ctl rfl (fun w => stepG_region_end) ?_) | (refine Yonder.ctl rfl (fun w => stepG_block) ?_) | (refine Yonder.ctl rfl (fun w => stepG_skip) ?_) | (refine Yonder.ctl rfl (fun w => stepG_inBlock) ?_) | (refine Yonder.ctl rfl (fun w => stepG_ret') ?_) | (refine Yonder.ctl rfl (fun w => stepG_end) ?_) | (refine Yonder.ctl rfl (fun w => stepG_exit rfl) ?_) | (refine Yonder.ctl rfl (fun w => stepG_cond (t := true) rfl) ?_; simp only [if_true, if_false, reduceIte, Bool.false_eq_true]) | (refine Yonder.ctl rfl (fun w => stepG_cond (t := false) rfl) ?_; simp only [if_true, if_false, reduceIte, Bool.false_eq_true]) | (co_applyP Yonder.opq rfl (by rfl) (by decide) ?krun15 ?kev15 ?krest15; (case krun15 => (intro w hw K hK; go_simp; exact hK)); (case kev15 => (intro w hw e he; simp [go_sem, *] at he)); try walk_nrm))
  try (first | (refine Yonder.ctl rfl (fun w => stepG_seq) ?_) | (refine Yonder.ctl rfl (fun w => stepG_region) ?_; simp only [List.size_toArray, List.length_cons, List.length_nil, Nat.reduceAdd, Nat.zero_add, List.range, List.range.loop]) | (refine Yonder.ctl rfl (fun w => stepG_region_end) ?_) | (refine Yonder.ctl rfl (fun w => stepG_block) ?_) | (refine Yonder.ctl rfl (fun w => stepG_skip) ?_) | (refine Yonder.ctl rfl (fun w => stepG_inBlock) ?_) | (refine Yonder.ctl rfl (fun w => stepG_ret') ?_) | (refine Yonder.ctl rfl (fun w => stepG_end) ?_) | (refine Yonder.ctl rfl (fun w => stepG_exit rfl) ?_) | (refine Yonder.ctl rfl (fun w => stepG_cond (t := true) rfl) ?_; simp only [if_true, if_false, reduceIte, Bool.false_eq_true]) | (refine Yonder.ctl rfl (fun w => stepG_cond (t := false) rfl) ?_; simp only [if_true, if_false, reduceIte, Bool.false_eq_true]) | (co_applyP Yonder.opq rfl (by rfl) (by decide) ?krun16 ?kev16 ?krest16; (case krun16 => (intro w hw K hK; go_simp; exact hK)); (case kev16 => (intro w hw e he; simp [go_sem, *] at he)); try walk_nrm))
  refine Yonder.callE rfl (by rfl) (by decide) rfl Try.func107 (by kernel_rfl) (by rfl) ?_
  walk_nrm
  refine way107 p r _ v hch hz hok hf ?_
  simp only [fr82, ops82w, body82, rest82, Try.f82] at hh
  exact hh

set_option maxHeartbeats 8000000 in
set_option maxRecDepth 100000 in
theorem end1_back (p t r : Nat) (c : Frame) (cs : List Frame) (e0 : Bool) (w : World) (h2 : w.cell? ⟨p, 2, none⟩ = some (.bool e0)) (hz2 : w.frozen? ⟨p, 2, none⟩ = false) (hfr : Free V ⟨p, 2, none⟩) :
    Walk Try.prog main (DR V) (fun g w' => g = G (c.finish (.tuple #[])) cs ∧ ∃ d, w' = ((w.alloc (.cells #[] 129)).setCell ⟨p, 2, none⟩ (.bool true)).at d) (Go.Conc.served (rec107 p r (fr82 p t :: c :: cs)) (recvd true (.agg #[]) false)) w := by
  refine (serve107 p r (fr82 p t) (c :: cs) false e0 w h2 hz2 hfr).then ?_
  rintro g w' ⟨rfl, d, rfl⟩
  refine Walk.back ?_ d
  have g2 := World.cell?_setCell_same (w.alloc (.cells #[] 129)) ⟨p, 2, none⟩ (.bool true) (cell_alloc w (.cells #[] 129) h2)
  simp only [Bool.not_false]
  unfold fr82
  rw [Frame.finish_at]
  simp only [ops82w, body82, rest82, Try.f82]
  walk_nrm
  repeat (first | (refine Walk.c rfl ?_) | (refine Walk.cReg ?_; simp only [List.size_toArray, List.length_cons, List.length_nil, Nat.reduceAdd, Nat.zero_add, List.range, List.range.loop]) | (refine Walk.cRet ?_) | (refine Walk.cEnd ?_) | (refine Walk.opq (ho_of (by conv => lhs; whnf) (by kernel_rfl)) (by rfl) (by decide) (fun dd e he => ?_) (fun dd K hK => ?_); (· (simp [go_sem, *] at he; try (subst he; exact evR_read _ _))); go_simp; refine hK _ ?_; clear hK K; try walk_nrm) | (refine Walk.ctl rfl (fun w => stepG_unwanted (ho_of (by conv => lhs; whnf) (by kernel_rfl)) (by rfl)) ?_; walk_nrm))
  refine Walk.ctl rfl (fun w => stepG_inLoop) ?_
  repeat (first | (refine Walk.c rfl ?_) | (refine Walk.cReg ?_; simp only [List.size_toArray, List.length_cons, List.length_nil, Nat.reduceAdd, Nat.zero_add, List.range, List.range.loop]) | (refine Walk.cRet ?_) | (refine Walk.cEnd ?_) | (refine Walk.opq (ho_of (by conv => lhs; whnf) (by kernel_rfl)) (by rfl) (by decide) (fun dd e he => ?_) (fun dd K hK => ?_); (· (simp [go_sem, *] at he; try (subst he; exact evR_read _ _))); go_simp; refine hK _ ?_; clear hK K; try walk_nrm) | (refine Walk.ctl rfl (fun w => stepG_unwanted (ho_of (by conv => lhs; whnf) (by kernel_rfl)) (by rfl)) ?_; walk_nrm))
  exact Walk.ctl rfl (fun w => stepG_leave rfl rfl Try.func82 (results_none rfl _ _ w) (events_results_none rfl _ _)) (.stop fun d => ⟨rfl, d, rfl⟩)
end Go.Proofs.Ytgiiicdpbdfemaa
end

/- Package turn's ride, in company: into the thread, and behind it. -/
section
namespace Go.Proofs.Ytgiiicdpbdfemaa
open Go.Conc Go.RowKit Go.Relay

variable {main : Bool} {V : Nat → Option Wait}

/-- ride's deferred call. -/
def def60 (N : Nat) : Deferred := { target := .fn (.func 87) #[.pointer (some ⟨N, 0, none⟩)], args := #[] }
noncomputable def todo60 : Option (Array Oper × Code) := match Try.f60.body with | some (.seq _ (.seq _ (.seq (.seq _ (.cond _ (.region _ ops _) _)) c))) => some (ops, c) | _ => none
noncomputable def ops60 : Array Oper := (todo60.getD (#[], .skip)).1
noncomputable def rest60 : Code := (todo60.getD (#[], .skip)).2
/-- ride's frame while it is in the thread. -/
noncomputable def fr60 (N : Nat) (F S : Value) : Frame :=
  (base 60).at { tmps := #[F, S, undef, undef, .bool false, .pointer (some ⟨N, 0, none⟩), .func (.func 87) #[] #[.pointer (some ⟨N, 0, none⟩)], F, .bool true, F, S, undef], defers := [def60 N] } [.inRegion ops60 [2], .code rest60]

set_option maxHeartbeats 8000000 in
set_option maxRecDepth 100000 in
theorem ride_in {Stop : Goroutine → World → Prop} (f : FuncId) (fn : Func) (first cap : Array Value) (S : Value) (cs : List Frame) (w : World) (hf : Try.prog.funcs[f]? = some fn) (hname : (fn.name == "runtime.NumGoroutine") = false) (hb : fn.body.isNone = false)
    (hk : Walk Try.prog main (DR V) Stop (G (Frame.enter Try.prog f (first ++ #[S] ++ cap) .normal) (fr60 w.heap.size (.func (.func f) first cap) S :: cs)) (w.alloc (.cells #[.bool false] 4))) :
    Walk Try.prog main (DR V) Stop (G (Frame.enter Try.prog 60 #[.func (.func f) first cap, S] .normal) cs) w := by
  simp only [fr60, ops60, rest60, todo60, Try.f60, Option.getD_some] at hk
  rw [enter_at _ Try.func60 rfl]
  simp only [Try.f60, List.size_toArray, List.length_cons, List.length_nil, Nat.reduceAdd, Nat.reduceSub, Array.replicate_succ, Array.replicate_zero, List.push_toArray, List.append_toArray, List.nil_append, List.cons_append]
  have hn1 := fun w => run_neq_func (P := Try.prog) (w := w) 67 (.func f) first cap (by kernel_rfl : Try.prog.underlying 67 = some (.func #[115] #[] false))
  have hn2 := fun w es => ev_neq_func (P := Try.prog) (w := w) 67 (.func f) first cap es (by kernel_rfl : Try.prog.underlying 67 = some (.func #[115] #[] false))
  repeat (first | (refine Walk.c rfl ?_) | (refine Walk.cReg ?_; simp only [List.size_toArray, List.length_cons, List.length_nil, Nat.reduceAdd, Nat.zero_add, List.range, List.range.loop]) | (refine Walk.cRet ?_) | (refine Walk.cEnd ?_) | (refine Walk.opq (ho_of (by conv => lhs; whnf) (by kernel_rfl)) (by rfl) (by decide) (fun dd e he => ?_) (fun dd K hK => ?_); (· (simp [go_sem, *] at he; try (subst he; exact evR_read _ _))); go_simp; refine hK _ ?_; clear hK K; try walk_nrm) | (refine Walk.ctl rfl (fun w => stepG_unwanted (ho_of (by conv => lhs; whnf) (by kernel_rfl)) (by rfl)) ?_; walk_nrm))
  (co_applyP Walk.opw (ho_of (by conv => lhs; whnf) (by kernel_rfl)) (by rfl) (by decide) ?wev1 ?wdr1 ?wrun1; (case' wrun1 => (intro dd K hK; go_simp; simp only [alloc_at', setCell_at']; refine hK _ ?wmore1; clear hK K)); (case wdr1 => exact fun dd es hes => DR.alloc' dd es hes); (case wev1 => (intro dd e he; simp [go_sem, *] at he)); try walk_nrm)
  repeat (first | (refine Walk.c rfl ?_) | (refine Walk.cReg ?_; simp only [List.size_toArray, List.length_cons, List.length_nil, Nat.reduceAdd, Nat.zero_add, List.range, List.range.loop]) | (refine Walk.cRet ?_) | (refine Walk.cEnd ?_) | (refine Walk.opq (ho_of (by conv => lhs; whnf) (by kernel_rfl)) (by rfl) (by decide) (fun dd e he => ?_) (fun dd K hK => ?_); (· (simp [go_sem, *] at he; try (subst he; exact evR_read _ _))); go_simp; refine hK _ ?_; clear hK K; try walk_nrm) | (refine Walk.ctl rfl (fun w => stepG_unwanted (ho_of (by conv => lhs; whnf) (by kernel_rfl)) (by rfl)) ?_; walk_nrm))
  refine Walk.ctl rfl (fun w' => stepG_deferOp (d := def60 w.heap.size) rfl (by rfl) (by decide) (by simp [go_sem, execOp, Deferred.ofValue, def60]) (by simp [go_sem, execOp, Deferred.ofValue])) ?_
  walk_nrm
  repeat (first | (refine Walk.c rfl ?_) | (refine Walk.cReg ?_; simp only [List.size_toArray, List.length_cons, List.length_nil, Nat.reduceAdd, Nat.zero_add, List.range, List.range.loop]) | (refine Walk.cRet ?_) | (refine Walk.cEnd ?_) | (refine Walk.opq (ho_of (by conv => lhs; whnf) (by kernel_rfl)) (by rfl) (by decide) (fun dd e he => ?_) (fun dd K hK => ?_); (· (simp [go_sem, *] at he; try (subst he; exact evR_read _ _))); go_simp; refine hK _ ?_; clear hK K; try walk_nrm) | (refine Walk.ctl rfl (fun w => stepG_unwanted (ho_of (by conv => lhs; whnf) (by kernel_rfl)) (by rfl)) ?_; walk_nrm))
  refine Walk.ctl rfl (fun w' => stepG_callValue rfl (by rfl) (by decide) rfl rfl hf hname hb) ?_
  walk_nrm
  exact hk
end Go.Proofs.Ytgiiicdpbdfemaa
end

/- Package turn's ride, in company: what is done behind the thread, whether it has come back, was ended or was broken. -/
section
namespace Go.Proofs.Ytgiiicdpbdfemaa
open Go.Conc Go.RowKit Go.Relay

variable {main : Bool} {V : Nat → Option Wait}

theorem und20 : ∃ ms, Try.prog.underlying 20 = some (.interface ms) := ⟨#[], by kernel_rfl⟩

/-- The results of ride: one lies in a temporary, one in a cell. -/
theorem results60 (tmps : Array Value) (N : Nat) (x y : Bool) (w : World) (h4 : tmps.getD 4 undef = .bool x) (h5 : tmps.getD 5 undef = .pointer (some ⟨N, 0, none⟩)) (hN : w.cell? ⟨N, 0, none⟩ = some (.bool y)) :
    (results Try.f60 tmps).run Try.prog w = .ok (.tuple #[.bool x, .bool y]) w ∧ ∀ e ∈ (results Try.f60 tmps).events Try.prog w #[], EvR V e := by
  simp only [Array.getD_eq_getD_getElem?] at h4 h5
  constructor
  · simp only [results, Try.f60]
    simp [h4, h5, go_sem, hN, asAddr, loadVar]
  · intro e he
    simp only [results, Try.f60] at he
    simp [h4, h5, go_sem, hN, asAddr, loadVar] at he
    subst he
    exact evR_read _ _

theorem leave60 {fr : Frame} {c : Frame} {cs : List Frame} {N : Nat} {x y : Bool} {w : World} (hf : fr.fn = 60) (hm : fr.mode = .returning) (hn : fr.kind = .normal) (hd : fr.defers = []) (h4 : fr.tmps.getD 4 undef = .bool x) (h5 : fr.tmps.getD 5 undef = .pointer (some ⟨N, 0, none⟩)) (hN : w.cell? ⟨N, 0, none⟩ = some (.bool y)) :
    Walk Try.prog main (DR V) (fun g w' => g = G (c.finish (.tuple #[.bool x, .bool y])) cs ∧ ∃ d, w' = w.at d) (G fr (c :: cs)) w :=
  Walk.evs (fun d => seen Try.prog fr.fn ((results Try.f60 fr.tmps).events Try.prog (w.at d) #[])) rfl (fun d => stepG_leaveF hm hn hd (by rw [hf]; exact Try.func60) (results60 (V := V) fr.tmps N x y (w.at d) h4 h5 hN).1)
    (fun d e he => (results60 (V := V) fr.tmps N x y (w.at d) h4 h5 hN).2 e (mem_seen he)) (.stop fun d => ⟨rfl, d, rfl⟩)

set_option maxHeartbeats 8000000 in
set_option maxRecDepth 100000 in
theorem ride_done (N : Nat) (F S : Value) (c : Frame) (cs : List Frame) (w : World) (x : Bool) (hN : w.cell? ⟨N, 0, none⟩ = some (.bool x)) (hz : w.frozen? ⟨N, 0, none⟩ = false) (hfr : Free V ⟨N, 0, none⟩) :
    Walk Try.prog main (DR V) (fun g w' => g = G (c.finish (.tuple #[.bool true, .bool false])) cs ∧ ∃ d, w' = (w.setCell ⟨N, 0, none⟩ (.bool false)).at d) (G ((fr60 N F S).finish (.tuple #[])) (c :: cs)) w := by
  obtain ⟨ms, h20⟩ := und20
  have hn1 := fun w => run_neq_nilIface (P := Try.prog) (w := w) 20 h20
  have hn2 := fun w es => ev_neq_nilIface (P := Try.prog) (w := w) 20 es h20
  unfold fr60
  rw [Frame.finish_at]
  simp only [ops60, rest60, todo60, Try.f60, Option.getD_some]
  walk_nrm
  repeat (first | (refine Walk.c rfl ?_) | (refine Walk.cReg ?_; simp only [List.size_toArray, List.length_cons, List.length_nil, Nat.reduceAdd, Nat.zero_add, List.range, List.range.loop]) | (refine Walk.cRet ?_) | (refine Walk.cEnd ?_) | (refine Walk.opq (ho_of (by conv => lhs; whnf) (by kernel_rfl)) (by rfl) (by decide) (fun dd e he => ?_) (fun dd K hK => ?_); (· (simp [go_sem, *] at he; try (subst he; exact evR_read _ _))); go_simp; refine hK _ ?_; clear hK K; try walk_nrm) | (refine Walk.ctl rfl (fun w => stepG_unwanted (ho_of (by conv => lhs; whnf) (by kernel_rfl)) (by rfl)) ?_; walk_nrm))
  (co_applyP Walk.opw (ho_of (by conv => lhs; whnf) (by kernel_rfl)) (by rfl) (by decide) ?wev2 ?wdr2 ?wrun2; (case' wrun2 => (intro dd K hK; go_simp; simp only [alloc_at', setCell_at']; refine hK _ ?wmore2; clear hK K)); (case wdr2 => exact fun dd es hes => DR.set' hfr hN dd es hes); (case wev2 => (intro dd e he; simp [go_sem, storedEv, ev_store_bool, ev_store_int, ev_store_slice, ev_store_pointer, *] at he; subst he; exact evR_write _ _ hfr)); try walk_nrm)
  repeat (first | (refine Walk.c rfl ?_) | (refine Walk.cReg ?_; simp only [List.size_toArray, List.length_cons, List.length_nil, Nat.reduceAdd, Nat.zero_add, List.range, List.range.loop]) | (refine Walk.cRet ?_) | (refine Walk.cEnd ?_) | (refine Walk.opq (ho_of (by conv => lhs; whnf) (by kernel_rfl)) (by rfl) (by decide) (fun dd e he => ?_) (fun dd K hK => ?_); (· (simp [go_sem, *] at he; try (subst he; exact evR_read _ _))); go_simp; refine hK _ ?_; clear hK K; try walk_nrm) | (refine Walk.ctl rfl (fun w => stepG_unwanted (ho_of (by conv => lhs; whnf) (by kernel_rfl)) (by rfl)) ?_; walk_nrm))
  have hN' := World.cell?_setCell_same w ⟨N, 0, none⟩ (.bool false) hN
  refine Walk.ctl rfl (fun w => stepG_deferred (d := def60 N) (ds := []) (by simp [Frame.at]) rfl rfl Try.func87 (by kernel_rfl) (by rfl)) ?_
  simp only [def60, List.append_toArray, List.nil_append]
  rw [enter_atD _ Try.func87 rfl]
  simp only [Try.f87, List.size_toArray, List.length_cons, List.length_nil, Nat.reduceAdd, Nat.reduceSub, Array.replicate_succ, Array.replicate_zero, List.push_toArray, List.append_toArray, List.nil_append, List.cons_append]
  repeat (first | (refine Walk.c rfl ?_) | (refine Walk.cReg ?_; simp only [List.size_toArray, List.length_cons, List.length_nil, Nat.reduceAdd, Nat.zero_add, List.range, List.range.loop]) | (refine Walk.cRet ?_) | (refine Walk.cEnd ?_) | (refine Walk.opq (ho_of (by conv => lhs; whnf) (by kernel_rfl)) (by rfl) (by decide) (fun dd e he => ?_) (fun dd K hK => ?_); (· (simp [go_sem, *] at he; try (subst he; exact evR_read _ _))); go_simp; refine hK _ ?_; clear hK K; try walk_nrm) | (refine Walk.ctl rfl (fun w => stepG_unwanted (ho_of (by conv => lhs; whnf) (by kernel_rfl)) (by rfl)) ?_; walk_nrm))
  refine Walk.ctl rfl (fun w => stepG_recoverNone rfl (by rfl) rfl rfl rfl) ?_
  walk_nrm
  repeat (first | (refine Walk.c rfl ?_) | (refine Walk.cReg ?_; simp only [List.size_toArray, List.length_cons, List.length_nil, Nat.reduceAdd, Nat.zero_add, List.range, List.range.loop]) | (refine Walk.cRet ?_) | (refine Walk.cEnd ?_) | (refine Walk.opq (ho_of (by conv => lhs; whnf) (by kernel_rfl)) (by rfl) (by decide) (fun dd e he => ?_) (fun dd K hK => ?_); (· (simp [go_sem, *] at he; try (subst he; exact evR_read _ _))); go_simp; refine hK _ ?_; clear hK K; try walk_nrm) | (refine Walk.ctl rfl (fun w => stepG_unwanted (ho_of (by conv => lhs; whnf) (by kernel_rfl)) (by rfl)) ?_; walk_nrm))
  refine Walk.ctl rfl (fun w => stepG_leaveReturning rfl rfl Try.func87 (results_none rfl _ _ w) (events_results_none rfl _ _) rfl) ?_
  exact leave60 rfl rfl rfl rfl rfl rfl hN'

set_option maxHeartbeats 8000000 in
set_option maxRecDepth 100000 in
theorem ride_stopped (N : Nat) (F S : Value) (c : Frame) (cs : List Frame) (w : World) (x : Bool) (hN : w.cell? ⟨N, 0, none⟩ = some (.bool x)) (hz : w.frozen? ⟨N, 0, none⟩ = false) (hfr : Free V ⟨N, 0, none⟩) :
    Walk Try.prog main (DR V) (fun g w' => g = G (c.finish (.tuple #[.bool false, .bool false])) cs ∧ ∃ d, w' = ((w.alloc (.cells #[] 147)).setCell ⟨N, 0, none⟩ (.bool false)).at d) (G ((fr60 N F S).raise [{ v := .iface 147 (.agg #[]), recovered := false }]) (c :: cs)) w := by
  obtain ⟨ms, h20⟩ := und20
  have hn1 := fun w => run_neq_iface (P := Try.prog) (w := w) 20 147 (.agg #[]) h20
  have hn2 := fun w es => ev_neq_iface (P := Try.prog) (w := w) 20 147 (.agg #[]) es h20
  unfold fr60
  rw [Frame.raise_at]
  simp only [ops60, rest60, todo60, Try.f60, Option.getD_some]
  refine Walk.ctl rfl (fun w => stepG_deferred (d := def60 N) (ds := []) (by simp [Frame.at]) rfl rfl Try.func87 (by kernel_rfl) (by rfl)) ?_
  simp only [def60, List.append_toArray, List.nil_append]
  rw [enter_atD _ Try.func87 rfl]
  simp only [Try.f87, List.size_toArray, List.length_cons, List.length_nil, Nat.reduceAdd, Nat.reduceSub, Array.replicate_succ, Array.replicate_zero, List.push_toArray, List.append_toArray, List.nil_append, List.cons_append]
  repeat (first | (refine Walk.c rfl ?_) | (refine Walk.cReg ?_; simp only [List.size_toArray, List.length_cons, List.length_nil, Nat.reduceAdd, Nat.zero_add, List.range, List.range.loop]) | (refine Walk.cRet ?_) | (refine Walk.cEnd ?_) | (refine Walk.opq (ho_of (by conv => lhs; whnf) (by kernel_rfl)) (by rfl) (by decide) (fun dd e he => ?_) (fun dd K hK => ?_); (· (simp [go_sem, *] at he; try (subst he; exact evR_read _ _))); go_simp; refine hK _ ?_; clear hK K; try walk_nrm) | (refine Walk.ctl rfl (fun w => stepG_unwanted (ho_of (by conv => lhs; whnf) (by kernel_rfl)) (by rfl)) ?_; walk_nrm))
  refine Walk.ctl rfl (fun w => stepG_recover rfl (by rfl) rfl rfl rfl) ?_
  walk_nrm
  have h147 := fun w => run_assert_same (P := Try.prog) (w := w) 147 20 (.agg #[]) (u := .struct #[]) (by kernel_rfl) (fun _ h => by cases h)
  have e147 := fun w es => ev_assert_same (P := Try.prog) (w := w) 147 20 (.agg #[]) es (u := .struct #[]) (by kernel_rfl) (fun _ h => by cases h)
  repeat (first | (refine Walk.c rfl ?_) | (refine Walk.cReg ?_; simp only [List.size_toArray, List.length_cons, List.length_nil, Nat.reduceAdd, Nat.zero_add, List.range, List.range.loop]) | (refine Walk.cRet ?_) | (refine Walk.cEnd ?_) | (refine Walk.opq (ho_of (by conv => lhs; whnf) (by kernel_rfl)) (by rfl) (by decide) (fun dd e he => ?_) (fun dd K hK => ?_); (· (simp [go_sem, *] at he; try (subst he; exact evR_read _ _))); go_simp; refine hK _ ?_; clear hK K; try walk_nrm) | (refine Walk.ctl rfl (fun w => stepG_unwanted (ho_of (by conv => lhs; whnf) (by kernel_rfl)) (by rfl)) ?_; walk_nrm))
  (co_applyP Walk.opw (ho_of (by conv => lhs; whnf) (by kernel_rfl)) (by rfl) (by decide) ?wev1 ?wdr1 ?wrun1; (case' wrun1 => (intro dd K hK; go_simp; simp only [alloc_at', setCell_at']; refine hK _ ?wmore1; clear hK K)); (case wdr1 => exact fun dd es hes => DR.alloc' dd es hes); (case wev1 => (intro dd e he; simp [go_sem, *] at he)); try walk_nrm)
  have ha := cell_alloc w (.cells #[] 147) hN
  have haz := frozen_alloc w (.cells #[] 147) hN hz
  repeat (first | (refine Walk.c rfl ?_) | (refine Walk.cReg ?_; simp only [List.size_toArray, List.length_cons, List.length_nil, Nat.reduceAdd, Nat.zero_add, List.range, List.range.loop]) | (refine Walk.cRet ?_) | (refine Walk.cEnd ?_) | (refine Walk.opq (ho_of (by conv => lhs; whnf) (by kernel_rfl)) (by rfl) (by decide) (fun dd e he => ?_) (fun dd K hK => ?_); (· (simp [go_sem, *] at he; try (subst he; exact evR_read _ _))); go_simp; refine hK _ ?_; clear hK K; try walk_nrm) | (refine Walk.ctl rfl (fun w => stepG_unwanted (ho_of (by conv => lhs; whnf) (by kernel_rfl)) (by rfl)) ?_; walk_nrm))
  (co_applyP Walk.opw (ho_of (by conv => lhs; whnf) (by kernel_rfl)) (by rfl) (by decide) ?wev3 ?wdr3 ?wrun3; (case' wrun3 => (intro dd K hK; go_simp; simp only [alloc_at', setCell_at']; refine hK _ ?wmore3; clear hK K)); (case wdr3 => exact fun dd es hes => DR.set' hfr ha dd es hes); (case wev3 => (intro dd e he; simp [go_sem, storedEv, ev_store_bool, ev_store_int, ev_store_slice, ev_store_pointer, *] at he; subst he; exact evR_write _ _ hfr)); try walk_nrm)
  have hN' := World.cell?_setCell_same (w.alloc (.cells #[] 147)) ⟨N, 0, none⟩ (.bool false) ha
  repeat (first | (refine Walk.c rfl ?_) | (refine Walk.cReg ?_; simp only [List.size_toArray, List.length_cons, List.length_nil, Nat.reduceAdd, Nat.zero_add, List.range, List.range.loop]) | (refine Walk.cRet ?_) | (refine Walk.cEnd ?_) | (refine Walk.opq (ho_of (by conv => lhs; whnf) (by kernel_rfl)) (by rfl) (by decide) (fun dd e he => ?_) (fun dd K hK => ?_); (· (simp [go_sem, *] at he; try (subst he; exact evR_read _ _))); go_simp; refine hK _ ?_; clear hK K; try walk_nrm) | (refine Walk.ctl rfl (fun w => stepG_unwanted (ho_of (by conv => lhs; whnf) (by kernel_rfl)) (by rfl)) ?_; walk_nrm))
  refine Walk.ctl rfl (fun w => stepG_leaveRecovered rfl rfl Try.func87 (results_none rfl _ _ w) (events_results_none rfl _ _) rfl) ?_
  exact leave60 rfl rfl rfl rfl rfl rfl hN'
end Go.Proofs.Ytgiiicdpbdfemaa
end

/- Package turn's ride, in company: a thread that panics with a value that is not the turnstile's own is broken. -/
section
namespace Go.Proofs.Ytgiiicdpbdfemaa
open Go.Conc Go.RowKit Go.Relay

variable {main : Bool} {V : Nat → Option Wait}

set_option maxHeartbeats 8000000 in
set_option maxRecDepth 100000 in
theorem ride_broke (N : Nat) (F S : Value) (t : TypeId) (v : Value) (ht : t ≠ 147) (c : Frame) (cs : List Frame) (w : World) (x : Bool) (hN : w.cell? ⟨N, 0, none⟩ = some (.bool x)) (hz : w.frozen? ⟨N, 0, none⟩ = false) (hfr : Free V ⟨N, 0, none⟩) :
    Walk Try.prog main (DR V) (fun g w' => g = G (c.finish (.tuple #[.bool false, .bool true])) cs ∧ ∃ d, w' = ((w.alloc (.cells #[] 147)).setCell ⟨N, 0, none⟩ (.bool true)).at d) (G ((fr60 N F S).raise [{ v := .iface t v, recovered := false }]) (c :: cs)) w := by
  obtain ⟨ms, h20⟩ := und20
  have hn1 := fun w => run_neq_iface (P := Try.prog) (w := w) 20 t v h20
  have hn2 := fun w es => ev_neq_iface (P := Try.prog) (w := w) 20 t v es h20
  unfold fr60
  rw [Frame.raise_at]
  simp only [ops60, rest60, todo60, Try.f60, Option.getD_some]
  refine Walk.ctl rfl (fun w => stepG_deferred (d := def60 N) (ds := []) (by simp [Frame.at]) rfl rfl Try.func87 (by kernel_rfl) (by rfl)) ?_
  simp only [def60, List.append_toArray, List.nil_append]
  rw [enter_atD _ Try.func87 rfl]
  simp only [Try.f87, List.size_toArray, List.length_cons, List.length_nil, Nat.reduceAdd, Nat.reduceSub, Array.replicate_succ, Array.replicate_zero, List.push_toArray, List.append_toArray, List.nil_append, List.cons_append]
  repeat (first | (refine Walk.c rfl ?_) | (refine Walk.cReg ?_; simp only [List.size_toArray, List.length_cons, List.length_nil, Nat.reduceAdd, Nat.zero_add, List.range, List.range.loop]) | (refine Walk.cRet ?_) | (refine Walk.cEnd ?_) | (refine Walk.opq (ho_of (by conv => lhs; whnf) (by kernel_rfl)) (by rfl) (by decide) (fun dd e he => ?_) (fun dd K hK => ?_); (· (simp [go_sem, *] at he; try (subst he; exact evR_read _ _))); go_simp; refine hK _ ?_; clear hK K; try walk_nrm) | (refine Walk.ctl rfl (fun w => stepG_unwanted (ho_of (by conv => lhs; whnf) (by kernel_rfl)) (by rfl)) ?_; walk_nrm))
  refine Walk.ctl rfl (fun w => stepG_recover rfl (by rfl) rfl rfl rfl) ?_
  walk_nrm
  have h147 := fun w => run_assert_other (P := Try.prog) (w := w) 147 t 20 v (.agg #[]) (u := .struct #[]) (by kernel_rfl) (fun _ h => by cases h) ht (by kernel_rfl)
  have e147 := fun w es => ev_assert_other (P := Try.prog) (w := w) 147 t 20 v es (u := .struct #[]) (by kernel_rfl) (fun _ h => by cases h) ht (by kernel_rfl)
  repeat (first | (refine Walk.c rfl ?_) | (refine Walk.cReg ?_; simp only [List.size_toArray, List.length_cons, List.length_nil, Nat.reduceAdd, Nat.zero_add, List.range, List.range.loop]) | (refine Walk.cRet ?_) | (refine Walk.cEnd ?_) | (refine Walk.opq (ho_of (by conv => lhs; whnf) (by kernel_rfl)) (by rfl) (by decide) (fun dd e he => ?_) (fun dd K hK => ?_); (· (simp [go_sem, *] at he; try (subst he; exact evR_read _ _))); go_simp; refine hK _ ?_; clear hK K; try walk_nrm) | (refine Walk.ctl rfl (fun w => stepG_unwanted (ho_of (by conv => lhs; whnf) (by kernel_rfl)) (by rfl)) ?_; walk_nrm))
  (co_applyP Walk.opw (ho_of (by conv => lhs; whnf) (by kernel_rfl)) (by rfl) (by decide) ?wev1 ?wdr1 ?wrun1; (case' wrun1 => (intro dd K hK; go_simp; simp only [alloc_at', setCell_at']; refine hK _ ?wmore1; clear hK K)); (case wdr1 => exact fun dd es hes => DR.alloc' dd es hes); (case wev1 => (intro dd e he; simp [go_sem, *] at he)); try walk_nrm)
  have ha := cell_alloc w (.cells #[] 147) hN
  have haz := frozen_alloc w (.cells #[] 147) hN hz
  repeat (first | (refine Walk.c rfl ?_) | (refine Walk.cReg ?_; simp only [List.size_toArray, List.length_cons, List.length_nil, Nat.reduceAdd, Nat.zero_add, List.range, List.range.loop]) | (refine Walk.cRet ?_) | (refine Walk.cEnd ?_) | (refine Walk.opq (ho_of (by conv => lhs; whnf) (by kernel_rfl)) (by rfl) (by decide) (fun dd e he => ?_) (fun dd K hK => ?_); (· (simp [go_sem, *] at he; try (subst he; exact evR_read _ _))); go_simp; refine hK _ ?_; clear hK K; try walk_nrm) | (refine Walk.ctl rfl (fun w => stepG_unwanted (ho_of (by conv => lhs; whnf) (by kernel_rfl)) (by rfl)) ?_; walk_nrm))
  (co_applyP Walk.opw (ho_of (by conv => lhs; whnf) (by kernel_rfl)) (by rfl) (by decide) ?wev2 ?wdr2 ?wrun2; (case' wrun2 => (intro dd K hK; go_simp; simp only [alloc_at', setCell_at']; refine hK _ ?wmore2; clear hK K)); (case wdr2 => exact fun dd es hes => DR.set' hfr ha dd es hes); (case wev2 => (intro dd e he; simp [go_sem, storedEv, ev_store_bool, ev_store_int, ev_store_slice, ev_store_pointer, *] at he; subst he; exact evR_write _ _ hfr)); try walk_nrm)
  have hN' := World.cell?_setCell_same (w.alloc (.cells #[] 147)) ⟨N, 0, none⟩ (.bool true) ha
  repeat (first | (refine Walk.c rfl ?_) | (refine Walk.cReg ?_; simp only [List.size_toArray, List.length_cons, List.length_nil, Nat.reduceAdd, Nat.zero_add, List.range, List.range.loop]) | (refine Walk.cRet ?_) | (refine Walk.cEnd ?_) | (refine Walk.opq (ho_of (by conv => lhs; whnf) (by kernel_rfl)) (by rfl) (by decide) (fun dd e he => ?_) (fun dd K hK => ?_); (· (simp [go_sem, *] at he; try (subst he; exact evR_read _ _))); go_simp; refine hK _ ?_; clear hK K; try walk_nrm) | (refine Walk.ctl rfl (fun w => stepG_unwanted (ho_of (by conv => lhs; whnf) (by kernel_rfl)) (by rfl)) ?_; walk_nrm))
  refine Walk.ctl rfl (fun w => stepG_leaveRecovered rfl rfl Try.func87 (results_none rfl _ _ w) (events_results_none rfl _ _) rfl) ?_
  exact leave60 rfl rfl rfl rfl rfl rfl hN'
end Go.Proofs.Ytgiiicdpbdfemaa
end

/- The turnstile's state in company: whose a block is, what stands there, and who waits how. -/
section
namespace Go.Proofs.Ytgiiicdpbdfemaa
open Go.Conc Go.RowKit Go.Relay
open Go.ConcN (upd upd_ne upd_same)

/-- Whose a block is. -/
inductive Role where
  | tB
  | ss
  | ord
  | p (i : Nat)
  | t (i : Nat)
  | r (i : Nat)
  | nn (i : Nat)

/-- One run: the first thread's goroutine, how many threads, the turnstile's block, its list of stands, the stands and their channels, the threads. -/
structure Stile where
  g0 : Nat
  n : Nat
  B : Nat
  sb : Nat
  scap : Nat
  tb : Nat
  tcap : Nat
  most : Int
  p : Nat → Nat
  t : Nat → Nat
  r : Nat → Nat
  F : Nat → Value
  sa : Option Addr
  sc : Nat
  sl : List Int

/-- What turns: how many threads are hired; who has ended, and whether its end is noted; who is broken; ride's cell; the frames above ride's of a thread that stands at a step; whose a block is; the order. -/
structure Dyn where
  k : Nat
  e : Nat → Bool
  f : Nat → Bool
  b : Nat → Bool
  N : Nat → Nat
  cs : Nat → List Frame
  own : Nat → Option Role
  ord : List Nat
  oa : Option Addr
  oc : Nat
  gg : Nat

def going (n : Nat) (f : Nat → Bool) : Nat := (List.range n).countP (fun i => !f i)

def Good (S : Stile) (D : Dyn) : Role → Option Obj → Prop
  | .tB, o => ∃ arr ty fr, o = some (.cells arr ty fr) ∧ arr[0]? = some (.slice (some ⟨S.sb, 0, none⟩) S.n S.scap) ∧ arr[1]? = some (.int .i64 D.gg) ∧ arr[2]? = some (.int .i64 S.most) ∧ arr[3]? = some (.slice D.oa D.ord.length D.oc) ∧ ∀ i, i = 1 ∨ i = 3 → (decide (fr.1 ≤ i) && decide (i < fr.2)) = false
  | .ss, o => ∃ arr ty fr, o = some (.cells arr ty fr) ∧ ∀ i, i < S.n → arr[i]? = some (.pointer (some ⟨S.p i, 0, none⟩))
  | .ord, _ => True
  | .p i, o => o = some (.cells #[.chan (some (S.t i)), .chan (some (S.r i)), .bool (D.f i), .bool (D.b i)] 166)
  | .t i, o => D.e i = false → ∃ k, o = some (.chan 0 #[] false k k false)
  | .r i, o => D.e i = false → ∃ k, o = some (.chan 0 #[] false k k false)
  | .nn i, o => D.e i = false → o = some (.cells #[.bool false] 4)

def Place (S : Stile) (D : Dyn) : Role → Nat → Prop
  | .tB, b => b = S.B
  | .ss, b => b = S.sb
  | .ord, _ => True
  | .p i, b => i < S.n ∧ b = S.p i
  | .t i, b => i < S.n ∧ b = S.t i
  | .r i, b => i < S.n ∧ b = S.r i
  | .nn i, b => i < D.k ∧ b = D.N i

structure Sys (S : Stile) (n0 : Nat) (D : Dyn) (w : World) : Prop where
  good : ∀ b x, D.own b = some x → Good S D x (w.heap[b]?)
  lt : ∀ b x, D.own b = some x → n0 ≤ b ∧ b < w.heap.size
  ids : ∀ b x, D.own b = some x → Place S D x b
  oB : D.own S.B = some .tB
  oS : D.own S.sb = some .ss
  op : ∀ i, i < S.n → D.own (S.p i) = some (.p i)
  ot : ∀ i, i < S.n → D.own (S.t i) = some (.t i)
  or : ∀ i, i < S.n → D.own (S.r i) = some (.r i)
  oN : ∀ i, i < D.k → D.own (D.N i) = some (.nn i)
  oo : ∀ b, (Value.slice D.oa D.ord.length D.oc).ownBlock = some b → D.own b = some .ord
  row : w.ownsRow n0 3 1 (.slice D.oa D.ord.length D.oc) D.ord.length (D.ord.map fun i => .int .i64 (i : Nat))
  n64 : S.n ≤ 64
  kn : D.k ≤ S.n
  hg0 : 1 ≤ S.g0

section
variable {S : Stile} {n0 : Nat} {D D' : Dyn} {w w' : World}

theorem cell_of {w : World} {b : Nat} {arr : Array Value} {ty : TypeId} {fr : Nat × Nat} (h : w.heap[b]? = some (.cells arr ty fr)) (i : Nat) : w.cell? ⟨b, i, none⟩ = arr[i]? := by simp [World.cell?, h]
theorem frozen_of {w : World} {b : Nat} {arr : Array Value} {ty : TypeId} (h : w.heap[b]? = some (.cells arr ty (0, 0))) (i : Nat) : w.frozen? ⟨b, i, none⟩ = false := by simp [World.frozen?, h]

theorem Sys.tB (H : Sys S n0 D w) : w.cell? ⟨S.B, 0, none⟩ = some (.slice (some ⟨S.sb, 0, none⟩) S.n S.scap) ∧ w.cell? ⟨S.B, 1, none⟩ = some (.int .i64 D.gg) ∧ w.cell? ⟨S.B, 2, none⟩ = some (.int .i64 S.most) ∧
    w.cell? ⟨S.B, 3, none⟩ = some (.slice D.oa D.ord.length D.oc) ∧ w.frozen? ⟨S.B, 1, none⟩ = false ∧ w.frozen? ⟨S.B, 3, none⟩ = false := by
  obtain ⟨arr, ty, fr, h, h0, h1, h2, h3, hz⟩ := H.good _ _ H.oB
  exact ⟨(cell_of h 0).trans h0, (cell_of h 1).trans h1, (cell_of h 2).trans h2, (cell_of h 3).trans h3, by simp only [World.frozen?, h]; exact hz 1 (.inl rfl), by simp only [World.frozen?, h]; exact hz 3 (.inr rfl)⟩
theorem Sys.ss (H : Sys S n0 D w) {i : Nat} (hi : i < S.n) : w.cell? ⟨S.sb, i, none⟩ = some (.pointer (some ⟨S.p i, 0, none⟩)) := by
  obtain ⟨arr, ty, fr, h, h0⟩ := H.good _ _ H.oS
  exact (cell_of h i).trans (h0 i hi)
theorem Sys.pp (H : Sys S n0 D w) {i : Nat} (hi : i < S.n) : w.heap[S.p i]? = some (.cells #[.chan (some (S.t i)), .chan (some (S.r i)), .bool (D.f i), .bool (D.b i)] 166) := H.good _ _ (H.op i hi)
theorem Sys.p0 (H : Sys S n0 D w) {i : Nat} (hi : i < S.n) : w.cell? ⟨S.p i, 0, none⟩ = some (.chan (some (S.t i))) := (cell_of (H.pp hi) 0).trans rfl
theorem Sys.p1 (H : Sys S n0 D w) {i : Nat} (hi : i < S.n) : w.cell? ⟨S.p i, 1, none⟩ = some (.chan (some (S.r i))) := (cell_of (H.pp hi) 1).trans rfl
theorem Sys.p2 (H : Sys S n0 D w) {i : Nat} (hi : i < S.n) : w.cell? ⟨S.p i, 2, none⟩ = some (.bool (D.f i)) := (cell_of (H.pp hi) 2).trans rfl
theorem Sys.p3 (H : Sys S n0 D w) {i : Nat} (hi : i < S.n) : w.cell? ⟨S.p i, 3, none⟩ = some (.bool (D.b i)) := (cell_of (H.pp hi) 3).trans rfl
theorem Sys.pz (H : Sys S n0 D w) {i : Nat} (hi : i < S.n) (j : Nat) : w.frozen? ⟨S.p i, j, none⟩ = false := frozen_of (H.pp hi) j

/-- Two owned blocks of two roles are two. -/
theorem Sys.two (_ : Sys S n0 D w) {b b' : Nat} {x x' : Role} (h : D.own b = some x) (h' : D.own b' = some x') (hx : x ≠ x') : b ≠ b' := by
  rintro rfl
  rw [h] at h'
  exact hx (Option.some.inj h')

theorem row_same {w w' : World} {base : Nat} {e : TypeId} {size : Nat} {v : Value} {n : Nat} {xs : List Value} (h : w.ownsRow base e size v n xs) (hb : ∀ g, v.ownBlock = some g → w'.heap[g]? = w.heap[g]?) : w'.ownsRow base e size v n xs := by
  refine ⟨h.1, ?_⟩
  rcases h.2 with z | ⟨g, cap, cur, rfl, h1, h2, h3⟩
  · exact .inl z
  · exact .inr ⟨g, cap, cur, rfl, h1, (hb g rfl).trans h2, h3⟩

/-- The world turns, and with it what is told of it; whose the blocks are stands, and so does the order. -/
theorem Sys.put (H : Sys S n0 D w) (hown : D'.own = D.own) (hk : D'.k = D.k) (hN : D'.N = D.N) (ho : D'.ord = D.ord) (hoa : D'.oa = D.oa) (hoc : D'.oc = D.oc) (hs : w.heap.size ≤ w'.heap.size)
    (hg : ∀ b x, D.own b = some x → Good S D x (w.heap[b]?) → Good S D' x (w'.heap[b]?)) (hr : ∀ b, D.own b = some .ord → w'.heap[b]? = w.heap[b]?) : Sys S n0 D' w' := by
  refine ⟨fun b x hx => hg b x (hown ▸ hx) (H.good b x (hown ▸ hx)), fun b x hx => ?_, fun b x hx => ?_, hown ▸ H.oB, hown ▸ H.oS, fun i hi => hown ▸ H.op i hi, fun i hi => hown ▸ H.ot i hi, fun i hi => hown ▸ H.or i hi, fun i hi => ?_, fun b hb => ?_, ?_, H.n64, hk ▸ H.kn, H.hg0⟩
  · have := H.lt b x (hown ▸ hx); omega
  · have h := H.ids b x (hown ▸ hx)
    revert h
    cases x <;> simp only [Place, hk, hN, imp_self]
  · rw [hown, hN]; exact H.oN i (hk ▸ hi)
  · rw [hown]; rw [hoa, ho, hoc] at hb; exact H.oo b hb
  · rw [hoa, ho, hoc]
    exact row_same H.row fun g hg' => hr g (H.oo g hg')

/-- No owned block turns. -/
theorem Sys.same (H : Sys S n0 D w) (hs : w.heap.size ≤ w'.heap.size) (hb : ∀ b x, D.own b = some x → w'.heap[b]? = w.heap[b]?) : Sys S n0 D w' :=
  H.put rfl rfl rfl rfl rfl rfl hs (fun b x hx h => by rw [hb b x hx]; exact h) fun b hb' => hb b _ hb'

theorem Good.of_same {x : Role} {o : Option Obj} (h : Good S D x o) (hf : ∀ i, x = .p i → D'.f i = D.f i ∧ D'.b i = D.b i) (hB : x = .tB → D'.gg = D.gg ∧ D'.oa = D.oa ∧ D'.ord.length = D.ord.length ∧ D'.oc = D.oc) (he : ∀ i, x = .t i ∨ x = .r i ∨ x = .nn i → D'.e i = false → D.e i = false) : Good S D' x o := by
  cases x with
  | tB => obtain ⟨h1, h2, h3, h4⟩ := hB rfl; simpa only [Good, h1, h2, h3, h4] using h
  | ss => exact h
  | ord => trivial
  | p i => obtain ⟨h1, h2⟩ := hf i rfl; simpa only [Good, h1, h2] using h
  | t i => exact fun z => h (he i (.inl rfl) z)
  | r i => exact fun z => h (he i (.inr (.inl rfl)) z)
  | nn i => exact fun z => h (he i (.inr (.inr rfl)) z)

/-- A channel's count turns. -/
theorem Sys.chan (H : Sys S n0 D w) {c k k' : Nat} (hc : w.heap[c]? = some (.chan 0 #[] false k k false)) (hcr : ∃ i, D.own c = some (.t i) ∨ D.own c = some (.r i)) : Sys S n0 D (w.setChan c 0 #[] false k' k' false) := by
  have hsz : (w.setChan c 0 #[] false k' k' false).heap.size = w.heap.size := by simp [World.setChan]
  refine H.put rfl rfl rfl rfl rfl rfl (Nat.le_of_eq hsz.symm) (fun b x hx h => ?_) fun b hb => ?_
  · by_cases e : c = b
    · subst e
      rw [heap_setChan_self w hc]
      obtain ⟨i, z | z⟩ := hcr <;> (rw [hx] at z; cases z; exact fun _ => ⟨k', rfl⟩)
    · rw [heap_setChan_ne w _ _ _ _ _ _ e]; exact h
  · refine heap_setChan_ne w _ _ _ _ _ _ fun e => ?_
    subst e
    obtain ⟨i, z | z⟩ := hcr <;> (rw [hb] at z; cases z)

/-- The channel of a thread that has ended is closed. -/
theorem Sys.shut (H : Sys S n0 D w) {j c k : Nat} (he : D.e j = true) (hcr : D.own c = some (.t j) ∨ D.own c = some (.r j)) : Sys S n0 D (w.setChan c 0 #[] true k k false) := by
  have hsz : (w.setChan c 0 #[] true k k false).heap.size = w.heap.size := by simp [World.setChan]
  refine H.put rfl rfl rfl rfl rfl rfl (Nat.le_of_eq hsz.symm) (fun b x hx h => ?_) fun b hb => ?_
  · by_cases e : c = b
    · subst e
      rcases hcr with z | z <;> (rw [hx] at z; cases z; exact fun z => by rw [he] at z; cases z)
    · rw [heap_setChan_ne w _ _ _ _ _ _ e]; exact h
  · refine heap_setChan_ne w _ _ _ _ _ _ fun e => ?_
    subst e
    rcases hcr with z | z <;> (rw [hb] at z; cases z)

theorem Sys.at (H : Sys S n0 D w) (d : Nat) : Sys S n0 D (w.at d) := H.same (Nat.le_refl _) fun _ _ _ => rfl

theorem heap_set_other (w : World) (a : Addr) (k : Nat) (v : Value) (h : k ≠ a.block) : (w.setCell a v).heap[k]? = w.heap[k]? := by
  simp only [World.setCell]
  rw [Array.getElem?_modify, if_neg (Ne.symm h)]
theorem heap_set_self (w : World) {b i : Nat} {arr : Array Value} {ty : TypeId} {fr : Nat × Nat} (v : Value) (h : w.heap[b]? = some (.cells arr ty fr)) : (w.setCell ⟨b, i, none⟩ v).heap[b]? = some (.cells (arr.setIfInBounds i v) ty fr) := by
  simp only [World.setCell]
  rw [Array.getElem?_modify, if_pos rfl, h]
  rfl
theorem size_set (w : World) (a : Addr) (v : Value) : (w.setCell a v).heap.size = w.heap.size := by simp [World.setCell]
theorem heap_new_lt (w : World) (o : Obj) {b : Nat} (h : b < w.heap.size) : (w.alloc o).heap[b]? = w.heap[b]? := by
  simp only [World.alloc]
  rw [Array.getElem?_push, if_neg (by omega)]

/-- One more thread is hired: ride's cell is laid. -/
theorem Sys.hire (H : Sys S n0 D w) (hk : D.k < S.n) : Sys S n0 { D with k := D.k + 1, N := upd D.N D.k w.heap.size, own := upd D.own w.heap.size (some (.nn D.k)) } (w.alloc (.cells #[.bool false] 4)) := by
  have hsz : (w.alloc (.cells #[.bool false] 4)).heap.size = w.heap.size + 1 := by simp
  have hfresh : ∀ b x, D.own b = some x → b ≠ w.heap.size := fun b x hx => by have := (H.lt b x hx).2; omega
  have hold : ∀ b x, D.own b = some x → upd D.own w.heap.size (some (.nn D.k)) b = some x := fun b x hx => by rw [upd_ne _ _ (hfresh b x hx)]; exact hx
  have hnew : ∀ b x, upd D.own w.heap.size (some (.nn D.k)) b = some x → (b = w.heap.size ∧ x = .nn D.k) ∨ (b ≠ w.heap.size ∧ D.own b = some x) := fun b x hx => by
    by_cases e : b = w.heap.size
    · subst e; rw [upd_same] at hx; exact .inl ⟨rfl, (Option.some.inj hx).symm⟩
    · rw [upd_ne _ _ e] at hx; exact .inr ⟨e, hx⟩
  have hn0 : n0 ≤ w.heap.size := Nat.le_of_lt (Nat.lt_of_le_of_lt (H.lt _ _ H.oB).1 (H.lt _ _ H.oB).2)
  refine ⟨fun b x hx => ?_, fun b x hx => ?_, fun b x hx => ?_, hold _ _ H.oB, hold _ _ H.oS, fun i hi => hold _ _ (H.op i hi), fun i hi => hold _ _ (H.ot i hi), fun i hi => hold _ _ (H.or i hi), fun i hi => ?_, fun b e => hold _ _ (H.oo b e), row_same H.row fun g hg => heap_new_lt w _ (H.lt g _ (H.oo g hg)).2, H.n64, hk, H.hg0⟩
  · rcases hnew b x hx with ⟨rfl, rfl⟩ | ⟨hne, hx⟩
    · exact fun _ => heap_alloc_new w _
    · rw [heap_new_lt w _ (H.lt b x hx).2]
      have h := H.good b x hx
      cases x <;> exact h
  · rcases hnew b x hx with ⟨rfl, rfl⟩ | ⟨hne, hx⟩
    · omega
    · have := H.lt b x hx; omega
  · rcases hnew b x hx with ⟨rfl, rfl⟩ | ⟨hne, hx⟩
    · exact ⟨Nat.lt_succ_self _, (upd_same _ _ _).symm⟩
    · have h := H.ids b x hx
      cases x with
      | nn i =>
        have h1 : i < D.k := h.1
        exact ⟨Nat.lt_succ_of_lt h1, h.2.trans (upd_ne _ _ (by omega)).symm⟩
      | _ => exact h
  · by_cases e : i = D.k
    · subst e; simp only [upd_same]
    · simp only [upd_ne _ _ e]
      exact hold _ _ (H.oN i (by simp only at hi; omega))

theorem Sys.alloc (H : Sys S n0 D w) (o : Obj) : Sys S n0 D (w.alloc o) := H.same (by simp) fun b x hx => heap_new_lt w o (H.lt b x hx).2

/-- Whether it is broken is noted. -/
theorem Sys.brk (H : Sys S n0 D w) {j : Nat} (hj : j < S.n) (x : Bool) : Sys S n0 { D with b := upd D.b j x } (w.setCell ⟨S.p j, 3, none⟩ (.bool x)) := by
  refine H.put rfl rfl rfl rfl rfl rfl (Nat.le_of_eq (size_set ..).symm) (fun b y hy h => ?_) fun b hb => ?_
  · by_cases e : b = S.p j
    · subst e
      rw [H.op j hj] at hy
      cases hy
      rw [heap_set_self w _ (H.pp hj)]
      simp [Good, upd_same]
    · rw [heap_set_other w _ b _ e]
      refine h.of_same (fun i hi => ⟨rfl, upd_ne _ _ fun ei => e ?_⟩) (fun _ => ⟨rfl, rfl, rfl, rfl⟩) fun i _ z => z
      subst hi; subst ei; exact (H.ids b _ hy).2
  · exact heap_set_other w _ b _ (H.two hb (H.op j hj) (by simp))

/-- ride's cell is written: its thread is ending. -/
theorem Sys.ride (H : Sys S n0 D w) {j : Nat} (hj : j < D.k) (v : Value) : Sys S n0 { D with e := upd D.e j true } (w.setCell ⟨D.N j, 0, none⟩ v) := by
  refine H.put rfl rfl rfl rfl rfl rfl (Nat.le_of_eq (size_set ..).symm) (fun b y hy h => ?_) fun b hb => heap_set_other w _ b _ (H.two hb (H.oN j hj) (by simp))
  by_cases e : b = D.N j
  · subst e
    rw [H.oN j hj] at hy
    cases hy
    exact fun z => by simp only [upd_same] at z; cases z
  · rw [heap_set_other w _ b _ e]
    refine h.of_same (fun i _ => ⟨rfl, rfl⟩) (fun _ => ⟨rfl, rfl, rfl, rfl⟩) fun i _ z => ?_
    by_cases ei : i = j
    · subst ei; simp only [upd_same] at z; cases z
    · simpa only [upd_ne _ _ ei] using z
end
end Go.Proofs.Ytgiiicdpbdfemaa
end

/- The statement's side: the walk over a function whose regions are constants; Counter. -/
section
namespace Go.Proofs.Ytgiiicdpbdfemaa
open Go.Conc Go.RowKit Go.Relay
open Go.ConcN (upd upd_ne upd_same)

variable {main : Bool} {V : Nat → Option Wait}

/-- A world in which what has been called has left the old cells. -/
theorem slots_walk {P : Program} {D : World → World → Array Event → Prop} {Stop : Goroutine → World → Prop} {b : Frame} {A : Array Value} {todo : List Item} {cs : List Frame} {w : World} {F : (Nat → Value) → Goroutine} (h : ∀ u, Walk P main D Stop (F u) w) (e : G (b.at ⟨A, []⟩ todo) cs = F (fun k => A.getD k undef)) : Walk P main D Stop (G (b.at ⟨A, []⟩ todo) cs) w := e ▸ h _

section
variable {P : Program}
theorem eqIn_ptr (d : Nat) (t : TypeId) (q : Option Addr) (w : World) (es : Array Event) {e} (hu : P.underlying t = some (.pointer e)) : (Op.equalIn (d + 1) t (.pointer q) (.pointer none)).run P w = .ok q.isNone w ∧ (Op.equalIn (d + 1) t (.pointer q) (.pointer none)).events P w es = es := by
  cases q <;> simp [Op.equalIn, run_underlying hu]
theorem run_eql_ptr (t : TypeId) {e} (hu : P.underlying t = some (.pointer e)) (q : Option Addr) (w : World) : (binOp .eql t (.pointer q) (.pointer none)).run P w = .ok (.bool q.isNone) w := by
  simp only [binOp]
  simp [Op.equal, Op.maxDepth, (eqIn_ptr 9999 t q w #[] hu).1]
theorem ev_eql_ptr (t : TypeId) {e} (hu : P.underlying t = some (.pointer e)) (q : Option Addr) (w : World) (es : Array Event) : (binOp .eql t (.pointer q) (.pointer none)).events P w es = es := by
  simp only [binOp]
  simp [Op.equal, Op.maxDepth, (eqIn_ptr 9999 t q w #[] hu).1, (eqIn_ptr 9999 t q w es hu).2]
theorem run_neq_ptr (t : TypeId) {e} (hu : P.underlying t = some (.pointer e)) (q : Option Addr) (w : World) : (binOp .neq t (.pointer q) (.pointer none)).run P w = .ok (.bool !q.isNone) w := by
  simp only [binOp]
  simp [Op.equal, Op.maxDepth, (eqIn_ptr 9999 t q w #[] hu).1]
theorem ev_neq_ptr (t : TypeId) {e} (hu : P.underlying t = some (.pointer e)) (q : Option Addr) (w : World) (es : Array Event) : (binOp .neq t (.pointer q) (.pointer none)).events P w es = es := by
  simp only [binOp]
  simp [Op.equal, Op.maxDepth, (eqIn_ptr 9999 t q w #[] hu).1, (eqIn_ptr 9999 t q w es hu).2]
end
theorem und63 : Try.prog.underlying 63 = some (.pointer 145) := by kernel_rfl

noncomputable def reg28_0 : Array Oper := match Try.f28.body with | some (.seq (.region _ ops _) _) => ops | _ => #[]
theorem size28_0 : reg28_0.size = 1 := by kernel_rfl
noncomputable def reg28_1 : Array Oper := match Try.f28.body with | some (.seq _ (.seq (.region _ ops _) _)) => ops | _ => #[]
theorem size28_1 : reg28_1.size = 5 := by kernel_rfl
theorem code28_is : Try.f28.body = some (.seq (.region 0 reg28_0 false) (.seq (.region 1 reg28_1 false) (.ret))) := by kernel_rfl
noncomputable def reg29_0 : Array Oper := match Try.f29.body with | some (.seq (.region _ ops _) _) => ops | _ => #[]
theorem size29_0 : reg29_0.size = 1 := by kernel_rfl
noncomputable def reg29_1 : Array Oper := match Try.f29.body with | some (.seq _ (.seq (.seq (.region _ ops _) _) _)) => ops | _ => #[]
theorem size29_1 : reg29_1.size = 2 := by kernel_rfl
noncomputable def reg29_2 : Array Oper := match Try.f29.body with | some (.seq _ (.seq (.seq _ (.cond _ (.seq (.region _ ops _) _) _)) _)) => ops | _ => #[]
theorem size29_2 : reg29_2.size = 1 := by kernel_rfl
noncomputable def reg29_3 : Array Oper := match Try.f29.body with | some (.seq _ (.seq _ (.seq (.region _ ops _) _))) => ops | _ => #[]
theorem size29_3 : reg29_3.size = 5 := by kernel_rfl
theorem code29_is : Try.f29.body = some (.seq (.region 0 reg29_0 false) (.seq (.seq (.region 1 reg29_1 false) (.cond (.tmp 4 ) (.seq (.region 2 reg29_2 false) (.ret)) (.skip))) (.seq (.region 3 reg29_3 false) (.ret)))) := by kernel_rfl

set_option maxHeartbeats 8000000 in
set_option maxRecDepth 100000 in
theorem newCounter_w (m : Int) (w : World) : CallV Try.prog main V 28 #[.int .i64 m] w (.pointer (some ⟨w.heap.size, 0, none⟩)) (w.alloc (.cells #[.int .i64 (min (max m 0) 1048576), .int .i64 0] 145)) := by
  refine callW_in Try.func28 code28_is fun fr cs => ?_
  simp only [Try.ntmps28, List.size_toArray, List.length_cons, List.length_nil, Nat.reduceAdd, Nat.reduceSub, Array.replicate_succ, Array.replicate_zero, List.push_toArray, List.append_toArray, List.nil_append, List.cons_append]
  repeat (first | (refine Walk.c rfl ?_) | (refine Walk.cRet ?_) | (refine Walk.cEnd ?_) | (refine Walk.cReg ?_; simp only [size28_0, size28_1, List.range, List.range.loop]) | (refine Walk.opq (ho_of (by conv => lhs; whnf) (by kernel_rfl)) (by rfl) (by decide) (fun dd e he => ?_) (fun dd K hK => ?_); (· (simp [go_sem, *] at he; try (subst he; exact evR_read _ _))); go_simp; refine hK _ ?_; clear hK K; try walk_nrm) | (refine Walk.ctl rfl (fun w => stepG_unwanted (ho_of (by conv => lhs; whnf) (by kernel_rfl)) (by rfl)) ?_; walk_nrm))
  refine Walk.callV (x := .int .i64 (min (max m 0) 1048576)) (W := w) ?_ (ho_of (by conv => lhs; whnf) (by kernel_rfl)) (by rfl) (by decide) rfl Try.func62 (by kernel_rfl) (by rfl) ?_
  · walk_nrm
    exact clampMost_w m w
  walk_nrm
  repeat (first | (refine Walk.c rfl ?_) | (refine Walk.cRet ?_) | (refine Walk.cEnd ?_) | (refine Walk.cReg ?_; simp only [size28_0, size28_1, List.range, List.range.loop]) | (refine Walk.opq (ho_of (by conv => lhs; whnf) (by kernel_rfl)) (by rfl) (by decide) (fun dd e he => ?_) (fun dd K hK => ?_); (· (simp [go_sem, *] at he; try (subst he; exact evR_read _ _))); go_simp; refine hK _ ?_; clear hK K; try walk_nrm) | (refine Walk.ctl rfl (fun w => stepG_unwanted (ho_of (by conv => lhs; whnf) (by kernel_rfl)) (by rfl)) ?_; walk_nrm))
  (co_applyP Walk.opw (ho_of (by conv => lhs; whnf) (by kernel_rfl)) (by rfl) (by decide) ?wev1 ?wdr1 ?wrun1; (case' wrun1 => (intro dd K hK; go_simp; simp only [alloc_at', setCell_at']; refine hK _ ?wmore1; clear hK K)); (case wdr1 => exact fun dd es hes => DR.alloc' dd es hes); (case wev1 => (intro dd e he; simp [go_sem, *] at he)); try walk_nrm)
  repeat (first | (refine Walk.c rfl ?_) | (refine Walk.cRet ?_) | (refine Walk.cEnd ?_) | (refine Walk.cReg ?_; simp only [size28_0, size28_1, List.range, List.range.loop]) | (refine Walk.opq (ho_of (by conv => lhs; whnf) (by kernel_rfl)) (by rfl) (by decide) (fun dd e he => ?_) (fun dd K hK => ?_); (· (simp [go_sem, *] at he; try (subst he; exact evR_read _ _))); go_simp; refine hK _ ?_; clear hK K; try walk_nrm) | (refine Walk.ctl rfl (fun w => stepG_unwanted (ho_of (by conv => lhs; whnf) (by kernel_rfl)) (by rfl)) ?_; walk_nrm))
  exact Walk.ret1 rfl rfl Try.func28 rfl fun d => ⟨rfl, d, rfl⟩

set_option maxHeartbeats 8000000 in
set_option maxRecDepth 100000 in
theorem steps_w (c : Nat) (n : Int) (w : World) (h : w.cell? ⟨c, 1, none⟩ = some (.int .i64 n)) : CallV Try.prog main V 29 #[.pointer (some ⟨c, 0, none⟩)] w (.int .i64 n) w := by
  have q1 := run_eql_ptr 63 und63
  have q2 := ev_eql_ptr 63 und63
  refine callW_in Try.func29 code29_is fun fr cs => ?_
  simp only [Try.ntmps29, List.size_toArray, List.length_cons, List.length_nil, Nat.reduceAdd, Nat.reduceSub, Array.replicate_succ, Array.replicate_zero, List.push_toArray, List.append_toArray, List.nil_append, List.cons_append]
  repeat (first | (refine Walk.c rfl ?_) | (refine Walk.cRet ?_) | (refine Walk.cEnd ?_) | (refine Walk.cReg ?_; simp only [size29_0, size29_1, size29_2, size29_3, List.range, List.range.loop]) | (refine Walk.opq (ho_of (by conv => lhs; whnf) (by kernel_rfl)) (by rfl) (by decide) (fun dd e he => ?_) (fun dd K hK => ?_); (· (simp [go_sem, *] at he; try (subst he; exact evR_read _ _))); go_simp; refine hK _ ?_; clear hK K; try walk_nrm) | (refine Walk.ctl rfl (fun w => stepG_unwanted (ho_of (by conv => lhs; whnf) (by kernel_rfl)) (by rfl)) ?_; walk_nrm))
  refine Walk.callV (x := .int .i64 n) (W := w) ?_ (ho_of (by conv => lhs; whnf) (by kernel_rfl)) (by rfl) (by decide) rfl Try.func63 (by kernel_rfl) (by rfl) ?_
  · walk_nrm
    exact load63 _ _ w h
  walk_nrm
  repeat (first | (refine Walk.c rfl ?_) | (refine Walk.cRet ?_) | (refine Walk.cEnd ?_) | (refine Walk.cReg ?_; simp only [size29_0, size29_1, size29_2, size29_3, List.range, List.range.loop]) | (refine Walk.opq (ho_of (by conv => lhs; whnf) (by kernel_rfl)) (by rfl) (by decide) (fun dd e he => ?_) (fun dd K hK => ?_); (· (simp [go_sem, *] at he; try (subst he; exact evR_read _ _))); go_simp; refine hK _ ?_; clear hK K; try walk_nrm) | (refine Walk.ctl rfl (fun w => stepG_unwanted (ho_of (by conv => lhs; whnf) (by kernel_rfl)) (by rfl)) ?_; walk_nrm))
  exact Walk.ret1 rfl rfl Try.func29 rfl fun d => ⟨rfl, d, rfl⟩

set_option maxHeartbeats 8000000 in
set_option maxRecDepth 100000 in
theorem steps_nil (w : World) : CallV Try.prog main V 29 #[.pointer none] w (.int .i64 0) w := by
  have q1 := run_eql_ptr 63 und63
  have q2 := ev_eql_ptr 63 und63
  refine callW_in Try.func29 code29_is fun fr cs => ?_
  simp only [Try.ntmps29, List.size_toArray, List.length_cons, List.length_nil, Nat.reduceAdd, Nat.reduceSub, Array.replicate_succ, Array.replicate_zero, List.push_toArray, List.append_toArray, List.nil_append, List.cons_append]
  repeat (first | (refine Walk.c rfl ?_) | (refine Walk.cRet ?_) | (refine Walk.cEnd ?_) | (refine Walk.cReg ?_; simp only [size29_0, size29_1, size29_2, size29_3, List.range, List.range.loop]) | (refine Walk.opq (ho_of (by conv => lhs; whnf) (by kernel_rfl)) (by rfl) (by decide) (fun dd e he => ?_) (fun dd K hK => ?_); (· (simp [go_sem, *] at he; try (subst he; exact evR_read _ _))); go_simp; refine hK _ ?_; clear hK K; try walk_nrm) | (refine Walk.ctl rfl (fun w => stepG_unwanted (ho_of (by conv => lhs; whnf) (by kernel_rfl)) (by rfl)) ?_; walk_nrm))
  exact Walk.ret1 rfl rfl Try.func29 rfl fun d => ⟨rfl, d, rfl⟩
end Go.Proofs.Ytgiiicdpbdfemaa
end
