/- Part 3. -/
import Derived.Test.YtgiiicdpbdfemaaC2
import Derived.Test.YtgiiicdpbdfemaaProg
import Derived.Laws.Build
import Derived.KernelRfl
import Derived.Handy
import Derived.Conc.EventLaws2
set_option linter.unusedSimpArgs false
/- Package turn's ride, in company: into the thread, and behind it. -/
section
namespace Go.Proofs.Ytgiiicdpbdfemaa
open Go.Conc Go.RowKit Go.Relay

variable {main : Bool} {V : Nat → Option Wait}

/-- ride's deferred call. -/
def def60 (N : Nat) : Deferred := { target := .fn (.func 87) #[.pointer (some ⟨N, 0, none⟩)], args := #[] }
noncomputable def todo60 : Option (Array Oper × Code) := match Try.f60.body with | some (.seq _ (.seq _ (.seq (.seq _ (.cond _ (.region _ ops _) _)) c))) => some (ops, c) | _ => none
noncomputable def ops60 : Array Oper := (todo60.getD (#[], .skip)).1
noncomputable def rest60 : Code := (todo60.getD (#[], .skip)).2
/-- ride's frame while it is in the thread. -/
noncomputable def fr60 (N : Nat) (F S : Value) : Frame :=
  (base 60).at { tmps := #[F, S, undef, undef, .bool false, .pointer (some ⟨N, 0, none⟩), .func (.func 87) #[] #[.pointer (some ⟨N, 0, none⟩)], F, .bool true, F, S, undef], defers := [def60 N] } [.inRegion ops60 [2], .code rest60]

set_option maxHeartbeats 8000000 in
set_option maxRecDepth 100000 in
theorem ride_in {Stop : Goroutine → World → Prop} (f : FuncId) (fn : Func) (first cap : Array Value) (S : Value) (cs : List Frame) (w : World) (hf : Try.prog.funcs[f]? = some fn) (hname : (fn.name == "runtime.NumGoroutine") = false) (hb : fn.body.isNone = false)
    (hk : Walk Try.prog main (DR V) Stop (G (Frame.enter Try.prog f (first ++ #[S] ++ cap) .normal) (fr60 w.heap.size (.func (.func f) first cap) S :: cs)) (w.alloc (.cells #[.bool false] 4))) :
    Walk Try.prog main (DR V) Stop (G (Frame.enter Try.prog 60 #[.func (.func f) first cap, S] .normal) cs) w := by
  simp only [fr60, ops60, rest60, todo60, Try.f60, Option.getD_some] at hk
  rw [enter_at _ Try.func60 rfl]
  simp only [Try.f60, List.size_toArray, List.length_cons, List.length_nil, Nat.reduceAdd, Nat.reduceSub, Array.replicate_succ, Array.replicate_zero, List.push_toArray, List.append_toArray, List.nil_append, List.cons_append]
  have hn1 := fun w => run_neq_func (P := Try.prog) (w := w) 67 (.func f) first cap (by kernel_rfl : Try.prog.underlying 67 = some (.func #[115] #[] false))
  have hn2 := fun w es => ev_neq_func (P := Try.prog) (w := w) 67 (.func f) first cap es (by kernel_rfl : Try.prog.underlying 67 = some (.func #[115] #[] false))
  repeat (first | (refine Walk.c rfl ?_) | (refine Walk.cReg ?_; simp only [List.size_toArray, List.length_cons, List.length_nil, Nat.reduceAdd, Nat.zero_add, List.range, List.range.loop]) | (refine Walk.cRet ?_) | (refine Walk.cEnd ?_) | (refine Walk.opq (ho_of (by conv => lhs; whnf) (by kernel_rfl)) (by rfl) (by decide) (fun dd e he => ?_) (fun dd K hK => ?_); (· (simp [go_sem, *] at he; try (subst he; exact evR_read _ _))); go_simp; refine hK _ ?_; clear hK K; try walk_nrm) | (refine Walk.ctl rfl (fun w => stepG_unwanted (ho_of (by conv => lhs; whnf) (by kernel_rfl)) (by rfl)) ?_; walk_nrm))
  (co_applyP Walk.opw (ho_of (by conv => lhs; whnf) (by kernel_rfl)) (by rfl) (by decide) ?wev1 ?wdr1 ?wrun1; (case' wrun1 => (intro dd K hK; go_simp; simp only [alloc_at', setCell_at']; refine hK _ ?wmore1; clear hK K)); (case wdr1 => exact fun dd es hes => DR.alloc' dd es hes); (case wev1 => (intro dd e he; simp [go_sem, *] at he)); try walk_nrm)
  repeat (first | (refine Walk.c rfl ?_) | (refine Walk.cReg ?_; simp only [List.size_toArray, List.length_cons, List.length_nil, Nat.reduceAdd, Nat.zero_add, List.range, List.range.loop]) | (refine Walk.cRet ?_) | (refine Walk.cEnd ?_) | (refine Walk.opq (ho_of (by conv => lhs; whnf) (by kernel_rfl)) (by rfl) (by decide) (fun dd e he => ?_) (fun dd K hK => ?_); (· (simp [go_sem, *] at he; try (subst he; exact evR_read _ _))); go_simp; refine hK _ ?_; clear hK K; try walk_nrm) | (refine Walk.ctl rfl (fun w => stepG_unwanted (ho_of (by conv => lhs; whnf) (by kernel_rfl)) (by rfl)) ?_; walk_nrm))
  refine Walk.ctl rfl (fun w' => stepG_deferOp (d := def60 w.heap.size) rfl (by rfl) (by decide) (by simp [go_sem, execOp, Deferred.ofValue, def60]) (by simp [go_sem, execOp, Deferred.ofValue])) ?_
  walk_nrm
  repeat (first | (refine Walk.c rfl ?_) | (refine Walk.cReg ?_; simp only [List.size_toArray, List.length_cons, List.length_nil, Nat.reduceAdd, Nat.zero_add, List.range, List.range.loop]) | (refine Walk.cRet ?_) | (refine Walk.cEnd ?_) | (refine Walk.opq (ho_of (by conv => lhs; whnf) (by kernel_rfl)) (by rfl) (by decide) (fun dd e he => ?_) (fun dd K hK => ?_); (· (simp [go_sem, *] at he; try (subst he; exact evR_read _ _))); go_simp; refine hK _ ?_; clear hK K; try walk_nrm) | (refine Walk.ctl rfl (fun w => stepG_unwanted (ho_of (by conv => lhs; whnf) (by kernel_rfl)) (by rfl)) ?_; walk_nrm))
  refine Walk.ctl rfl (fun w' => stepG_callValue rfl (by rfl) (by decide) rfl rfl hf hname hb) ?_
  walk_nrm
  exact hk
end Go.Proofs.Ytgiiicdpbdfemaa
end

/- Package turn's ride, in company: what is done behind the thread, whether it has come back, was ended or was broken. -/
section
namespace Go.Proofs.Ytgiiicdpbdfemaa
open Go.Conc Go.RowKit Go.Relay

variable {main : Bool} {V : Nat → Option Wait}

theorem und20 : ∃ ms, Try.prog.underlying 20 = some (.interface ms) := ⟨#[], by kernel_rfl⟩

/-- The results of ride: one lies in a temporary, one in a cell. -/
theorem results60 (tmps : Array Value) (N : Nat) (x y : Bool) (w : World) (h4 : tmps.getD 4 undef = .bool x) (h5 : tmps.getD 5 undef = .pointer (some ⟨N, 0, none⟩)) (hN : w.cell? ⟨N, 0, none⟩ = some (.bool y)) :
    (results Try.f60 tmps).run Try.prog w = .ok (.tuple #[.bool x, .bool y]) w ∧ ∀ e ∈ (results Try.f60 tmps).events Try.prog w #[], EvR V e := by
  simp only [Array.getD_eq_getD_getElem?] at h4 h5
  constructor
  · simp only [results, Try.f60]
    simp [h4, h5, go_sem, hN, asAddr, loadVar]
  · intro e he
    simp only [results, Try.f60] at he
    simp [h4, h5, go_sem, hN, asAddr, loadVar] at he
    subst he
    exact evR_read _ _

theorem leave60 {fr : Frame} {c : Frame} {cs : List Frame} {N : Nat} {x y : Bool} {w : World} (hf : fr.fn = 60) (hm : fr.mode = .returning) (hn : fr.kind = .normal) (hd : fr.defers = []) (h4 : fr.tmps.getD 4 undef = .bool x) (h5 : fr.tmps.getD 5 undef = .pointer (some ⟨N, 0, none⟩)) (hN : w.cell? ⟨N, 0, none⟩ = some (.bool y)) :
    Walk Try.prog main (DR V) (fun g w' => g = G (c.finish (.tuple #[.bool x, .bool y])) cs ∧ ∃ d, w' = w.at d) (G fr (c :: cs)) w :=
  Walk.evs (fun d => seen Try.prog fr.fn ((results Try.f60 fr.tmps).events Try.prog (w.at d) #[])) rfl (fun d => stepG_leaveF hm hn hd (by rw [hf]; exact Try.func60) (results60 (V := V) fr.tmps N x y (w.at d) h4 h5 hN).1)
    (fun d e he => (results60 (V := V) fr.tmps N x y (w.at d) h4 h5 hN).2 e (mem_seen he)) (.stop fun d => ⟨rfl, d, rfl⟩)

set_option maxHeartbeats 8000000 in
set_option maxRecDepth 100000 in
theorem ride_done (N : Nat) (F S : Value) (c : Frame) (cs : List Frame) (w : World) (x : Bool) (hN : w.cell? ⟨N, 0, none⟩ = some (.bool x)) (hz : w.frozen? ⟨N, 0, none⟩ = false) (hfr : Free V ⟨N, 0, none⟩) :
    Walk Try.prog main (DR V) (fun g w' => g = G (c.finish (.tuple #[.bool true, .bool false])) cs ∧ ∃ d, w' = (w.setCell ⟨N, 0, none⟩ (.bool false)).at d) (G ((fr60 N F S).finish (.tuple #[])) (c :: cs)) w := by
  obtain ⟨ms, h20⟩ := und20
  have hn1 := fun w => run_neq_nilIface (P := Try.prog) (w := w) 20 h20
  have hn2 := fun w es => ev_neq_nilIface (P := Try.prog) (w := w) 20 es h20
  unfold fr60
  rw [Frame.finish_at]
  simp only [ops60, rest60, todo60, Try.f60, Option.getD_some]
  walk_nrm
  repeat (first | (refine Walk.c rfl ?_) | (refine Walk.cReg ?_; simp only [List.size_toArray, List.length_cons, List.length_nil, Nat.reduceAdd, Nat.zero_add, List.range, List.range.loop]) | (refine Walk.cRet ?_) | (refine Walk.cEnd ?_) | (refine Walk.opq (ho_of (by conv => lhs; whnf) (by kernel_rfl)) (by rfl) (by decide) (fun dd e he => ?_) (fun dd K hK => ?_); (· (simp [go_sem, *] at he; try (subst he; exact evR_read _ _))); go_simp; refine hK _ ?_; clear hK K; try walk_nrm) | (refine Walk.ctl rfl (fun w => stepG_unwanted (ho_of (by conv => lhs; whnf) (by kernel_rfl)) (by rfl)) ?_; walk_nrm))
  (co_applyP Walk.opw (ho_of (by conv => lhs; whnf) (by kernel_rfl)) (by rfl) (by decide) ?wev2 ?wdr2 ?wrun2; (case' wrun2 => (intro dd K hK; go_simp; simp only [alloc_at', setCell_at']; refine hK _ ?wmore2; clear hK K)); (case wdr2 => exact fun dd es hes => DR.set' hfr hN dd es hes); (case wev2 => (intro dd e he; simp [go_sem, storedEv, ev_store_bool, ev_store_int, ev_store_slice, ev_store_pointer, *] at he; subst he; exact evR_write _ _ hfr)); try walk_nrm)
  repeat (first | (refine Walk.c rfl ?_) | (refine Walk.cReg ?_; simp only [List.size_toArray, List.length_cons, List.length_nil, Nat.reduceAdd, Nat.zero_add, List.range, List.range.loop]) | (refine Walk.cRet ?_) | (refine Walk.cEnd ?_) | (refine Walk.opq (ho_of (by conv => lhs; whnf) (by kernel_rfl)) (by rfl) (by decide) (fun dd e he => ?_) (fun dd K hK => ?_); (· (simp [go_sem, *] at he; try (subst he; exact evR_read _ _))); go_simp; refine hK _ ?_; clear hK K; try walk_nrm) | (refine Walk.ctl rfl (fun w => stepG_unwanted (ho_of (by conv => lhs; whnf) (by kernel_rfl)) (by rfl)) ?_; walk_nrm))
  have hN' := World.cell?_setCell_same w ⟨N, 0, none⟩ (.bool false) hN
  refine Walk.ctl rfl (fun w => stepG_deferred (d := def60 N) (ds := []) (by simp [Frame.at]) rfl rfl Try.func87 (by kernel_rfl) (by rfl)) ?_
  simp only [def60, List.append_toArray, List.nil_append]
  rw [enter_atD _ Try.func87 rfl]
  simp only [Try.f87, List.size_toArray, List.length_cons, List.length_nil, Nat.reduceAdd, Nat.reduceSub, Array.replicate_succ, Array.replicate_zero, List.push_toArray, List.append_toArray, List.nil_append, List.cons_append]
  repeat (first | (refine Walk.c rfl ?_) | (refine Walk.cReg ?_; simp only [List.size_toArray, List.length_cons, List.length_nil, Nat.reduceAdd, Nat.zero_add, List.range, List.range.loop]) | (refine Walk.cRet ?_) | (refine Walk.cEnd ?_) | (refine Walk.opq (ho_of (by conv => lhs; whnf) (by kernel_rfl)) (by rfl) (by decide) (fun dd e he => ?_) (fun dd K hK => ?_); (· (simp [go_sem, *] at he; try (subst he; exact evR_read _ _))); go_simp; refine hK _ ?_; clear hK K; try walk_nrm) | (refine Walk.ctl rfl (fun w => stepG_unwanted (ho_of (by conv => lhs; whnf) (by kernel_rfl)) (by rfl)) ?_; walk_nrm))
  refine Walk.ctl rfl (fun w => stepG_recoverNone rfl (by rfl) rfl rfl rfl) ?_
  walk_nrm
  repeat (first | (refine Walk.c rfl ?_) | (refine Walk.cReg ?_; simp only [List.size_toArray, List.length_cons, List.length_nil, Nat.reduceAdd, Nat.zero_add, List.range, List.range.loop]) | (refine Walk.cRet ?_) | (refine Walk.cEnd ?_) | (refine Walk.opq (ho_of (by conv => lhs; whnf) (by kernel_rfl)) (by rfl) (by decide) (fun dd e he => ?_) (fun dd K hK => ?_); (· (simp [go_sem, *] at he; try (subst he; exact evR_read _ _))); go_simp; refine hK _ ?_; clear hK K; try walk_nrm) | (refine Walk.ctl rfl (fun w => stepG_unwanted (ho_of (by conv => lhs; whnf) (by kernel_rfl)) (by rfl)) ?_; walk_nrm))
  refine Walk.ctl rfl (fun w => stepG_leaveReturning rfl rfl Try.func87 (results_none rfl _ _ w) (events_results_none rfl _ _) rfl) ?_
  exact leave60 rfl rfl rfl rfl rfl rfl hN'

set_option maxHeartbeats 8000000 in
set_option maxRecDepth 100000 in
theorem ride_stopped (N : Nat) (F S : Value) (c : Frame) (cs : List Frame) (w : World) (x : Bool) (hN : w.cell? ⟨N, 0, none⟩ = some (.bool x)) (hz : w.frozen? ⟨N, 0, none⟩ = false) (hfr : Free V ⟨N, 0, none⟩) :
    Walk Try.prog main (DR V) (fun g w' => g = G (c.finish (.tuple #[.bool false, .bool false])) cs ∧ ∃ d, w' = ((w.alloc (.cells #[] 147)).setCell ⟨N, 0, none⟩ (.bool false)).at d) (G ((fr60 N F S).raise [{ v := .iface 147 (.agg #[]), recovered := false }]) (c :: cs)) w := by
  obtain ⟨ms, h20⟩ := und20
  have hn1 := fun w => run_neq_iface (P := Try.prog) (w := w) 20 147 (.agg #[]) h20
  have hn2 := fun w es => ev_neq_iface (P := Try.prog) (w := w) 20 147 (.agg #[]) es h20
  unfold fr60
  rw [Frame.raise_at]
  simp only [ops60, rest60, todo60, Try.f60, Option.getD_some]
  refine Walk.ctl rfl (fun w => stepG_deferred (d := def60 N) (ds := []) (by simp [Frame.at]) rfl rfl Try.func87 (by kernel_rfl) (by rfl)) ?_
  simp only [def60, List.append_toArray, List.nil_append]
  rw [enter_atD _ Try.func87 rfl]
  simp only [Try.f87, List.size_toArray, List.length_cons, List.length_nil, Nat.reduceAdd, Nat.reduceSub, Array.replicate_succ, Array.replicate_zero, List.push_toArray, List.append_toArray, List.nil_append, List.cons_append]
  repeat (first | (refine Walk.c rfl ?_) | (refine Walk.cReg ?_; simp only [List.size_toArray, List.length_cons, List.length_nil, Nat.reduceAdd, Nat.zero_add, List.range, List.range.loop]) | (refine Walk.cRet ?_) | (refine Walk.cEnd ?_) | (refine Walk.opq (ho_of (by conv => lhs; whnf) (by kernel_rfl)) (by rfl) (by decide) (fun dd e he => ?_) (fun dd K hK => ?_); (· (simp [go_sem, *] at he; try (subst he; exact evR_read _ _))); go_simp; refine hK _ ?_; clear hK K; try walk_nrm) | (refine Walk.ctl rfl (fun w => stepG_unwanted (ho_of (by conv => lhs; whnf) (by kernel_rfl)) (by rfl)) ?_; walk_nrm))
  refine Walk.ctl rfl (fun w => stepG_recover rfl (by rfl) rfl rfl rfl) ?_
  walk_nrm
  have h147 := fun w => run_assert_same (P := Try.prog) (w := w) 147 20 (.agg #[]) (u := .struct #[]) (by kernel_rfl) (fun _ h => by cases h)
  have e147 := fun w es => ev_assert_same (P := Try.prog) (w := w) 147 20 (.agg #[]) es (u := .struct #[]) (by kernel_rfl) (fun _ h => by cases h)
  repeat (first | (refine Walk.c rfl ?_) | (refine Walk.cReg ?_; simp only [List.size_toArray, List.length_cons, List.length_nil, Nat.reduceAdd, Nat.zero_add, List.range, List.range.loop]) | (refine Walk.cRet ?_) | (refine Walk.cEnd ?_) | (refine Walk.opq (ho_of (by conv => lhs; whnf) (by kernel_rfl)) (by rfl) (by decide) (fun dd e he => ?_) (fun dd K hK => ?_); (· (simp [go_sem, *] at he; try (subst he; exact evR_read _ _))); go_simp; refine hK _ ?_; clear hK K; try walk_nrm) | (refine Walk.ctl rfl (fun w => stepG_unwanted (ho_of (by conv => lhs; whnf) (by kernel_rfl)) (by rfl)) ?_; walk_nrm))
  (co_applyP Walk.opw (ho_of (by conv => lhs; whnf) (by kernel_rfl)) (by rfl) (by decide) ?wev1 ?wdr1 ?wrun1; (case' wrun1 => (intro dd K hK; go_simp; simp only [alloc_at', setCell_at']; refine hK _ ?wmore1; clear hK K)); (case wdr1 => exact fun dd es hes => DR.alloc' dd es hes); (case wev1 => (intro dd e he; simp [go_sem, *] at he)); try walk_nrm)
  have ha := cell_alloc w (.cells #[] 147) hN
  have haz := frozen_alloc w (.cells #[] 147) hN hz
  repeat (first | (refine Walk.c rfl ?_) | (refine Walk.cReg ?_; simp only [List.size_toArray, List.length_cons, List.length_nil, Nat.reduceAdd, Nat.zero_add, List.range, List.range.loop]) | (refine Walk.cRet ?_) | (refine Walk.cEnd ?_) | (refine Walk.opq (ho_of (by conv => lhs; whnf) (by kernel_rfl)) (by rfl) (by decide) (fun dd e he => ?_) (fun dd K hK => ?_); (· (simp [go_sem, *] at he; try (subst he; exact evR_read _ _))); go_simp; refine hK _ ?_; clear hK K; try walk_nrm) | (refine Walk.ctl rfl (fun w => stepG_unwanted (ho_of (by conv => lhs; whnf) (by kernel_rfl)) (by rfl)) ?_; walk_nrm))
  (co_applyP Walk.opw (ho_of (by conv => lhs; whnf) (by kernel_rfl)) (by rfl) (by decide) ?wev3 ?wdr3 ?wrun3; (case' wrun3 => (intro dd K hK; go_simp; simp only [alloc_at', setCell_at']; refine hK _ ?wmore3; clear hK K)); (case wdr3 => exact fun dd es hes => DR.set' hfr ha dd es hes); (case wev3 => (intro dd e he; simp [go_sem, storedEv, ev_store_bool, ev_store_int, ev_store_slice, ev_store_pointer, *] at he; subst he; exact evR_write _ _ hfr)); try walk_nrm)
  have hN' := World.cell?_setCell_same (w.alloc (.cells #[] 147)) ⟨N, 0, none⟩ (.bool false) ha
  repeat (first | (refine Walk.c rfl ?_) | (refine Walk.cReg ?_; simp only [List.size_toArray, List.length_cons, List.length_nil, Nat.reduceAdd, Nat.zero_add, List.range, List.range.loop]) | (refine Walk.cRet ?_) | (refine Walk.cEnd ?_) | (refine Walk.opq (ho_of (by conv => lhs; whnf) (by kernel_rfl)) (by rfl) (by decide) (fun dd e he => ?_) (fun dd K hK => ?_); (· (simp [go_sem, *] at he; try (subst he; exact evR_read _ _))); go_simp; refine hK _ ?_; clear hK K; try walk_nrm) | (refine Walk.ctl rfl (fun w => stepG_unwanted (ho_of (by conv => lhs; whnf) (by kernel_rfl)) (by rfl)) ?_; walk_nrm))
  refine Walk.ctl rfl (fun w => stepG_leaveRecovered rfl rfl Try.func87 (results_none rfl _ _ w) (events_results_none rfl _ _) rfl) ?_
  exact leave60 rfl rfl rfl rfl rfl rfl hN'
end Go.Proofs.Ytgiiicdpbdfemaa
end

/- Package turn's ride, in company: a thread that panics with a value that is not the turnstile's own is broken. -/
section
namespace Go.Proofs.Ytgiiicdpbdfemaa
open Go.Conc Go.RowKit Go.Relay

variable {main : Bool} {V : Nat → Option Wait}

set_option maxHeartbeats 8000000 in
set_option maxRecDepth 100000 in
theorem ride_broke (N : Nat) (F S : Value) (t : TypeId) (v : Value) (ht : t ≠ 147) (c : Frame) (cs : List Frame) (w : World) (x : Bool) (hN : w.cell? ⟨N, 0, none⟩ = some (.bool x)) (hz : w.frozen? ⟨N, 0, none⟩ = false) (hfr : Free V ⟨N, 0, none⟩) :
    Walk Try.prog main (DR V) (fun g w' => g = G (c.finish (.tuple #[.bool false, .bool true])) cs ∧ ∃ d, w' = ((w.alloc (.cells #[] 147)).setCell ⟨N, 0, none⟩ (.bool true)).at d) (G ((fr60 N F S).raise [{ v := .iface t v, recovered := false }]) (c :: cs)) w := by
  obtain ⟨ms, h20⟩ := und20
  have hn1 := fun w => run_neq_iface (P := Try.prog) (w := w) 20 t v h20
  have hn2 := fun w es => ev_neq_iface (P := Try.prog) (w := w) 20 t v es h20
  unfold fr60
  rw [Frame.raise_at]
  simp only [ops60, rest60, todo60, Try.f60, Option.getD_some]
  refine Walk.ctl rfl (fun w => stepG_deferred (d := def60 N) (ds := []) (by simp [Frame.at]) rfl rfl Try.func87 (by kernel_rfl) (by rfl)) ?_
  simp only [def60, List.append_toArray, List.nil_append]
  rw [enter_atD _ Try.func87 rfl]
  simp only [Try.f87, List.size_toArray, List.length_cons, List.length_nil, Nat.reduceAdd, Nat.reduceSub, Array.replicate_succ, Array.replicate_zero, List.push_toArray, List.append_toArray, List.nil_append, List.cons_append]
  repeat (first | (refine Walk.c rfl ?_) | (refine Walk.cReg ?_; simp only [List.size_toArray, List.length_cons, List.length_nil, Nat.reduceAdd, Nat.zero_add, List.range, List.range.loop]) | (refine Walk.cRet ?_) | (refine Walk.cEnd ?_) | (refine Walk.opq (ho_of (by conv => lhs; whnf) (by kernel_rfl)) (by rfl) (by decide) (fun dd e he => ?_) (fun dd K hK => ?_); (· (simp [go_sem, *] at he; try (subst he; exact evR_read _ _))); go_simp; refine hK _ ?_; clear hK K; try walk_nrm) | (refine Walk.ctl rfl (fun w => stepG_unwanted (ho_of (by conv => lhs; whnf) (by kernel_rfl)) (by rfl)) ?_; walk_nrm))
  refine Walk.ctl rfl (fun w => stepG_recover rfl (by rfl) rfl rfl rfl) ?_
  walk_nrm
  have h147 := fun w => run_assert_other (P := Try.prog) (w := w) 147 t 20 v (.agg #[]) (u := .struct #[]) (by kernel_rfl) (fun _ h => by cases h) ht (by kernel_rfl)
  have e147 := fun w es => ev_assert_other (P := Try.prog) (w := w) 147 t 20 v es (u := .struct #[]) (by kernel_rfl) (fun _ h => by cases h) ht (by kernel_rfl)
  repeat (first | (refine Walk.c rfl ?_) | (refine Walk.cReg ?_; simp only [List.size_toArray, List.length_cons, List.length_nil, Nat.reduceAdd, Nat.zero_add, List.range, List.range.loop]) | (refine Walk.cRet ?_) | (refine Walk.cEnd ?_) | (refine Walk.opq (ho_of (by conv => lhs; whnf) (by kernel_rfl)) (by rfl) (by decide) (fun dd e he => ?_) (fun dd K hK => ?_); (· (simp [go_sem, *] at he; try (subst he; exact evR_read _ _))); go_simp; refine hK _ ?_; clear hK K; try walk_nrm) | (refine Walk.ctl rfl (fun w => stepG_unwanted (ho_of (by conv => lhs; whnf) (by kernel_rfl)) (by rfl)) ?_; walk_nrm))
  (co_applyP Walk.opw (ho_of (by conv => lhs; whnf) (by kernel_rfl)) (by rfl) (by decide) ?wev1 ?wdr1 ?wrun1; (case' wrun1 => (intro dd K hK; go_simp; simp only [alloc_at', setCell_at']; refine hK _ ?wmore1; clear hK K)); (case wdr1 => exact fun dd es hes => DR.alloc' dd es hes); (case wev1 => (intro dd e he; simp [go_sem, *] at he)); try walk_nrm)
  have ha := cell_alloc w (.cells #[] 147) hN
  have haz := frozen_alloc w (.cells #[] 147) hN hz
  repeat (first | (refine Walk.c rfl ?_) | (refine Walk.cReg ?_; simp only [List.size_toArray, List.length_cons, List.length_nil, Nat.reduceAdd, Nat.zero_add, List.range, List.range.loop]) | (refine Walk.cRet ?_) | (refine Walk.cEnd ?_) | (refine Walk.opq (ho_of (by conv => lhs; whnf) (by kernel_rfl)) (by rfl) (by decide) (fun dd e he => ?_) (fun dd K hK => ?_); (· (simp [go_sem, *] at he; try (subst he; exact evR_read _ _))); go_simp; refine hK _ ?_; clear hK K; try walk_nrm) | (refine Walk.ctl rfl (fun w => stepG_unwanted (ho_of (by conv => lhs; whnf) (by kernel_rfl)) (by rfl)) ?_; walk_nrm))
  (co_applyP Walk.opw (ho_of (by conv => lhs; whnf) (by kernel_rfl)) (by rfl) (by decide) ?wev2 ?wdr2 ?wrun2; (case' wrun2 => (intro dd K hK; go_simp; simp only [alloc_at', setCell_at']; refine hK _ ?wmore2; clear hK K)); (case wdr2 => exact fun dd es hes => DR.set' hfr ha dd es hes); (case wev2 => (intro dd e he; simp [go_sem, storedEv, ev_store_bool, ev_store_int, ev_store_slice, ev_store_pointer, *] at he; subst he; exact evR_write _ _ hfr)); try walk_nrm)
  have hN' := World.cell?_setCell_same (w.alloc (.cells #[] 147)) ⟨N, 0, none⟩ (.bool true) ha
  repeat (first | (refine Walk.c rfl ?_) | (refine Walk.cReg ?_; simp only [List.size_toArray, List.length_cons, List.length_nil, Nat.reduceAdd, Nat.zero_add, List.range, List.range.loop]) | (refine Walk.cRet ?_) | (refine Walk.cEnd ?_) | (refine Walk.opq (ho_of (by conv => lhs; whnf) (by kernel_rfl)) (by rfl) (by decide) (fun dd e he => ?_) (fun dd K hK => ?_); (· (simp [go_sem, *] at he; try (subst he; exact evR_read _ _))); go_simp; refine hK _ ?_; clear hK K; try walk_nrm) | (refine Walk.ctl rfl (fun w => stepG_unwanted (ho_of (by conv => lhs; whnf) (by kernel_rfl)) (by rfl)) ?_; walk_nrm))
  refine Walk.ctl rfl (fun w => stepG_leaveRecovered rfl rfl Try.func87 (results_none rfl _ _ w) (events_results_none rfl _ _) rfl) ?_
  exact leave60 rfl rfl rfl rfl rfl rfl hN'
end Go.Proofs.Ytgiiicdpbdfemaa
end

/- The turnstile's state in company: whose a block is, what stands there, and who waits how. -/
section
namespace Go.Proofs.Ytgiiicdpbdfemaa
open Go.Conc Go.RowKit Go.Relay
open Go.ConcN (upd upd_ne upd_same)

/-- Whose a block is. -/
inductive Role where
  | tB
  | ss
  | ord
  | p (i : Nat)
  | t (i : Nat)
  | r (i : Nat)
  | nn (i : Nat)

/-- One run: the first thread's goroutine, how many threads, the turnstile's block, its list of stands, the stands and their channels, the threads. -/
structure Stile where
  g0 : Nat
  n : Nat
  B : Nat
  sb : Nat
  scap : Nat
  tb : Nat
  tcap : Nat
  most : Int
  p : Nat → Nat
  t : Nat → Nat
  r : Nat → Nat
  F : Nat → Value
  sa : Option Addr
  sc : Nat
  sl : List Int

/-- What turns: how many threads are hired; who has ended, and whether its end is noted; who is broken; ride's cell; the frames above ride's of a thread that stands at a step; whose a block is; the order. -/
structure Dyn where
  k : Nat
  e : Nat → Bool
  f : Nat → Bool
  b : Nat → Bool
  N : Nat → Nat
  cs : Nat → List Frame
  own : Nat → Option Role
  ord : List Nat
  oa : Option Addr
  oc : Nat
  gg : Nat

def going (n : Nat) (f : Nat → Bool) : Nat := (List.range n).countP (fun i => !f i)

def Good (S : Stile) (D : Dyn) : Role → Option Obj → Prop
  | .tB, o => ∃ arr ty fr, o = some (.cells arr ty fr) ∧ arr[0]? = some (.slice (some ⟨S.sb, 0, none⟩) S.n S.scap) ∧ arr[1]? = some (.int .i64 D.gg) ∧ arr[2]? = some (.int .i64 S.most) ∧ arr[3]? = some (.slice D.oa D.ord.length D.oc) ∧ ∀ i, i = 1 ∨ i = 3 → (decide (fr.1 ≤ i) && decide (i < fr.2)) = false
  | .ss, o => ∃ arr ty fr, o = some (.cells arr ty fr) ∧ ∀ i, i < S.n → arr[i]? = some (.pointer (some ⟨S.p i, 0, none⟩))
  | .ord, _ => True
  | .p i, o => o = some (.cells #[.chan (some (S.t i)), .chan (some (S.r i)), .bool (D.f i), .bool (D.b i)] 166)
  | .t i, o => D.e i = false → ∃ k, o = some (.chan 0 #[] false k k false)
  | .r i, o => D.e i = false → ∃ k, o = some (.chan 0 #[] false k k false)
  | .nn i, o => D.e i = false → o = some (.cells #[.bool false] 4)

def Place (S : Stile) (D : Dyn) : Role → Nat → Prop
  | .tB, b => b = S.B
  | .ss, b => b = S.sb
  | .ord, _ => True
  | .p i, b => i < S.n ∧ b = S.p i
  | .t i, b => i < S.n ∧ b = S.t i
  | .r i, b => i < S.n ∧ b = S.r i
  | .nn i, b => i < D.k ∧ b = D.N i

structure Sys (S : Stile) (n0 : Nat) (D : Dyn) (w : World) : Prop where
  good : ∀ b x, D.own b = some x → Good S D x (w.heap[b]?)
  lt : ∀ b x, D.own b = some x → n0 ≤ b ∧ b < w.heap.size
  ids : ∀ b x, D.own b = some x → Place S D x b
  oB : D.own S.B = some .tB
  oS : D.own S.sb = some .ss
  op : ∀ i, i < S.n → D.own (S.p i) = some (.p i)
  ot : ∀ i, i < S.n → D.own (S.t i) = some (.t i)
  or : ∀ i, i < S.n → D.own (S.r i) = some (.r i)
  oN : ∀ i, i < D.k → D.own (D.N i) = some (.nn i)
  oo : ∀ b, (Value.slice D.oa D.ord.length D.oc).ownBlock = some b → D.own b = some .ord
  row : w.ownsRow n0 3 1 (.slice D.oa D.ord.length D.oc) D.ord.length (D.ord.map fun i => .int .i64 (i : Nat))
  n64 : S.n ≤ 64
  kn : D.k ≤ S.n
  hg0 : 1 ≤ S.g0

section
variable {S : Stile} {n0 : Nat} {D D' : Dyn} {w w' : World}

theorem cell_of {w : World} {b : Nat} {arr : Array Value} {ty : TypeId} {fr : Nat × Nat} (h : w.heap[b]? = some (.cells arr ty fr)) (i : Nat) : w.cell? ⟨b, i, none⟩ = arr[i]? := by simp [World.cell?, h]
theorem frozen_of {w : World} {b : Nat} {arr : Array Value} {ty : TypeId} (h : w.heap[b]? = some (.cells arr ty (0, 0))) (i : Nat) : w.frozen? ⟨b, i, none⟩ = false := by simp [World.frozen?, h]

theorem Sys.tB (H : Sys S n0 D w) : w.cell? ⟨S.B, 0, none⟩ = some (.slice (some ⟨S.sb, 0, none⟩) S.n S.scap) ∧ w.cell? ⟨S.B, 1, none⟩ = some (.int .i64 D.gg) ∧ w.cell? ⟨S.B, 2, none⟩ = some (.int .i64 S.most) ∧
    w.cell? ⟨S.B, 3, none⟩ = some (.slice D.oa D.ord.length D.oc) ∧ w.frozen? ⟨S.B, 1, none⟩ = false ∧ w.frozen? ⟨S.B, 3, none⟩ = false := by
  obtain ⟨arr, ty, fr, h, h0, h1, h2, h3, hz⟩ := H.good _ _ H.oB
  exact ⟨(cell_of h 0).trans h0, (cell_of h 1).trans h1, (cell_of h 2).trans h2, (cell_of h 3).trans h3, by simp only [World.frozen?, h]; exact hz 1 (.inl rfl), by simp only [World.frozen?, h]; exact hz 3 (.inr rfl)⟩
theorem Sys.ss (H : Sys S n0 D w) {i : Nat} (hi : i < S.n) : w.cell? ⟨S.sb, i, none⟩ = some (.pointer (some ⟨S.p i, 0, none⟩)) := by
  obtain ⟨arr, ty, fr, h, h0⟩ := H.good _ _ H.oS
  exact (cell_of h i).trans (h0 i hi)
theorem Sys.pp (H : Sys S n0 D w) {i : Nat} (hi : i < S.n) : w.heap[S.p i]? = some (.cells #[.chan (some (S.t i)), .chan (some (S.r i)), .bool (D.f i), .bool (D.b i)] 166) := H.good _ _ (H.op i hi)
theorem Sys.p0 (H : Sys S n0 D w) {i : Nat} (hi : i < S.n) : w.cell? ⟨S.p i, 0, none⟩ = some (.chan (some (S.t i))) := (cell_of (H.pp hi) 0).trans rfl
theorem Sys.p1 (H : Sys S n0 D w) {i : Nat} (hi : i < S.n) : w.cell? ⟨S.p i, 1, none⟩ = some (.chan (some (S.r i))) := (cell_of (H.pp hi) 1).trans rfl
theorem Sys.p2 (H : Sys S n0 D w) {i : Nat} (hi : i < S.n) : w.cell? ⟨S.p i, 2, none⟩ = some (.bool (D.f i)) := (cell_of (H.pp hi) 2).trans rfl
theorem Sys.p3 (H : Sys S n0 D w) {i : Nat} (hi : i < S.n) : w.cell? ⟨S.p i, 3, none⟩ = some (.bool (D.b i)) := (cell_of (H.pp hi) 3).trans rfl
theorem Sys.pz (H : Sys S n0 D w) {i : Nat} (hi : i < S.n) (j : Nat) : w.frozen? ⟨S.p i, j, none⟩ = false := frozen_of (H.pp hi) j

/-- Two owned blocks of two roles are two. -/
theorem Sys.two (_ : Sys S n0 D w) {b b' : Nat} {x x' : Role} (h : D.own b = some x) (h' : D.own b' = some x') (hx : x ≠ x') : b ≠ b' := by
  rintro rfl
  rw [h] at h'
  exact hx (Option.some.inj h')

theorem row_same {w w' : World} {base : Nat} {e : TypeId} {size : Nat} {v : Value} {n : Nat} {xs : List Value} (h : w.ownsRow base e size v n xs) (hb : ∀ g, v.ownBlock = some g → w'.heap[g]? = w.heap[g]?) : w'.ownsRow base e size v n xs := by
  refine ⟨h.1, ?_⟩
  rcases h.2 with z | ⟨g, cap, cur, rfl, h1, h2, h3⟩
  · exact .inl z
  · exact .inr ⟨g, cap, cur, rfl, h1, (hb g rfl).trans h2, h3⟩

/-- The world turns, and with it what is told of it; whose the blocks are stands, and so does the order. -/
theorem Sys.put (H : Sys S n0 D w) (hown : D'.own = D.own) (hk : D'.k = D.k) (hN : D'.N = D.N) (ho : D'.ord = D.ord) (hoa : D'.oa = D.oa) (hoc : D'.oc = D.oc) (hs : w.heap.size ≤ w'.heap.size)
    (hg : ∀ b x, D.own b = some x → Good S D x (w.heap[b]?) → Good S D' x (w'.heap[b]?)) (hr : ∀ b, D.own b = some .ord → w'.heap[b]? = w.heap[b]?) : Sys S n0 D' w' := by
  refine ⟨fun b x hx => hg b x (hown ▸ hx) (H.good b x (hown ▸ hx)), fun b x hx => ?_, fun b x hx => ?_, hown ▸ H.oB, hown ▸ H.oS, fun i hi => hown ▸ H.op i hi, fun i hi => hown ▸ H.ot i hi, fun i hi => hown ▸ H.or i hi, fun i hi => ?_, fun b hb => ?_, ?_, H.n64, hk ▸ H.kn, H.hg0⟩
  · have := H.lt b x (hown ▸ hx); omega
  · have h := H.ids b x (hown ▸ hx)
    revert h
    cases x <;> simp only [Place, hk, hN, imp_self]
  · rw [hown, hN]; exact H.oN i (hk ▸ hi)
  · rw [hown]; rw [hoa, ho, hoc] at hb; exact H.oo b hb
  · rw [hoa, ho, hoc]
    exact row_same H.row fun g hg' => hr g (H.oo g hg')

/-- No owned block turns. -/
theorem Sys.same (H : Sys S n0 D w) (hs : w.heap.size ≤ w'.heap.size) (hb : ∀ b x, D.own b = some x → w'.heap[b]? = w.heap[b]?) : Sys S n0 D w' :=
  H.put rfl rfl rfl rfl rfl rfl hs (fun b x hx h => by rw [hb b x hx]; exact h) fun b hb' => hb b _ hb'

theorem Good.of_same {x : Role} {o : Option Obj} (h : Good S D x o) (hf : ∀ i, x = .p i → D'.f i = D.f i ∧ D'.b i = D.b i) (hB : x = .tB → D'.gg = D.gg ∧ D'.oa = D.oa ∧ D'.ord.length = D.ord.length ∧ D'.oc = D.oc) (he : ∀ i, x = .t i ∨ x = .r i ∨ x = .nn i → D'.e i = false → D.e i = false) : Good S D' x o := by
  cases x with
  | tB => obtain ⟨h1, h2, h3, h4⟩ := hB rfl; simpa only [Good, h1, h2, h3, h4] using h
  | ss => exact h
  | ord => trivial
  | p i => obtain ⟨h1, h2⟩ := hf i rfl; simpa only [Good, h1, h2] using h
  | t i => exact fun z => h (he i (.inl rfl) z)
  | r i => exact fun z => h (he i (.inr (.inl rfl)) z)
  | nn i => exact fun z => h (he i (.inr (.inr rfl)) z)

/-- A channel's count turns. -/
theorem Sys.chan (H : Sys S n0 D w) {c k k' : Nat} (hc : w.heap[c]? = some (.chan 0 #[] false k k false)) (hcr : ∃ i, D.own c = some (.t i) ∨ D.own c = some (.r i)) : Sys S n0 D (w.setChan c 0 #[] false k' k' false) := by
  have hsz : (w.setChan c 0 #[] false k' k' false).heap.size = w.heap.size := by simp [World.setChan]
  refine H.put rfl rfl rfl rfl rfl rfl (Nat.le_of_eq hsz.symm) (fun b x hx h => ?_) fun b hb => ?_
  · by_cases e : c = b
    · subst e
      rw [heap_setChan_self w hc]
      obtain ⟨i, z | z⟩ := hcr <;> (rw [hx] at z; cases z; exact fun _ => ⟨k', rfl⟩)
    · rw [heap_setChan_ne w _ _ _ _ _ _ e]; exact h
  · refine heap_setChan_ne w _ _ _ _ _ _ fun e => ?_
    subst e
    obtain ⟨i, z | z⟩ := hcr <;> (rw [hb] at z; cases z)

/-- The channel of a thread that has ended is closed. -/
theorem Sys.shut (H : Sys S n0 D w) {j c k : Nat} (he : D.e j = true) (hcr : D.own c = some (.t j) ∨ D.own c = some (.r j)) : Sys S n0 D (w.setChan c 0 #[] true k k false) := by
  have hsz : (w.setChan c 0 #[] true k k false).heap.size = w.heap.size := by simp [World.setChan]
  refine H.put rfl rfl rfl rfl rfl rfl (Nat.le_of_eq hsz.symm) (fun b x hx h => ?_) fun b hb => ?_
  · by_cases e : c = b
    · subst e
      rcases hcr with z | z <;> (rw [hx] at z; cases z; exact fun z => by rw [he] at z; cases z)
    · rw [heap_setChan_ne w _ _ _ _ _ _ e]; exact h
  · refine heap_setChan_ne w _ _ _ _ _ _ fun e => ?_
    subst e
    rcases hcr with z | z <;> (rw [hb] at z; cases z)

theorem Sys.at (H : Sys S n0 D w) (d : Nat) : Sys S n0 D (w.at d) := H.same (Nat.le_refl _) fun _ _ _ => rfl

theorem heap_set_other (w : World) (a : Addr) (k : Nat) (v : Value) (h : k ≠ a.block) : (w.setCell a v).heap[k]? = w.heap[k]? := by
  simp only [World.setCell]
  rw [Array.getElem?_modify, if_neg (Ne.symm h)]
theorem heap_set_self (w : World) {b i : Nat} {arr : Array Value} {ty : TypeId} {fr : Nat × Nat} (v : Value) (h : w.heap[b]? = some (.cells arr ty fr)) : (w.setCell ⟨b, i, none⟩ v).heap[b]? = some (.cells (arr.setIfInBounds i v) ty fr) := by
  simp only [World.setCell]
  rw [Array.getElem?_modify, if_pos rfl, h]
  rfl
theorem size_set (w : World) (a : Addr) (v : Value) : (w.setCell a v).heap.size = w.heap.size := by simp [World.setCell]
theorem heap_new_lt (w : World) (o : Obj) {b : Nat} (h : b < w.heap.size) : (w.alloc o).heap[b]? = w.heap[b]? := by
  simp only [World.alloc]
  rw [Array.getElem?_push, if_neg (by omega)]

/-- One more thread is hired: ride's cell is laid. -/
theorem Sys.hire (H : Sys S n0 D w) (hk : D.k < S.n) : Sys S n0 { D with k := D.k + 1, N := upd D.N D.k w.heap.size, own := upd D.own w.heap.size (some (.nn D.k)) } (w.alloc (.cells #[.bool false] 4)) := by
  have hsz : (w.alloc (.cells #[.bool false] 4)).heap.size = w.heap.size + 1 := by simp
  have hfresh : ∀ b x, D.own b = some x → b ≠ w.heap.size := fun b x hx => by have := (H.lt b x hx).2; omega
  have hold : ∀ b x, D.own b = some x → upd D.own w.heap.size (some (.nn D.k)) b = some x := fun b x hx => by rw [upd_ne _ _ (hfresh b x hx)]; exact hx
  have hnew : ∀ b x, upd D.own w.heap.size (some (.nn D.k)) b = some x → (b = w.heap.size ∧ x = .nn D.k) ∨ (b ≠ w.heap.size ∧ D.own b = some x) := fun b x hx => by
    by_cases e : b = w.heap.size
    · subst e; rw [upd_same] at hx; exact .inl ⟨rfl, (Option.some.inj hx).symm⟩
    · rw [upd_ne _ _ e] at hx; exact .inr ⟨e, hx⟩
  have hn0 : n0 ≤ w.heap.size := Nat.le_of_lt (Nat.lt_of_le_of_lt (H.lt _ _ H.oB).1 (H.lt _ _ H.oB).2)
  refine ⟨fun b x hx => ?_, fun b x hx => ?_, fun b x hx => ?_, hold _ _ H.oB, hold _ _ H.oS, fun i hi => hold _ _ (H.op i hi), fun i hi => hold _ _ (H.ot i hi), fun i hi => hold _ _ (H.or i hi), fun i hi => ?_, fun b e => hold _ _ (H.oo b e), row_same H.row fun g hg => heap_new_lt w _ (H.lt g _ (H.oo g hg)).2, H.n64, hk, H.hg0⟩
  · rcases hnew b x hx with ⟨rfl, rfl⟩ | ⟨hne, hx⟩
    · exact fun _ => heap_alloc_new w _
    · rw [heap_new_lt w _ (H.lt b x hx).2]
      have h := H.good b x hx
      cases x <;> exact h
  · rcases hnew b x hx with ⟨rfl, rfl⟩ | ⟨hne, hx⟩
    · omega
    · have := H.lt b x hx; omega
  · rcases hnew b x hx with ⟨rfl, rfl⟩ | ⟨hne, hx⟩
    · exact ⟨Nat.lt_succ_self _, (upd_same _ _ _).symm⟩
    · have h := H.ids b x hx
      cases x with
      | nn i =>
        have h1 : i < D.k := h.1
        exact ⟨Nat.lt_succ_of_lt h1, h.2.trans (upd_ne _ _ (by omega)).symm⟩
      | _ => exact h
  · by_cases e : i = D.k
    · subst e; simp only [upd_same]
    · simp only [upd_ne _ _ e]
      exact hold _ _ (H.oN i (by simp only at hi; omega))

theorem Sys.alloc (H : Sys S n0 D w) (o : Obj) : Sys S n0 D (w.alloc o) := H.same (by simp) fun b x hx => heap_new_lt w o (H.lt b x hx).2

/-- Whether it is broken is noted. -/
theorem Sys.brk (H : Sys S n0 D w) {j : Nat} (hj : j < S.n) (x : Bool) : Sys S n0 { D with b := upd D.b j x } (w.setCell ⟨S.p j, 3, none⟩ (.bool x)) := by
  refine H.put rfl rfl rfl rfl rfl rfl (Nat.le_of_eq (size_set ..).symm) (fun b y hy h => ?_) fun b hb => ?_
  · by_cases e : b = S.p j
    · subst e
      rw [H.op j hj] at hy
      cases hy
      rw [heap_set_self w _ (H.pp hj)]
      simp [Good, upd_same]
    · rw [heap_set_other w _ b _ e]
      refine h.of_same (fun i hi => ⟨rfl, upd_ne _ _ fun ei => e ?_⟩) (fun _ => ⟨rfl, rfl, rfl, rfl⟩) fun i _ z => z
      subst hi; subst ei; exact (H.ids b _ hy).2
  · exact heap_set_other w _ b _ (H.two hb (H.op j hj) (by simp))

/-- ride's cell is written: its thread is ending. -/
theorem Sys.ride (H : Sys S n0 D w) {j : Nat} (hj : j < D.k) (v : Value) : Sys S n0 { D with e := upd D.e j true } (w.setCell ⟨D.N j, 0, none⟩ v) := by
  refine H.put rfl rfl rfl rfl rfl rfl (Nat.le_of_eq (size_set ..).symm) (fun b y hy h => ?_) fun b hb => heap_set_other w _ b _ (H.two hb (H.oN j hj) (by simp))
  by_cases e : b = D.N j
  · subst e
    rw [H.oN j hj] at hy
    cases hy
    exact fun z => by simp only [upd_same] at z; cases z
  · rw [heap_set_other w _ b _ e]
    refine h.of_same (fun i _ => ⟨rfl, rfl⟩) (fun _ => ⟨rfl, rfl, rfl, rfl⟩) fun i _ z => ?_
    by_cases ei : i = j
    · subst ei; simp only [upd_same] at z; cases z
    · simpa only [upd_ne _ _ ei] using z
end
end Go.Proofs.Ytgiiicdpbdfemaa
end

/- Package turn's programs, in company: the registers. -/
section
namespace Go.Proofs.Ytgiiicdpbdfemaa
open Go.Conc Go.RowKit Go.Relay

variable {main : Bool} {V : Nat → Option Wait}

theorem bits_and3 (n : Int) : bits .and .i64 n 3 = n % 4 := by
  have h3 : BitVec.ofInt 64 3 = 3#64 := by decide
  have hx : (BitVec.ofInt 64 n).toNat = (n % 18446744073709551616).toNat := by rw [BitVec.toNat_ofInt]; rfl
  have hb : (BitVec.ofInt 64 n &&& 3#64).toNat = (BitVec.ofInt 64 n).toNat % 4 := by
    rw [BitVec.toNat_and]
    exact Nat.and_two_pow_sub_one_eq_mod _ 2
  show IntKind.i64.wrap ((BitVec.ofInt 64 n &&& BitVec.ofInt 64 3).toNat : Int) = n % 4
  rw [h3, hb, hx]
  simp [IntKind.wrap, IntKind.bits, IntKind.signed]
  omega

set_option maxHeartbeats 8000000 in
set_option maxRecDepth 100000 in
theorem register104 (W : Nat) (n : Int) (w : World) : CallV Try.prog main V 104 #[.pointer (some ⟨W, 0, none⟩), .int .i64 n] w (.pointer (some ⟨W, 2 + (n % 4).toNat, none⟩)) w := by
  refine callW_in Try.func104 rfl fun fr cs => ?_
  simp only [Try.ntmps104, List.size_toArray, List.length_cons, List.length_nil, Nat.reduceAdd, Nat.reduceSub, Array.replicate_succ, Array.replicate_zero, List.push_toArray, List.append_toArray, List.nil_append, List.cons_append]
  obtain ⟨k, hk, hk4⟩ : ∃ k : Nat, n % 4 = k ∧ k < 4 := ⟨(n % 4).toNat, by omega, by omega⟩
  have hbk : bits .and .i64 n 3 = (k : Int) := (bits_and3 n).trans hk
  have hk4' : (k : Int) < 4 := by omega
  have hia := fun (a : Addr) (w : World) (es : Array Event) => events_indexAt_array (P := Try.prog) (w := w) (es := es) 103 2 4 a .i64 (k : Int) (by kernel_rfl) ⟨by omega, hk4'⟩
  rw [hk]
  repeat (first | (refine Walk.c rfl ?_) | (refine Walk.cReg ?_; simp only [List.size_toArray, List.length_cons, List.length_nil, Nat.reduceAdd, Nat.zero_add, List.range, List.range.loop]) | (refine Walk.cRet ?_) | (refine Walk.cEnd ?_) | (refine Walk.opq (ho_of (by conv => lhs; whnf) (by kernel_rfl)) (by rfl) (by decide) (fun dd e he => ?_) (fun dd K hK => ?_); (· (simp [go_sem, *] at he; try (subst he; exact evR_read _ _))); go_simp; refine hK _ ?_; clear hK K; try walk_nrm) | (refine Walk.ctl rfl (fun w => stepG_unwanted (ho_of (by conv => lhs; whnf) (by kernel_rfl)) (by rfl)) ?_; walk_nrm))
  exact Walk.ret1 rfl rfl Try.func104 rfl fun d => ⟨by simp, d, rfl⟩
end Go.Proofs.Ytgiiicdpbdfemaa
end

/- The relay's walk through a region that draws its order and holds calls: whichever operation comes up, the walk goes on from it. -/
section
namespace Go.Relay
open Go.Conc Go.RowKit

section
variable (P : Program) (main : Bool) (V : Nat → Option Wait) (Stop : Goroutine → World → Prop) (b : Frame) (k : List Item) (cs : List Frame) (ops : Array Oper)

/-- Operation number i, whatever comes behind it: K is asked of the state in which it ends. -/
def OpW (i : Nat) (K : Act → World → Prop) (a : Act) (w : World) : Prop :=
  ∀ rest, (∀ a' w', K a' w' → Walk P main (DR V) Stop (G (b.at a' (.inRegion ops rest :: k)) cs) w') → Walk P main (DR V) Stop (G (b.at a (.inRegion ops (i :: rest) :: k)) cs) w

/-- Whatever order is picked from here on. -/
def AnyW (md : Region.Mode) (Q : Act → World → Prop) : Nat → Array Bool → Act → World → Prop
  | 0, listed, a, w => Region.ready md ops listed = [] ∧ Q a w
  | fuel + 1, listed, a, w => (Region.ready md ops listed = [] → Q a w) ∧ ∀ i ∈ Region.ready md ops listed, OpW P main V Stop b k cs ops i (fun a' w' => AnyW md Q fuel (listed.setIfInBounds i true) a' w') a w
end

section
variable {P : Program} {main : Bool} {V : Nat → Option Wait} {Stop : Goroutine → World → Prop} {b : Frame} {k : List Item} {cs : List Frame} {ops : Array Oper} {md : Region.Mode} {Q : Act → World → Prop}

theorem anyW_sound (hc : ∀ a w, Q a w → Walk P main (DR V) Stop (G (b.at a (.inRegion ops [] :: k)) cs) w) : ∀ (fuel t : Nat) (listed : Array Bool) (a : Act) (w : World), AnyW P main V Stop b k cs ops md Q fuel listed a w →
    Walk P main (DR V) Stop (G (b.at a (.inRegion ops (Region.linearise.go md ops fuel t listed []) :: k)) cs) w := by
  intro fuel
  induction fuel with
  | zero => intro t listed a w h; exact hc _ _ h.2
  | succ fuel ih =>
    intro t listed a w h
    obtain ⟨h₀, h₁⟩ := h
    simp only [Region.linearise.go]
    change Walk P main (DR V) Stop (G (b.at a (.inRegion ops (match (Region.ready md ops listed)[t % (Region.ready md ops listed).length]? with
      | some i => Region.linearise.go md ops fuel (t / (Region.ready md ops listed).length) (listed.setIfInBounds i true) [i]
      | none => [].reverse) :: k)) cs) w
    cases hi : (Region.ready md ops listed)[t % (Region.ready md ops listed).length]? with
    | none =>
      have hnil : Region.ready md ops listed = [] := by
        cases hr : Region.ready md ops listed with
        | nil => rfl
        | cons x xs =>
          rw [hr] at hi
          have hlt : t % (x :: xs).length < (x :: xs).length := Nat.mod_lt _ (by simp)
          simp at hi
          simp at hlt
          omega
      exact hc _ _ (h₀ hnil)
    | some i =>
      simp only []
      rw [linearise_go_acc, List.reverse_singleton, List.singleton_append]
      exact h₁ i (List.mem_of_getElem? hi) _ fun a' w' x => ih _ _ a' w' x

theorem anyW_all {rs : List Nat} {fuel : Nat} {listed : Array Bool} {a : Act} {w : World} (hr : Region.ready md ops listed = rs) (hne : rs ≠ [])
    (h : ∀ i ∈ rs, OpW P main V Stop b k cs ops i (fun a' w' => AnyW P main V Stop b k cs ops md Q fuel (listed.setIfInBounds i true) a' w') a w) : AnyW P main V Stop b k cs ops md Q (fuel + 1) listed a w :=
  ⟨fun h0 => absurd (hr ▸ h0) hne, hr ▸ h⟩

theorem anyW_done {listed : Array Bool} {a : Act} {w : World} (hr : Region.ready md ops listed = []) (h : Q a w) : ∀ fuel, AnyW P main V Stop b k cs ops md Q fuel listed a w
  | 0 => ⟨hr, h⟩
  | _ + 1 => ⟨fun _ => h, fun i hi => by rw [hr] at hi; cases hi⟩

/-- The beginning of such a region. -/
theorem Walk.drawnW {id : Nat} {a : Act} {w : World} (hm : P.follows .mixedOrders = true)
    (h : ∀ d, AnyW P main V Stop b k cs ops .any Q ops.size (Array.replicate ops.size false) a (w.at d))
    (hc : ∀ a' w', Q a' w' → Walk P main (DR V) Stop (G (b.at a' (.inRegion ops [] :: k)) cs) w') : Walk P main (DR V) Stop (G (b.at a (.code (.region id ops true) :: k)) cs) w := by
  refine Walk.step rfl (fun d => G (b.at a (.inRegion ops (Region.linearise .any ops (w.tape d (.order b.fn id))) :: k)) cs) (fun d => w.at (d + 1)) (fun _ => #[]) (fun d => ?_) (fun d => drawsR _) (fun d => anyW_sound hc ops.size _ _ a _ (h (d + 1)))
  rw [stepG_region_draw]
  simp only [Region.schedule, hm, Bool.true_or, if_true]
  rfl
end
end Go.Relay
end

/- The relay's walk through a region that draws its order and holds calls, by an invariant that speaks of the operations that have come up. -/
section
namespace Go.Relay
open Go.Conc Go.RowKit
open Go.ConcN (upd upd_ne upd_same)

/-- Every operation waits for earlier ones only. -/
def lowB (ops : Array Oper) : Bool := (List.range ops.size).all fun i => (ops[i]?).any fun o => o.after.all fun e => decide (e.on < i)
/-- Operation i waits for all of l. -/
def depB (ops : Array Oper) (i : Nat) (l : List Nat) : Bool := (ops[i]?).any fun o => l.all fun j => o.after.any fun e => decide (e.on = j) && Region.binds .any e
def upTo (L : Array Bool) : Nat → Bool := fun j => L.getD j false
def leftOf (n : Nat) (f : Nat → Bool) : Nat := (List.range n).countP (fun i => !f i)

theorem leftOf_pos {n : Nat} {f : Nat → Bool} {i : Nat} (hi : i < n) (h : f i = false) : 1 ≤ leftOf n f := List.countP_pos_iff.2 ⟨i, by simpa using hi, by simp [h]⟩
theorem leftOf_set {n : Nat} {f : Nat → Bool} {i : Nat} (hi : i < n) (h : f i = false) : leftOf n (upd f i true) = leftOf n f - 1 := by
  unfold leftOf
  induction n with
  | zero => omega
  | succ n ih =>
    rw [List.range_succ, List.countP_append, List.countP_append]
    by_cases e : i = n
    · subst e
      have : (List.range i).countP (fun j => !upd f i true j) = (List.range i).countP (fun j => !f j) := List.countP_congr fun j hj => by
        have : j ≠ i := by have := List.mem_range.1 hj; omega
        simp [upd_ne _ _ this]
      rw [this]
      simp [upd_same, h]
    · have hp := leftOf_pos (n := n) (by omega) h
      unfold leftOf at hp
      have := ih (by omega)
      rw [this]
      simp only [List.countP_singleton, upd_ne _ _ (Ne.symm e)]
      omega
theorem upTo_set {L : Array Bool} {i : Nat} (hi : i < L.size) : upTo (L.setIfInBounds i true) = upd (upTo L) i true := by
  funext j
  unfold upTo
  by_cases e : j = i
  · subst e
    rw [upd_same, Array.getD_eq_getD_getElem?, Array.getElem?_setIfInBounds_self_of_lt hi]; rfl
  · rw [upd_ne _ _ e, Array.getD_eq_getD_getElem?, Array.getElem?_setIfInBounds_ne (Ne.symm e), ← Array.getD_eq_getD_getElem?]
theorem upTo_in {L : Array Bool} {i : Nat} (hi : i < L.size) : L.getD i true = upTo L i := by
  unfold upTo
  rw [Array.getD_eq_getD_getElem?, Array.getD_eq_getD_getElem?, Array.getElem?_eq_getElem hi]; rfl

section
variable {P : Program} {main : Bool} {V : Nat → Option Wait} {Stop : Goroutine → World → Prop} {b : Frame} {k : List Item} {cs : List Frame} {ops : Array Oper} {Q : Act → World → Prop}

theorem deps_of {i : Nat} {l : List Nat} {o : Oper} {f : Nat → Bool} (h : depB ops i l = true) (ho : ops[i]? = some o) (hd : ∀ e ∈ o.after, Region.binds .any e = true → f e.on = true) : ∀ j ∈ l, f j = true := by
  intro j hj
  unfold depB at h
  rw [ho] at h
  simp only [Option.any_some, List.all_eq_true] at h
  have := h j hj
  obtain ⟨x, hx, hb⟩ := Array.any_eq_true.1 this
  simp only [Bool.and_eq_true, decide_eq_true_eq] at hb
  exact hb.1 ▸ hd _ (Array.getElem_mem hx) hb.2

theorem OpW.mono {i : Nat} {K K' : Act → World → Prop} {a : Act} {w : World} (h : OpW P main V Stop b k cs ops i K a w) (hK : ∀ a w, K a w → K' a w) : OpW P main V Stop b k cs ops i K' a w :=
  fun rest hr => h rest fun a' w' x => hr a' w' (hK a' w' x)

theorem all_up (hlow : lowB ops = true) {L : Array Bool} (hL : L.size = ops.size) (hr : Region.ready .any ops L = []) : ∀ i, i < ops.size → upTo L i = true := by
  intro i
  induction i using Nat.strongRecOn with
  | _ i ih =>
    intro hi
    refine Classical.byContradiction fun hne => ?_
    have hf : upTo L i = false := by simpa using hne
    have hm : i ∈ Region.ready .any ops L := mem_ready.2 ⟨by rw [upTo_in (by omega)]; exact hf, ops[i], Array.getElem?_eq_getElem hi, fun e he _ => ih e.on ?_ ?_⟩
    · rw [hr] at hm; cases hm
    · have := List.all_eq_true.1 hlow i (List.mem_range.2 hi)
      rw [Array.getElem?_eq_getElem hi] at this
      simp only [Option.any_some] at this
      have := (Array.all_eq_true_iff_forall_mem.1 this) e he
      simpa using this
    · have := List.all_eq_true.1 hlow i (List.mem_range.2 hi)
      rw [Array.getElem?_eq_getElem hi] at this
      simp only [Option.any_some] at this
      have := (Array.all_eq_true_iff_forall_mem.1 this) e he
      have : e.on < i := by simpa using this
      omega

/-- What has come up is closed under waiting. -/
def Closed (ops : Array Oper) (f : Nat → Bool) : Prop := ∀ j o, ops[j]? = some o → f j = true → ∀ e ∈ o.after, Region.binds .any e = true → f e.on = true
theorem Closed.deps {f : Nat → Bool} {i : Nat} {l : List Nat} (hC : Closed ops f) (hi : f i = true) (h : depB ops i l = true) : ∀ j ∈ l, f j = true := by
  cases ho : ops[i]? with
  | none => intro j hj; unfold depB at h; rw [ho] at h; cases h
  | some o => exact deps_of h ho (hC i o ho hi)

theorem anyW_inv {Inv : (Nat → Bool) → Act → World → Prop} (hlow : lowB ops = true)
    (hop : ∀ f i o a w, Inv f a w → Closed ops f → f i = false → ops[i]? = some o → (∀ e ∈ o.after, Region.binds .any e = true → f e.on = true) → OpW P main V Stop b k cs ops i (fun a' w' => Inv (upd f i true) a' w') a w)
    (hend : ∀ f a w, Inv f a w → (∀ i, i < ops.size → f i = true) → Q a w) :
    ∀ (fuel : Nat) (L : Array Bool) (a : Act) (w : World), L.size = ops.size → Inv (upTo L) a w → Closed ops (upTo L) → leftOf ops.size (upTo L) ≤ fuel → AnyW P main V Stop b k cs ops .any Q fuel L a w := by
  intro fuel
  induction fuel with
  | zero =>
    intro L a w hL hI _ hf
    have hall : ∀ i, i < ops.size → upTo L i = true := fun i hi => by
      refine Classical.byContradiction fun hne => ?_
      have := leftOf_pos hi (f := upTo L) (by simpa using hne)
      omega
    have hr : Region.ready .any ops L = [] := List.eq_nil_iff_forall_not_mem.2 fun i hm => by
      obtain ⟨h0, o, ho, _⟩ := mem_ready.1 hm
      have hi : i < ops.size := (Array.getElem?_eq_some_iff.1 ho).1
      rw [upTo_in (by omega), hall i hi] at h0
      cases h0
    exact ⟨hr, hend _ a w hI hall⟩
  | succ fuel ih =>
    intro L a w hL hI hC hf
    refine ⟨fun hr => hend _ a w hI (all_up hlow hL hr), fun i hm => ?_⟩
    obtain ⟨h0, o, ho, hd⟩ := mem_ready.1 hm
    have hi : i < ops.size := (Array.getElem?_eq_some_iff.1 ho).1
    rw [upTo_in (by omega)] at h0
    refine (hop (upTo L) i o a w hI hC h0 ho hd).mono fun a' w' hI' => ?_
    refine ih _ a' w' (by simp [hL]) (by rw [upTo_set (by omega)]; exact hI') ?_ ?_
    · rw [upTo_set (by omega)]
      intro j o' ho' hj e he hb
      have hup : ∀ x, upTo L x = true → upd (upTo L) i true x = true := fun x hx => by
        by_cases ex : x = i
        · subst ex; exact upd_same _ _ _
        · rw [upd_ne _ _ ex]; exact hx
      by_cases ej : j = i
      · subst ej
        rw [ho] at ho'; cases ho'
        exact hup _ (hd e he hb)
      · rw [upd_ne _ _ ej] at hj
        exact hup _ (hC j o' ho' hj e he hb)
    · rw [upTo_set (by omega), leftOf_set hi h0]
      omega

theorem Walk.drawnJ {id : Nat} {a : Act} {w : World} {Inv : (Nat → Bool) → Act → World → Prop} (hm : P.follows .mixedOrders = true) (hlow : lowB ops = true) (h0 : ∀ d, Inv (fun _ => false) a (w.at d))
    (hop : ∀ f i o a w, Inv f a w → Closed ops f → f i = false → ops[i]? = some o → (∀ e ∈ o.after, Region.binds .any e = true → f e.on = true) → OpW P main V Stop b k cs ops i (fun a' w' => Inv (upd f i true) a' w') a w)
    (hend : ∀ f a w, Inv f a w → (∀ i, i < ops.size → f i = true) → Walk P main (DR V) Stop (G (b.at a (.inRegion ops [] :: k)) cs) w) : Walk P main (DR V) Stop (G (b.at a (.code (.region id ops true) :: k)) cs) w := by
  refine Walk.drawnW (Q := fun a w => Walk P main (DR V) Stop (G (b.at a (.inRegion ops [] :: k)) cs) w) hm (fun d => ?_) (fun a' w' h => h)
  have hu : upTo (Array.replicate ops.size false) = fun _ => false := by
    funext j
    unfold upTo
    rw [Array.getD_eq_getD_getElem?, Array.getElem?_replicate]
    split <;> rfl
  refine anyW_inv hlow hop hend _ _ a (w.at d) (by simp) (by rw [hu]; exact h0 d) (by rw [hu]; intro _ _ _ h; cases h) ?_
  unfold leftOf
  exact Nat.le_trans List.countP_le_length (by simp)

theorem Walk.drawnI {id : Nat} {a : Act} {w : World} {Inv : (Nat → Bool) → Act → World → Prop} (hm : P.follows .mixedOrders = true) (hlow : lowB ops = true) (h0 : ∀ d, Inv (fun _ => false) a (w.at d))
    (hop : ∀ f i o a w, Inv f a w → f i = false → ops[i]? = some o → (∀ e ∈ o.after, Region.binds .any e = true → f e.on = true) → OpW P main V Stop b k cs ops i (fun a' w' => Inv (upd f i true) a' w') a w)
    (hend : ∀ f a w, Inv f a w → (∀ i, i < ops.size → f i = true) → Walk P main (DR V) Stop (G (b.at a (.inRegion ops [] :: k)) cs) w) : Walk P main (DR V) Stop (G (b.at a (.code (.region id ops true) :: k)) cs) w :=
  Walk.drawnJ hm hlow h0 (fun f i o a w h _ => hop f i o a w h) hend
end

/-- What the operations that have come up have left in the slots. -/
def Facts (dsts : List Nat) (vals : List Value) (f : Nat → Bool) (u : Nat → Value) : Prop := ∀ j d v, f j = true → dsts[j]? = some d → vals[j]? = some v → u d = v
theorem Facts.none (dsts : List Nat) (vals : List Value) (u : Nat → Value) : Facts dsts vals (fun _ => false) u := fun _ _ _ h => by cases h
theorem Facts.set {dsts : List Nat} {vals : List Value} {f : Nat → Bool} {u : Nat → Value} (F : Facts dsts vals f u) (hn : dsts.Nodup) {i d : Nat} {v : Value} (hd : dsts[i]? = some d) (hv : vals[i]? = some v) : Facts dsts vals (upd f i true) (upd u d v) := by
  intro j d' v' hf hd' hv'
  by_cases e : j = i
  · subst e
    rw [hd] at hd'; rw [hv] at hv'
    cases hd'; cases hv'
    exact upd_same _ _ _
  · rw [upd_ne _ _ e] at hf
    have hne : d' ≠ d := fun h => by
      subst h
      obtain ⟨h1, h1'⟩ := List.getElem?_eq_some_iff.1 hd
      obtain ⟨h2, h2'⟩ := List.getElem?_eq_some_iff.1 hd'
      exact e ((List.getElem_inj hn).1 (h2'.trans h1'.symm))
    rw [upd_ne _ _ hne]
    exact F j d' v' hf hd' hv'
end Go.Relay
end

/- Package turn's programs, in company: reckon's beginning. -/
section
namespace Go.Proofs.Ytgiiicdpbdfemaa
open Go.Conc Go.RowKit Go.Relay
open Go.ConcN (upd upd_ne upd_same)

variable {main : Bool} {V : Nat → Option Wait}

noncomputable def reg73 : Array Oper := match Try.f73.body with | some (.seq _ (.seq (.region _ ops _) _)) => ops | _ => #[]
noncomputable def rest73 : Code := match Try.f73.body with | some (.seq _ (.seq _ c)) => c | _ => .skip
def tm73 (W X : Nat) (c : Value) (next : Int) (u : Nat → Value) : Array Value := #[.pointer (some ⟨W, 0, none⟩), c, .int .i64 next, undef, .pointer (some ⟨X, 0, none⟩), undef, .int .i64 0, u 7, u 8, u 9, u 10, u 11, u 12, u 13, u 14, u 15, u 16, u 17, u 18, u 19, u 20, u 21, u 22, u 23, u 24, u 25, u 26, u 27, u 28, u 29, u 30, u 31, u 32, u 33, u 34, u 35, u 36, u 37, u 38, u 39, u 40, u 41, u 42, u 43, u 44, u 45, u 46, u 47, u 48, u 49, u 50, u 51, u 52, u 53, u 54, u 55, u 56, u 57, u 58, u 59, u 60, u 61, u 62, u 63, u 64, u 65, u 66, u 67, u 68, u 69, u 70, u 71, u 72, u 73, u 74, u 75, u 76, u 77, u 78, u 79, u 80, u 81, u 82, u 83, u 84, u 85, u 86]
def codeV (cd cr ca cb cv : Int) : Value := .agg #[.int .i64 cd, .int .i64 cr, .int .i64 ca, .int .i64 cb, .int .i64 cv]
def boxW (w : World) (cd cr ca cb cv : Int) : World := w.alloc (.cells #[.int .i64 cd, .int .i64 cr, .int .i64 ca, .int .i64 cb, .int .i64 cv] 99)

set_option maxHeartbeats 8000000 in
set_option maxRecDepth 100000 in
theorem reg73_walk {Stop : Goroutine → World → Prop} (W X : Nat) (c : Value) (cr ca cb next : Int) (cs : List Frame) (u0 : Nat → Value) (w : World) (h1 : w.cell? ⟨X, 1, none⟩ = some (.int .i64 cr)) (h2 : w.cell? ⟨X, 2, none⟩ = some (.int .i64 ca)) (h3 : w.cell? ⟨X, 3, none⟩ = some (.int .i64 cb))
    (hk : ∀ u : Nat → Value, u 7 = .pointer (some ⟨W, 2 + (cr % 4).toNat, none⟩) → u 8 = .pointer (some ⟨W, 2 + (ca % 4).toNat, none⟩) → u 9 = .pointer (some ⟨W, 2 + (cb % 4).toNat, none⟩) → Walk Try.prog main (DR V) Stop (G ((base 73).at ⟨tm73 W X c next u, []⟩ [.inRegion reg73 [], .code rest73]) cs) w) :
    Walk Try.prog main (DR V) Stop (G ((base 73).at ⟨tm73 W X c next u0, []⟩ [.code (.region 1 reg73 true), .code rest73]) cs) w := by
  refine Walk.drawnI (Inv := fun f a w' => ∃ u, a = ⟨tm73 W X c next u, []⟩ ∧ (∃ d, w' = w.at d) ∧ Facts [10, 11, 12, 13, 14, 15, 16, 17, 18, 19, 20, 21, 7, 8, 9] [.pointer (some ⟨W, 0, none⟩), .pointer (some ⟨X, 1, none⟩), .int .i64 cr, .pointer (some ⟨W, 2 + (cr % 4).toNat, none⟩), .pointer (some ⟨W, 0, none⟩), .pointer (some ⟨X, 2, none⟩), .int .i64 ca, .pointer (some ⟨W, 2 + (ca % 4).toNat, none⟩), .pointer (some ⟨W, 0, none⟩), .pointer (some ⟨X, 3, none⟩), .int .i64 cb, .pointer (some ⟨W, 2 + (cb % 4).toNat, none⟩), .pointer (some ⟨W, 2 + (cr % 4).toNat, none⟩), .pointer (some ⟨W, 2 + (ca % 4).toNat, none⟩), .pointer (some ⟨W, 2 + (cb % 4).toNat, none⟩)] f u) (by kernel_rfl) (by kernel_rfl) (fun d => ⟨u0, rfl, ⟨d, rfl⟩, Facts.none _ _ _⟩) ?_ ?_
  · rintro f i o a w' ⟨u, rfl, ⟨d, rfl⟩, F⟩ hfi ho hdeps rest hr
    refine Walk.back ?_ d
    have hi : i < 15 := (Array.getElem?_eq_some_iff.1 ho).1
    match i, hi with
    | 0, _ =>
      clear hdeps hfi ho
      simp only [tm73, reg73, Try.f73] at hr ⊢
      (refine Walk.opq (ho_of (by conv => lhs; whnf) (by kernel_rfl)) (by rfl) (by decide) (fun dd e he => ?_) (fun dd K hK => ?_); (· (simp [go_sem, *] at he; try (subst he; exact evR_read _ _))); go_simp; refine hK _ ?_; clear hK K; try walk_nrm)
      refine hr _ _ ⟨upd u 10 (.pointer (some ⟨W, 0, none⟩)), ?_, ⟨w.drawn, rfl⟩, F.set (by decide) rfl rfl⟩
      simp [upd]
    | 1, _ =>
      clear hdeps hfi ho
      simp only [tm73, reg73, Try.f73] at hr ⊢
      (refine Walk.opq (ho_of (by conv => lhs; whnf) (by kernel_rfl)) (by rfl) (by decide) (fun dd e he => ?_) (fun dd K hK => ?_); (· (simp [go_sem, *] at he; try (subst he; exact evR_read _ _))); go_simp; refine hK _ ?_; clear hK K; try walk_nrm)
      refine hr _ _ ⟨upd u 11 (.pointer (some ⟨X, 1, none⟩)), ?_, ⟨w.drawn, rfl⟩, F.set (by decide) rfl rfl⟩
      simp [upd]
    | 2, _ =>
      have hd := deps_of (l := [1]) (by kernel_rfl) ho hdeps
      have e11 := F 1 11 _ (hd 1 (by simp)) rfl rfl
      clear hdeps hfi ho
      simp only [tm73, reg73, Try.f73] at hr ⊢
      (refine Walk.opq (ho_of (by conv => lhs; whnf) (by kernel_rfl)) (by rfl) (by decide) (fun dd e he => ?_) (fun dd K hK => ?_); (· (simp [go_sem, *] at he; try (subst he; exact evR_read _ _))); go_simp; refine hK _ ?_; clear hK K; try walk_nrm)
      refine hr _ _ ⟨upd u 12 (.int .i64 cr), ?_, ⟨w.drawn, rfl⟩, F.set (by decide) rfl rfl⟩
      simp [upd, e11]
    | 3, _ =>
      have hd := deps_of (l := [0, 2]) (by kernel_rfl) ho hdeps
      have e10 := F 0 10 _ (hd 0 (by simp)) rfl rfl
      have e12 := F 2 12 _ (hd 2 (by simp)) rfl rfl
      clear hdeps hfi ho
      simp only [tm73, reg73, Try.f73] at hr ⊢
      refine Walk.callV (x := .pointer (some ⟨W, 2 + (cr % 4).toNat, none⟩)) (W := w) ?_ rfl (by rfl) (by decide) rfl Try.func104 (by kernel_rfl) (by rfl) ?_
      · walk_nrm
        simp only [e10, e12]
        exact register104 W cr _
      walk_nrm
      refine hr _ _ ⟨upd u 13 (.pointer (some ⟨W, 2 + (cr % 4).toNat, none⟩)), ?_, ⟨w.drawn, rfl⟩, F.set (by decide) rfl rfl⟩
      simp [upd, e10, e12]
    | 4, _ =>
      clear hdeps hfi ho
      simp only [tm73, reg73, Try.f73] at hr ⊢
      (refine Walk.opq (ho_of (by conv => lhs; whnf) (by kernel_rfl)) (by rfl) (by decide) (fun dd e he => ?_) (fun dd K hK => ?_); (· (simp [go_sem, *] at he; try (subst he; exact evR_read _ _))); go_simp; refine hK _ ?_; clear hK K; try walk_nrm)
      refine hr _ _ ⟨upd u 14 (.pointer (some ⟨W, 0, none⟩)), ?_, ⟨w.drawn, rfl⟩, F.set (by decide) rfl rfl⟩
      simp [upd]
    | 5, _ =>
      clear hdeps hfi ho
      simp only [tm73, reg73, Try.f73] at hr ⊢
      (refine Walk.opq (ho_of (by conv => lhs; whnf) (by kernel_rfl)) (by rfl) (by decide) (fun dd e he => ?_) (fun dd K hK => ?_); (· (simp [go_sem, *] at he; try (subst he; exact evR_read _ _))); go_simp; refine hK _ ?_; clear hK K; try walk_nrm)
      refine hr _ _ ⟨upd u 15 (.pointer (some ⟨X, 2, none⟩)), ?_, ⟨w.drawn, rfl⟩, F.set (by decide) rfl rfl⟩
      simp [upd]
    | 6, _ =>
      have hd := deps_of (l := [5]) (by kernel_rfl) ho hdeps
      have e15 := F 5 15 _ (hd 5 (by simp)) rfl rfl
      clear hdeps hfi ho
      simp only [tm73, reg73, Try.f73] at hr ⊢
      (refine Walk.opq (ho_of (by conv => lhs; whnf) (by kernel_rfl)) (by rfl) (by decide) (fun dd e he => ?_) (fun dd K hK => ?_); (· (simp [go_sem, *] at he; try (subst he; exact evR_read _ _))); go_simp; refine hK _ ?_; clear hK K; try walk_nrm)
      refine hr _ _ ⟨upd u 16 (.int .i64 ca), ?_, ⟨w.drawn, rfl⟩, F.set (by decide) rfl rfl⟩
      simp [upd, e15]
    | 7, _ =>
      have hd := deps_of (l := [4, 6]) (by kernel_rfl) ho hdeps
      have e14 := F 4 14 _ (hd 4 (by simp)) rfl rfl
      have e16 := F 6 16 _ (hd 6 (by simp)) rfl rfl
      clear hdeps hfi ho
      simp only [tm73, reg73, Try.f73] at hr ⊢
      refine Walk.callV (x := .pointer (some ⟨W, 2 + (ca % 4).toNat, none⟩)) (W := w) ?_ rfl (by rfl) (by decide) rfl Try.func104 (by kernel_rfl) (by rfl) ?_
      · walk_nrm
        simp only [e14, e16]
        exact register104 W ca _
      walk_nrm
      refine hr _ _ ⟨upd u 17 (.pointer (some ⟨W, 2 + (ca % 4).toNat, none⟩)), ?_, ⟨w.drawn, rfl⟩, F.set (by decide) rfl rfl⟩
      simp [upd, e14, e16]
    | 8, _ =>
      clear hdeps hfi ho
      simp only [tm73, reg73, Try.f73] at hr ⊢
      (refine Walk.opq (ho_of (by conv => lhs; whnf) (by kernel_rfl)) (by rfl) (by decide) (fun dd e he => ?_) (fun dd K hK => ?_); (· (simp [go_sem, *] at he; try (subst he; exact evR_read _ _))); go_simp; refine hK _ ?_; clear hK K; try walk_nrm)
      refine hr _ _ ⟨upd u 18 (.pointer (some ⟨W, 0, none⟩)), ?_, ⟨w.drawn, rfl⟩, F.set (by decide) rfl rfl⟩
      simp [upd]
    | 9, _ =>
      clear hdeps hfi ho
      simp only [tm73, reg73, Try.f73] at hr ⊢
      (refine Walk.opq (ho_of (by conv => lhs; whnf) (by kernel_rfl)) (by rfl) (by decide) (fun dd e he => ?_) (fun dd K hK => ?_); (· (simp [go_sem, *] at he; try (subst he; exact evR_read _ _))); go_simp; refine hK _ ?_; clear hK K; try walk_nrm)
      refine hr _ _ ⟨upd u 19 (.pointer (some ⟨X, 3, none⟩)), ?_, ⟨w.drawn, rfl⟩, F.set (by decide) rfl rfl⟩
      simp [upd]
    | 10, _ =>
      have hd := deps_of (l := [9]) (by kernel_rfl) ho hdeps
      have e19 := F 9 19 _ (hd 9 (by simp)) rfl rfl
      clear hdeps hfi ho
      simp only [tm73, reg73, Try.f73] at hr ⊢
      (refine Walk.opq (ho_of (by conv => lhs; whnf) (by kernel_rfl)) (by rfl) (by decide) (fun dd e he => ?_) (fun dd K hK => ?_); (· (simp [go_sem, *] at he; try (subst he; exact evR_read _ _))); go_simp; refine hK _ ?_; clear hK K; try walk_nrm)
      refine hr _ _ ⟨upd u 20 (.int .i64 cb), ?_, ⟨w.drawn, rfl⟩, F.set (by decide) rfl rfl⟩
      simp [upd, e19]
    | 11, _ =>
      have hd := deps_of (l := [8, 10]) (by kernel_rfl) ho hdeps
      have e18 := F 8 18 _ (hd 8 (by simp)) rfl rfl
      have e20 := F 10 20 _ (hd 10 (by simp)) rfl rfl
      clear hdeps hfi ho
      simp only [tm73, reg73, Try.f73] at hr ⊢
      refine Walk.callV (x := .pointer (some ⟨W, 2 + (cb % 4).toNat, none⟩)) (W := w) ?_ rfl (by rfl) (by decide) rfl Try.func104 (by kernel_rfl) (by rfl) ?_
      · walk_nrm
        simp only [e18, e20]
        exact register104 W cb _
      walk_nrm
      refine hr _ _ ⟨upd u 21 (.pointer (some ⟨W, 2 + (cb % 4).toNat, none⟩)), ?_, ⟨w.drawn, rfl⟩, F.set (by decide) rfl rfl⟩
      simp [upd, e18, e20]
    | 12, _ =>
      have hd := deps_of (l := [3]) (by kernel_rfl) ho hdeps
      have e13 := F 3 13 _ (hd 3 (by simp)) rfl rfl
      clear hdeps hfi ho
      simp only [tm73, reg73, Try.f73] at hr ⊢
      (refine Walk.opq (ho_of (by conv => lhs; whnf) (by kernel_rfl)) (by rfl) (by decide) (fun dd e he => ?_) (fun dd K hK => ?_); (· (simp [go_sem, *] at he; try (subst he; exact evR_read _ _))); go_simp; refine hK _ ?_; clear hK K; try walk_nrm)
      refine hr _ _ ⟨upd u 7 (.pointer (some ⟨W, 2 + (cr % 4).toNat, none⟩)), ?_, ⟨w.drawn, rfl⟩, F.set (by decide) rfl rfl⟩
      simp [upd, e13]
    | 13, _ =>
      have hd := deps_of (l := [7]) (by kernel_rfl) ho hdeps
      have e17 := F 7 17 _ (hd 7 (by simp)) rfl rfl
      clear hdeps hfi ho
      simp only [tm73, reg73, Try.f73] at hr ⊢
      (refine Walk.opq (ho_of (by conv => lhs; whnf) (by kernel_rfl)) (by rfl) (by decide) (fun dd e he => ?_) (fun dd K hK => ?_); (· (simp [go_sem, *] at he; try (subst he; exact evR_read _ _))); go_simp; refine hK _ ?_; clear hK K; try walk_nrm)
      refine hr _ _ ⟨upd u 8 (.pointer (some ⟨W, 2 + (ca % 4).toNat, none⟩)), ?_, ⟨w.drawn, rfl⟩, F.set (by decide) rfl rfl⟩
      simp [upd, e17]
    | 14, _ =>
      have hd := deps_of (l := [11]) (by kernel_rfl) ho hdeps
      have e21 := F 11 21 _ (hd 11 (by simp)) rfl rfl
      clear hdeps hfi ho
      simp only [tm73, reg73, Try.f73] at hr ⊢
      (refine Walk.opq (ho_of (by conv => lhs; whnf) (by kernel_rfl)) (by rfl) (by decide) (fun dd e he => ?_) (fun dd K hK => ?_); (· (simp [go_sem, *] at he; try (subst he; exact evR_read _ _))); go_simp; refine hK _ ?_; clear hK K; try walk_nrm)
      refine hr _ _ ⟨upd u 9 (.pointer (some ⟨W, 2 + (cb % 4).toNat, none⟩)), ?_, ⟨w.drawn, rfl⟩, F.set (by decide) rfl rfl⟩
      simp [upd, e21]
  · rintro f a w' ⟨u, rfl, ⟨d, rfl⟩, F⟩ hall
    have hsz : reg73.size = 15 := by kernel_rfl
    exact (hk u (F 12 7 _ (hall 12 (by rw [hsz]; omega)) rfl rfl) (F 13 8 _ (hall 13 (by rw [hsz]; omega)) rfl rfl) (F 14 9 _ (hall 14 (by rw [hsz]; omega)) rfl rfl)).back d
end Go.Proofs.Ytgiiicdpbdfemaa
end

/- Package turn's programs, in company: reckon, by what the code does. -/
section
namespace Go.Proofs.Ytgiiicdpbdfemaa
open Go.Conc Go.RowKit Go.Relay
open Go.ConcN (upd upd_ne upd_same)

variable {main : Bool} {V : Nat → Option Wait}

theorem wrap_ok (n : Int) (h1 : -9223372036854775808 ≤ n) (h2 : n < 9223372036854775808) : IntKind.i64.wrap n = n := by
  simp [IntKind.wrap, IntKind.bits, IntKind.signed]
  omega

theorem box_cells (w : World) (cd cr ca cb cv : Int) : (boxW w cd cr ca cb cv).cell? ⟨w.heap.size, 0, none⟩ = some (.int .i64 cd) ∧ (boxW w cd cr ca cb cv).cell? ⟨w.heap.size, 1, none⟩ = some (.int .i64 cr) ∧ (boxW w cd cr ca cb cv).cell? ⟨w.heap.size, 2, none⟩ = some (.int .i64 ca) ∧
    (boxW w cd cr ca cb cv).cell? ⟨w.heap.size, 3, none⟩ = some (.int .i64 cb) ∧ (boxW w cd cr ca cb cv).cell? ⟨w.heap.size, 4, none⟩ = some (.int .i64 cv) := by
  unfold boxW
  refine ⟨?_, ?_, ?_, ?_, ?_⟩ <;> exact World.cell?_alloc_at _ _ _ _ rfl

set_option maxHeartbeats 8000000 in
set_option maxRecDepth 100000 in
theorem head73 {Stop : Goroutine → World → Prop} (W : Nat) (cd cr ca cb cv next : Int) (cs : List Frame) (w : World)
    (hk : ∀ u : Nat → Value, u 7 = .pointer (some ⟨W, 2 + (cr % 4).toNat, none⟩) → u 8 = .pointer (some ⟨W, 2 + (ca % 4).toNat, none⟩) → u 9 = .pointer (some ⟨W, 2 + (cb % 4).toNat, none⟩) →
      Walk Try.prog main (DR V) Stop (G ((base 73).at ⟨tm73 W w.heap.size (codeV cd cr ca cb cv) next u, []⟩ [.inRegion reg73 [], .code rest73]) cs) (boxW w cd cr ca cb cv)) :
    Walk Try.prog main (DR V) Stop (G ((base 73).at { tmps := #[.pointer (some ⟨W, 0, none⟩), codeV cd cr ca cb cv, .int .i64 next] ++ Array.replicate 84 undef, defers := [] } [.code (Try.f73.body.getD .skip)]) cs) w := by
  simp only [codeV, Try.f73, Option.getD_some, Array.replicate_succ, Array.replicate_zero, List.push_toArray, List.append_toArray, List.nil_append, List.cons_append]
  repeat (first | (refine Walk.c rfl ?_) | (refine Walk.cReg ?_; simp only [List.size_toArray, List.length_cons, List.length_nil, Nat.reduceAdd, Nat.zero_add, List.range, List.range.loop]) | (refine Walk.cRet ?_) | (refine Walk.cEnd ?_) | (refine Walk.opq (ho_of (by conv => lhs; whnf) (by kernel_rfl)) (by rfl) (by decide) (fun dd e he => ?_) (fun dd K hK => ?_); (· (simp [go_sem, *] at he; try (subst he; exact evR_read _ _))); go_simp; refine hK _ ?_; clear hK K; try walk_nrm) | (refine Walk.ctl rfl (fun w => stepG_unwanted (ho_of (by conv => lhs; whnf) (by kernel_rfl)) (by rfl)) ?_; walk_nrm))
  (co_applyP Walk.opw (ho_of (by conv => lhs; whnf) (by kernel_rfl)) (by rfl) (by decide) ?wev1 ?wdr1 ?wrun1; (case' wrun1 => (intro dd K hK; go_simp; simp only [alloc_at', setCell_at']; refine hK _ ?wmore1; clear hK K)); (case wdr1 => exact fun dd es hes => DR.alloc' dd es hes); (case wev1 => (intro dd e he; simp [go_sem, *] at he)); try walk_nrm)
  repeat (first | (refine Walk.c rfl ?_) | (refine Walk.cReg ?_; simp only [List.size_toArray, List.length_cons, List.length_nil, Nat.reduceAdd, Nat.zero_add, List.range, List.range.loop]) | (refine Walk.cRet ?_) | (refine Walk.cEnd ?_) | (refine Walk.opq (ho_of (by conv => lhs; whnf) (by kernel_rfl)) (by rfl) (by decide) (fun dd e he => ?_) (fun dd K hK => ?_); (· (simp [go_sem, *] at he; try (subst he; exact evR_read _ _))); go_simp; refine hK _ ?_; clear hK K; try walk_nrm) | (refine Walk.ctl rfl (fun w => stepG_unwanted (ho_of (by conv => lhs; whnf) (by kernel_rfl)) (by rfl)) ?_; walk_nrm))
  obtain ⟨b0, b1, b2, b3, b4⟩ := box_cells w cd cr ca cb cv
  unfold boxW at hk b1 b2 b3
  refine reg73_walk W w.heap.size (.agg #[.int .i64 cd, .int .i64 cr, .int .i64 ca, .int .i64 cb, .int .i64 cv]) cr ca cb next cs (fun _ => undef) _ b1 b2 b3 ?_
  intro u h7 h8 h9
  exact hk u h7 h8 h9

/-- A register's cell, of a world in which the code is boxed. -/
theorem box_reg {w : World} {W k : Nat} {x : Value} (cd cr ca cb cv : Int) (hc : w.cell? ⟨W, k, none⟩ = some x) : (boxW w cd cr ca cb cv).cell? ⟨W, k, none⟩ = some x ∧ (boxW w cd cr ca cb cv).frozen? ⟨W, k, none⟩ = w.frozen? ⟨W, k, none⟩ :=
  ⟨cell_alloc w _ hc, frozen_alloc w _ hc rfl⟩

end Go.Proofs.Ytgiiicdpbdfemaa
end

/- Package turn's programs, in company: whether a code is a step. -/
section
namespace Go.Proofs.Ytgiiicdpbdfemaa
open Go.Conc Go.RowKit Go.Relay
open Go.ConcN (upd upd_ne upd_same)

variable {main : Bool} {V : Nat → Option Wait}

/-- What isStep answers. -/
def isStepB (cd ca : Int) (len : Nat) : Bool := decide (7 ≤ cd) && decide (cd ≤ 11) && decide (0 ≤ ca) && decide (ca < len)

set_option maxHeartbeats 8000000 in
set_option maxRecDepth 100000 in
theorem isStep_yes (W : Nat) (cd cr ca cb cv : Int) (sa : Option Addr) (len cap : Nat) (w : World) (h0 : w.cell? ⟨W, 0, none⟩ = some (.slice sa len cap)) (g1 : 7 ≤ cd) (g2 : cd ≤ 11) (g3 : 0 ≤ ca) :
    CallV Try.prog main V 71 #[.pointer (some ⟨W, 0, none⟩), .agg #[.int .i64 cd, .int .i64 cr, .int .i64 ca, .int .i64 cb, .int .i64 cv]] w (.bool (decide (ca < len))) (w.alloc (.cells #[.int .i64 cd, .int .i64 cr, .int .i64 ca, .int .i64 cb, .int .i64 cv] 99)) := by
  refine callW_in Try.func71 rfl fun fr cs => ?_
  simp only [Try.ntmps71, List.size_toArray, List.length_cons, List.length_nil, Nat.reduceAdd, Nat.reduceSub, Array.replicate_succ, Array.replicate_zero, List.push_toArray, List.append_toArray, List.nil_append, List.cons_append]
  repeat (first | (refine Walk.c rfl ?_) | (refine Walk.cReg ?_; simp only [List.size_toArray, List.length_cons, List.length_nil, Nat.reduceAdd, Nat.zero_add, List.range, List.range.loop]) | (refine Walk.cRet ?_) | (refine Walk.cEnd ?_) | (refine Walk.opq (ho_of (by conv => lhs; whnf) (by kernel_rfl)) (by rfl) (by decide) (fun dd e he => ?_) (fun dd K hK => ?_); (· (simp [go_sem, *] at he; try (subst he; exact evR_read _ _))); go_simp; refine hK _ ?_; clear hK K; try walk_nrm) | (refine Walk.ctl rfl (fun w => stepG_unwanted (ho_of (by conv => lhs; whnf) (by kernel_rfl)) (by rfl)) ?_; walk_nrm))
  (co_applyP Walk.opw (ho_of (by conv => lhs; whnf) (by kernel_rfl)) (by rfl) (by decide) ?wev1 ?wdr1 ?wrun1; (case' wrun1 => (intro dd K hK; go_simp; simp only [alloc_at', setCell_at']; refine hK _ ?wmore1; clear hK K)); (case wdr1 => exact fun dd es hes => DR.alloc' dd es hes); (case wev1 => (intro dd e he; simp [go_sem, *] at he)); try walk_nrm)
  repeat (first | (refine Walk.c rfl ?_) | (refine Walk.cReg ?_; simp only [List.size_toArray, List.length_cons, List.length_nil, Nat.reduceAdd, Nat.zero_add, List.range, List.range.loop]) | (refine Walk.cRet ?_) | (refine Walk.cEnd ?_) | (refine Walk.opq (ho_of (by conv => lhs; whnf) (by kernel_rfl)) (by rfl) (by decide) (fun dd e he => ?_) (fun dd K hK => ?_); (· (simp [go_sem, *] at he; try (subst he; exact evR_read _ _))); go_simp; refine hK _ ?_; clear hK K; try walk_nrm) | (refine Walk.ctl rfl (fun w => stepG_unwanted (ho_of (by conv => lhs; whnf) (by kernel_rfl)) (by rfl)) ?_; walk_nrm))
  have hc0 := cell_alloc w (.cells #[.int .i64 cd, .int .i64 cr, .int .i64 ca, .int .i64 cb, .int .i64 cv] 99) h0
  have b0 := World.cell?_alloc_at (w := w) #[.int .i64 cd, .int .i64 cr, .int .i64 ca, .int .i64 cb, .int .i64 cv] 99 w.heap.size 0 rfl
  have b2 := World.cell?_alloc_at (w := w) #[.int .i64 cd, .int .i64 cr, .int .i64 ca, .int .i64 cb, .int .i64 cv] 99 w.heap.size 2 rfl
  replace b0 : (w.alloc (.cells #[.int .i64 cd, .int .i64 cr, .int .i64 ca, .int .i64 cb, .int .i64 cv] 99)).cell? ⟨w.heap.size, 0, none⟩ = some (.int .i64 cd) := b0
  replace b2 : (w.alloc (.cells #[.int .i64 cd, .int .i64 cr, .int .i64 ca, .int .i64 cb, .int .i64 cv] 99)).cell? ⟨w.heap.size, 2, none⟩ = some (.int .i64 ca) := b2
  generalize w.alloc (.cells #[.int .i64 cd, .int .i64 cr, .int .i64 ca, .int .i64 cb, .int .i64 cv] 99) = w1 at *
  generalize w.heap.size = X at *
  have d1 : decide (7 ≤ cd) = true := decide_eq_true g1
  have d2 : decide (cd ≤ 11) = true := decide_eq_true g2
  have d3 : decide (0 ≤ ca) = true := decide_eq_true g3
  let S : World → Prop := fun w' => ∃ d, w' = w1.at d
  have hrl : ∀ w₁ w₂, S w₁ → AtRel w₁ w₂ → S w₂ := by
    rintro _ _ ⟨d, rfl⟩ ⟨d', rfl⟩; exact ⟨d', rfl⟩
  have hF : S w1 := ⟨w1.drawn, rfl⟩
  refine Walk.held S hrl hF (by kernel_rfl) (by decide) (Q := fun a' => a'.tmps.getD 4 undef = .bool (decide (ca < len)) ∧ a'.defers = []) (fun w₁ hF => ?_) ?_
  · simp only [List.size_toArray, List.length_cons, List.length_nil, Nat.reduceAdd, Nat.zero_add]
    (co_applyP anyCH_take termsR (fun _ _ h r => hrl _ _ h r) (fun _ _ _ h r => ⟨h.1, hrl _ _ h.2.1 r, h.2.2⟩) (i := 0) rfl (by first | kernel_rfl | decide +kernel) (by first | kernel_rfl | decide +kernel) (by first | kernel_rfl | decide +kernel) (.inl ⟨by rfl, fun _ hw => ⟨run_eq_of ?run2, ?guar2⟩⟩) hF ?rest2; (case run2 => (intro K hK; obtain ⟨dx, hdx⟩ := hw; subst hdx; go_simp; exact hK)); (case guar2 => (obtain ⟨dx, hdx⟩ := hw; subst hdx; refine DR.quiet (fun e he => ?_); have hm := mem_listed he; simp [go_sem, *] at hm; try (subst hm; exact evR_read _ _))); try walk_nrm)
    (co_applyP anyCH_take termsR (fun _ _ h r => hrl _ _ h r) (fun _ _ _ h r => ⟨h.1, hrl _ _ h.2.1 r, h.2.2⟩) (i := 1) rfl (by first | kernel_rfl | decide +kernel) (by first | kernel_rfl | decide +kernel) (by first | kernel_rfl | decide +kernel) (.inl ⟨by rfl, fun _ hw => ⟨run_eq_of ?run3, ?guar3⟩⟩) hF ?rest3; (case run3 => (intro K hK; obtain ⟨dx, hdx⟩ := hw; subst hdx; go_simp; exact hK)); (case guar3 => (obtain ⟨dx, hdx⟩ := hw; subst hdx; refine DR.quiet (fun e he => ?_); have hm := mem_listed he; simp [go_sem, *] at hm; try (subst hm; exact evR_read _ _))); try walk_nrm)
    (co_applyP anyCH_take termsR (fun _ _ h r => hrl _ _ h r) (fun _ _ _ h r => ⟨h.1, hrl _ _ h.2.1 r, h.2.2⟩) (i := 2) rfl (by first | kernel_rfl | decide +kernel) (by first | kernel_rfl | decide +kernel) (by first | kernel_rfl | decide +kernel) (.inl ⟨by rfl, fun _ hw => ⟨run_eq_of ?run4, ?guar4⟩⟩) hF ?rest4; (case run4 => (intro K hK; obtain ⟨dx, hdx⟩ := hw; subst hdx; go_simp; exact hK)); (case guar4 => (obtain ⟨dx, hdx⟩ := hw; subst hdx; refine DR.quiet (fun e he => ?_); have hm := mem_listed he; simp [go_sem, *] at hm; try (subst hm; exact evR_read _ _))); try walk_nrm)
    (co_applyP anyCH_take termsR (fun _ _ h r => hrl _ _ h r) (fun _ _ _ h r => ⟨h.1, hrl _ _ h.2.1 r, h.2.2⟩) (i := 3) rfl (by first | kernel_rfl | decide +kernel) (by first | kernel_rfl | decide +kernel) (by first | kernel_rfl | decide +kernel) (.inl ⟨by rfl, fun _ hw => ⟨run_eq_of ?run5, ?guar5⟩⟩) hF ?rest5; (case run5 => (intro K hK; obtain ⟨dx, hdx⟩ := hw; subst hdx; go_simp; exact hK)); (case guar5 => (obtain ⟨dx, hdx⟩ := hw; subst hdx; refine DR.quiet (fun e he => ?_); have hm := mem_listed he; simp [go_sem, *] at hm; try (subst hm; exact evR_read _ _))); try walk_nrm)
    (co_applyP anyCH_take termsR (fun _ _ h r => hrl _ _ h r) (fun _ _ _ h r => ⟨h.1, hrl _ _ h.2.1 r, h.2.2⟩) (i := 4) rfl (by first | kernel_rfl | decide +kernel) (by first | kernel_rfl | decide +kernel) (by first | kernel_rfl | decide +kernel) (.inl ⟨by rfl, fun _ hw => ⟨run_eq_of ?run6, ?guar6⟩⟩) hF ?rest6; (case run6 => (intro K hK; obtain ⟨dx, hdx⟩ := hw; subst hdx; go_simp; exact hK)); (case guar6 => (obtain ⟨dx, hdx⟩ := hw; subst hdx; refine DR.quiet (fun e he => ?_); have hm := mem_listed he; simp [go_sem, *] at hm; try (subst hm; exact evR_read _ _))); try walk_nrm)
    (co_applyP anyCH_take termsR (fun _ _ h r => hrl _ _ h r) (fun _ _ _ h r => ⟨h.1, hrl _ _ h.2.1 r, h.2.2⟩) (i := 5) rfl (by first | kernel_rfl | decide +kernel) (by first | kernel_rfl | decide +kernel) (by first | kernel_rfl | decide +kernel) (.inl ⟨by rfl, fun _ hw => ⟨run_eq_of ?run7, ?guar7⟩⟩) hF ?rest7; (case run7 => (intro K hK; obtain ⟨dx, hdx⟩ := hw; subst hdx; go_simp; exact hK)); (case guar7 => (obtain ⟨dx, hdx⟩ := hw; subst hdx; refine DR.quiet (fun e he => ?_); have hm := mem_listed he; simp [go_sem, *] at hm; try (subst hm; exact evR_read _ _))); try walk_nrm)
    (co_applyP anyCH_take termsR (fun _ _ h r => hrl _ _ h r) (fun _ _ _ h r => ⟨h.1, hrl _ _ h.2.1 r, h.2.2⟩) (i := 6) rfl (by first | kernel_rfl | decide +kernel) (by first | kernel_rfl | decide +kernel) (by first | kernel_rfl | decide +kernel) (.inl ⟨by rfl, fun _ hw => ⟨run_eq_of ?run8, ?guar8⟩⟩) hF ?rest8; (case run8 => (intro K hK; obtain ⟨dx, hdx⟩ := hw; subst hdx; go_simp; exact hK)); (case guar8 => (obtain ⟨dx, hdx⟩ := hw; subst hdx; refine DR.quiet (fun e he => ?_); have hm := mem_listed he; simp [go_sem, *] at hm; try (subst hm; exact evR_read _ _))); try walk_nrm)
    (co_applyP anyCH_take termsR (fun _ _ h r => hrl _ _ h r) (fun _ _ _ h r => ⟨h.1, hrl _ _ h.2.1 r, h.2.2⟩) (i := 7) rfl (by first | kernel_rfl | decide +kernel) (by first | kernel_rfl | decide +kernel) (by first | kernel_rfl | decide +kernel) (.inl ⟨by rfl, fun _ hw => ⟨run_eq_of ?run9, ?guar9⟩⟩) hF ?rest9; (case run9 => (intro K hK; obtain ⟨dx, hdx⟩ := hw; subst hdx; go_simp; exact hK)); (case guar9 => (obtain ⟨dx, hdx⟩ := hw; subst hdx; refine DR.quiet (fun e he => ?_); have hm := mem_listed he; simp [go_sem, *] at hm; try (subst hm; exact evR_read _ _))); try walk_nrm)
    (co_applyP anyCH_take termsR (fun _ _ h r => hrl _ _ h r) (fun _ _ _ h r => ⟨h.1, hrl _ _ h.2.1 r, h.2.2⟩) (i := 8) rfl (by first | kernel_rfl | decide +kernel) (by first | kernel_rfl | decide +kernel) (by first | kernel_rfl | decide +kernel) (.inl ⟨by rfl, fun _ hw => ⟨run_eq_of ?run10, ?guar10⟩⟩) hF ?rest10; (case run10 => (intro K hK; obtain ⟨dx, hdx⟩ := hw; subst hdx; go_simp; exact hK)); (case guar10 => (obtain ⟨dx, hdx⟩ := hw; subst hdx; refine DR.quiet (fun e he => ?_); have hm := mem_listed he; simp [go_sem, *] at hm; try (subst hm; exact evR_read _ _))); try walk_nrm)
    (co_applyP anyCH_take termsR (fun _ _ h r => hrl _ _ h r) (fun _ _ _ h r => ⟨h.1, hrl _ _ h.2.1 r, h.2.2⟩) (i := 9) rfl (by first | kernel_rfl | decide +kernel) (by first | kernel_rfl | decide +kernel) (by first | kernel_rfl | decide +kernel) (.inl ⟨by rfl, fun _ hw => ⟨run_eq_of ?run11, ?guar11⟩⟩) hF ?rest11; (case run11 => (intro K hK; obtain ⟨dx, hdx⟩ := hw; subst hdx; go_simp; exact hK)); (case guar11 => (obtain ⟨dx, hdx⟩ := hw; subst hdx; refine DR.quiet (fun e he => ?_); have hm := mem_listed he; simp [go_sem, *] at hm; try (subst hm; exact evR_read _ _))); try walk_nrm)
    (co_applyP anyCH_take termsR (fun _ _ h r => hrl _ _ h r) (fun _ _ _ h r => ⟨h.1, hrl _ _ h.2.1 r, h.2.2⟩) (i := 10) rfl (by first | kernel_rfl | decide +kernel) (by first | kernel_rfl | decide +kernel) (by first | kernel_rfl | decide +kernel) (.inl ⟨by rfl, fun _ hw => ⟨run_eq_of ?run12, ?guar12⟩⟩) hF ?rest12; (case run12 => (intro K hK; obtain ⟨dx, hdx⟩ := hw; subst hdx; go_simp; exact hK)); (case guar12 => (obtain ⟨dx, hdx⟩ := hw; subst hdx; refine DR.quiet (fun e he => ?_); have hm := mem_listed he; simp [go_sem, *] at hm; try (subst hm; exact evR_read _ _))); try walk_nrm)
    (co_applyP anyCH_take termsR (fun _ _ h r => hrl _ _ h r) (fun _ _ _ h r => ⟨h.1, hrl _ _ h.2.1 r, h.2.2⟩) (i := 11) rfl (by first | kernel_rfl | decide +kernel) (by first | kernel_rfl | decide +kernel) (by first | kernel_rfl | decide +kernel) (.inl ⟨by rfl, fun _ hw => ⟨run_eq_of ?run13, ?guar13⟩⟩) hF ?rest13; (case run13 => (intro K hK; obtain ⟨dx, hdx⟩ := hw; subst hdx; go_simp; exact hK)); (case guar13 => (obtain ⟨dx, hdx⟩ := hw; subst hdx; refine DR.quiet (fun e he => ?_); have hm := mem_listed he; simp [go_sem, *] at hm; try (subst hm; exact evR_read _ _))); try walk_nrm)
    (co_applyP anyCH_take termsR (fun _ _ h r => hrl _ _ h r) (fun _ _ _ h r => ⟨h.1, hrl _ _ h.2.1 r, h.2.2⟩) (i := 12) rfl (by first | kernel_rfl | decide +kernel) (by first | kernel_rfl | decide +kernel) (by first | kernel_rfl | decide +kernel) (.inl ⟨by rfl, fun _ hw => ⟨run_eq_of ?run14, ?guar14⟩⟩) hF ?rest14; (case run14 => (intro K hK; obtain ⟨dx, hdx⟩ := hw; subst hdx; go_simp; exact hK)); (case guar14 => (obtain ⟨dx, hdx⟩ := hw; subst hdx; refine DR.quiet (fun e he => ?_); have hm := mem_listed he; simp [go_sem, *] at hm; try (subst hm; exact evR_read _ _))); try walk_nrm)
    (co_applyP anyCH_take termsR (fun _ _ h r => hrl _ _ h r) (fun _ _ _ h r => ⟨h.1, hrl _ _ h.2.1 r, h.2.2⟩) (i := 13) rfl (by first | kernel_rfl | decide +kernel) (by first | kernel_rfl | decide +kernel) (by first | kernel_rfl | decide +kernel) (.inl ⟨by rfl, fun _ hw => ⟨run_eq_of ?run15, ?guar15⟩⟩) hF ?rest15; (case run15 => (intro K hK; obtain ⟨dx, hdx⟩ := hw; subst hdx; go_simp; exact hK)); (case guar15 => (obtain ⟨dx, hdx⟩ := hw; subst hdx; refine DR.quiet (fun e he => ?_); have hm := mem_listed he; simp [go_sem, *] at hm; try (subst hm; exact evR_read _ _))); try walk_nrm)
    (co_applyP anyCH_take termsR (fun _ _ h r => hrl _ _ h r) (fun _ _ _ h r => ⟨h.1, hrl _ _ h.2.1 r, h.2.2⟩) (i := 14) rfl (by first | kernel_rfl | decide +kernel) (by first | kernel_rfl | decide +kernel) (by first | kernel_rfl | decide +kernel) (.inl ⟨by rfl, fun _ hw => ⟨run_eq_of ?run16, ?guar16⟩⟩) hF ?rest16; (case run16 => (intro K hK; obtain ⟨dx, hdx⟩ := hw; subst hdx; go_simp; exact hK)); (case guar16 => (obtain ⟨dx, hdx⟩ := hw; subst hdx; refine DR.quiet (fun e he => ?_); have hm := mem_listed he; simp [go_sem, *] at hm; try (subst hm; exact evR_read _ _))); try walk_nrm)
    (co_applyP anyCH_take termsR (fun _ _ h r => hrl _ _ h r) (fun _ _ _ h r => ⟨h.1, hrl _ _ h.2.1 r, h.2.2⟩) (i := 15) rfl (by first | kernel_rfl | decide +kernel) (by first | kernel_rfl | decide +kernel) (by first | kernel_rfl | decide +kernel) (.inl ⟨by rfl, fun _ hw => ⟨run_eq_of ?run17, ?guar17⟩⟩) hF ?rest17; (case run17 => (intro K hK; obtain ⟨dx, hdx⟩ := hw; subst hdx; go_simp; exact hK)); (case guar17 => (obtain ⟨dx, hdx⟩ := hw; subst hdx; refine DR.quiet (fun e he => ?_); have hm := mem_listed he; simp [go_sem, *] at hm; try (subst hm; exact evR_read _ _))); try walk_nrm)
    (co_applyP anyCH_take termsR (fun _ _ h r => hrl _ _ h r) (fun _ _ _ h r => ⟨h.1, hrl _ _ h.2.1 r, h.2.2⟩) (i := 16) rfl (by first | kernel_rfl | decide +kernel) (by first | kernel_rfl | decide +kernel) (by first | kernel_rfl | decide +kernel) (.inl ⟨by rfl, fun _ hw => ⟨run_eq_of ?run18, ?guar18⟩⟩) hF ?rest18; (case run18 => (intro K hK; obtain ⟨dx, hdx⟩ := hw; subst hdx; go_simp; exact hK)); (case guar18 => (obtain ⟨dx, hdx⟩ := hw; subst hdx; refine DR.quiet (fun e he => ?_); have hm := mem_listed he; simp [go_sem, *] at hm; try (subst hm; exact evR_read _ _))); try walk_nrm)
    (co_applyP anyCH_take termsR (fun _ _ h r => hrl _ _ h r) (fun _ _ _ h r => ⟨h.1, hrl _ _ h.2.1 r, h.2.2⟩) (i := 17) rfl (by first | kernel_rfl | decide +kernel) (by first | kernel_rfl | decide +kernel) (by first | kernel_rfl | decide +kernel) (.inl ⟨by rfl, fun _ hw => ⟨run_eq_of ?run19, ?guar19⟩⟩) hF ?rest19; (case run19 => (intro K hK; obtain ⟨dx, hdx⟩ := hw; subst hdx; go_simp; exact hK)); (case guar19 => (obtain ⟨dx, hdx⟩ := hw; subst hdx; refine DR.quiet (fun e he => ?_); have hm := mem_listed he; simp [go_sem, *] at hm; try (subst hm; exact evR_read _ _))); try walk_nrm)
    (co_applyP anyCH_take termsR (fun _ _ h r => hrl _ _ h r) (fun _ _ _ h r => ⟨h.1, hrl _ _ h.2.1 r, h.2.2⟩) (i := 18) rfl (by first | kernel_rfl | decide +kernel) (by first | kernel_rfl | decide +kernel) (by first | kernel_rfl | decide +kernel) (.inl ⟨by rfl, fun _ hw => ⟨run_eq_of ?run20, ?guar20⟩⟩) hF ?rest20; (case run20 => (intro K hK; obtain ⟨dx, hdx⟩ := hw; subst hdx; go_simp; exact hK)); (case guar20 => (obtain ⟨dx, hdx⟩ := hw; subst hdx; refine DR.quiet (fun e he => ?_); have hm := mem_listed he; simp [go_sem, *] at hm; try (subst hm; exact evR_read _ _))); try walk_nrm)
    (co_applyP anyCH_take termsR (fun _ _ h r => hrl _ _ h r) (fun _ _ _ h r => ⟨h.1, hrl _ _ h.2.1 r, h.2.2⟩) (i := 19) rfl (by first | kernel_rfl | decide +kernel) (by first | kernel_rfl | decide +kernel) (by first | kernel_rfl | decide +kernel) (.inl ⟨by rfl, fun _ hw => ⟨run_eq_of ?run21, ?guar21⟩⟩) hF ?rest21; (case run21 => (intro K hK; obtain ⟨dx, hdx⟩ := hw; subst hdx; go_simp; exact hK)); (case guar21 => (obtain ⟨dx, hdx⟩ := hw; subst hdx; refine DR.quiet (fun e he => ?_); have hm := mem_listed he; simp [go_sem, *] at hm; try (subst hm; exact evR_read _ _))); try walk_nrm)
    (co_applyP anyCH_take termsR (fun _ _ h r => hrl _ _ h r) (fun _ _ _ h r => ⟨h.1, hrl _ _ h.2.1 r, h.2.2⟩) (i := 20) rfl (by first | kernel_rfl | decide +kernel) (by first | kernel_rfl | decide +kernel) (by first | kernel_rfl | decide +kernel) (.inl ⟨by rfl, fun _ hw => ⟨run_eq_of ?run22, ?guar22⟩⟩) hF ?rest22; (case run22 => (intro K hK; obtain ⟨dx, hdx⟩ := hw; subst hdx; go_simp; exact hK)); (case guar22 => (obtain ⟨dx, hdx⟩ := hw; subst hdx; refine DR.quiet (fun e he => ?_); have hm := mem_listed he; simp [go_sem, *] at hm; try (subst hm; exact evR_read _ _))); try walk_nrm)
    (co_applyP anyCH_take termsR (fun _ _ h r => hrl _ _ h r) (fun _ _ _ h r => ⟨h.1, hrl _ _ h.2.1 r, h.2.2⟩) (i := 21) rfl (by first | kernel_rfl | decide +kernel) (by first | kernel_rfl | decide +kernel) (by first | kernel_rfl | decide +kernel) (.inl ⟨by rfl, fun _ hw => ⟨run_eq_of ?run23, ?guar23⟩⟩) hF ?rest23; (case run23 => (intro K hK; obtain ⟨dx, hdx⟩ := hw; subst hdx; go_simp; exact hK)); (case guar23 => (obtain ⟨dx, hdx⟩ := hw; subst hdx; refine DR.quiet (fun e he => ?_); have hm := mem_listed he; simp [go_sem, *] at hm; try (subst hm; exact evR_read _ _))); try walk_nrm)
    (co_applyP anyCH_take termsR (fun _ _ h r => hrl _ _ h r) (fun _ _ _ h r => ⟨h.1, hrl _ _ h.2.1 r, h.2.2⟩) (i := 22) rfl (by first | kernel_rfl | decide +kernel) (by first | kernel_rfl | decide +kernel) (by first | kernel_rfl | decide +kernel) (.inl ⟨by rfl, fun _ hw => ⟨run_eq_of ?run24, ?guar24⟩⟩) hF ?rest24; (case run24 => (intro K hK; obtain ⟨dx, hdx⟩ := hw; subst hdx; go_simp; exact hK)); (case guar24 => (obtain ⟨dx, hdx⟩ := hw; subst hdx; refine DR.quiet (fun e he => ?_); have hm := mem_listed he; simp [go_sem, *] at hm; try (subst hm; exact evR_read _ _))); try walk_nrm)
    (co_applyP anyCH_take termsR (fun _ _ h r => hrl _ _ h r) (fun _ _ _ h r => ⟨h.1, hrl _ _ h.2.1 r, h.2.2⟩) (i := 23) rfl (by first | kernel_rfl | decide +kernel) (by first | kernel_rfl | decide +kernel) (by first | kernel_rfl | decide +kernel) (.inl ⟨by rfl, fun _ hw => ⟨run_eq_of ?run25, ?guar25⟩⟩) hF ?rest25; (case run25 => (intro K hK; obtain ⟨dx, hdx⟩ := hw; subst hdx; go_simp; exact hK)); (case guar25 => (obtain ⟨dx, hdx⟩ := hw; subst hdx; refine DR.quiet (fun e he => ?_); have hm := mem_listed he; simp [go_sem, *] at hm; try (subst hm; exact evR_read _ _))); try walk_nrm)
    refine anyCH_done (by first | kernel_rfl | decide +kernel) ⟨rfl, hF, by simp, rfl⟩ _
  · rintro a' w' ⟨d, rfl⟩ ⟨h, hd⟩
    repeat (first | (refine Walk.c rfl ?_) | (refine Walk.cReg ?_; simp only [List.size_toArray, List.length_cons, List.length_nil, Nat.reduceAdd, Nat.zero_add, List.range, List.range.loop]) | (refine Walk.cRet ?_) | (refine Walk.cEnd ?_) | (refine Walk.opq (ho_of (by conv => lhs; whnf) (by kernel_rfl)) (by rfl) (by decide) (fun dd e he => ?_) (fun dd K hK => ?_); (· (simp [go_sem, *] at he; try (subst he; exact evR_read _ _))); go_simp; refine hK _ ?_; clear hK K; try walk_nrm) | (refine Walk.ctl rfl (fun w => stepG_unwanted (ho_of (by conv => lhs; whnf) (by kernel_rfl)) (by rfl)) ?_; walk_nrm))
    exact Walk.ret1 rfl hd Try.func71 rfl fun d' => ⟨h, d', rfl⟩
end Go.Proofs.Ytgiiicdpbdfemaa
end

/- Package turn's programs, in company: a code that is no step. -/
section
namespace Go.Proofs.Ytgiiicdpbdfemaa
open Go.Conc Go.RowKit Go.Relay
open Go.ConcN (upd upd_ne upd_same)

variable {main : Bool} {V : Nat → Option Wait}

set_option maxHeartbeats 8000000 in
set_option maxRecDepth 100000 in
theorem isStep_low (W : Nat) (cd cr ca cb cv : Int) (w : World) (g1 : cd < 7) :
    CallV Try.prog main V 71 #[.pointer (some ⟨W, 0, none⟩), .agg #[.int .i64 cd, .int .i64 cr, .int .i64 ca, .int .i64 cb, .int .i64 cv]] w (.bool false) (w.alloc (.cells #[.int .i64 cd, .int .i64 cr, .int .i64 ca, .int .i64 cb, .int .i64 cv] 99)) := by
  refine callW_in Try.func71 rfl fun fr cs => ?_
  simp only [Try.ntmps71, List.size_toArray, List.length_cons, List.length_nil, Nat.reduceAdd, Nat.reduceSub, Array.replicate_succ, Array.replicate_zero, List.push_toArray, List.append_toArray, List.nil_append, List.cons_append]
  repeat (first | (refine Walk.c rfl ?_) | (refine Walk.cReg ?_; simp only [List.size_toArray, List.length_cons, List.length_nil, Nat.reduceAdd, Nat.zero_add, List.range, List.range.loop]) | (refine Walk.cRet ?_) | (refine Walk.cEnd ?_) | (refine Walk.opq (ho_of (by conv => lhs; whnf) (by kernel_rfl)) (by rfl) (by decide) (fun dd e he => ?_) (fun dd K hK => ?_); (· (simp [go_sem, *] at he; try (subst he; exact evR_read _ _))); go_simp; refine hK _ ?_; clear hK K; try walk_nrm) | (refine Walk.ctl rfl (fun w => stepG_unwanted (ho_of (by conv => lhs; whnf) (by kernel_rfl)) (by rfl)) ?_; walk_nrm))
  (co_applyP Walk.opw (ho_of (by conv => lhs; whnf) (by kernel_rfl)) (by rfl) (by decide) ?wev1 ?wdr1 ?wrun1; (case' wrun1 => (intro dd K hK; go_simp; simp only [alloc_at', setCell_at']; refine hK _ ?wmore1; clear hK K)); (case wdr1 => exact fun dd es hes => DR.alloc' dd es hes); (case wev1 => (intro dd e he; simp [go_sem, *] at he)); try walk_nrm)
  repeat (first | (refine Walk.c rfl ?_) | (refine Walk.cReg ?_; simp only [List.size_toArray, List.length_cons, List.length_nil, Nat.reduceAdd, Nat.zero_add, List.range, List.range.loop]) | (refine Walk.cRet ?_) | (refine Walk.cEnd ?_) | (refine Walk.opq (ho_of (by conv => lhs; whnf) (by kernel_rfl)) (by rfl) (by decide) (fun dd e he => ?_) (fun dd K hK => ?_); (· (simp [go_sem, *] at he; try (subst he; exact evR_read _ _))); go_simp; refine hK _ ?_; clear hK K; try walk_nrm) | (refine Walk.ctl rfl (fun w => stepG_unwanted (ho_of (by conv => lhs; whnf) (by kernel_rfl)) (by rfl)) ?_; walk_nrm))
  have b0 := World.cell?_alloc_at (w := w) #[.int .i64 cd, .int .i64 cr, .int .i64 ca, .int .i64 cb, .int .i64 cv] 99 w.heap.size 0 rfl
  have b2 := World.cell?_alloc_at (w := w) #[.int .i64 cd, .int .i64 cr, .int .i64 ca, .int .i64 cb, .int .i64 cv] 99 w.heap.size 2 rfl
  replace b0 : (w.alloc (.cells #[.int .i64 cd, .int .i64 cr, .int .i64 ca, .int .i64 cb, .int .i64 cv] 99)).cell? ⟨w.heap.size, 0, none⟩ = some (.int .i64 cd) := b0
  replace b2 : (w.alloc (.cells #[.int .i64 cd, .int .i64 cr, .int .i64 ca, .int .i64 cb, .int .i64 cv] 99)).cell? ⟨w.heap.size, 2, none⟩ = some (.int .i64 ca) := b2
  generalize w.alloc (.cells #[.int .i64 cd, .int .i64 cr, .int .i64 ca, .int .i64 cb, .int .i64 cv] 99) = w1 at *
  generalize w.heap.size = X at *
  have d1 : decide (7 ≤ cd) = false := decide_eq_false (by omega)
  let S : World → Prop := fun w' => ∃ d, w' = w1.at d
  have hrl : ∀ w₁ w₂, S w₁ → AtRel w₁ w₂ → S w₂ := by
    rintro _ _ ⟨d, rfl⟩ ⟨d', rfl⟩; exact ⟨d', rfl⟩
  have hF : S w1 := ⟨w1.drawn, rfl⟩
  refine Walk.held S hrl hF (by kernel_rfl) (by decide) (Q := fun a' => a'.tmps.getD 4 undef = .bool false ∧ a'.defers = []) (fun w₁ hF => ?_) ?_
  · simp only [List.size_toArray, List.length_cons, List.length_nil, Nat.reduceAdd, Nat.zero_add]
    (co_applyP anyCH_take termsR (fun _ _ h r => hrl _ _ h r) (fun _ _ _ h r => ⟨h.1, hrl _ _ h.2.1 r, h.2.2⟩) (i := 0) rfl (by first | kernel_rfl | decide +kernel) (by first | kernel_rfl | decide +kernel) (by first | kernel_rfl | decide +kernel) (.inl ⟨by rfl, fun _ hw => ⟨run_eq_of ?run2, ?guar2⟩⟩) hF ?rest2; (case run2 => (intro K hK; obtain ⟨dx, hdx⟩ := hw; subst hdx; go_simp; exact hK)); (case guar2 => (obtain ⟨dx, hdx⟩ := hw; subst hdx; refine DR.quiet (fun e he => ?_); have hm := mem_listed he; simp [go_sem, *] at hm; try (subst hm; exact evR_read _ _))); try walk_nrm)
    (co_applyP anyCH_take termsR (fun _ _ h r => hrl _ _ h r) (fun _ _ _ h r => ⟨h.1, hrl _ _ h.2.1 r, h.2.2⟩) (i := 1) rfl (by first | kernel_rfl | decide +kernel) (by first | kernel_rfl | decide +kernel) (by first | kernel_rfl | decide +kernel) (.inl ⟨by rfl, fun _ hw => ⟨run_eq_of ?run3, ?guar3⟩⟩) hF ?rest3; (case run3 => (intro K hK; obtain ⟨dx, hdx⟩ := hw; subst hdx; go_simp; exact hK)); (case guar3 => (obtain ⟨dx, hdx⟩ := hw; subst hdx; refine DR.quiet (fun e he => ?_); have hm := mem_listed he; simp [go_sem, *] at hm; try (subst hm; exact evR_read _ _))); try walk_nrm)
    (co_applyP anyCH_take termsR (fun _ _ h r => hrl _ _ h r) (fun _ _ _ h r => ⟨h.1, hrl _ _ h.2.1 r, h.2.2⟩) (i := 2) rfl (by first | kernel_rfl | decide +kernel) (by first | kernel_rfl | decide +kernel) (by first | kernel_rfl | decide +kernel) (.inl ⟨by rfl, fun _ hw => ⟨run_eq_of ?run4, ?guar4⟩⟩) hF ?rest4; (case run4 => (intro K hK; obtain ⟨dx, hdx⟩ := hw; subst hdx; go_simp; exact hK)); (case guar4 => (obtain ⟨dx, hdx⟩ := hw; subst hdx; refine DR.quiet (fun e he => ?_); have hm := mem_listed he; simp [go_sem, *] at hm; try (subst hm; exact evR_read _ _))); try walk_nrm)
    (co_applyP anyCH_take termsR (fun _ _ h r => hrl _ _ h r) (fun _ _ _ h r => ⟨h.1, hrl _ _ h.2.1 r, h.2.2⟩) (i := 3) rfl (by first | kernel_rfl | decide +kernel) (by first | kernel_rfl | decide +kernel) (by first | kernel_rfl | decide +kernel) (.inl ⟨by rfl, fun _ hw => ⟨run_eq_of ?run5, ?guar5⟩⟩) hF ?rest5; (case run5 => (intro K hK; obtain ⟨dx, hdx⟩ := hw; subst hdx; go_simp; exact hK)); (case guar5 => (obtain ⟨dx, hdx⟩ := hw; subst hdx; refine DR.quiet (fun e he => ?_); have hm := mem_listed he; simp [go_sem, *] at hm; try (subst hm; exact evR_read _ _))); try walk_nrm)
    (co_applyP anyCH_take termsR (fun _ _ h r => hrl _ _ h r) (fun _ _ _ h r => ⟨h.1, hrl _ _ h.2.1 r, h.2.2⟩) (i := 4) rfl (by first | kernel_rfl | decide +kernel) (by first | kernel_rfl | decide +kernel) (by first | kernel_rfl | decide +kernel) (.inr ⟨by rfl, rfl⟩) hF ?rest12; try walk_nrm)
    (co_applyP anyCH_take termsR (fun _ _ h r => hrl _ _ h r) (fun _ _ _ h r => ⟨h.1, hrl _ _ h.2.1 r, h.2.2⟩) (i := 5) rfl (by first | kernel_rfl | decide +kernel) (by first | kernel_rfl | decide +kernel) (by first | kernel_rfl | decide +kernel) (.inr ⟨by rfl, rfl⟩) hF ?rest13; try walk_nrm)
    (co_applyP anyCH_take termsR (fun _ _ h r => hrl _ _ h r) (fun _ _ _ h r => ⟨h.1, hrl _ _ h.2.1 r, h.2.2⟩) (i := 6) rfl (by first | kernel_rfl | decide +kernel) (by first | kernel_rfl | decide +kernel) (by first | kernel_rfl | decide +kernel) (.inr ⟨by rfl, rfl⟩) hF ?rest14; try walk_nrm)
    (co_applyP anyCH_take termsR (fun _ _ h r => hrl _ _ h r) (fun _ _ _ h r => ⟨h.1, hrl _ _ h.2.1 r, h.2.2⟩) (i := 7) rfl (by first | kernel_rfl | decide +kernel) (by first | kernel_rfl | decide +kernel) (by first | kernel_rfl | decide +kernel) (.inl ⟨by rfl, fun _ hw => ⟨run_eq_of ?run6, ?guar6⟩⟩) hF ?rest6; (case run6 => (intro K hK; obtain ⟨dx, hdx⟩ := hw; subst hdx; go_simp; exact hK)); (case guar6 => (obtain ⟨dx, hdx⟩ := hw; subst hdx; refine DR.quiet (fun e he => ?_); have hm := mem_listed he; simp [go_sem, *] at hm; try (subst hm; exact evR_read _ _))); try walk_nrm)
    (co_applyP anyCH_take termsR (fun _ _ h r => hrl _ _ h r) (fun _ _ _ h r => ⟨h.1, hrl _ _ h.2.1 r, h.2.2⟩) (i := 8) rfl (by first | kernel_rfl | decide +kernel) (by first | kernel_rfl | decide +kernel) (by first | kernel_rfl | decide +kernel) (.inl ⟨by rfl, fun _ hw => ⟨run_eq_of ?run7, ?guar7⟩⟩) hF ?rest7; (case run7 => (intro K hK; obtain ⟨dx, hdx⟩ := hw; subst hdx; go_simp; exact hK)); (case guar7 => (obtain ⟨dx, hdx⟩ := hw; subst hdx; refine DR.quiet (fun e he => ?_); have hm := mem_listed he; simp [go_sem, *] at hm; try (subst hm; exact evR_read _ _))); try walk_nrm)
    (co_applyP anyCH_take termsR (fun _ _ h r => hrl _ _ h r) (fun _ _ _ h r => ⟨h.1, hrl _ _ h.2.1 r, h.2.2⟩) (i := 9) rfl (by first | kernel_rfl | decide +kernel) (by first | kernel_rfl | decide +kernel) (by first | kernel_rfl | decide +kernel) (.inr ⟨by rfl, rfl⟩) hF ?rest15; try walk_nrm)
    (co_applyP anyCH_take termsR (fun _ _ h r => hrl _ _ h r) (fun _ _ _ h r => ⟨h.1, hrl _ _ h.2.1 r, h.2.2⟩) (i := 10) rfl (by first | kernel_rfl | decide +kernel) (by first | kernel_rfl | decide +kernel) (by first | kernel_rfl | decide +kernel) (.inr ⟨by rfl, rfl⟩) hF ?rest16; try walk_nrm)
    (co_applyP anyCH_take termsR (fun _ _ h r => hrl _ _ h r) (fun _ _ _ h r => ⟨h.1, hrl _ _ h.2.1 r, h.2.2⟩) (i := 11) rfl (by first | kernel_rfl | decide +kernel) (by first | kernel_rfl | decide +kernel) (by first | kernel_rfl | decide +kernel) (.inr ⟨by rfl, rfl⟩) hF ?rest17; try walk_nrm)
    (co_applyP anyCH_take termsR (fun _ _ h r => hrl _ _ h r) (fun _ _ _ h r => ⟨h.1, hrl _ _ h.2.1 r, h.2.2⟩) (i := 12) rfl (by first | kernel_rfl | decide +kernel) (by first | kernel_rfl | decide +kernel) (by first | kernel_rfl | decide +kernel) (.inl ⟨by rfl, fun _ hw => ⟨run_eq_of ?run8, ?guar8⟩⟩) hF ?rest8; (case run8 => (intro K hK; obtain ⟨dx, hdx⟩ := hw; subst hdx; go_simp; exact hK)); (case guar8 => (obtain ⟨dx, hdx⟩ := hw; subst hdx; refine DR.quiet (fun e he => ?_); have hm := mem_listed he; simp [go_sem, *] at hm; try (subst hm; exact evR_read _ _))); try walk_nrm)
    (co_applyP anyCH_take termsR (fun _ _ h r => hrl _ _ h r) (fun _ _ _ h r => ⟨h.1, hrl _ _ h.2.1 r, h.2.2⟩) (i := 13) rfl (by first | kernel_rfl | decide +kernel) (by first | kernel_rfl | decide +kernel) (by first | kernel_rfl | decide +kernel) (.inl ⟨by rfl, fun _ hw => ⟨run_eq_of ?run9, ?guar9⟩⟩) hF ?rest9; (case run9 => (intro K hK; obtain ⟨dx, hdx⟩ := hw; subst hdx; go_simp; exact hK)); (case guar9 => (obtain ⟨dx, hdx⟩ := hw; subst hdx; refine DR.quiet (fun e he => ?_); have hm := mem_listed he; simp [go_sem, *] at hm; try (subst hm; exact evR_read _ _))); try walk_nrm)
    (co_applyP anyCH_take termsR (fun _ _ h r => hrl _ _ h r) (fun _ _ _ h r => ⟨h.1, hrl _ _ h.2.1 r, h.2.2⟩) (i := 14) rfl (by first | kernel_rfl | decide +kernel) (by first | kernel_rfl | decide +kernel) (by first | kernel_rfl | decide +kernel) (.inr ⟨by rfl, rfl⟩) hF ?rest18; try walk_nrm)
    (co_applyP anyCH_take termsR (fun _ _ h r => hrl _ _ h r) (fun _ _ _ h r => ⟨h.1, hrl _ _ h.2.1 r, h.2.2⟩) (i := 15) rfl (by first | kernel_rfl | decide +kernel) (by first | kernel_rfl | decide +kernel) (by first | kernel_rfl | decide +kernel) (.inr ⟨by rfl, rfl⟩) hF ?rest19; try walk_nrm)
    (co_applyP anyCH_take termsR (fun _ _ h r => hrl _ _ h r) (fun _ _ _ h r => ⟨h.1, hrl _ _ h.2.1 r, h.2.2⟩) (i := 16) rfl (by first | kernel_rfl | decide +kernel) (by first | kernel_rfl | decide +kernel) (by first | kernel_rfl | decide +kernel) (.inr ⟨by rfl, rfl⟩) hF ?rest20; try walk_nrm)
    (co_applyP anyCH_take termsR (fun _ _ h r => hrl _ _ h r) (fun _ _ _ h r => ⟨h.1, hrl _ _ h.2.1 r, h.2.2⟩) (i := 17) rfl (by first | kernel_rfl | decide +kernel) (by first | kernel_rfl | decide +kernel) (by first | kernel_rfl | decide +kernel) (.inr ⟨by rfl, rfl⟩) hF ?rest21; try walk_nrm)
    (co_applyP anyCH_take termsR (fun _ _ h r => hrl _ _ h r) (fun _ _ _ h r => ⟨h.1, hrl _ _ h.2.1 r, h.2.2⟩) (i := 18) rfl (by first | kernel_rfl | decide +kernel) (by first | kernel_rfl | decide +kernel) (by first | kernel_rfl | decide +kernel) (.inr ⟨by rfl, rfl⟩) hF ?rest22; try walk_nrm)
    (co_applyP anyCH_take termsR (fun _ _ h r => hrl _ _ h r) (fun _ _ _ h r => ⟨h.1, hrl _ _ h.2.1 r, h.2.2⟩) (i := 19) rfl (by first | kernel_rfl | decide +kernel) (by first | kernel_rfl | decide +kernel) (by first | kernel_rfl | decide +kernel) (.inr ⟨by rfl, rfl⟩) hF ?rest23; try walk_nrm)
    (co_applyP anyCH_take termsR (fun _ _ h r => hrl _ _ h r) (fun _ _ _ h r => ⟨h.1, hrl _ _ h.2.1 r, h.2.2⟩) (i := 20) rfl (by first | kernel_rfl | decide +kernel) (by first | kernel_rfl | decide +kernel) (by first | kernel_rfl | decide +kernel) (.inr ⟨by rfl, rfl⟩) hF ?rest24; try walk_nrm)
    (co_applyP anyCH_take termsR (fun _ _ h r => hrl _ _ h r) (fun _ _ _ h r => ⟨h.1, hrl _ _ h.2.1 r, h.2.2⟩) (i := 21) rfl (by first | kernel_rfl | decide +kernel) (by first | kernel_rfl | decide +kernel) (by first | kernel_rfl | decide +kernel) (.inr ⟨by rfl, rfl⟩) hF ?rest25; try walk_nrm)
    (co_applyP anyCH_take termsR (fun _ _ h r => hrl _ _ h r) (fun _ _ _ h r => ⟨h.1, hrl _ _ h.2.1 r, h.2.2⟩) (i := 22) rfl (by first | kernel_rfl | decide +kernel) (by first | kernel_rfl | decide +kernel) (by first | kernel_rfl | decide +kernel) (.inl ⟨by rfl, fun _ hw => ⟨run_eq_of ?run10, ?guar10⟩⟩) hF ?rest10; (case run10 => (intro K hK; obtain ⟨dx, hdx⟩ := hw; subst hdx; go_simp; exact hK)); (case guar10 => (obtain ⟨dx, hdx⟩ := hw; subst hdx; refine DR.quiet (fun e he => ?_); have hm := mem_listed he; simp [go_sem, *] at hm; try (subst hm; exact evR_read _ _))); try walk_nrm)
    (co_applyP anyCH_take termsR (fun _ _ h r => hrl _ _ h r) (fun _ _ _ h r => ⟨h.1, hrl _ _ h.2.1 r, h.2.2⟩) (i := 23) rfl (by first | kernel_rfl | decide +kernel) (by first | kernel_rfl | decide +kernel) (by first | kernel_rfl | decide +kernel) (.inl ⟨by rfl, fun _ hw => ⟨run_eq_of ?run11, ?guar11⟩⟩) hF ?rest11; (case run11 => (intro K hK; obtain ⟨dx, hdx⟩ := hw; subst hdx; go_simp; exact hK)); (case guar11 => (obtain ⟨dx, hdx⟩ := hw; subst hdx; refine DR.quiet (fun e he => ?_); have hm := mem_listed he; simp [go_sem, *] at hm; try (subst hm; exact evR_read _ _))); try walk_nrm)
    refine anyCH_done (by first | kernel_rfl | decide +kernel) ⟨rfl, hF, by simp, rfl⟩ _
  · rintro a' w' ⟨d, rfl⟩ ⟨h, hd⟩
    repeat (first | (refine Walk.c rfl ?_) | (refine Walk.cReg ?_; simp only [List.size_toArray, List.length_cons, List.length_nil, Nat.reduceAdd, Nat.zero_add, List.range, List.range.loop]) | (refine Walk.cRet ?_) | (refine Walk.cEnd ?_) | (refine Walk.opq (ho_of (by conv => lhs; whnf) (by kernel_rfl)) (by rfl) (by decide) (fun dd e he => ?_) (fun dd K hK => ?_); (· (simp [go_sem, *] at he; try (subst he; exact evR_read _ _))); go_simp; refine hK _ ?_; clear hK K; try walk_nrm) | (refine Walk.ctl rfl (fun w => stepG_unwanted (ho_of (by conv => lhs; whnf) (by kernel_rfl)) (by rfl)) ?_; walk_nrm))
    exact Walk.ret1 rfl hd Try.func71 rfl fun d' => ⟨h, d', rfl⟩
end Go.Proofs.Ytgiiicdpbdfemaa
end
