/- Part 4. -/
import Derived.Test.YtcdcnmphjhfbpaaJ2
import Derived.Test.YtcdcnmphjhfbpaaJ3
import Derived.Test.YtcdcnmphjhfbpaaProg
import Derived.KernelRfl
import Derived.Handy
import Derived.Conc.TokenWalk
import Derived.Laws.Build
set_option linter.unusedSimpArgs false
set_option linter.unusedVariables false
set_option maxHeartbeats 8000000
set_option maxRecDepth 100000
namespace Go.Proofs.Ytcdcnmphjhfbpaa
open Go.Conc Go.RowKit Go.Relay
open Go.ConcN (upd upd_ne upd_same)
section
variable {main : Bool} {V : Nat -> Option Wait}
noncomputable def reg171_0 := rk Try.f171.body 0
noncomputable def reg171_1 := rk Try.f171.body 1
theorem size171_1 : reg171_1.size = 18 := by kernel_rfl
theorem z171 : reg171_0.size = 1 /\ reg171_1.size = 18 := by and_intros <;> kernel_rfl
theorem code171_is : Try.f171.body = some (.seq (.region 0 reg171_0 false) (.seq (.region 1 reg171_1 true) (.ret))) := by kernel_rfl
theorem clampMost_w (m : Int) (w : World) : As Try.prog main V 167 #[.int .i64 m] w (.int .i64 (min (max m 0) 1048576)) w := by
 refine Ap Try.func167 rfl fun fr cs => ?_
 simp only [Try.ntmps167, ez, Nat.reduceAdd, Nat.reduceSub]
 have hmx := @Ew Try.prog
 have hmn := @Bx Try.prog
 refine Ae ?_
 exact An rfl rfl Try.func167 rfl fun d => ⟨by simp, d, rfl⟩
theorem Jv (B : Nat) (going most : Int) (sa : Option Addr) (n cap : Nat) (w : World) (h1 : w.cell? ⟨B, 1, none⟩ = some (.int .i64 going)) (h2 : w.cell? ⟨B, 2, none⟩ = some (.int .i64 most)) (h3 : w.cell? ⟨B, 3, none⟩ = some (.slice sa n cap)) :
  As Try.prog main V 171 #[.pointer (some ⟨B, 0, none⟩)] w (.bool (decide (going = 0) || decide (most <= n))) w := by
 refine Ap Try.func171 code171_is fun fr cs => ?_
 simp only [Try.ntmps171, ez, Nat.reduceAdd, Nat.reduceSub]
 refine Aa z171 ?_
 by_cases hg : going = 0
 ·subst hg
  (refine Ba (by kernel_rfl) size171_1 (by kernel_rfl) (by kernel_rfl) (by decide) ?_; simp only [List.range, List.range.loop]; repeat (first | (refine Cm.oq ?_) | (refine Al Aj (by rfl) ?_; walk_nrm)))
  refine Cm.done ?_
  refine Aa z171 ?_
  exact An rfl rfl Try.func171 rfl fun d => ⟨by simp, d, rfl⟩
 ·have hg1 : decide (going = 0) = false := by simpa using hg
  have hg2 : (going == 0) = false := by simpa using hg
  (refine Ba (by kernel_rfl) size171_1 (by kernel_rfl) (by kernel_rfl) (by decide) ?_; simp only [List.range, List.range.loop]; repeat (first | (refine Cm.oq ?_) | (refine Al Aj (by rfl) ?_; walk_nrm)))
  refine Cm.done ?_
  refine Aa z171 ?_
  exact An rfl rfl Try.func171 rfl fun d => ⟨by simp [hg], d, rfl⟩
end
section
variable {main : Bool} {V : Nat -> Option Wait}
noncomputable def ops107 : Array Oper := match Try.f189.body with | some (.seq (.region _ ops _) _) => ops | _ => #[]
noncomputable def rest107 : Code := match Try.f189.body with | some (.seq _ c) => c | _ => .skip
noncomputable def rec107 (p r : Nat) (cs : List Frame) : Goroutine :=
 G ((base 189).at { tmps := #[.pointer (some ⟨p, 0, none⟩), undef, undef, undef, undef, .pointer (some ⟨p, 0, none⟩), .pointer (some ⟨p, 0, none⟩), .pointer (some ⟨p, 1, none⟩), .chan (some r), undef, undef, undef, undef, undef, undef, undef, undef], defers := [] } [.inRegion ops107 [4, 5, 6, 7, 8, 9, 10], .code rest107]) cs
theorem way107 (p r : Nat) (cs : List Frame) (v : Wait) (hch : v.ch = r) (hz : v.z = .agg #[]) (hok : v.ok = true) (hf : v.f ⟨p, 1, none⟩ = some (.chan (some r))) (hh : v.home (rec107 p r cs)) :
  Yonder Try.prog main v (G (Frame.enter Try.prog 189 #[.pointer (some ⟨p, 0, none⟩)] .normal) cs) := by
 rw [enter_at _ Try.func189 rfl]
 simp only [Try.f189, Option.getD_some, List.size_toArray, List.length_cons, List.length_nil, Nat.reduceAdd, Nat.reduceSub, Array.replicate_succ, Array.replicate_zero, List.push_toArray, List.append_toArray, List.nil_append, List.cons_append]
 iterate 6 (try (first | refine Yonder.c rfl ?_ | refine Yonder.cR ?_ | refine De ?_ | refine Yonder.cT ?_ | (refine Yonder.oq ?_; try walk_nrm)))
 co_applyP Gm _ hf rfl (by rfl) (by decide) ?krun1 ?kev1 ?krest1; (case krun1 => (intro w hw K hK; have hcx := hw _ _ hf; go_simp; exact hK)); (case kev1 => (intro w hw e he; have hcx := hw _ _ hf; simp [go_sem, *] at he; exact he)); try walk_nrm
 exact Jl rfl (by rfl) (by decide) (fun w => by simp [go_sem, execOp, rcase, Act.eval, hch, hz, hok]) (fun w => by simp [go_sem, execOp, Act.eval]) hh
theorem serve107 (p r : Nat) (c : Frame) (cs : List Frame) (ok e0 : Bool) (w : World) (h2 : w.cell? ⟨p, 2, none⟩ = some (.bool e0)) (hz2 : w.frozen? ⟨p, 2, none⟩ = false) (hfr : Di V ⟨p, 2, none⟩) :
  Walk Try.prog main (DR V) (fun g w' => g = G (c.finish (.tuple #[])) cs /\ ∃ d, w' = ((w.alloc (.cells #[] 90)).setCell ⟨p, 2, none⟩ (.bool (!ok))).at d) (Go.Conc.served (rec107 p r (c :: cs)) (recvd true (.agg #[]) ok)) w := by
 unfold rec107
 rw [served_fr, Frame.finish_at]
 simp only [ops107, rest107, Try.f189, recvd, if_true]
 walk_nrm
 refine Ae ?_
 (refine Walk.oa ?_; try walk_nrm)
 have h2' := Ai w (.cells #[] 90) h2
 have hz2' := Br w (.cells #[] 90) h2 hz2
 refine Ae ?_
 (refine Walk.os hfr h2' ?_; try walk_nrm)
 refine Ae ?_
 exact Walk.ctl rfl (fun w => stepG_leave rfl rfl Try.func189 (results_none rfl _ _ w) (events_results_none rfl _ _)) (.stop fun d => ⟨rfl, d, rfl⟩)
end
section
variable {main : Bool} {V : Nat -> Option Wait}
noncomputable def ops82 : Array Oper := match Try.f173.body with | some (.seq (.region _ ops _) _) => ops | _ => #[]
noncomputable def rest82 : Code := match Try.f173.body with | some (.seq _ c) => c | _ => .skip
noncomputable def body82 : Code := match rest82 with | .block _ (.loop c) => c | _ => .skip
noncomputable def ops82w : Array Oper := match body82 with | .seq _ (.block _ (.region _ ops _)) => ops | _ => #[]
noncomputable def rec82 (p t : Nat) (cs : List Frame) : Goroutine :=
 G ((base 173).at { tmps := #[.pointer (some ⟨p, 0, none⟩), undef, .pointer (some ⟨p, 0, none⟩), .pointer (some ⟨p, 0, none⟩), .pointer (some ⟨p, 0, none⟩), .chan (some t), undef, undef, undef, undef, undef, undef, undef], defers := [] } [.inRegion ops82 [4], .code rest82]) cs
noncomputable def rec82a (p t : Nat) (cs : List Frame) : Goroutine :=
 G ((base 173).at { tmps := #[.pointer (some ⟨p, 0, none⟩), undef, .pointer (some ⟨p, 0, none⟩), .pointer (some ⟨p, 0, none⟩), .pointer (some ⟨p, 0, none⟩), .chan (some t), undef, undef, undef, undef, undef, undef, undef], defers := [] } [.inRegion ops82 [], .code rest82]) cs
noncomputable def fr82 (p t : Nat) : Frame :=
 (base 173).at { tmps := #[.pointer (some ⟨p, 0, none⟩), undef, .pointer (some ⟨p, 0, none⟩), .pointer (some ⟨p, 0, none⟩), .pointer (some ⟨p, 0, none⟩), .chan (some t), .pointer (some ⟨p, 0, none⟩), .pointer (some ⟨p, 0, none⟩), .pointer (some ⟨p, 2, none⟩), .bool false, .bool true, .pointer (some ⟨p, 0, none⟩), undef], defers := [] } [.inRegion ops82w [1], .inBlock 1, .inLoop body82, .inBlock 0]
theorem end1_in (p t : Nat) (cs : List Frame) (w : World) (h0 : w.cell? ⟨p, 0, none⟩ = some (.chan (some t))) :
  Walk Try.prog main (DR V) (fun g w' => g = rec82 p t cs /\ ∃ d, w' = w.at d) (G (Frame.enter Try.prog 173 #[.pointer (some ⟨p, 0, none⟩)] .normal) cs) w := by
 rw [enter_at _ Try.func173 rfl]
 simp only [Try.f173, ez, Nat.reduceAdd, Nat.reduceSub]
 refine Ae ?_
 refine .stop fun d => ⟨?_, d, rfl⟩
 simp only [rec82, ops82, rest82, Try.f173]
theorem close82 (p t : Nat) (cs : List Frame) (w : World) (k : Nat) (hc : w.heap[t]? = some (.chan 0 #[] false k k false)) :
  stepG Try.prog main (rec82 p t cs) w = .go (rec82a p t cs) (w.setChan t 0 #[] true k k false) (closeEvents t) := by
 unfold rec82 rec82a
 simp only [ops82, rest82, Try.f173]
 rw [stepG_close (c := t) (cap := 0) (buf := #[]) (s := k) (r := k) (tm := false) rfl (by rfl) (by decide) rfl rfl hc (by kernel_rfl)]
 rfl
theorem wake82 (p t : Nat) (cs : List Frame) : mayWake Try.prog (rec82 p t cs) = true := by
 unfold rec82
 simp only [ops82, rest82, Try.f173]
 rfl
theorem end1_way (p t r : Nat) (cs : List Frame) (v : Wait) (hch : v.ch = r) (hz : v.z = .agg #[]) (hok : v.ok = true) (hf : v.f ⟨p, 1, none⟩ = some (.chan (some r))) (hf2 : v.f ⟨p, 2, none⟩ = some (.bool false)) (hh : v.home (rec107 p r (fr82 p t :: cs))) :
  Yonder Try.prog main v (rec82a p t cs) := by
 unfold rec82a
 simp only [ops82, rest82, Try.f173]
 iterate 2 (try (first | refine Yonder.c rfl ?_ | refine Yonder.cR ?_ | refine De ?_ | refine Yonder.cT ?_ | (refine Yonder.oq ?_; try walk_nrm)))
 refine Yonder.ctl rfl (fun w => stepG_loop) ?_
 iterate 6 (try (first | refine Yonder.c rfl ?_ | refine Yonder.cR ?_ | refine De ?_ | refine Yonder.cT ?_ | (refine Yonder.oq ?_; try walk_nrm)))
 co_applyP Gm _ hf2 rfl (by rfl) (by decide) ?krun1 ?kev1 ?krest1; (case krun1 => (intro w hw K hK; have hcx := hw _ _ hf2; go_simp; exact hK)); (case kev1 => (intro w hw e he; have hcx := hw _ _ hf2; simp [go_sem, *] at he; exact he)); try walk_nrm
 iterate 8 (try (first | refine Yonder.c rfl ?_ | refine Yonder.cR ?_ | refine De ?_ | refine Yonder.cT ?_ | (refine Yonder.oq ?_; try walk_nrm)))
 refine Yonder.callE rfl (by rfl) (by decide) rfl Try.func189 (by kernel_rfl) (by rfl) ?_
 walk_nrm
 refine way107 p r _ v hch hz hok hf ?_
 simp only [fr82, ops82w, body82, rest82, Try.f173] at hh
 exact hh
theorem end1_back (p t r : Nat) (c : Frame) (cs : List Frame) (e0 : Bool) (w : World) (h2 : w.cell? ⟨p, 2, none⟩ = some (.bool e0)) (hz2 : w.frozen? ⟨p, 2, none⟩ = false) (hfr : Di V ⟨p, 2, none⟩) :
  Walk Try.prog main (DR V) (fun g w' => g = G (c.finish (.tuple #[])) cs /\ ∃ d, w' = ((w.alloc (.cells #[] 90)).setCell ⟨p, 2, none⟩ (.bool true)).at d) (Go.Conc.served (rec107 p r (fr82 p t :: c :: cs)) (recvd true (.agg #[]) false)) w := by
 refine (serve107 p r (fr82 p t) (c :: cs) false e0 w h2 hz2 hfr).then ?_
 rintro g w' ⟨rfl, d, rfl⟩
 refine Walk.back ?_ d
 have g2 := World.cell?_setCell_same (w.alloc (.cells #[] 90)) ⟨p, 2, none⟩ (.bool true) (Ai w (.cells #[] 90) h2)
 simp only [Bool.not_false]
 unfold fr82
 rw [Frame.finish_at]
 simp only [ops82w, body82, rest82, Try.f173]
 walk_nrm
 refine Ae ?_
 refine Walk.ctl rfl (fun w => stepG_inLoop) ?_
 refine Ae ?_
 exact Walk.ctl rfl (fun w => stepG_leave rfl rfl Try.func173 (results_none rfl _ _ w) (events_results_none rfl _ _)) (.stop fun d => ⟨rfl, d, rfl⟩)
end
section
variable {main : Bool} {V : Nat -> Option Wait}
def Gk (N : Nat) : Deferred := { target := .fn (.func 178) #[.pointer (some ⟨N, 0, none⟩)], args := #[] }
noncomputable def todo60 : Option (Array Oper × Code) := match Try.f155.body with | some (.seq _ (.seq _ (.seq (.seq _ (.cond _ (.region _ ops _) _)) c))) => some (ops, c) | _ => none
noncomputable def ops60 : Array Oper := (todo60.getD (#[], .skip)).1
noncomputable def rest60 : Code := (todo60.getD (#[], .skip)).2
noncomputable def fr60 (N : Nat) (F S : Value) : Frame :=
 (base 155).at { tmps := #[F, S, undef, undef, .bool false, .pointer (some ⟨N, 0, none⟩), .func (.func 178) #[] #[.pointer (some ⟨N, 0, none⟩)], F, .bool true, F, S, undef], defers := [Gk N] } [.inRegion ops60 [2], .code rest60]
theorem ride_in {Stop : Goroutine -> World -> Prop} (f : FuncId) (fn : Func) (first cap : Array Value) (S : Value) (cs : List Frame) (w : World) (hf : Try.prog.funcs[f]? = some fn) (hname : (fn.name == "runtime.NumGoroutine") = false) (hb : fn.body.isNone = false)
  (hk : Walk Try.prog main (DR V) Stop (G (Frame.enter Try.prog f (first ++ #[S] ++ cap) .normal) (fr60 w.heap.size (.func (.func f) first cap) S :: cs)) (w.alloc (.cells #[.bool false] 4))) :
  Walk Try.prog main (DR V) Stop (G (Frame.enter Try.prog 155 #[.func (.func f) first cap, S] .normal) cs) w := by
 simp only [fr60, ops60, rest60, todo60, Try.f155, Option.getD_some] at hk
 rw [enter_at _ Try.func155 rfl]
 simp only [Try.f155, ez, Nat.reduceAdd, Nat.reduceSub]
 have hn1 := fun w => run_neq_func (P := Try.prog) (w := w) 194 (.func f) first cap (by kernel_rfl : Try.prog.underlying 194 = some (.func #[137] #[] false))
 have hn2 := fun w es => ev_neq_func (P := Try.prog) (w := w) 194 (.func f) first cap es (by kernel_rfl : Try.prog.underlying 194 = some (.func #[137] #[] false))
 refine Ae ?_
 (refine Walk.oa ?_; try walk_nrm)
 refine Ae ?_
 refine Walk.ctl rfl (fun w' => Fu (d := Gk w.heap.size) rfl (by rfl) (by decide) (by simp [go_sem, execOp, Deferred.ofValue, Gk]) (by simp [go_sem, execOp, Deferred.ofValue])) ?_
 walk_nrm
 refine Ae ?_
 refine Walk.ctl rfl (fun w' => Dm rfl (by rfl) (by decide) rfl rfl hf hname hb) ?_
 walk_nrm
 exact hk
end
section
variable {main : Bool} {V : Nat -> Option Wait}
theorem und20 : ∃ ms, Try.prog.underlying 20 = some (.interface ms) := ⟨#[], by kernel_rfl⟩
theorem results60 (tmps : Array Value) (N : Nat) (x y : Bool) (w : World) (h4 : tmps.getD 4 undef = .bool x) (h5 : tmps.getD 5 undef = .pointer (some ⟨N, 0, none⟩)) (hN : w.cell? ⟨N, 0, none⟩ = some (.bool y)) :
  (results Try.f155 tmps).run Try.prog w = .ok (.tuple #[.bool x, .bool y]) w /\ ∀ e ∈ (results Try.f155 tmps).events Try.prog w #[], Ig V e := by
 simp only [Array.getD_eq_getD_getElem?] at h4 h5
 constructor
 ·simp only [results, Try.f155]
  simp [h4, h5, go_sem, hN, asAddr, loadVar]
 ·intro e he
  simp only [results, Try.f155] at he
  simp [h4, h5, go_sem, hN, asAddr, loadVar] at he
  subst he
  exact Cb _ _
theorem Le {fr : Frame} {c : Frame} {cs : List Frame} {N : Nat} {x y : Bool} {w : World} (hf : fr.fn = 155) (hm : fr.mode = .returning) (hn : fr.kind = .normal) (hd : fr.defers = []) (h4 : fr.tmps.getD 4 undef = .bool x) (h5 : fr.tmps.getD 5 undef = .pointer (some ⟨N, 0, none⟩)) (hN : w.cell? ⟨N, 0, none⟩ = some (.bool y)) :
  Walk Try.prog main (DR V) (fun g w' => g = G (c.finish (.tuple #[.bool x, .bool y])) cs /\ ∃ d, w' = w.at d) (G fr (c :: cs)) w :=
 Mx (fun d => seen Try.prog fr.fn ((results Try.f155 fr.tmps).events Try.prog (w.at d) #[])) rfl (fun d => Iw hm hn hd (by rw [hf]; exact Try.func155) (results60 (V := V) fr.tmps N x y (w.at d) h4 h5 hN).1)
  (fun d e he => (results60 (V := V) fr.tmps N x y (w.at d) h4 h5 hN).2 e (mem_seen he)) (.stop fun d => ⟨rfl, d, rfl⟩)
theorem ride_done (N : Nat) (F S : Value) (c : Frame) (cs : List Frame) (w : World) (x : Bool) (hN : w.cell? ⟨N, 0, none⟩ = some (.bool x)) (hz : w.frozen? ⟨N, 0, none⟩ = false) (hfr : Di V ⟨N, 0, none⟩) :
  Walk Try.prog main (DR V) (fun g w' => g = G (c.finish (.tuple #[.bool true, .bool false])) cs /\ ∃ d, w' = (w.setCell ⟨N, 0, none⟩ (.bool false)).at d) (G ((fr60 N F S).finish (.tuple #[])) (c :: cs)) w := by
 obtain ⟨ms, h20⟩ := und20
 have hn1 := fun w => Dd (P := Try.prog) (w := w) 20 h20
 have hn2 := fun w es => Dn (P := Try.prog) (w := w) 20 es h20
 unfold fr60
 rw [Frame.finish_at]
 simp only [ops60, rest60, todo60, Try.f155, Option.getD_some]
 walk_nrm
 refine Ae ?_
 (refine Walk.os hfr hN ?_; try walk_nrm)
 refine Ae ?_
 have hN' := World.cell?_setCell_same w ⟨N, 0, none⟩ (.bool false) hN
 refine Walk.ctl rfl (fun w => Cx (d := Gk N) (ds := []) (by simp [Frame.at]) rfl rfl Try.func178 (by kernel_rfl) (by rfl)) ?_
 simp only [Gk, List.append_toArray, List.nil_append]
 rw [enter_atD _ Try.func178 rfl]
 simp only [Try.f178, ez, Nat.reduceAdd, Nat.reduceSub]
 refine Ae ?_
 refine Walk.ctl rfl (fun w => Fk rfl (by rfl) rfl rfl rfl) ?_
 walk_nrm
 refine Ae ?_
 refine Walk.ctl rfl (fun w => Eo rfl rfl Try.func178 (results_none rfl _ _ w) (events_results_none rfl _ _) rfl) ?_
 exact Le rfl rfl rfl rfl rfl rfl hN'
theorem ride_stopped (N : Nat) (F S : Value) (c : Frame) (cs : List Frame) (w : World) (x : Bool) (hN : w.cell? ⟨N, 0, none⟩ = some (.bool x)) (hz : w.frozen? ⟨N, 0, none⟩ = false) (hfr : Di V ⟨N, 0, none⟩) :
  Walk Try.prog main (DR V) (fun g w' => g = G (c.finish (.tuple #[.bool false, .bool false])) cs /\ ∃ d, w' = ((w.alloc (.cells #[] 266)).setCell ⟨N, 0, none⟩ (.bool false)).at d) (G ((fr60 N F S).raise [{ v := .iface 266 (.agg #[]), recovered := false }]) (c :: cs)) w := by
 obtain ⟨ms, h20⟩ := und20
 have hn1 := fun w => Fv (P := Try.prog) (w := w) 20 266 (.agg #[]) h20
 have hn2 := fun w es => Gs (P := Try.prog) (w := w) 20 266 (.agg #[]) es h20
 unfold fr60
 rw [Frame.raise_at]
 simp only [ops60, rest60, todo60, Try.f155, Option.getD_some]
 refine Walk.ctl rfl (fun w => Cx (d := Gk N) (ds := []) (by simp [Frame.at]) rfl rfl Try.func178 (by kernel_rfl) (by rfl)) ?_
 simp only [Gk, List.append_toArray, List.nil_append]
 rw [enter_atD _ Try.func178 rfl]
 simp only [Try.f178, ez, Nat.reduceAdd, Nat.reduceSub]
 refine Ae ?_
 refine Walk.ctl rfl (fun w => Ii rfl (by rfl) rfl rfl rfl) ?_
 walk_nrm
 have h147 := fun w => run_assert_same (P := Try.prog) (w := w) 266 20 (.agg #[]) (u := .struct #[]) (by kernel_rfl) (fun _ h => by cases h)
 have e147 := fun w es => ev_assert_same (P := Try.prog) (w := w) 266 20 (.agg #[]) es (u := .struct #[]) (by kernel_rfl) (fun _ h => by cases h)
 refine Ae ?_
 (refine Walk.oa ?_; try walk_nrm)
 have ha := Ai w (.cells #[] 266) hN
 have haz := Br w (.cells #[] 266) hN hz
 refine Ae ?_
 (refine Walk.os hfr ha ?_; try walk_nrm)
 have hN' := World.cell?_setCell_same (w.alloc (.cells #[] 266)) ⟨N, 0, none⟩ (.bool false) ha
 refine Ae ?_
 refine Walk.ctl rfl (fun w => Ep rfl rfl Try.func178 (results_none rfl _ _ w) (events_results_none rfl _ _) rfl) ?_
 exact Le rfl rfl rfl rfl rfl rfl hN'
end
section
variable {main : Bool} {V : Nat -> Option Wait}
theorem ride_broke (N : Nat) (F S : Value) (t : TypeId) (v : Value) (ht : t ≠ 266) (c : Frame) (cs : List Frame) (w : World) (x : Bool) (hN : w.cell? ⟨N, 0, none⟩ = some (.bool x)) (hz : w.frozen? ⟨N, 0, none⟩ = false) (hfr : Di V ⟨N, 0, none⟩) :
  Walk Try.prog main (DR V) (fun g w' => g = G (c.finish (.tuple #[.bool false, .bool true])) cs /\ ∃ d, w' = ((w.alloc (.cells #[] 266)).setCell ⟨N, 0, none⟩ (.bool true)).at d) (G ((fr60 N F S).raise [{ v := .iface t v, recovered := false }]) (c :: cs)) w := by
 obtain ⟨ms, h20⟩ := und20
 have hn1 := fun w => Fv (P := Try.prog) (w := w) 20 t v h20
 have hn2 := fun w es => Gs (P := Try.prog) (w := w) 20 t v es h20
 unfold fr60
 rw [Frame.raise_at]
 simp only [ops60, rest60, todo60, Try.f155, Option.getD_some]
 refine Walk.ctl rfl (fun w => Cx (d := Gk N) (ds := []) (by simp [Frame.at]) rfl rfl Try.func178 (by kernel_rfl) (by rfl)) ?_
 simp only [Gk, List.append_toArray, List.nil_append]
 rw [enter_atD _ Try.func178 rfl]
 simp only [Try.f178, ez, Nat.reduceAdd, Nat.reduceSub]
 refine Ae ?_
 refine Walk.ctl rfl (fun w => Ii rfl (by rfl) rfl rfl rfl) ?_
 walk_nrm
 have h147 := fun w => run_assert_other (P := Try.prog) (w := w) 266 t 20 v (.agg #[]) (u := .struct #[]) (by kernel_rfl) (fun _ h => by cases h) ht (by kernel_rfl)
 have e147 := fun w es => ev_assert_other (P := Try.prog) (w := w) 266 t 20 v es (u := .struct #[]) (by kernel_rfl) (fun _ h => by cases h) ht (by kernel_rfl)
 refine Ae ?_
 (refine Walk.oa ?_; try walk_nrm)
 have ha := Ai w (.cells #[] 266) hN
 have haz := Br w (.cells #[] 266) hN hz
 refine Ae ?_
 (refine Walk.os hfr ha ?_; try walk_nrm)
 have hN' := World.cell?_setCell_same (w.alloc (.cells #[] 266)) ⟨N, 0, none⟩ (.bool true) ha
 refine Ae ?_
 refine Walk.ctl rfl (fun w => Ep rfl rfl Try.func178 (results_none rfl _ _ w) (events_results_none rfl _ _) rfl) ?_
 exact Le rfl rfl rfl rfl rfl rfl hN'
end
section
inductive Role where
 | tB
 | ss
 | ord
 | p (i : Nat)
 | t (i : Nat)
 | r (i : Nat)
 | nn (i : Nat)
structure Stile where
 g0 : Nat
 n : Nat
 B : Nat
 sb : Nat
 scap : Nat
 tb : Nat
 tcap : Nat
 most : Int
 p : Nat -> Nat
 t : Nat -> Nat
 r : Nat -> Nat
 F : Nat -> Value
 sa : Option Addr
 sc : Nat
 sl : List Int
structure Dyn where
 k : Nat
 e : Nat -> Bool
 f : Nat -> Bool
 b : Nat -> Bool
 N : Nat -> Nat
 cs : Nat -> List Frame
 own : Nat -> Option Role
 ord : List Nat
 oa : Option Addr
 oc : Nat
 gg : Nat
def going (n : Nat) (f : Nat -> Bool) : Nat := (List.range n).countP (fun i => !f i)
def Good (S : Stile) (D : Dyn) : Role -> Option Obj -> Prop
 | .tB, o => ∃ arr ty fr, o = some (.cells arr ty fr) /\ arr[0]? = some (.slice (some ⟨S.sb, 0, none⟩) S.n S.scap) /\ arr[1]? = some (.int .i64 D.gg) /\ arr[2]? = some (.int .i64 S.most) /\ arr[3]? = some (.slice D.oa D.ord.length D.oc) /\ ∀ i, i = 1 ∨ i = 3 -> (decide (fr.1 <= i) && decide (i < fr.2)) = false
 | .ss, o => ∃ arr ty fr, o = some (.cells arr ty fr) /\ ∀ i, i < S.n -> arr[i]? = some (.pointer (some ⟨S.p i, 0, none⟩))
 | .ord, _ => True
 | .p i, o => o = some (.cells #[.chan (some (S.t i)), .chan (some (S.r i)), .bool (D.f i), .bool (D.b i)] 264)
 | .t i, o => D.e i = false -> ∃ k, o = some (.chan 0 #[] false k k false)
 | .r i, o => D.e i = false -> ∃ k, o = some (.chan 0 #[] false k k false)
 | .nn i, o => D.e i = false -> o = some (.cells #[.bool false] 4)
def Place (S : Stile) (D : Dyn) : Role -> Nat -> Prop
 | .tB, b => b = S.B
 | .ss, b => b = S.sb
 | .ord, _ => True
 | .p i, b => i < S.n /\ b = S.p i
 | .t i, b => i < S.n /\ b = S.t i
 | .r i, b => i < S.n /\ b = S.r i
 | .nn i, b => i < D.k /\ b = D.N i
structure Sys (S : Stile) (n0 : Nat) (D : Dyn) (w : World) : Prop where
 good : ∀ b x, D.own b = some x -> Good S D x (w.heap[b]?)
 lt : ∀ b x, D.own b = some x -> n0 <= b /\ b < w.heap.size
 ids : ∀ b x, D.own b = some x -> Place S D x b
 oB : D.own S.B = some .tB
 oS : D.own S.sb = some .ss
 op : ∀ i, i < S.n -> D.own (S.p i) = some (.p i)
 ot : ∀ i, i < S.n -> D.own (S.t i) = some (.t i)
 or : ∀ i, i < S.n -> D.own (S.r i) = some (.r i)
 oN : ∀ i, i < D.k -> D.own (D.N i) = some (.nn i)
 oo : ∀ b, (Value.slice D.oa D.ord.length D.oc).ownBlock = some b -> D.own b = some .ord
 row : w.ownsRow n0 3 1 (.slice D.oa D.ord.length D.oc) D.ord.length (D.ord.map fun i => .int .i64 (i : Nat))
 n64 : S.n <= 64
 kn : D.k <= S.n
 hg0 : 1 <= S.g0
section
variable {S : Stile} {n0 : Nat} {D D' : Dyn} {w w' : World}
theorem Ac {w : World} {b : Nat} {arr : Array Value} {ty : TypeId} {fr : Nat × Nat} (h : w.heap[b]? = some (.cells arr ty fr)) (i : Nat) : w.cell? ⟨b, i, none⟩ = arr[i]? := by simp [World.cell?, h]
theorem Aq {w : World} {b : Nat} {arr : Array Value} {ty : TypeId} (h : w.heap[b]? = some (.cells arr ty (0, 0))) (i : Nat) : w.frozen? ⟨b, i, none⟩ = false := by simp [World.frozen?, h]
theorem Sys.tB (H : Sys S n0 D w) : w.cell? ⟨S.B, 0, none⟩ = some (.slice (some ⟨S.sb, 0, none⟩) S.n S.scap) /\ w.cell? ⟨S.B, 1, none⟩ = some (.int .i64 D.gg) /\ w.cell? ⟨S.B, 2, none⟩ = some (.int .i64 S.most) /\
  w.cell? ⟨S.B, 3, none⟩ = some (.slice D.oa D.ord.length D.oc) /\ w.frozen? ⟨S.B, 1, none⟩ = false /\ w.frozen? ⟨S.B, 3, none⟩ = false := by
 obtain ⟨arr, ty, fr, h, h0, h1, h2, h3, hz⟩ := H.good _ _ H.oB
 exact ⟨(Ac h 0).trans h0, (Ac h 1).trans h1, (Ac h 2).trans h2, (Ac h 3).trans h3, by simp only [World.frozen?, h]; exact hz 1 (.inl rfl), by simp only [World.frozen?, h]; exact hz 3 (.inr rfl)⟩
theorem Sys.ss (H : Sys S n0 D w) {i : Nat} (hi : i < S.n) : w.cell? ⟨S.sb, i, none⟩ = some (.pointer (some ⟨S.p i, 0, none⟩)) := by
 obtain ⟨arr, ty, fr, h, h0⟩ := H.good _ _ H.oS
 exact (Ac h i).trans (h0 i hi)
theorem Sys.pp (H : Sys S n0 D w) {i : Nat} (hi : i < S.n) : w.heap[S.p i]? = some (.cells #[.chan (some (S.t i)), .chan (some (S.r i)), .bool (D.f i), .bool (D.b i)] 264) := H.good _ _ (H.op i hi)
theorem Sys.p0 (H : Sys S n0 D w) {i : Nat} (hi : i < S.n) : w.cell? ⟨S.p i, 0, none⟩ = some (.chan (some (S.t i))) := (Ac (H.pp hi) 0).trans rfl
theorem Sys.p1 (H : Sys S n0 D w) {i : Nat} (hi : i < S.n) : w.cell? ⟨S.p i, 1, none⟩ = some (.chan (some (S.r i))) := (Ac (H.pp hi) 1).trans rfl
theorem Sys.p2 (H : Sys S n0 D w) {i : Nat} (hi : i < S.n) : w.cell? ⟨S.p i, 2, none⟩ = some (.bool (D.f i)) := (Ac (H.pp hi) 2).trans rfl
theorem Sys.p3 (H : Sys S n0 D w) {i : Nat} (hi : i < S.n) : w.cell? ⟨S.p i, 3, none⟩ = some (.bool (D.b i)) := (Ac (H.pp hi) 3).trans rfl
theorem Sys.pz (H : Sys S n0 D w) {i : Nat} (hi : i < S.n) (j : Nat) : w.frozen? ⟨S.p i, j, none⟩ = false := Aq (H.pp hi) j
theorem Sys.two (_ : Sys S n0 D w) {b b' : Nat} {x x' : Role} (h : D.own b = some x) (h' : D.own b' = some x') (hx : x ≠ x') : b ≠ b' := by
 rintro rfl
 rw [h] at h'
 exact hx (Option.some.inj h')
theorem Ao {w w' : World} {base : Nat} {e : TypeId} {size : Nat} {v : Value} {n : Nat} {xs : List Value} (h : w.ownsRow base e size v n xs) (hb : ∀ g, v.ownBlock = some g -> w'.heap[g]? = w.heap[g]?) : w'.ownsRow base e size v n xs := by
 refine ⟨h.1, ?_⟩
 rcases h.2 with z | ⟨g, cap, cur, rfl, h1, h2, h3⟩
 ·exact .inl z
 ·exact .inr ⟨g, cap, cur, rfl, h1, (hb g rfl).trans h2, h3⟩
theorem Sys.put (H : Sys S n0 D w) (hown : D'.own = D.own) (hk : D'.k = D.k) (hN : D'.N = D.N) (ho : D'.ord = D.ord) (hoa : D'.oa = D.oa) (hoc : D'.oc = D.oc) (hs : w.heap.size <= w'.heap.size)
  (hg : ∀ b x, D.own b = some x -> Good S D x (w.heap[b]?) -> Good S D' x (w'.heap[b]?)) (hr : ∀ b, D.own b = some .ord -> w'.heap[b]? = w.heap[b]?) : Sys S n0 D' w' := by
 refine ⟨fun b x hx => hg b x (hown ▸ hx) (H.good b x (hown ▸ hx)), fun b x hx => ?_, fun b x hx => ?_, hown ▸ H.oB, hown ▸ H.oS, fun i hi => hown ▸ H.op i hi, fun i hi => hown ▸ H.ot i hi, fun i hi => hown ▸ H.or i hi, fun i hi => ?_, fun b hb => ?_, ?_, H.n64, hk ▸ H.kn, H.hg0⟩
 ·have := H.lt b x (hown ▸ hx); omega
 ·have h := H.ids b x (hown ▸ hx)
  revert h
  cases x <;> simp only [Place, hk, hN, imp_self]
 ·rw [hown, hN]; exact H.oN i (hk ▸ hi)
 ·rw [hown]; rw [hoa, ho, hoc] at hb; exact H.oo b hb
 ·rw [hoa, ho, hoc]
  exact Ao H.row fun g hg' => hr g (H.oo g hg')
theorem Sys.same (H : Sys S n0 D w) (hs : w.heap.size <= w'.heap.size) (hb : ∀ b x, D.own b = some x -> w'.heap[b]? = w.heap[b]?) : Sys S n0 D w' :=
 H.put rfl rfl rfl rfl rfl rfl hs (fun b x hx h => by rw [hb b x hx]; exact h) fun b hb' => hb b _ hb'
theorem Good.of_same {x : Role} {o : Option Obj} (h : Good S D x o) (hf : ∀ i, x = .p i -> D'.f i = D.f i /\ D'.b i = D.b i) (hB : x = .tB -> D'.gg = D.gg /\ D'.oa = D.oa /\ D'.ord.length = D.ord.length /\ D'.oc = D.oc) (he : ∀ i, x = .t i ∨ x = .r i ∨ x = .nn i -> D'.e i = false -> D.e i = false) : Good S D' x o := by
 cases x with
 | tB => obtain ⟨h1, h2, h3, h4⟩ := hB rfl; simpa only [Good, h1, h2, h3, h4] using h
 | ss => exact h
 | ord => trivial
 | p i => obtain ⟨h1, h2⟩ := hf i rfl; simpa only [Good, h1, h2] using h
 | t i => exact fun z => h (he i (.inl rfl) z)
 | r i => exact fun z => h (he i (.inr (.inl rfl)) z)
 | nn i => exact fun z => h (he i (.inr (.inr rfl)) z)
theorem Sys.chan (H : Sys S n0 D w) {c k k' : Nat} (hc : w.heap[c]? = some (.chan 0 #[] false k k false)) (hcr : ∃ i, D.own c = some (.t i) ∨ D.own c = some (.r i)) : Sys S n0 D (w.setChan c 0 #[] false k' k' false) := by
 have hsz : (w.setChan c 0 #[] false k' k' false).heap.size = w.heap.size := by simp [World.setChan]
 refine H.put rfl rfl rfl rfl rfl rfl (Nat.le_of_eq hsz.symm) (fun b x hx h => ?_) fun b hb => ?_
 ·by_cases e : c = b
  ·subst e
   rw [heap_setChan_self w hc]
   obtain ⟨i, z | z⟩ := hcr <;> (rw [hx] at z; cases z; exact fun _ => ⟨k', rfl⟩)
  ·rw [heap_setChan_ne w _ _ _ _ _ _ e]; exact h
 ·refine heap_setChan_ne w _ _ _ _ _ _ fun e => ?_
  subst e
  obtain ⟨i, z | z⟩ := hcr <;> (rw [hb] at z; cases z)
theorem Sys.shut (H : Sys S n0 D w) {j c k : Nat} (he : D.e j = true) (hcr : D.own c = some (.t j) ∨ D.own c = some (.r j)) : Sys S n0 D (w.setChan c 0 #[] true k k false) := by
 have hsz : (w.setChan c 0 #[] true k k false).heap.size = w.heap.size := by simp [World.setChan]
 refine H.put rfl rfl rfl rfl rfl rfl (Nat.le_of_eq hsz.symm) (fun b x hx h => ?_) fun b hb => ?_
 ·by_cases e : c = b
  ·subst e
   rcases hcr with z | z <;> (rw [hx] at z; cases z; exact fun z => by rw [he] at z; cases z)
  ·rw [heap_setChan_ne w _ _ _ _ _ _ e]; exact h
 ·refine heap_setChan_ne w _ _ _ _ _ _ fun e => ?_
  subst e
  rcases hcr with z | z <;> (rw [hb] at z; cases z)
theorem Sys.at (H : Sys S n0 D w) (d : Nat) : Sys S n0 D (w.at d) := H.same (Nat.le_refl _) fun _ _ _ => rfl
theorem Ab (w : World) (a : Addr) (k : Nat) (v : Value) (h : k ≠ a.block) : (w.setCell a v).heap[k]? = w.heap[k]? := by
 simp only [World.setCell]
 rw [Array.getElem?_modify, if_neg (Ne.symm h)]
theorem Am (w : World) {b i : Nat} {arr : Array Value} {ty : TypeId} {fr : Nat × Nat} (v : Value) (h : w.heap[b]? = some (.cells arr ty fr)) : (w.setCell ⟨b, i, none⟩ v).heap[b]? = some (.cells (arr.setIfInBounds i v) ty fr) := by
 simp only [World.setCell]
 rw [Array.getElem?_modify, if_pos rfl, h]
 rfl
theorem Af (w : World) (a : Addr) (v : Value) : (w.setCell a v).heap.size = w.heap.size := by simp [World.setCell]
theorem Ad (w : World) (o : Obj) {b : Nat} (h : b < w.heap.size) : (w.alloc o).heap[b]? = w.heap[b]? := by
 simp only [World.alloc]
 rw [Array.getElem?_push, if_neg (by omega)]
theorem Sys.hire (H : Sys S n0 D w) (hk : D.k < S.n) : Sys S n0 { D with k := D.k + 1, N := upd D.N D.k w.heap.size, own := upd D.own w.heap.size (some (.nn D.k)) } (w.alloc (.cells #[.bool false] 4)) := by
 have hsz : (w.alloc (.cells #[.bool false] 4)).heap.size = w.heap.size + 1 := by simp
 have hfresh : ∀ b x, D.own b = some x -> b ≠ w.heap.size := fun b x hx => by have := (H.lt b x hx).2; omega
 have hold : ∀ b x, D.own b = some x -> upd D.own w.heap.size (some (.nn D.k)) b = some x := fun b x hx => by rw [upd_ne _ _ (hfresh b x hx)]; exact hx
 have hnew : ∀ b x, upd D.own w.heap.size (some (.nn D.k)) b = some x -> (b = w.heap.size /\ x = .nn D.k) ∨ (b ≠ w.heap.size /\ D.own b = some x) := fun b x hx => by
  by_cases e : b = w.heap.size
  ·subst e; rw [upd_same] at hx; exact .inl ⟨rfl, (Option.some.inj hx).symm⟩
  ·rw [upd_ne _ _ e] at hx; exact .inr ⟨e, hx⟩
 have hn0 : n0 <= w.heap.size := Nat.le_of_lt (Nat.lt_of_le_of_lt (H.lt _ _ H.oB).1 (H.lt _ _ H.oB).2)
 refine ⟨fun b x hx => ?_, fun b x hx => ?_, fun b x hx => ?_, hold _ _ H.oB, hold _ _ H.oS, fun i hi => hold _ _ (H.op i hi), fun i hi => hold _ _ (H.ot i hi), fun i hi => hold _ _ (H.or i hi), fun i hi => ?_, fun b e => hold _ _ (H.oo b e), Ao H.row fun g hg => Ad w _ (H.lt g _ (H.oo g hg)).2, H.n64, hk, H.hg0⟩
 ·rcases hnew b x hx with ⟨rfl, rfl⟩ | ⟨hne, hx⟩
  ·exact fun _ => heap_alloc_new w _
  ·rw [Ad w _ (H.lt b x hx).2]
   have h := H.good b x hx
   cases x <;> exact h
 ·rcases hnew b x hx with ⟨rfl, rfl⟩ | ⟨hne, hx⟩
  ·omega
  ·have := H.lt b x hx; omega
 ·rcases hnew b x hx with ⟨rfl, rfl⟩ | ⟨hne, hx⟩
  ·exact ⟨Nat.lt_succ_self _, (upd_same _ _ _).symm⟩
  ·have h := H.ids b x hx
   cases x with
   | nn i =>
    have h1 : i < D.k := h.1
    exact ⟨Nat.lt_succ_of_lt h1, h.2.trans (upd_ne _ _ (by omega)).symm⟩
   | _ => exact h
 ·by_cases e : i = D.k
  ·subst e; simp only [upd_same]
  ·simp only [upd_ne _ _ e]
   exact hold _ _ (H.oN i (by simp only at hi; omega))
theorem Sys.alloc (H : Sys S n0 D w) (o : Obj) : Sys S n0 D (w.alloc o) := H.same (by simp) fun b x hx => Ad w o (H.lt b x hx).2
theorem Sys.brk (H : Sys S n0 D w) {j : Nat} (hj : j < S.n) (x : Bool) : Sys S n0 { D with b := upd D.b j x } (w.setCell ⟨S.p j, 3, none⟩ (.bool x)) := by
 refine H.put rfl rfl rfl rfl rfl rfl (Nat.le_of_eq (Af ..).symm) (fun b y hy h => ?_) fun b hb => ?_
 ·by_cases e : b = S.p j
  ·subst e
   rw [H.op j hj] at hy
   cases hy
   rw [Am w _ (H.pp hj)]
   simp [Good, upd_same]
  ·rw [Ab w _ b _ e]
   refine h.of_same (fun i hi => ⟨rfl, upd_ne _ _ fun ei => e ?_⟩) (fun _ => ⟨rfl, rfl, rfl, rfl⟩) fun i _ z => z
   subst hi; subst ei; exact (H.ids b _ hy).2
 ·exact Ab w _ b _ (H.two hb (H.op j hj) (by simp))
theorem Sys.ride (H : Sys S n0 D w) {j : Nat} (hj : j < D.k) (v : Value) : Sys S n0 { D with e := upd D.e j true } (w.setCell ⟨D.N j, 0, none⟩ v) := by
 refine H.put rfl rfl rfl rfl rfl rfl (Nat.le_of_eq (Af ..).symm) (fun b y hy h => ?_) fun b hb => Ab w _ b _ (H.two hb (H.oN j hj) (by simp))
 by_cases e : b = D.N j
 ·subst e
  rw [H.oN j hj] at hy
  cases hy
  exact fun z => by simp only [upd_same] at z; cases z
 ·rw [Ab w _ b _ e]
  refine h.of_same (fun i _ => ⟨rfl, rfl⟩) (fun _ => ⟨rfl, rfl, rfl, rfl⟩) fun i _ z => ?_
  by_cases ei : i = j
  ·subst ei; simp only [upd_same] at z; cases z
  ·simpa only [upd_ne _ _ ei] using z
end
end
section
variable {main : Bool} {V : Nat -> Option Wait}
noncomputable def bornfr : Frame := { (default : Frame) with fn := Try.prog.funcs.size, defers := [], mode := .panicking [goexitEntry] }
noncomputable def def78 (r : Nat) : Deferred := { target := .builtin .close #[243] 0 #[false], args := #[.chan (some r)] }
noncomputable def ops78 : Array Oper := match Try.f169.body with | some (.seq _ (.region _ ops _)) => ops | _ => #[]
noncomputable def fr78 (p r : Nat) (F : Value) : Frame :=
 (baseD 169).at { tmps := #[.pointer (some ⟨p, 0, none⟩), F, undef, undef, .pointer (some ⟨p, 0, none⟩), .pointer (some ⟨p, 0, none⟩), .pointer (some ⟨p, 1, none⟩), .chan (some r), undef, .pointer (some ⟨p, 0, none⟩), F, .pointer (some ⟨p, 0, none⟩), .iface 259 (.pointer (some ⟨p, 0, none⟩)), undef, undef, undef, undef, undef], defers := [def78 r] } [.inRegion ops78 [4, 5, 6, 7, 8, 9, 10]]
noncomputable def rec78 (p r : Nat) (F : Value) (back broken : Bool) : Goroutine :=
 G { (baseD 169).at { tmps := #[.pointer (some ⟨p, 0, none⟩), F, undef, undef, .pointer (some ⟨p, 0, none⟩), .pointer (some ⟨p, 0, none⟩), .pointer (some ⟨p, 1, none⟩), .chan (some r), .tuple #[.bool back, .bool broken], .pointer (some ⟨p, 0, none⟩), F, .pointer (some ⟨p, 0, none⟩), .iface 259 (.pointer (some ⟨p, 0, none⟩)), .tuple #[.bool back, .bool broken], .bool back, .bool broken, .pointer (some ⟨p, 0, none⟩), .pointer (some ⟨p, 3, none⟩)], defers := [def78 r] } [] with mode := .returning } [bornfr]
theorem Nk : Try.prog.underlying 259 = some (.pointer 264) := by kernel_rfl
theorem run_iface161 (a : Option Addr) (w : World) : (Instr.makeInterface 259 (.pointer a)).run Try.prog w = .ok (.iface 259 (.pointer a)) w := by simp [Instr.makeInterface, run_underlying Nk]
theorem ev_iface161 (a : Option Addr) (w : World) (es : Array Event) : (Instr.makeInterface 259 (.pointer a)).events Try.prog w es = es := by simp [Instr.makeInterface, run_underlying Nk]
theorem Lr {Stop : Goroutine -> World -> Prop} (p r : Nat) (F : Value) (w : World) (h1 : w.cell? ⟨p, 1, none⟩ = some (.chan (some r)))
  (hk : Walk Try.prog main (DR V) Stop (G (Frame.enter Try.prog 155 #[F, .iface 259 (.pointer (some ⟨p, 0, none⟩))] .normal) [fr78 p r F, bornfr]) w) :
  Walk Try.prog main (DR V) Stop (born Try.prog { target := .fn (.func 169) #[], args := #[.pointer (some ⟨p, 0, none⟩), F] }) w := by
 simp only [fr78, ops78, Try.f169] at hk
 refine Walk.ctl rfl (fun w => Cx (d := { target := .fn (.func 169) #[], args := #[.pointer (some ⟨p, 0, none⟩), F] }) (ds := []) (fr := { (default : Frame) with fn := Try.prog.funcs.size, defers := [{ target := .fn (.func 169) #[], args := #[.pointer (some ⟨p, 0, none⟩), F] }], mode := .panicking [goexitEntry] }) (cs := []) (by simp) rfl rfl Try.func169 (by kernel_rfl) (by rfl)) ?_
 simp only [Array.append_empty]
 rw [enter_atD _ Try.func169 rfl]
 simp only [Try.f169, ez, Nat.reduceAdd, Nat.reduceSub]
 have hi1 := run_iface161
 have hi2 := ev_iface161
 refine Ae ?_
 refine Walk.ctl rfl (fun w' => Fu (d := def78 r) rfl (by rfl) (by decide) (by simp [go_sem, execOp, Deferred.ofValue, def78]) (by simp [go_sem, execOp, Deferred.ofValue])) ?_
 walk_nrm
 refine Ae ?_
 refine Walk.ctl rfl (fun w => Dm (f := 155) (first := #[]) (cap := #[]) rfl (by rfl) (by decide) rfl rfl Try.func155 (by kernel_rfl) (by rfl)) ?_
 walk_nrm
 try simp only [Array.append_empty, Array.empty_append]
 exact hk
theorem run_out (p r : Nat) (F : Value) (back broken x : Bool) (w : World) (h3 : w.cell? ⟨p, 3, none⟩ = some (.bool x)) (hz : w.frozen? ⟨p, 3, none⟩ = false) (hfr : Di V ⟨p, 3, none⟩) :
  Walk Try.prog main (DR V) (fun g w' => g = rec78 p r F back broken /\ ∃ d, w' = (w.setCell ⟨p, 3, none⟩ (.bool broken)).at d) (G ((fr78 p r F).finish (.tuple #[.bool back, .bool broken])) [bornfr]) w := by
 unfold fr78
 rw [Frame.finish_at]
 simp only [ops78, Try.f169]
 walk_nrm
 refine Ae ?_
 (refine Walk.os hfr h3 ?_; try walk_nrm)
 refine Ae ?_
 exact .stop fun d => ⟨rfl, d, rfl⟩
theorem close78 (p r : Nat) (F : Value) (back broken : Bool) (w : World) (k : Nat) (hc : w.heap[r]? = some (.chan 0 #[] false k k false)) :
  stepG Try.prog main (rec78 p r F back broken) w = .go (G { (rec78 p r F back broken).frame with defers := [] } [bornfr]) (w.setChan r 0 #[] true k k false) (closeEvents r) := by
 unfold rec78
 exact stepG_deferClose (ds := []) rfl rfl (by kernel_rfl) hc
theorem wake78 (p r : Nat) (F : Value) (back broken : Bool) : mayWake Try.prog (rec78 p r F back broken) = true := rfl
theorem quit78 (p r : Nat) (F : Value) (back broken : Bool) : QuitsD Try.prog 2 0 (G { (rec78 p r F back broken).frame with defers := [] } [bornfr]) := by
 refine QuitsD.ctl rfl (g' := G bornfr []) (fun w => ?_) (QuitsD.ctl rfl (g' := { frame := bornfr, callers := [], status := .finished, dying := none }) (fun w => ?_) ⟨rfl, rfl⟩)
 ·have hr : (results Try.f169 (rec78 p r F back broken).frame.tmps).run Try.prog w = .ok (.tuple #[]) w := results_none rfl _ _ w
  have he : (results Try.f169 (rec78 p r F back broken).frame.tmps).events Try.prog w #[] = #[] := events_results_none rfl _ _
  simp only [rec78, Frame.at, baseD, G] at hr he ⊢
  simp [stepG, unwind, doReturn, Try.func169, hr, he, bornfr, goexitEntry, seen, GStep.after]
 ·have h0 : (default : Frame).todo = [] := rfl
  simp [G, stepG, unwind, bornfr, goexitEntry, Frame.catches, h0]
end
section
variable {main : Bool} {V : Nat -> Option Wait}
noncomputable def ops139 : Array Oper := match Try.f229.body with | some (.seq (.region _ ops _) _) => ops | _ => #[]
noncomputable def rest139 : Code := match Try.f229.body with | some (.seq _ c) => c | _ => .skip
noncomputable def ops139r : Array Oper := match rest139 with | .seq (.region _ ops _) _ => ops | _ => #[]
noncomputable def rest139r : Code := match rest139 with | .seq _ c => c | _ => .skip
noncomputable def rec139s (p r : Nat) (cs : List Frame) : Goroutine :=
 G ((base 229).at { tmps := #[.pointer (some ⟨p, 0, none⟩), undef, undef, undef, .pointer (some ⟨p, 0, none⟩), .pointer (some ⟨p, 0, none⟩), .pointer (some ⟨p, 1, none⟩), .chan (some r), .agg #[], undef, undef, undef, undef, undef, undef, undef, undef, undef, undef, undef, undef], defers := [] } [.inRegion ops139 [5], .code rest139]) cs
noncomputable def rec139r (p r t : Nat) (cs : List Frame) : Goroutine :=
 G ((base 229).at { tmps := #[.pointer (some ⟨p, 0, none⟩), undef, undef, undef, .pointer (some ⟨p, 0, none⟩), .pointer (some ⟨p, 0, none⟩), .pointer (some ⟨p, 1, none⟩), .chan (some r), .agg #[], undef, .pointer (some ⟨p, 0, none⟩), .pointer (some ⟨p, 0, none⟩), .pointer (some ⟨p, 0, none⟩), .chan (some t), undef, undef, undef, undef, undef, undef, undef], defers := [] } [.inRegion ops139r [4, 5, 6, 7, 8, 9, 10], .code rest139r]) cs
theorem step_send {Stop : Goroutine -> World -> Prop} (p r : Nat) (cs : List Frame) (w : World) (h1 : w.cell? ⟨p, 1, none⟩ = some (.chan (some r))) (hk : Walk Try.prog main (DR V) Stop (rec139s p r cs) w) :
  Walk Try.prog main (DR V) Stop (G (Frame.enter Try.prog 229 #[.pointer (some ⟨p, 0, none⟩)] .normal) cs) w := by
 rw [enter_at _ Try.func229 rfl]
 unfold rec139s at hk
 simp only [ops139, rest139, Try.f229] at hk
 simp only [Try.f229, Option.getD_some, List.size_toArray, List.length_cons, List.length_nil, Nat.reduceAdd, Nat.reduceSub, Array.replicate_succ, Array.replicate_zero, List.push_toArray, List.append_toArray, List.nil_append, List.cons_append]
 refine Ae ?_
 exact hk
theorem send139 (p r : Nat) (cs : List Frame) (w : World) : ∃ z' es, (∀ e ∈ es, Ig V e) /\ ∀ d, stepG Try.prog main (rec139s p r cs) (w.at d) = .comm (rec139s p r cs) #[scase r (.agg #[]) z'] true .send (w.at d) es := by
 refine ⟨.tuple #[], #[], by simp, fun d => ?_⟩
 unfold rec139s
 simp only [ops139, rest139, Try.f229]
 rw [stepG_comm (cases := #[scase r (.agg #[]) (.tuple #[])]) (blocking := true) (shape := .send) (w' := w.at d) rfl (by rfl) (by decide) (by simp [execOp, scase, Act.eval]), listed_none (by simp [go_sem, execOp, Act.eval])]
theorem way139 (p r t : Nat) (cs : List Frame) (v : Wait) (hch : v.ch = t) (hz : v.z = .agg #[]) (hok : v.ok = true) (hf : v.f ⟨p, 0, none⟩ = some (.chan (some t))) (hh : v.home (rec139r p r t cs)) : Yonder Try.prog main v (Go.Conc.served (rec139s p r cs) undef) := by
 unfold rec139r at hh
 simp only [ops139r, rest139r, rest139, Try.f229] at hh
 unfold rec139s
 rw [served_fr, Frame.finish_at]
 simp only [ops139, rest139, Try.f229]
 walk_nrm
 iterate 6 (try (first | refine Yonder.c rfl ?_ | refine Yonder.cR ?_ | refine De ?_ | refine Yonder.cT ?_ | (refine Yonder.oq ?_; try walk_nrm)))
 co_applyP Gm _ hf rfl (by rfl) (by decide) ?krun1 ?kev1 ?krest1; (case krun1 => (intro w hw K hK; have hcx := hw _ _ hf; go_simp; exact hK)); (case kev1 => (intro w hw e he; have hcx := hw _ _ hf; simp [go_sem, *] at he; exact he)); try walk_nrm
 exact Jl rfl (by rfl) (by decide) (fun w => by simp [go_sem, execOp, rcase, Act.eval, hch, hz, hok]) (fun w => by simp [go_sem, execOp, Act.eval]) hh
theorem serve139 (p r t : Nat) (c : Frame) (cs : List Frame) (w : World) :
  Walk Try.prog main (DR V) (fun g w' => g = G (c.finish (.tuple #[])) cs /\ ∃ d, w' = (w.alloc (.cells #[] 90)).at d) (Go.Conc.served (rec139r p r t (c :: cs)) (recvd true (.agg #[]) true)) w := by
 unfold rec139r
 rw [served_fr, Frame.finish_at]
 simp only [ops139r, rest139r, rest139, Try.f229, recvd, if_true]
 walk_nrm
 refine Ae ?_
 (refine Walk.oa ?_; try walk_nrm)
 refine Ae ?_
 exact Walk.ctl rfl (fun w => stepG_leave rfl rfl Try.func229 (results_none rfl _ _ w) (events_results_none rfl _ _)) (.stop fun d => ⟨rfl, d, rfl⟩)
noncomputable def rec139p (p r t N : Nat) (cs : List Frame) : Goroutine :=
 G { (base 229).at { tmps := #[.pointer (some ⟨p, 0, none⟩), undef, .pointer (some ⟨N, 0, none⟩), .bool false, .pointer (some ⟨p, 0, none⟩), .pointer (some ⟨p, 0, none⟩), .pointer (some ⟨p, 1, none⟩), .chan (some r), .agg #[], .tuple #[.agg #[], .bool false], .pointer (some ⟨p, 0, none⟩), .pointer (some ⟨p, 0, none⟩), .pointer (some ⟨p, 0, none⟩), .chan (some t), .tuple #[.agg #[], .bool false], .agg #[], .bool false, .bool false, .bool true, .agg #[], .iface 266 (.agg #[])], defers := [] }
  [.inRegion (match rest139r with | .seq _ (.cond _ (.region _ ops _) _) => ops | _ => #[]) [2]] with mode := .panicking [{ v := .iface 266 (.agg #[]), recovered := false }] } cs
theorem run_iface147 (w : World) : (Instr.makeInterface 266 (.agg #[])).run Try.prog w = .ok (.iface 266 (.agg #[])) w := by
 simp [Instr.makeInterface, run_underlying (show Try.prog.underlying 266 = some (.struct #[]) by kernel_rfl)]
theorem ev_iface147 (w : World) (es : Array Event) : (Instr.makeInterface 266 (.agg #[])).events Try.prog w es = es := by
 simp [Instr.makeInterface, run_underlying (show Try.prog.underlying 266 = some (.struct #[]) by kernel_rfl)]
theorem stop139 (p r t : Nat) (cs : List Frame) (w : World) :
  Walk Try.prog main (DR V) (fun g w' => g = rec139p p r t w.heap.size cs /\ ∃ d, w' = (w.alloc (.cells #[] 90)).at d) (Go.Conc.served (rec139r p r t cs) (recvd true (.agg #[]) false)) w := by
 unfold rec139r
 rw [served_fr, Frame.finish_at]
 simp only [ops139r, rest139r, rest139, Try.f229, recvd, if_true]
 walk_nrm
 refine Ae ?_
 (refine Walk.oa ?_; try walk_nrm)
 have hi1 := run_iface147
 have hi2 := ev_iface147
 refine Ae ?_
 refine Walk.ctl rfl (fun w => stepG_raise (x := .iface 266 (.agg #[])) rfl (by rfl) (by decide) (by simp [go_sem, execOp, Act.eval, Instr.panic]) (by simp [go_sem, execOp, Act.eval, Instr.panic])) ?_
 refine .stop fun d => ⟨?_, d, rfl⟩
 simp only [rec139p, rest139r, rest139, Try.f229]
end
end Go.Proofs.Ytcdcnmphjhfbpaa
