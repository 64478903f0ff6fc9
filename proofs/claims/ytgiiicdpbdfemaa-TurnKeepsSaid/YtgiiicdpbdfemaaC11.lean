/- Part 11. -/
import Derived.Test.YtgiiicdpbdfemaaC10
set_option linter.unusedSimpArgs false
set_option maxHeartbeats 8000000
set_option maxRecDepth 100000
namespace Go.Proofs.Ytgiiicdpbdfemaa
open Go.Conc Go.RowKit Go.Relay
open Go.ConcN (upd upd_ne upd_same)
section
variable {main : Bool}
theorem step49_load (p X sw nw cap A : Nat) (cv : Value) (pc : Int) (R : Nat → Int) (tv : Value) (e : Bool) (kr : Nat) (hkr : kr < 4) (x : Int) (u : Nat → Value) (cs : List Frame) (w : World) (hp : w.heap[p]? = some (.cells (rtArr cv pc R tv e) 105)) (x0 : w.cell? ⟨X, 0, none⟩ = some (.int .i64 7)) (x2 : w.cell? ⟨X, 2, none⟩ = some (.int .i64 (A : Nat))) (hA : A < nw) (hx : w.cell? ⟨sw, A, none⟩ = some (.int .i64 x)) :
    Walk Try.prog main (DR (fun _ => none)) (fun g w' => (∃ u', g = G (at49b p (.slice (some ⟨sw, 0, none⟩) nw cap) u') cs) ∧ ∃ d, w' = (w.setCell ⟨p, 2 + kr, none⟩ (.int .i64 x)).at d) (G (at49 p X (.slice (some ⟨sw, 0, none⟩) nw cap) kr u) cs) w := by
  have hy := (cell_of hp _).trans (rt_get cv pc R tv e hkr)
  have hz := frozen_of hp (2 + kr)
  have hf : Free (fun _ => none) ⟨p, 2 + kr, none⟩ := (apart0 p).1 _ rfl
  have hk4 : (kr : Int) < 4 := by omega
  have hia := fun (a : Addr) (w : World) (es : Array Event) => events_indexAt_array (P := Try.prog) (w := w) (es := es) 103 2 4 a .i64 (kr : Int) (by kernel_rfl) ⟨by omega, hk4⟩
  conv => arg 5; unfold at49
  repeat (first | refine Walk.c rfl ?_ | refine Walk.cRet ?_ | refine Walk.cEnd ?_ | (refine Walk.cReg ?_; simp only [size49_0, size49_1, size49_2, size49_3, size49_4, size49_5, size49_6, size49_7, size49_8, size49_9, size49_10, size49_11, size49_12, size49_13, size49_14, size49_15, size49_16, size49_17, size49_18, size49_19, size49_20, List.range, List.range.loop]) | (refine Walk.oq ?_; try walk_nrm) | (refine Walk.un ?_; walk_nrm))
  (refine Walk.drawnL (by kernel_rfl) size49_5 (by kernel_rfl) (by kernel_rfl) (by kernel_rfl) (by decide) ?_; simp only [List.range, List.range.loop]; repeat (first | (refine Cm.opqA (ho_of (by conv => lhs; whnf) (by kernel_rfl)) (by rfl) (fun dd e he => ?_) ?_; (· (simp [go_sem, *] at he; try (subst he; exact evR_read _ _))); apply Exists.intro; apply And.intro; (· (intro dd K hK; go_simp; exact hK))) | (refine Cm.unw (ho_of (by conv => lhs; whnf) (by kernel_rfl)) (by rfl) ?_; walk_nrm)))
  refine Cm.done ?_
  intro rest hr
  (refine Walk.os hf hy ?_; try walk_nrm)
  refine hr _ _ ?_
  generalize w.setCell ⟨p, 2 + kr, none⟩ (.int .i64 x) = w1 at *
  refine Walk.ctl rfl (fun w => stepG_region_end) ?_
  refine Walk.c rfl ?_
  refine .stop fun d => ⟨at_slots ?_, d, rfl⟩
  simp only [at49b]
  rfl
theorem step49_store (p X sw nw cap A : Nat) (cv : Value) (pc : Int) (R : Nat → Int) (tv : Value) (e : Bool) (kr : Nat) (hkr : kr < 4) (x : Int) (u : Nat → Value) (cs : List Frame) (w : World) (hp : w.heap[p]? = some (.cells (rtArr cv pc R tv e) 105)) (x0 : w.cell? ⟨X, 0, none⟩ = some (.int .i64 8)) (x2 : w.cell? ⟨X, 2, none⟩ = some (.int .i64 (A : Nat))) (hA : A < nw) (hx : w.cell? ⟨sw, A, none⟩ = some (.int .i64 x)) (hxz : w.frozen? ⟨sw, A, none⟩ = false) :
    Walk Try.prog main (DR (fun _ => none)) (fun g w' => (∃ u', g = G (at49b p (.slice (some ⟨sw, 0, none⟩) nw cap) u') cs) ∧ ∃ d, w' = (w.setCell ⟨sw, A, none⟩ (.int .i64 (R kr))).at d) (G (at49 p X (.slice (some ⟨sw, 0, none⟩) nw cap) kr u) cs) w := by
  have hy := (cell_of hp _).trans (rt_get cv pc R tv e hkr)
  have hz := frozen_of hp (2 + kr)
  have hf : Free (fun _ => none) ⟨p, 2 + kr, none⟩ := (apart0 p).1 _ rfl
  have hfs : Free (fun _ => none) ⟨sw, A, none⟩ := (apart0 sw).1 _ rfl
  have hk4 : (kr : Int) < 4 := by omega
  have hia := fun (a : Addr) (w : World) (es : Array Event) => events_indexAt_array (P := Try.prog) (w := w) (es := es) 103 2 4 a .i64 (kr : Int) (by kernel_rfl) ⟨by omega, hk4⟩
  conv => arg 5; unfold at49
  repeat (first | refine Walk.c rfl ?_ | refine Walk.cRet ?_ | refine Walk.cEnd ?_ | (refine Walk.cReg ?_; simp only [size49_0, size49_1, size49_2, size49_3, size49_4, size49_5, size49_6, size49_7, size49_8, size49_9, size49_10, size49_11, size49_12, size49_13, size49_14, size49_15, size49_16, size49_17, size49_18, size49_19, size49_20, List.range, List.range.loop]) | (refine Walk.oq ?_; try walk_nrm) | (refine Walk.un ?_; walk_nrm))
  (refine Walk.drawnL (by kernel_rfl) size49_7 (by kernel_rfl) (by kernel_rfl) (by kernel_rfl) (by decide) ?_; simp only [List.range, List.range.loop]; repeat (first | (refine Cm.opqA (ho_of (by conv => lhs; whnf) (by kernel_rfl)) (by rfl) (fun dd e he => ?_) ?_; (· (simp [go_sem, *] at he; try (subst he; exact evR_read _ _))); apply Exists.intro; apply And.intro; (· (intro dd K hK; go_simp; exact hK))) | (refine Cm.unw (ho_of (by conv => lhs; whnf) (by kernel_rfl)) (by rfl) ?_; walk_nrm)))
  refine Cm.done ?_
  intro rest hr
  (refine Walk.os hfs hx ?_; try walk_nrm)
  refine hr _ _ ?_
  generalize w.setCell ⟨sw, A, none⟩ (.int .i64 (R kr)) = w1 at *
  refine Walk.ctl rfl (fun w => stepG_region_end) ?_
  refine Walk.c rfl ?_
  refine .stop fun d => ⟨at_slots ?_, d, rfl⟩
  simp only [at49b]
  rfl
theorem step49_add (p X sw nw cap A : Nat) (cv : Value) (pc : Int) (R : Nat → Int) (tv : Value) (e : Bool) (kr : Nat) (hkr : kr < 4) (x : Int) (u : Nat → Value) (cs : List Frame) (w : World) (hp : w.heap[p]? = some (.cells (rtArr cv pc R tv e) 105)) (v : Int) (x0 : w.cell? ⟨X, 0, none⟩ = some (.int .i64 9)) (x4 : w.cell? ⟨X, 4, none⟩ = some (.int .i64 v)) (hXs : X ≠ sw) (x2 : w.cell? ⟨X, 2, none⟩ = some (.int .i64 (A : Nat))) (hA : A < nw) (hx : w.cell? ⟨sw, A, none⟩ = some (.int .i64 x)) (hxz : w.frozen? ⟨sw, A, none⟩ = false) (hne : sw ≠ p) :
    Walk Try.prog main (DR (fun _ => none)) (fun g w' => (∃ u', g = G (at49b p (.slice (some ⟨sw, 0, none⟩) nw cap) u') cs) ∧ ∃ d, w' = ((w.setCell ⟨sw, A, none⟩ (.int .i64 (IntKind.i64.wrap (x + v)))).setCell ⟨p, 2 + kr, none⟩ (.int .i64 (IntKind.i64.wrap (x + v)))).at d) (G (at49 p X (.slice (some ⟨sw, 0, none⟩) nw cap) kr u) cs) w := by
  have hy := (cell_of hp _).trans (rt_get cv pc R tv e hkr)
  have hz := frozen_of hp (2 + kr)
  have hf : Free (fun _ => none) ⟨p, 2 + kr, none⟩ := (apart0 p).1 _ rfl
  have hfs : Free (fun _ => none) ⟨sw, A, none⟩ := (apart0 sw).1 _ rfl
  have hk4 : (kr : Int) < 4 := by omega
  have hia := fun (a : Addr) (w : World) (es : Array Event) => events_indexAt_array (P := Try.prog) (w := w) (es := es) 103 2 4 a .i64 (kr : Int) (by kernel_rfl) ⟨by omega, hk4⟩
  conv => arg 5; unfold at49
  repeat (first | refine Walk.c rfl ?_ | refine Walk.cRet ?_ | refine Walk.cEnd ?_ | (refine Walk.cReg ?_; simp only [size49_0, size49_1, size49_2, size49_3, size49_4, size49_5, size49_6, size49_7, size49_8, size49_9, size49_10, size49_11, size49_12, size49_13, size49_14, size49_15, size49_16, size49_17, size49_18, size49_19, size49_20, List.range, List.range.loop]) | (refine Walk.oq ?_; try walk_nrm) | (refine Walk.un ?_; walk_nrm))
  (refine Walk.drawnL (by kernel_rfl) size49_9 (by kernel_rfl) (by kernel_rfl) (by kernel_rfl) (by decide) ?_; simp only [List.range, List.range.loop]; repeat (first | (refine Cm.opqA (ho_of (by conv => lhs; whnf) (by kernel_rfl)) (by rfl) (fun dd e he => ?_) ?_; (· (simp [go_sem, *] at he; try (subst he; exact evR_read _ _))); apply Exists.intro; apply And.intro; (· (intro dd K hK; go_simp; exact hK))) | (refine Cm.unw (ho_of (by conv => lhs; whnf) (by kernel_rfl)) (by rfl) ?_; walk_nrm)))
  refine Cm.done ?_
  intro rest hr
  (refine Walk.os hfs hx ?_; try walk_nrm)
  refine hr _ _ ?_
  have hp1 : (w.setCell ⟨sw, A, none⟩ (.int .i64 (IntKind.i64.wrap (x + v)))).heap[p]? = some (.cells (rtArr cv pc R tv e) 105) := (heap_set_other _ _ _ _ (Ne.symm hne)).trans hp
  have hx1 : (w.setCell ⟨sw, A, none⟩ (.int .i64 (IntKind.i64.wrap (x + v)))).cell? ⟨sw, A, none⟩ = some (.int .i64 (IntKind.i64.wrap (x + v))) := World.cell?_setCell_same w _ _ hx
  have x2' : (w.setCell ⟨sw, A, none⟩ (.int .i64 (IntKind.i64.wrap (x + v)))).cell? ⟨X, 2, none⟩ = some (.int .i64 (A : Nat)) := (World.cell?_of_block (a := ⟨X, 2, none⟩) (heap_set_other _ _ _ _ hXs)).trans x2
  clear hx hxz x0 x2 x4 hy hz hp
  generalize IntKind.i64.wrap (x + v) = y at *
  generalize w.setCell ⟨sw, A, none⟩ (.int .i64 y) = w1 at *
  have hy := (cell_of hp1 _).trans (rt_get cv pc R tv e hkr)
  have hz := frozen_of hp1 (2 + kr)
  repeat (first | refine Walk.c rfl ?_ | refine Walk.cRet ?_ | refine Walk.cEnd ?_ | (refine Walk.cReg ?_; simp only [size49_0, size49_1, size49_2, size49_3, size49_4, size49_5, size49_6, size49_7, size49_8, size49_9, size49_10, size49_11, size49_12, size49_13, size49_14, size49_15, size49_16, size49_17, size49_18, size49_19, size49_20, List.range, List.range.loop]) | (refine Walk.oq ?_; try walk_nrm) | (refine Walk.un ?_; walk_nrm))
  (refine Walk.drawnL (by kernel_rfl) size49_10 (by kernel_rfl) (by kernel_rfl) (by kernel_rfl) (by decide) ?_; simp only [List.range, List.range.loop]; repeat (first | (refine Cm.opqA (ho_of (by conv => lhs; whnf) (by kernel_rfl)) (by rfl) (fun dd e he => ?_) ?_; (· (simp [go_sem, *] at he; try (subst he; exact evR_read _ _))); apply Exists.intro; apply And.intro; (· (intro dd K hK; go_simp; exact hK))) | (refine Cm.unw (ho_of (by conv => lhs; whnf) (by kernel_rfl)) (by rfl) ?_; walk_nrm)))
  refine Cm.done ?_
  intro rest hr
  (refine Walk.os hf hy ?_; try walk_nrm)
  refine hr _ _ ?_
  generalize w1.setCell ⟨p, 2 + kr, none⟩ (.int .i64 y) = w2 at *
  refine Walk.ctl rfl (fun w => stepG_region_end) ?_
  refine Walk.c rfl ?_
  refine .stop fun d => ⟨at_slots ?_, d, rfl⟩
  simp only [at49b]
  rfl
theorem step49_swap (p X sw nw cap A : Nat) (cv : Value) (pc : Int) (R : Nat → Int) (tv : Value) (e : Bool) (kr : Nat) (hkr : kr < 4) (x : Int) (u : Nat → Value) (cs : List Frame) (w : World) (hp : w.heap[p]? = some (.cells (rtArr cv pc R tv e) 105)) (x0 : w.cell? ⟨X, 0, none⟩ = some (.int .i64 10)) (x2 : w.cell? ⟨X, 2, none⟩ = some (.int .i64 (A : Nat))) (hA : A < nw) (hx : w.cell? ⟨sw, A, none⟩ = some (.int .i64 x)) (hxz : w.frozen? ⟨sw, A, none⟩ = false) (hne : sw ≠ p) :
    Walk Try.prog main (DR (fun _ => none)) (fun g w' => (∃ u', g = G (at49b p (.slice (some ⟨sw, 0, none⟩) nw cap) u') cs) ∧ ∃ d, w' = ((w.setCell ⟨sw, A, none⟩ (.int .i64 (R kr))).setCell ⟨p, 2 + kr, none⟩ (.int .i64 x)).at d) (G (at49 p X (.slice (some ⟨sw, 0, none⟩) nw cap) kr u) cs) w := by
  have hy := (cell_of hp _).trans (rt_get cv pc R tv e hkr)
  have hz := frozen_of hp (2 + kr)
  have hf : Free (fun _ => none) ⟨p, 2 + kr, none⟩ := (apart0 p).1 _ rfl
  have hfs : Free (fun _ => none) ⟨sw, A, none⟩ := (apart0 sw).1 _ rfl
  have hk4 : (kr : Int) < 4 := by omega
  have hia := fun (a : Addr) (w : World) (es : Array Event) => events_indexAt_array (P := Try.prog) (w := w) (es := es) 103 2 4 a .i64 (kr : Int) (by kernel_rfl) ⟨by omega, hk4⟩
  conv => arg 5; unfold at49
  repeat (first | refine Walk.c rfl ?_ | refine Walk.cRet ?_ | refine Walk.cEnd ?_ | (refine Walk.cReg ?_; simp only [size49_0, size49_1, size49_2, size49_3, size49_4, size49_5, size49_6, size49_7, size49_8, size49_9, size49_10, size49_11, size49_12, size49_13, size49_14, size49_15, size49_16, size49_17, size49_18, size49_19, size49_20, List.range, List.range.loop]) | (refine Walk.oq ?_; try walk_nrm) | (refine Walk.un ?_; walk_nrm))
  (refine Walk.drawnL (by kernel_rfl) size49_13 (by kernel_rfl) (by kernel_rfl) (by kernel_rfl) (by decide) ?_; simp only [List.range, List.range.loop]; repeat (first | (refine Cm.opqA (ho_of (by conv => lhs; whnf) (by kernel_rfl)) (by rfl) (fun dd e he => ?_) ?_; (· (simp [go_sem, *] at he; try (subst he; exact evR_read _ _))); apply Exists.intro; apply And.intro; (· (intro dd K hK; go_simp; exact hK))) | (refine Cm.unw (ho_of (by conv => lhs; whnf) (by kernel_rfl)) (by rfl) ?_; walk_nrm)))
  refine Cm.done ?_
  intro rest hr
  (refine Walk.os hfs hx ?_; try walk_nrm)
  refine hr _ _ ?_
  have hp1 : (w.setCell ⟨sw, A, none⟩ (.int .i64 (R kr))).heap[p]? = some (.cells (rtArr cv pc R tv e) 105) := (heap_set_other _ _ _ _ (Ne.symm hne)).trans hp
  clear hx hxz x0 x2 hy hz hp
  generalize w.setCell ⟨sw, A, none⟩ (.int .i64 (R kr)) = w1 at *
  have hy := (cell_of hp1 _).trans (rt_get cv pc R tv e hkr)
  have hz := frozen_of hp1 (2 + kr)
  repeat (first | refine Walk.c rfl ?_ | refine Walk.cRet ?_ | refine Walk.cEnd ?_ | (refine Walk.cReg ?_; simp only [size49_0, size49_1, size49_2, size49_3, size49_4, size49_5, size49_6, size49_7, size49_8, size49_9, size49_10, size49_11, size49_12, size49_13, size49_14, size49_15, size49_16, size49_17, size49_18, size49_19, size49_20, List.range, List.range.loop]) | (refine Walk.oq ?_; try walk_nrm) | (refine Walk.un ?_; walk_nrm))
  (refine Walk.os hf hy ?_; try walk_nrm)
  generalize w1.setCell ⟨p, 2 + kr, none⟩ (.int .i64 x) = w2 at *
  refine Walk.ctl rfl (fun w => stepG_region_end) ?_
  refine Walk.c rfl ?_
  refine .stop fun d => ⟨at_slots ?_, d, rfl⟩
  simp only [at49b]
  rfl
theorem step49_same (p X sw nw cap A : Nat) (cv : Value) (pc : Int) (R : Nat → Int) (tv : Value) (e : Bool) (kr : Nat) (hkr : kr < 4) (x : Int) (u : Nat → Value) (cs : List Frame) (w : World) (hp : w.heap[p]? = some (.cells (rtArr cv pc R tv e) 105)) (v cb : Int) (x0 : w.cell? ⟨X, 0, none⟩ = some (.int .i64 11)) (x3 : w.cell? ⟨X, 3, none⟩ = some (.int .i64 cb)) (x4 : w.cell? ⟨X, 4, none⟩ = some (.int .i64 v)) (hc : x = R (regN cb)) (x2 : w.cell? ⟨X, 2, none⟩ = some (.int .i64 (A : Nat))) (hA : A < nw) (hx : w.cell? ⟨sw, A, none⟩ = some (.int .i64 x)) (hxz : w.frozen? ⟨sw, A, none⟩ = false) (hne : sw ≠ p) :
    Walk Try.prog main (DR (fun _ => none)) (fun g w' => (∃ u', g = G (at49b p (.slice (some ⟨sw, 0, none⟩) nw cap) u') cs) ∧ ∃ d, w' = ((w.setCell ⟨sw, A, none⟩ (.int .i64 v)).setCell ⟨p, 2 + kr, none⟩ (.int .i64 1)).at d) (G (at49 p X (.slice (some ⟨sw, 0, none⟩) nw cap) kr u) cs) w := by
  have hb := (cell_of hp _).trans (rt_get cv pc R tv e (regN_lt cb))
  have hq := reg76_k (main := main) cb w
  have lb := regN_lt cb
  generalize regN cb = kb at *
  have hb4 : (kb : Int) < 4 := by omega
  have hib := fun (a : Addr) (w : World) (es : Array Event) => events_indexAt_array (P := Try.prog) (w := w) (es := es) 103 2 4 a .i64 (kb : Int) (by kernel_rfl) ⟨by omega, hb4⟩
  have hc' : (x == R kb) = true := by simp [hc]
  have hy := (cell_of hp _).trans (rt_get cv pc R tv e hkr)
  have hz := frozen_of hp (2 + kr)
  have hf : Free (fun _ => none) ⟨p, 2 + kr, none⟩ := (apart0 p).1 _ rfl
  have hfs : Free (fun _ => none) ⟨sw, A, none⟩ := (apart0 sw).1 _ rfl
  have hk4 : (kr : Int) < 4 := by omega
  have hia := fun (a : Addr) (w : World) (es : Array Event) => events_indexAt_array (P := Try.prog) (w := w) (es := es) 103 2 4 a .i64 (kr : Int) (by kernel_rfl) ⟨by omega, hk4⟩
  conv => arg 5; unfold at49
  repeat (first | refine Walk.c rfl ?_ | refine Walk.cRet ?_ | refine Walk.cEnd ?_ | (refine Walk.cReg ?_; simp only [size49_0, size49_1, size49_2, size49_3, size49_4, size49_5, size49_6, size49_7, size49_8, size49_9, size49_10, size49_11, size49_12, size49_13, size49_14, size49_15, size49_16, size49_17, size49_18, size49_19, size49_20, List.range, List.range.loop]) | (refine Walk.oq ?_; try walk_nrm) | (refine Walk.un ?_; walk_nrm))
  (refine Walk.drawnC (by kernel_rfl) size49_16 (by kernel_rfl) (by kernel_rfl) (by decide) ?_; simp only [List.range, List.range.loop]; repeat (first | (refine Cm.opqA (ho_of (by conv => lhs; whnf) (by kernel_rfl)) (by rfl) (fun dd e he => ?_) ?_; (· (simp [go_sem, *] at he; try (subst he; exact evR_read _ _))); apply Exists.intro; apply And.intro; (· (intro dd K hK; go_simp; exact hK))) | (refine Cm.unw (ho_of (by conv => lhs; whnf) (by kernel_rfl)) (by rfl) ?_; walk_nrm)))
  refine Cm.callV (x := .int .i64 ((kb : Nat) : Int)) ?_ (ho_of (by conv => lhs; whnf) (by kernel_rfl)) (by rfl) rfl Try.func76 (by kernel_rfl) (by rfl) ?_
  · intro w' e
    subst e
    walk_nrm
    exact hq
  walk_nrm
  repeat (first | (refine Cm.opqA (ho_of (by conv => lhs; whnf) (by kernel_rfl)) (by rfl) (fun dd e he => ?_) ?_; (· (simp [go_sem, *] at he; try (subst he; exact evR_read _ _))); apply Exists.intro; apply And.intro; (· (intro dd K hK; go_simp; exact hK))) | (refine Cm.unw (ho_of (by conv => lhs; whnf) (by kernel_rfl)) (by rfl) ?_; walk_nrm))
  refine Cm.done ?_
  repeat (first | refine Walk.c rfl ?_ | refine Walk.cRet ?_ | refine Walk.cEnd ?_ | (refine Walk.cReg ?_; simp only [size49_0, size49_1, size49_2, size49_3, size49_4, size49_5, size49_6, size49_7, size49_8, size49_9, size49_10, size49_11, size49_12, size49_13, size49_14, size49_15, size49_16, size49_17, size49_18, size49_19, size49_20, List.range, List.range.loop]) | (refine Walk.oq ?_; try walk_nrm) | (refine Walk.un ?_; walk_nrm))
  (refine Walk.os hfs hx ?_; try walk_nrm)
  have hp1 : (w.setCell ⟨sw, A, none⟩ (.int .i64 v)).heap[p]? = some (.cells (rtArr cv pc R tv e) 105) := (heap_set_other _ _ _ _ (Ne.symm hne)).trans hp
  clear hx hxz x0 x2 x3 x4 hy hz hp hb hq
  generalize w.setCell ⟨sw, A, none⟩ (.int .i64 v) = w1 at *
  have hy := (cell_of hp1 _).trans (rt_get cv pc R tv e hkr)
  have hz := frozen_of hp1 (2 + kr)
  repeat (first | refine Walk.c rfl ?_ | refine Walk.cRet ?_ | refine Walk.cEnd ?_ | (refine Walk.cReg ?_; simp only [size49_0, size49_1, size49_2, size49_3, size49_4, size49_5, size49_6, size49_7, size49_8, size49_9, size49_10, size49_11, size49_12, size49_13, size49_14, size49_15, size49_16, size49_17, size49_18, size49_19, size49_20, List.range, List.range.loop]) | (refine Walk.oq ?_; try walk_nrm) | (refine Walk.un ?_; walk_nrm))
  (refine Walk.os hf hy ?_; try walk_nrm)
  generalize w1.setCell ⟨p, 2 + kr, none⟩ (.int .i64 1) = w2 at *
  refine Walk.ctl rfl (fun w => stepG_region_end) ?_
  refine Walk.c rfl ?_
  refine .stop fun d => ⟨at_slots ?_, d, rfl⟩
  simp only [at49b]
  rfl
theorem step49_other (p X sw nw cap A : Nat) (cv : Value) (pc : Int) (R : Nat → Int) (tv : Value) (e : Bool) (kr : Nat) (hkr : kr < 4) (x : Int) (u : Nat → Value) (cs : List Frame) (w : World) (hp : w.heap[p]? = some (.cells (rtArr cv pc R tv e) 105)) (cb : Int) (x0 : w.cell? ⟨X, 0, none⟩ = some (.int .i64 11)) (x3 : w.cell? ⟨X, 3, none⟩ = some (.int .i64 cb)) (hc : ¬ x = R (regN cb)) (x2 : w.cell? ⟨X, 2, none⟩ = some (.int .i64 (A : Nat))) (hA : A < nw) (hx : w.cell? ⟨sw, A, none⟩ = some (.int .i64 x)) :
    Walk Try.prog main (DR (fun _ => none)) (fun g w' => (∃ u', g = G (at49b p (.slice (some ⟨sw, 0, none⟩) nw cap) u') cs) ∧ ∃ d, w' = (w.setCell ⟨p, 2 + kr, none⟩ (.int .i64 0)).at d) (G (at49 p X (.slice (some ⟨sw, 0, none⟩) nw cap) kr u) cs) w := by
  have hb := (cell_of hp _).trans (rt_get cv pc R tv e (regN_lt cb))
  have hq := reg76_k (main := main) cb w
  have lb := regN_lt cb
  generalize regN cb = kb at *
  have hb4 : (kb : Int) < 4 := by omega
  have hib := fun (a : Addr) (w : World) (es : Array Event) => events_indexAt_array (P := Try.prog) (w := w) (es := es) 103 2 4 a .i64 (kb : Int) (by kernel_rfl) ⟨by omega, hb4⟩
  have hc' : (x == R kb) = false := by simpa using hc
  have hy := (cell_of hp _).trans (rt_get cv pc R tv e hkr)
  have hz := frozen_of hp (2 + kr)
  have hf : Free (fun _ => none) ⟨p, 2 + kr, none⟩ := (apart0 p).1 _ rfl
  have hk4 : (kr : Int) < 4 := by omega
  have hia := fun (a : Addr) (w : World) (es : Array Event) => events_indexAt_array (P := Try.prog) (w := w) (es := es) 103 2 4 a .i64 (kr : Int) (by kernel_rfl) ⟨by omega, hk4⟩
  conv => arg 5; unfold at49
  repeat (first | refine Walk.c rfl ?_ | refine Walk.cRet ?_ | refine Walk.cEnd ?_ | (refine Walk.cReg ?_; simp only [size49_0, size49_1, size49_2, size49_3, size49_4, size49_5, size49_6, size49_7, size49_8, size49_9, size49_10, size49_11, size49_12, size49_13, size49_14, size49_15, size49_16, size49_17, size49_18, size49_19, size49_20, List.range, List.range.loop]) | (refine Walk.oq ?_; try walk_nrm) | (refine Walk.un ?_; walk_nrm))
  (refine Walk.drawnC (by kernel_rfl) size49_16 (by kernel_rfl) (by kernel_rfl) (by decide) ?_; simp only [List.range, List.range.loop]; repeat (first | (refine Cm.opqA (ho_of (by conv => lhs; whnf) (by kernel_rfl)) (by rfl) (fun dd e he => ?_) ?_; (· (simp [go_sem, *] at he; try (subst he; exact evR_read _ _))); apply Exists.intro; apply And.intro; (· (intro dd K hK; go_simp; exact hK))) | (refine Cm.unw (ho_of (by conv => lhs; whnf) (by kernel_rfl)) (by rfl) ?_; walk_nrm)))
  refine Cm.callV (x := .int .i64 ((kb : Nat) : Int)) ?_ (ho_of (by conv => lhs; whnf) (by kernel_rfl)) (by rfl) rfl Try.func76 (by kernel_rfl) (by rfl) ?_
  · intro w' e
    subst e
    walk_nrm
    exact hq
  walk_nrm
  repeat (first | (refine Cm.opqA (ho_of (by conv => lhs; whnf) (by kernel_rfl)) (by rfl) (fun dd e he => ?_) ?_; (· (simp [go_sem, *] at he; try (subst he; exact evR_read _ _))); apply Exists.intro; apply And.intro; (· (intro dd K hK; go_simp; exact hK))) | (refine Cm.unw (ho_of (by conv => lhs; whnf) (by kernel_rfl)) (by rfl) ?_; walk_nrm))
  refine Cm.done ?_
  repeat (first | refine Walk.c rfl ?_ | refine Walk.cRet ?_ | refine Walk.cEnd ?_ | (refine Walk.cReg ?_; simp only [size49_0, size49_1, size49_2, size49_3, size49_4, size49_5, size49_6, size49_7, size49_8, size49_9, size49_10, size49_11, size49_12, size49_13, size49_14, size49_15, size49_16, size49_17, size49_18, size49_19, size49_20, List.range, List.range.loop]) | (refine Walk.oq ?_; try walk_nrm) | (refine Walk.un ?_; walk_nrm))
  (refine Walk.os hf hy ?_; try walk_nrm)
  generalize w.setCell ⟨p, 2 + kr, none⟩ (.int .i64 0) = w2 at *
  refine Walk.ctl rfl (fun w => stepG_region_end) ?_
  refine Walk.c rfl ?_
  refine .stop fun d => ⟨at_slots ?_, d, rfl⟩
  simp only [at49b]
  rfl
end
section
variable {main : Bool}
def WsR (sw nw : Nat) (words : Nat → Int) (w : World) : Prop := ∃ arr, w.heap[sw]? = some (.cells arr 2 (0, 0)) ∧ ∀ j, j < nw → arr[j]? = some (.int .i64 (words j))
theorem WsR.cell {sw nw : Nat} {words : Nat → Int} {w : World} (H : WsR sw nw words w) {j : Nat} (hj : j < nw) : w.cell? ⟨sw, j, none⟩ = some (.int .i64 (words j)) := by
  obtain ⟨arr, h, h1⟩ := H
  exact (cell_of h j).trans (h1 j hj)
theorem WsR.frz {sw nw : Nat} {words : Nat → Int} {w : World} (H : WsR sw nw words w) (j : Nat) : w.frozen? ⟨sw, j, none⟩ = false := by
  obtain ⟨arr, h, _⟩ := H
  exact frozen_of h j
theorem WsR.same {sw nw : Nat} {words : Nat → Int} {w w' : World} (H : WsR sw nw words w) (h : w'.heap[sw]? = w.heap[sw]?) : WsR sw nw words w' := by
  obtain ⟨arr, h0, h1⟩ := H
  exact ⟨arr, h.trans h0, h1⟩
theorem WsR.set {sw nw : Nat} {words : Nat → Int} {w : World} (H : WsR sw nw words w) (A : Nat) (x : Int) : WsR sw nw (upd words A x) (w.setCell ⟨sw, A, none⟩ (.int .i64 x)) := by
  obtain ⟨arr, h0, h1⟩ := H
  refine ⟨_, heap_set_self _ _ h0, fun j hj => ?_⟩
  by_cases e : j = A
  · subst e
    have := h1 j hj
    have hl := (Array.getElem?_eq_some_iff.1 this).1
    rw [Array.getElem?_setIfInBounds_self_of_lt hl, upd_same]
  · rw [Array.getElem?_setIfInBounds_ne (Ne.symm e), upd_ne _ _ e]
    exact h1 j hj
structure Half (p sw nw : Nat) (cv : Value) (pc : Int) (tv : Value) (e : Bool) (R words : Nat → Int) (w w3 : World) : Prop where
  blk : w3.heap[p]? = some (.cells (rtArr cv pc R tv e) 105)
  ws : WsR sw nw words w3
  size : w.heap.size ≤ w3.heap.size
  same : ∀ b, b < w.heap.size → b ≠ p → b ≠ sw → w3.heap[b]? = w.heap[b]?
section
variable {p sw nw : Nat} {cv : Value} {pc : Int} {tv : Value} {e : Bool} {R words : Nat → Int} {w w3 : World}
theorem Half.at (H : Half p sw nw cv pc tv e R words w w3) (d : Nat) : Half p sw nw cv pc tv e R words w (w3.at d) := ⟨H.blk, H.ws, H.size, H.same⟩
theorem Half.reg (H : Half p sw nw cv pc tv e R words w w3) (hne : sw ≠ p) {k : Nat} (hk : k < 4) (x : Int) : Half p sw nw cv pc tv e (upd R k x) words w (w3.setCell ⟨p, 2 + k, none⟩ (.int .i64 x)) := by
  refine ⟨?_, H.ws.same (heap_set_other _ _ _ _ hne), by rw [size_set]; exact H.size, fun b hb h1 h2 => (heap_set_other _ _ _ _ h1).trans (H.same b hb h1 h2)⟩
  rw [heap_set_self _ _ H.blk]
  exact congrArg (fun a => some (Obj.cells a 105)) (rt_set _ _ _ _ _ hk x)
theorem Half.word (H : Half p sw nw cv pc tv e R words w w3) (hne : sw ≠ p) (A : Nat) (x : Int) : Half p sw nw cv pc tv e R (upd words A x) w (w3.setCell ⟨sw, A, none⟩ (.int .i64 x)) :=
  ⟨(heap_set_other _ _ _ _ (Ne.symm hne)).trans H.blk, H.ws.set A x, by rw [size_set]; exact H.size, fun b hb h1 h2 => (heap_set_other _ _ _ _ h2).trans (H.same b hb h1 h2)⟩
end
theorem step49_mid (p X sw nw cap : Nat) (cv : Value) (pc : Int) (t : Th) (tv : Value) (e : Bool) (words : Nat → Int) (cd : Cd) (u : Nat → Value) (cs : List Frame) (w0 w : World) (H : Half p sw nw cv pc tv e t.regs words w0 w) (hX : w.heap[X]? = some (.cells (cdArr cd) 96)) (hs : isStepX nw cd = true) (hne : sw ≠ p) (hXs : X ≠ sw) :
    Walk Try.prog main (DR (fun _ => none)) (fun g w' => (∃ u', g = G (at49b p (.slice (some ⟨sw, 0, none⟩) nw cap) u') cs) ∧ Half p sw nw cv pc tv e (reachX cd words t).2.regs (reachX cd words t).1 w0 w') (G (at49 p X (.slice (some ⟨sw, 0, none⟩) nw cap) (regN cd.r) u) cs) w := by
  obtain ⟨d, r, a, b, v⟩ := cd
  have x0 : w.cell? ⟨X, 0, none⟩ = some (.int .i64 d) := (cell_of hX 0).trans rfl
  have x2 : w.cell? ⟨X, 2, none⟩ = some (.int .i64 a) := (cell_of hX 2).trans rfl
  have x3 : w.cell? ⟨X, 3, none⟩ = some (.int .i64 b) := (cell_of hX 3).trans rfl
  have x4 : w.cell? ⟨X, 4, none⟩ = some (.int .i64 v) := (cell_of hX 4).trans rfl
  simp only [isStepX, Bool.and_eq_true, decide_eq_true_eq] at hs
  obtain ⟨⟨⟨d1, d2⟩, a1⟩, a2⟩ := hs
  obtain ⟨A, rfl⟩ : ∃ A : Nat, a = A := ⟨a.toNat, by omega⟩
  have hA : A < nw := by omega
  have hx := H.ws.cell hA
  have hz := H.ws.frz A
  have lr := regN_lt r
  simp only at *
  by_cases e7 : d = 7
  · subst e7
    refine (step49_load p X sw nw cap A cv pc t.regs tv e (regN r) lr _ u cs w H.blk x0 x2 hA hx).mono ?_
    rintro g w' ⟨hg, d, rfl⟩
    have : reachX ⟨7, r, (A : Nat), b, v⟩ words t = (words, { t with regs := upd t.regs (regN r) (words A) }) := by simp [reachX]
    rw [this]
    exact ⟨hg, (H.reg hne lr _).at d⟩
  by_cases e8 : d = 8
  · subst e8
    refine (step49_store p X sw nw cap A cv pc t.regs tv e (regN r) lr _ u cs w H.blk x0 x2 hA hx hz).mono ?_
    rintro g w' ⟨hg, d, rfl⟩
    have : reachX ⟨8, r, (A : Nat), b, v⟩ words t = (upd words A (t.regs (regN r)), t) := by simp [reachX]
    rw [this]
    exact ⟨hg, (H.word hne A _).at d⟩
  by_cases e9 : d = 9
  · subst e9
    refine (step49_add p X sw nw cap A cv pc t.regs tv e (regN r) lr _ u cs w H.blk v x0 x4 hXs x2 hA hx hz hne).mono ?_
    rintro g w' ⟨hg, d, rfl⟩
    have : reachX ⟨9, r, (A : Nat), b, v⟩ words t = (upd words A (IntKind.i64.wrap (words A + v)), { t with regs := upd t.regs (regN r) (IntKind.i64.wrap (words A + v)) }) := by simp [reachX]
    rw [this]
    exact ⟨hg, ((H.word hne A _).reg hne lr _).at d⟩
  by_cases e10 : d = 10
  · subst e10
    refine (step49_swap p X sw nw cap A cv pc t.regs tv e (regN r) lr _ u cs w H.blk x0 x2 hA hx hz hne).mono ?_
    rintro g w' ⟨hg, d, rfl⟩
    have : reachX ⟨10, r, (A : Nat), b, v⟩ words t = (upd words A (t.regs (regN r)), { t with regs := upd t.regs (regN r) (words A) }) := by simp [reachX]
    rw [this]
    exact ⟨hg, ((H.word hne A _).reg hne lr _).at d⟩
  have e11 : d = 11 := by omega
  subst e11
  by_cases hc : words A = t.regs (regN b)
  · refine (step49_same p X sw nw cap A cv pc t.regs tv e (regN r) lr _ u cs w H.blk v b x0 x3 x4 hc x2 hA hx hz hne).mono ?_
    rintro g w' ⟨hg, d, rfl⟩
    have : reachX ⟨11, r, (A : Nat), b, v⟩ words t = (upd words A v, { t with regs := upd (upd t.regs (regN r) 0) (regN r) 1 }) := by simp [reachX, hc]
    rw [this]
    have e : upd (upd t.regs (regN r) 0) (regN r) 1 = upd t.regs (regN r) 1 := funext fun j => by
      by_cases ej : j = regN r
      · subst ej; rw [upd_same, upd_same]
      · rw [upd_ne _ _ ej, upd_ne _ _ ej, upd_ne _ _ ej]
    simp only [e]
    exact ⟨hg, ((H.word hne A _).reg hne lr _).at d⟩
  · refine (step49_other p X sw nw cap A cv pc t.regs tv e (regN r) lr _ u cs w H.blk b x0 x3 hc x2 hA hx).mono ?_
    rintro g w' ⟨hg, d, rfl⟩
    have : reachX ⟨11, r, (A : Nat), b, v⟩ words t = (words, { t with regs := upd t.regs (regN r) 0 }) := by simp [reachX, hc]
    rw [this]
    exact ⟨hg, (H.reg hne lr _).at d⟩
theorem step49_out (p nw cap : Nat) (sa : Option Addr) (Q : Value → World → Prop) (u : Nat → Value) (c : Frame) (cs : List Frame) (w : World) (hgo : CallW Try.prog main (fun _ => none) 46 #[.pointer (some ⟨p, 0, none⟩), .int .i64 nw] w Q) :
    Walk Try.prog main (DR (fun _ => none)) (fun g w' => g = G (c.finish (.tuple #[])) cs ∧ ∃ v w1 d, Q v w1 ∧ w' = w1.at d) (G (at49b p (.slice sa nw cap) u) (c :: cs)) w := by
  unfold at49b
  repeat (first | refine Walk.c rfl ?_ | refine Walk.cRet ?_ | refine Walk.cEnd ?_ | (refine Walk.cReg ?_; simp only [size49_0, size49_1, size49_2, size49_3, size49_4, size49_5, size49_6, size49_7, size49_8, size49_9, size49_10, size49_11, size49_12, size49_13, size49_14, size49_15, size49_16, size49_17, size49_18, size49_19, size49_20, List.range, List.range.loop]) | (refine Walk.oq ?_; try walk_nrm) | (refine Walk.un ?_; walk_nrm))
  refine Walk.callW (Post := Q) ?_ (ho_of (by conv => lhs; whnf) (by kernel_rfl)) (by rfl) (by decide) rfl Try.func46 (by kernel_rfl) (by rfl) ?_
  · walk_nrm
    exact hgo
  intro v w1 hQ
  walk_nrm
  repeat (first | refine Walk.c rfl ?_ | refine Walk.cRet ?_ | refine Walk.cEnd ?_ | (refine Walk.cReg ?_; simp only [size49_0, size49_1, size49_2, size49_3, size49_4, size49_5, size49_6, size49_7, size49_8, size49_9, size49_10, size49_11, size49_12, size49_13, size49_14, size49_15, size49_16, size49_17, size49_18, size49_19, size49_20, List.range, List.range.loop]) | (refine Walk.oq ?_; try walk_nrm) | (refine Walk.un ?_; walk_nrm))
  exact (Walk.ret0 (Post := fun v w' => v = .tuple #[] ∧ ∃ d, w' = w1.at d) rfl rfl Try.func49 rfl fun d => ⟨rfl, d, rfl⟩).mono fun g w' ⟨v', ⟨hv, d, hd⟩, hg⟩ => ⟨by rw [hg, hv], v, w1, d, hQ, hd⟩
end
section
variable {main : Bool}
theorem reachX_keeps (c : Cd) (words : Nat → Int) (t : Th) : (reachX c words t).2.told = t.told ∧ (reachX c words t).2.pc = t.pc := by
  unfold reachX
  repeat' split
  all_goals exact ⟨rfl, rfl⟩
structure Stepped (p sw nw cc : Nat) (ca : Option Addr) (codes : List Cd) (t1 : Th) (words1 : Nat → Int) (ta : Option Addr) (n tc : Nat) (w w' : World) : Prop where
  is : ∃ at' ta' tc', AtOf codes.length (ownX codes nw 4096 t1).2.pc at' ∧ RtIs p (.slice ca codes.length cc) at' (ownX codes nw 4096 t1).2 (ownX codes nw 4096 t1).1 ta' tc' w' ∧ ∀ g, (Value.slice ta' (ownX codes nw 4096 t1).2.told.length tc').ownBlock = some g → (Value.slice ta n tc).ownBlock = some g ∨ w.heap.size ≤ g
  ws : WsR sw nw words1 w'
  size : w.heap.size ≤ w'.heap.size
  same : ∀ b, b < w.heap.size → b ≠ p → b ≠ sw → (Value.slice ta n tc).ownBlock ≠ some b → w'.heap[b]? = w.heap[b]?
theorem Stepped.at {p sw nw cc : Nat} {ca : Option Addr} {codes : List Cd} {t1 : Th} {words1 : Nat → Int} {ta : Option Addr} {n tc : Nat} {w w' : World} (H : Stepped p sw nw cc ca codes t1 words1 ta n tc w w') (d : Nat) : Stepped p sw nw cc ca codes t1 words1 ta n tc w (w'.at d) := by
  obtain ⟨⟨at', ta', tc', h1, h2, h3⟩, h4, h5, h6⟩ := H
  exact ⟨⟨at', ta', tc', h1, h2.at d, h3⟩, h4, h5, h6⟩
theorem step49_w {ca : Option Addr} {codes : List Cd} (p sw nw cap cc k : Nat) (hL : codes.length ≤ 4398046511104) {t : Th} {ta : Option Addr} {tc : Nat} {words : Nat → Int} {cd : Cd} {w : World} (H : RtIs p (.slice ca codes.length cc) (k : Nat) t false ta tc w) (hpc : t.pc = k) (hk : codes[k]? = some cd) (hs : isStepX nw cd = true) (hc : CodesIn ca codes w) (hws : WsR sw nw words w) (hne : sw ≠ p) (hno : (Value.slice ta t.told.length tc).ownBlock ≠ some sw)
    (hcb : ∀ cb co, ca = some ⟨cb, co, none⟩ → cb < w.heap.size ∧ cb ≠ p ∧ cb ≠ sw ∧ (Value.slice ta t.told.length tc).ownBlock ≠ some cb) (hlen : t.told.length + 4096 < 1099511627776) :
    CallW Try.prog main (fun _ => none) 49 #[.pointer (some ⟨p, 0, none⟩), .slice (some ⟨sw, 0, none⟩) nw cap] w (fun v w' => v = .tuple #[] ∧ Stepped p sw nw cc ca codes { (reachX cd words t).2 with pc := t.pc + 1 } (reachX cd words t).1 ta t.told.length tc w w') := by
  intro fr cs
  have hkl : k < codes.length := (List.getElem?_eq_some_iff.1 hk).1
  obtain ⟨cb, co, e, hcell⟩ := hc k cd hk
  subst e
  obtain ⟨c1, c2, c3, c4⟩ := hcb cb co rfl
  refine (step49_in p cb co codes.length cc k t.regs _ false (.slice (some ⟨sw, 0, none⟩) nw cap) cd (fr :: cs) w H.blk hkl hL hcell).then ?_
  rintro g w1 ⟨⟨u, rfl⟩, d, rfl⟩
  refine Walk.back ?_ d
  have hlt := H.lt
  have hsl : sw < w.heap.size := by
    obtain ⟨arr, h, _⟩ := hws
    exact (Array.getElem?_eq_some_iff.1 h).1
  have hO := old_alloc w (.cells (cdArr cd) 96)
  have hX := heap_alloc_new w (.cells (cdArr cd) 96)
  have hb1 := (hO.same p hlt).trans H.blk
  have hHalf : Half p sw nw (.slice (some ⟨cb, co, none⟩) codes.length cc) ((k + 1 : Nat) : Int) (.slice ta t.told.length tc) false t.regs words w ((w.alloc (.cells (cdArr cd) 96)).setCell ⟨p, 1, none⟩ (.int .i64 ((k + 1 : Nat) : Int))) := by
    refine ⟨?_, (hws.same (hO.same sw hsl)).same (heap_set_other _ _ _ _ hne), by rw [size_set]; exact hO.size, fun b hb h1 _ => (heap_set_other _ _ _ _ h1).trans (hO.same b hb)⟩
    rw [heap_set_self _ _ hb1]
    simp [rtArr]
  have hX2 : ((w.alloc (.cells (cdArr cd) 96)).setCell ⟨p, 1, none⟩ (.int .i64 ((k + 1 : Nat) : Int))).heap[w.heap.size]? = some (.cells (cdArr cd) 96) := (heap_set_other _ _ _ _ (by show w.heap.size ≠ p; omega)).trans hX
  generalize (w.alloc (.cells (cdArr cd) 96)).setCell ⟨p, 1, none⟩ (.int .i64 ((k + 1 : Nat) : Int)) = w2 at *
  refine (step49_mid p w.heap.size sw nw cap _ _ t _ false words cd u (fr :: cs) w w2 hHalf hX2 hs hne (by omega)).then ?_
  rintro g w3 ⟨⟨u3, rfl⟩, hM⟩
  obtain ⟨htold, hpc'⟩ := reachX_keeps cd words t
  generalize hre : reachX cd words t = re at *
  obtain ⟨words1, t1⟩ := re
  simp only at *
  have hH3 : RtIs p (.slice (some ⟨cb, co, none⟩) codes.length cc) ((k + 1 : Nat) : Int) { t1 with pc := t.pc + 1 } false ta tc w3 := by
    refine ⟨?_, ?_, ?_⟩
    · have := hM.blk
      simp only [htold]
      exact this
    · simp only [htold]
      exact row_same H.row fun g hg => hM.same g (H.row.lt g hg).2 (fun e => H.own (by rw [hg, e])) (fun e => hno (by rw [hg, e]))
    · simp only [htold]
      exact H.own
  have hc3 : CodesIn (some ⟨cb, co, none⟩) codes w3 := fun j c' hj => by
    obtain ⟨cb', co', e, hh⟩ := hc j c' hj
    cases e
    exact ⟨cb, co, rfl, fun m v hv => (World.cell?_of_block (a := ⟨cb, co + j * 5 + m, none⟩) (hM.same cb c1 c2 c3)).trans (hh m v hv)⟩
  have hgo := go46_w (main := main) p nw cc hL hH3 (.inl (by simp [hpc])) hc3 (fun _ cb' co' e => by
    cases e
    refine ⟨Nat.lt_of_lt_of_le c1 hM.size, c2, ?_⟩
    simp only [htold]
    exact c4) (by simp only [htold]; exact hlen)
  refine (step49_out p nw cap (some ⟨sw, 0, none⟩) _ u3 fr cs w3 hgo).mono ?_
  rintro g w' ⟨hg, v, w4, d4, ⟨rfl, at', hat, hT⟩, rfl⟩
  refine ⟨_, ⟨rfl, ?_⟩, hg⟩
  have hT : RtTo p (.slice (some ⟨cb, co, none⟩) codes.length cc) at' (ownX codes nw 4096 { t1 with pc := t.pc + 1 }).2 (ownX codes nw 4096 { t1 with pc := t.pc + 1 }).1 ta t.told.length tc w3 w4 := by
    rw [← htold]
    exact hT
  obtain ⟨ta', tc', h1, h2⟩ := hT.is
  have hk4 := hT.keep
  have hsz := hM.size
  refine Stepped.at ⟨⟨at', ta', tc', hat, h1, fun g hg => ?_⟩, hM.ws.same (hk4.same sw (by omega) hne hno), Nat.le_trans hsz hk4.size, fun b hb e1 e2 e3 => (hk4.same b (by omega) e1 e3).trans (hM.same b hb e1 e2)⟩ d4
  rcases h2 g hg with h | h
  · exact .inl h
  · exact .inr (by omega)
end
section
variable {main : Bool}
theorem pick48_skip (B lb lo L lc : Nat) (most : Int) (p rd : Nat) (ov : Value) (ea : Option Addr) (n ec : Nat) (f : Nat → Bool) (z : Int) (u : Nat → Value) (cs : List Frame) (w : World) (hB : w.heap[B]? = some (.cells (tuArr (.slice (some ⟨lb, lo, none⟩) L lc) most p rd ov) 112)) (hp : p < L) (hL : L ≤ 17592186044416) (hz : w.cell? ⟨lb, lo + p, none⟩ = some (.int .i64 z)) (ha : BoolsAt ea n f w) (hne : ∀ b o, ea = some ⟨b, o, none⟩ → b ≠ B)
    (hno : ¬ (0 ≤ z ∧ z < n ∧ f z.toNat = false)) :
    Walk Try.prog main (DR (fun _ => none)) (fun g w' => (∃ u', g = G (hd48 (.pointer (some ⟨B, 0, none⟩)) (.slice ea n ec) u') cs) ∧ ∃ d, w' = (w.setCell ⟨B, 2, none⟩ (.int .i64 ((p + 1 : Nat) : Int))).at d) (G (hd48 (.pointer (some ⟨B, 0, none⟩)) (.slice ea n ec) u) cs) w := by
  have h0 : w.cell? ⟨B, 0, none⟩ = some (.slice (some ⟨lb, lo, none⟩) L lc) := (cell_of hB 0).trans rfl
  have h2 : w.cell? ⟨B, 2, none⟩ = some (.int .i64 (p : Nat)) := (cell_of hB 2).trans rfl
  have hz2 := frozen_of hB 2
  have hf : Free (fun _ => none) ⟨B, 2, none⟩ := (apart0 B).1 _ rfl
  have hw1 : IntKind.wrap .i64 ((p : Int) + 1) = (p : Int) + 1 := by rw [IntKind.wrap_i64]; omega
  have hc : ((p + 1 : Nat) : Int) = (p : Int) + 1 := by simp
  rw [hc]
  conv => arg 5; unfold hd48
  repeat (first | refine Walk.c rfl ?_ | refine Walk.cRet ?_ | refine Walk.cEnd ?_ | (refine Walk.cReg ?_; simp only [size48_0, size48_1, size48_2, size48_3, size48_4, size48_5, size48_6, size48_7, size48_8, size48_9, size48_10, size48_11, size48_12, size48_13, size48_14, List.range, List.range.loop]) | (refine Walk.oq ?_; try walk_nrm) | (refine Walk.un ?_; walk_nrm))
  (refine Walk.drawnC (by kernel_rfl) size48_3 (by kernel_rfl) (by kernel_rfl) (by decide) ?_; simp only [List.range, List.range.loop]; repeat (first | (refine Cm.opqA (ho_of (by conv => lhs; whnf) (by kernel_rfl)) (by rfl) (fun dd e he => ?_) ?_; (· (simp [go_sem, *] at he; try (subst he; exact evR_read _ _))); apply Exists.intro; apply And.intro; (· (intro dd K hK; go_simp; exact hK))) | (refine Cm.unw (ho_of (by conv => lhs; whnf) (by kernel_rfl)) (by rfl) ?_; walk_nrm)))
  refine Cm.done ?_
  repeat (first | refine Walk.c rfl ?_ | refine Walk.cRet ?_ | refine Walk.cEnd ?_ | (refine Walk.cReg ?_; simp only [size48_0, size48_1, size48_2, size48_3, size48_4, size48_5, size48_6, size48_7, size48_8, size48_9, size48_10, size48_11, size48_12, size48_13, size48_14, List.range, List.range.loop]) | (refine Walk.oq ?_; try walk_nrm) | (refine Walk.un ?_; walk_nrm))
  (refine Walk.drawnC (by kernel_rfl) size48_4 (by kernel_rfl) (by kernel_rfl) (by decide) ?_; simp only [List.range, List.range.loop]; repeat (first | (refine Cm.opqA (ho_of (by conv => lhs; whnf) (by kernel_rfl)) (by rfl) (fun dd e he => ?_) ?_; (· (simp [go_sem, *] at he; try (subst he; exact evR_read _ _))); apply Exists.intro; apply And.intro; (· (intro dd K hK; go_simp; exact hK))) | (refine Cm.unw (ho_of (by conv => lhs; whnf) (by kernel_rfl)) (by rfl) ?_; walk_nrm)))
  refine Cm.done ?_
  repeat (first | refine Walk.c rfl ?_ | refine Walk.cRet ?_ | refine Walk.cEnd ?_ | (refine Walk.cReg ?_; simp only [size48_0, size48_1, size48_2, size48_3, size48_4, size48_5, size48_6, size48_7, size48_8, size48_9, size48_10, size48_11, size48_12, size48_13, size48_14, List.range, List.range.loop]) | (refine Walk.oq ?_; try walk_nrm) | (refine Walk.un ?_; walk_nrm))
  (refine Walk.os hf h2 ?_; try walk_nrm)
  have hk : ∀ i, i < n → 0 ≤ z → z = (i : Int) → ∃ b o, ea = some ⟨b, o, none⟩ ∧ (w.setCell ⟨B, 2, none⟩ (.int .i64 ((p : Int) + 1))).cell? ⟨b, o + i, none⟩ = some (.bool (f i)) := fun i hi _ _ => by
    obtain ⟨b, o, e, h⟩ := ha i hi
    refine ⟨b, o, e, ?_⟩
    exact (World.cell?_of_block (a := ⟨b, o + i, none⟩) (heap_set_other _ _ _ _ (hne b o e))).trans h
  clear h0 h2 hz2 hf hz ha hw1
  generalize w.setCell ⟨B, 2, none⟩ (.int .i64 ((p : Int) + 1)) = w1 at *
  by_cases hz0 : 0 ≤ z
  · by_cases hzn : z < n
    · obtain ⟨m, rfl⟩ : ∃ m : Nat, z = m := ⟨z.toNat, by omega⟩
      have hm : m < n := by omega
      have hfm : f m = true := by
        cases e : f m with
        | true => rfl
        | false => exact absurd ⟨hz0, hzn, by simpa using e⟩ hno
      obtain ⟨b, o, rfl, hx⟩ := hk m hm hz0 rfl
      rw [hfm] at hx
      repeat (first | refine Walk.c rfl ?_ | refine Walk.cRet ?_ | refine Walk.cEnd ?_ | (refine Walk.cReg ?_; simp only [size48_0, size48_1, size48_2, size48_3, size48_4, size48_5, size48_6, size48_7, size48_8, size48_9, size48_10, size48_11, size48_12, size48_13, size48_14, List.range, List.range.loop]) | (refine Walk.oq ?_; try walk_nrm) | (refine Walk.un ?_; walk_nrm))
      refine Walk.ctl rfl (fun w => stepG_inLoop) ?_
      refine .stop fun d' => ⟨at_slots ?_, d', rfl⟩
      simp only [hd48]
      rfl
    · repeat (first | refine Walk.c rfl ?_ | refine Walk.cRet ?_ | refine Walk.cEnd ?_ | (refine Walk.cReg ?_; simp only [size48_0, size48_1, size48_2, size48_3, size48_4, size48_5, size48_6, size48_7, size48_8, size48_9, size48_10, size48_11, size48_12, size48_13, size48_14, List.range, List.range.loop]) | (refine Walk.oq ?_; try walk_nrm) | (refine Walk.un ?_; walk_nrm))
      refine Walk.ctl rfl (fun w => stepG_inLoop) ?_
      refine .stop fun d' => ⟨at_slots ?_, d', rfl⟩
      simp only [hd48]
      rfl
  · repeat (first | refine Walk.c rfl ?_ | refine Walk.cRet ?_ | refine Walk.cEnd ?_ | (refine Walk.cReg ?_; simp only [size48_0, size48_1, size48_2, size48_3, size48_4, size48_5, size48_6, size48_7, size48_8, size48_9, size48_10, size48_11, size48_12, size48_13, size48_14, List.range, List.range.loop]) | (refine Walk.oq ?_; try walk_nrm) | (refine Walk.un ?_; walk_nrm))
    refine Walk.ctl rfl (fun w => stepG_inLoop) ?_
    refine .stop fun d' => ⟨at_slots ?_, d', rfl⟩
    simp only [hd48]
    rfl
end
section
variable {main : Bool}
theorem Picked.pre {B : Nat} {lv : Value} {most : Int} {p rd : Nat} {oa : Option Addr} {oc : Nat} {ord : List Nat} {x : Nat} {w w1 w' : World} (h : Keep B (.slice oa ord.length oc) w w1) (H : Picked B lv most p rd oa oc ord x w1 w') : Picked B lv most p rd oa oc ord x w w' := by
  obtain ⟨⟨oa', oc', h1, h2, h3, h4⟩, k1, k2⟩ := H
  have := h.size
  refine ⟨⟨oa', oc', h1, h2, h3, fun g hg => ?_⟩, by omega, fun b hb e1 e2 => (k2 b (by omega) e1 e2).trans (h.same b hb e1 e2)⟩
  rcases h4 g hg with h | h
  · exact .inl h
  · exact .inr (by omega)
theorem Picked.at {B : Nat} {lv : Value} {most : Int} {p rd : Nat} {oa : Option Addr} {oc : Nat} {ord : List Nat} {x : Nat} {w w' : World} (H : Picked B lv most p rd oa oc ord x w w') (d : Nat) : Picked B lv most p rd oa oc ord x w (w'.at d) := ⟨H.all, H.keep.size, H.keep.same⟩
theorem keep_set {B i : Nat} {ov v : Value} {w : World} : Keep B ov w (w.setCell ⟨B, i, none⟩ v) := ⟨Nat.le_of_eq (size_set ..).symm, fun b _ h _ => heap_set_other w _ b _ h⟩
theorem pick48_take (B lb lo L lc : Nat) (most : Int) (p rd : Nat) (oa : Option Addr) (oc : Nat) (ord : List Nat) (eb eo n ec : Nat) (m : Nat) (u : Nat → Value) (c : Frame) (cs : List Frame) (w : World) (hB : w.heap[B]? = some (.cells (tuArr (.slice (some ⟨lb, lo, none⟩) L lc) most p rd (.slice oa ord.length oc)) 112)) (hp : p < L) (hL : L ≤ 17592186044416) (hz : w.cell? ⟨lb, lo + p, none⟩ = some (.int .i64 (m : Nat))) (hm : m < n) (ha : w.cell? ⟨eb, eo + m, none⟩ = some (.bool false)) (hne : eb ≠ B)
    (hrow : w.ownsRow 0 3 1 (.slice oa ord.length oc) ord.length (numbs ord)) (hno : (Value.slice oa ord.length oc).ownBlock ≠ some B) (hord : ord.length ≤ 1048576) :
    Walk Try.prog main (DR (fun _ => none)) (fun g w' => g = G (c.finish (.tuple #[.int .i64 (m : Nat), .bool true])) cs ∧ Picked B (.slice (some ⟨lb, lo, none⟩) L lc) most (p + 1) rd oa oc ord m w w') (G (hd48 (.pointer (some ⟨B, 0, none⟩)) (.slice (some ⟨eb, eo, none⟩) n ec) u) (c :: cs)) w := by
  have h0 : w.cell? ⟨B, 0, none⟩ = some (.slice (some ⟨lb, lo, none⟩) L lc) := (cell_of hB 0).trans rfl
  have h2 : w.cell? ⟨B, 2, none⟩ = some (.int .i64 (p : Nat)) := (cell_of hB 2).trans rfl
  have hz2 := frozen_of hB 2
  have hf : Free (fun _ => none) ⟨B, 2, none⟩ := (apart0 B).1 _ rfl
  have hw1 : IntKind.wrap .i64 ((p : Int) + 1) = (p : Int) + 1 := by rw [IntKind.wrap_i64]; omega
  have hc : ((p + 1 : Nat) : Int) = (p : Int) + 1 := by simp
  have hm0 : (0 : Int) ≤ (m : Int) := by omega
  conv => arg 5; unfold hd48
  repeat (first | refine Walk.c rfl ?_ | refine Walk.cRet ?_ | refine Walk.cEnd ?_ | (refine Walk.cReg ?_; simp only [size48_0, size48_1, size48_2, size48_3, size48_4, size48_5, size48_6, size48_7, size48_8, size48_9, size48_10, size48_11, size48_12, size48_13, size48_14, List.range, List.range.loop]) | (refine Walk.oq ?_; try walk_nrm) | (refine Walk.un ?_; walk_nrm))
  (refine Walk.drawnC (by kernel_rfl) size48_3 (by kernel_rfl) (by kernel_rfl) (by decide) ?_; simp only [List.range, List.range.loop]; repeat (first | (refine Cm.opqA (ho_of (by conv => lhs; whnf) (by kernel_rfl)) (by rfl) (fun dd e he => ?_) ?_; (· (simp [go_sem, *] at he; try (subst he; exact evR_read _ _))); apply Exists.intro; apply And.intro; (· (intro dd K hK; go_simp; exact hK))) | (refine Cm.unw (ho_of (by conv => lhs; whnf) (by kernel_rfl)) (by rfl) ?_; walk_nrm)))
  refine Cm.done ?_
  repeat (first | refine Walk.c rfl ?_ | refine Walk.cRet ?_ | refine Walk.cEnd ?_ | (refine Walk.cReg ?_; simp only [size48_0, size48_1, size48_2, size48_3, size48_4, size48_5, size48_6, size48_7, size48_8, size48_9, size48_10, size48_11, size48_12, size48_13, size48_14, List.range, List.range.loop]) | (refine Walk.oq ?_; try walk_nrm) | (refine Walk.un ?_; walk_nrm))
  (refine Walk.drawnC (by kernel_rfl) size48_4 (by kernel_rfl) (by kernel_rfl) (by decide) ?_; simp only [List.range, List.range.loop]; repeat (first | (refine Cm.opqA (ho_of (by conv => lhs; whnf) (by kernel_rfl)) (by rfl) (fun dd e he => ?_) ?_; (· (simp [go_sem, *] at he; try (subst he; exact evR_read _ _))); apply Exists.intro; apply And.intro; (· (intro dd K hK; go_simp; exact hK))) | (refine Cm.unw (ho_of (by conv => lhs; whnf) (by kernel_rfl)) (by rfl) ?_; walk_nrm)))
  refine Cm.done ?_
  repeat (first | refine Walk.c rfl ?_ | refine Walk.cRet ?_ | refine Walk.cEnd ?_ | (refine Walk.cReg ?_; simp only [size48_0, size48_1, size48_2, size48_3, size48_4, size48_5, size48_6, size48_7, size48_8, size48_9, size48_10, size48_11, size48_12, size48_13, size48_14, List.range, List.range.loop]) | (refine Walk.oq ?_; try walk_nrm) | (refine Walk.un ?_; walk_nrm))
  (refine Walk.os hf h2 ?_; try walk_nrm)
  have hx : (w.setCell ⟨B, 2, none⟩ (.int .i64 ((p : Int) + 1))).cell? ⟨eb, eo + m, none⟩ = some (.bool false) := (World.cell?_of_block (a := ⟨eb, eo + m, none⟩) (heap_set_other _ _ _ _ hne)).trans ha
  have hB1 : (w.setCell ⟨B, 2, none⟩ (.int .i64 ((p : Int) + 1))).heap[B]? = some (.cells (tuArr (.slice (some ⟨lb, lo, none⟩) L lc) most (p + 1) rd (.slice oa ord.length oc)) 112) := by
    rw [heap_set_self _ _ hB]
    simp [tuArr]
  have hrow1 : (w.setCell ⟨B, 2, none⟩ (.int .i64 ((p : Int) + 1))).ownsRow 0 3 1 (.slice oa ord.length oc) ord.length (numbs ord) := row_same hrow fun g hg => heap_set_other _ _ _ _ (fun e => hno (by rw [hg, e]))
  have hK1 : Keep B (.slice oa ord.length oc) w (w.setCell ⟨B, 2, none⟩ (.int .i64 ((p : Int) + 1))) := keep_set
  clear h0 h2 hz2 hf hz ha hw1 hrow hB
  generalize w.setCell ⟨B, 2, none⟩ (.int .i64 ((p : Int) + 1)) = w1 at *
  have h4 : w1.cell? ⟨B, 4, none⟩ = some (.slice oa ord.length oc) := (cell_of hB1 4).trans rfl
  repeat (first | refine Walk.c rfl ?_ | refine Walk.cRet ?_ | refine Walk.cEnd ?_ | (refine Walk.cReg ?_; simp only [size48_0, size48_1, size48_2, size48_3, size48_4, size48_5, size48_6, size48_7, size48_8, size48_9, size48_10, size48_11, size48_12, size48_13, size48_14, List.range, List.range.loop]) | (refine Walk.oq ?_; try walk_nrm) | (refine Walk.un ?_; walk_nrm))
  (refine Walk.oa ?_; try walk_nrm)
  have hlB := (Array.getElem?_eq_some_iff.1 hB1).1
  have hOA := old_alloc w1 (.cells #[.int .i64 (m : Nat)] 3)
  have hrow2 : (w1.alloc (.cells #[.int .i64 (m : Nat)] 3)).ownsRow 0 3 1 (.slice oa ord.length oc) ord.length (numbs ord) := row_same hrow1 fun g hg => hOA.same g (hrow1.lt g hg).2
  have hnew : ∀ y v, ([.int .i64 (m : Nat)] : List Value)[y]? = some v → (w1.alloc (.cells #[.int .i64 (m : Nat)] 3)).cell? ((⟨w1.heap.size, 0, none⟩ : Addr).add y) = some v := fun y v hv => by
    rw [add_none, Nat.zero_add]
    refine (cell_of (heap_alloc_new _ _) y).trans ?_
    simpa using hv
  have hi3 := Option.some_get (show (Try.prog.info? 3).isSome = true by kernel_rfl)
  refine Walk.append (.tmp 68) (.tmp 70) 24 (ho_of (by conv => lhs; whnf) (by kernel_rfl)) (by rfl) (by decide) rfl 0 3 _ (.int .i64 0) 1 8 (by kernel_rfl) hi3.symm (by rfl) (by rfl) (by rfl) (by rfl) (by decide) (.slice oa ord.length oc) ord.length (numbs ord) rfl hrow2 ⟨w1.heap.size, 0, none⟩ 1 1 [.int .i64 (m : Nat)] ?_ (by rfl) hnew (by simp [Value.oneCell']) (by decide) (by simp [maxLen]; omega) (by omega) (Nat.zero_le _) (fun g _ => apart0 g) (fun g cap w3 hown hg hat hlt => ?_)
  · simp [Act.eval]
  clear hi3 hnew hrow2
  have hP := (picked_of (x := m) hB1 hno hOA hown hg hat).pre hK1
  have hB3 : w3.heap[B]? = some (.cells (tuArr (.slice (some ⟨lb, lo, none⟩) L lc) most (p + 1) rd (.slice oa ord.length oc)) 112) := (hg.block B (Nat.lt_of_lt_of_le hlB hOA.size) (fun e => hno e.symm)).trans ((hOA.same B hlB).trans hB1)
  have h4' : w3.cell? ⟨B, 4, none⟩ = some (.slice oa ord.length oc) := (cell_of hB3 4).trans rfl
  have hz4 := frozen_of hB3 4
  have hf4 : Free (fun _ => none) ⟨B, 4, none⟩ := (apart0 B).1 _ rfl
  clear hB1 hB3 hown hg hat hrow1 hOA h4 hlB
  walk_nrm
  repeat (first | refine Walk.c rfl ?_ | refine Walk.cRet ?_ | refine Walk.cEnd ?_ | (refine Walk.cReg ?_; simp only [size48_0, size48_1, size48_2, size48_3, size48_4, size48_5, size48_6, size48_7, size48_8, size48_9, size48_10, size48_11, size48_12, size48_13, size48_14, List.range, List.range.loop]) | (refine Walk.oq ?_; try walk_nrm) | (refine Walk.un ?_; walk_nrm))
  (refine Walk.os hf4 h4' ?_; try walk_nrm)
  generalize w3.setCell ⟨B, 4, none⟩ (.slice (some ⟨g, 0, none⟩) (ord.length + 1) cap) = w4 at *
  repeat (first | refine Walk.c rfl ?_ | refine Walk.cRet ?_ | refine Walk.cEnd ?_ | (refine Walk.cReg ?_; simp only [size48_0, size48_1, size48_2, size48_3, size48_4, size48_5, size48_6, size48_7, size48_8, size48_9, size48_10, size48_11, size48_12, size48_13, size48_14, List.range, List.range.loop]) | (refine Walk.oq ?_; try walk_nrm) | (refine Walk.un ?_; walk_nrm))
  exact (Walk.ret2 (Post := fun v w' => v = .tuple #[.int .i64 (m : Nat), .bool true] ∧ ∃ d, w' = w4.at d) rfl rfl Try.func48 rfl fun d => ⟨rfl, d, rfl⟩).mono fun g w' ⟨v, ⟨hv, d, hd⟩, hg⟩ => ⟨by rw [hg, hv], by rw [hd]; exact hP.at d⟩
theorem pick48_next (B L lc : Nat) (la : Option Addr) (most : Int) (rd : Nat) (ov : Value) (ev : Value) (u : Nat → Value) (cs : List Frame) (w : World) (hB : w.heap[B]? = some (.cells (tuArr (.slice la L lc) most L rd ov) 112)) :
    Walk Try.prog main (DR (fun _ => none)) (fun g w' => (∃ u', g = G (hd48b (.pointer (some ⟨B, 0, none⟩)) ev u') cs) ∧ ∃ d, w' = w.at d) (G (hd48 (.pointer (some ⟨B, 0, none⟩)) ev u) cs) w := by
  have h0 : w.cell? ⟨B, 0, none⟩ = some (.slice la L lc) := (cell_of hB 0).trans rfl
  have h2 : w.cell? ⟨B, 2, none⟩ = some (.int .i64 (L : Nat)) := (cell_of hB 2).trans rfl
  conv => arg 5; unfold hd48
  repeat (first | refine Walk.c rfl ?_ | refine Walk.cRet ?_ | refine Walk.cEnd ?_ | (refine Walk.cReg ?_; simp only [size48_0, size48_1, size48_2, size48_3, size48_4, size48_5, size48_6, size48_7, size48_8, size48_9, size48_10, size48_11, size48_12, size48_13, size48_14, List.range, List.range.loop]) | (refine Walk.oq ?_; try walk_nrm) | (refine Walk.un ?_; walk_nrm))
  (refine Walk.drawnC (by kernel_rfl) size48_3 (by kernel_rfl) (by kernel_rfl) (by decide) ?_; simp only [List.range, List.range.loop]; repeat (first | (refine Cm.opqA (ho_of (by conv => lhs; whnf) (by kernel_rfl)) (by rfl) (fun dd e he => ?_) ?_; (· (simp [go_sem, *] at he; try (subst he; exact evR_read _ _))); apply Exists.intro; apply And.intro; (· (intro dd K hK; go_simp; exact hK))) | (refine Cm.unw (ho_of (by conv => lhs; whnf) (by kernel_rfl)) (by rfl) ?_; walk_nrm)))
  refine Cm.done ?_
  repeat (first | refine Walk.c rfl ?_ | refine Walk.cRet ?_ | refine Walk.cEnd ?_ | (refine Walk.cReg ?_; simp only [size48_0, size48_1, size48_2, size48_3, size48_4, size48_5, size48_6, size48_7, size48_8, size48_9, size48_10, size48_11, size48_12, size48_13, size48_14, List.range, List.range.loop]) | (refine Walk.oq ?_; try walk_nrm) | (refine Walk.un ?_; walk_nrm))
  refine Walk.ctl rfl (fun w => stepG_loop) ?_
  refine .stop fun d' => ⟨at_slots ?_, d', rfl⟩
  simp only [hd48b]
  rfl
theorem pick48_pass (B : Nat) (lv : Value) (most : Int) (p rd : Nat) (ov : Value) (eb eo n ec : Nat) (u : Nat → Value) (cs : List Frame) (w : World) (hB : w.heap[B]? = some (.cells (tuArr lv most p rd ov) 112)) (hn : 0 < n) (hrd : rd < 4398046511104) (hx : w.cell? ⟨eb, eo + rd % n, none⟩ = some (.bool true)) :
    Walk Try.prog main (DR (fun _ => none)) (fun g w' => (∃ u', g = G (hd48b (.pointer (some ⟨B, 0, none⟩)) (.slice (some ⟨eb, eo, none⟩) n ec) u') cs) ∧ ∃ d, w' = (w.setCell ⟨B, 3, none⟩ (.int .i64 ((rd + 1 : Nat) : Int))).at d) (G (hd48b (.pointer (some ⟨B, 0, none⟩)) (.slice (some ⟨eb, eo, none⟩) n ec) u) cs) w := by
  have h3 : w.cell? ⟨B, 3, none⟩ = some (.int .i64 (rd : Nat)) := (cell_of hB 3).trans rfl
  have hz3 := frozen_of hB 3
  have hf : Free (fun _ => none) ⟨B, 3, none⟩ := (apart0 B).1 _ rfl
  have hw1 : IntKind.wrap .i64 ((rd : Int) + 1) = (rd : Int) + 1 := by rw [IntKind.wrap_i64]; omega
  have hc : ((rd + 1 : Nat) : Int) = (rd : Int) + 1 := by simp
  have hq := Nat.mod_lt rd hn
  have ht : Int.tmod (rd : Int) (n : Int) = ((rd % n : Nat) : Int) := by
    rw [Int.tmod_eq_emod_of_nonneg (by omega)]
    simp
  have hn0 : ¬ n = 0 := by omega
  rw [hc]
  generalize rd % n = x at *
  conv => arg 5; unfold hd48b
  repeat (first | refine Walk.c rfl ?_ | refine Walk.cRet ?_ | refine Walk.cEnd ?_ | (refine Walk.cReg ?_; simp only [size48_0, size48_1, size48_2, size48_3, size48_4, size48_5, size48_6, size48_7, size48_8, size48_9, size48_10, size48_11, size48_12, size48_13, size48_14, List.range, List.range.loop]) | (refine Walk.oq ?_; try walk_nrm) | (refine Walk.un ?_; walk_nrm))
  (refine Walk.os hf h3 ?_; try walk_nrm)
  repeat (first | refine Walk.c rfl ?_ | refine Walk.cRet ?_ | refine Walk.cEnd ?_ | (refine Walk.cReg ?_; simp only [size48_0, size48_1, size48_2, size48_3, size48_4, size48_5, size48_6, size48_7, size48_8, size48_9, size48_10, size48_11, size48_12, size48_13, size48_14, List.range, List.range.loop]) | (refine Walk.oq ?_; try walk_nrm) | (refine Walk.un ?_; walk_nrm))
  refine Walk.ctl rfl (fun w => stepG_inLoop) ?_
  refine .stop fun d' => ⟨at_slots ?_, d', rfl⟩
  simp only [hd48b]
  rfl
theorem pick48_last (B : Nat) (lv : Value) (most : Int) (p rd : Nat) (oa : Option Addr) (oc : Nat) (ord : List Nat) (eb eo n ec : Nat) (u : Nat → Value) (c : Frame) (cs : List Frame) (w : World) (hB : w.heap[B]? = some (.cells (tuArr lv most p rd (.slice oa ord.length oc)) 112)) (hn : 0 < n) (hn2 : n < 4398046511104) (hx : w.cell? ⟨eb, eo + rd % n, none⟩ = some (.bool false))
    (hrow : w.ownsRow 0 3 1 (.slice oa ord.length oc) ord.length (numbs ord)) (hno : (Value.slice oa ord.length oc).ownBlock ≠ some B) (hord : ord.length ≤ 1048576) :
    Walk Try.prog main (DR (fun _ => none)) (fun g w' => g = G (c.finish (.tuple #[.int .i64 ((rd % n : Nat) : Int), .bool true])) cs ∧ Picked B lv most p (rd % n + 1) oa oc ord (rd % n) w w') (G (hd48b (.pointer (some ⟨B, 0, none⟩)) (.slice (some ⟨eb, eo, none⟩) n ec) u) (c :: cs)) w := by
  have h3 : w.cell? ⟨B, 3, none⟩ = some (.int .i64 (rd : Nat)) := (cell_of hB 3).trans rfl
  have hz3 := frozen_of hB 3
  have hf : Free (fun _ => none) ⟨B, 3, none⟩ := (apart0 B).1 _ rfl
  have hq := Nat.mod_lt rd hn
  have ht : Int.tmod (rd : Int) (n : Int) = ((rd % n : Nat) : Int) := by
    rw [Int.tmod_eq_emod_of_nonneg (by omega)]
    simp
  have hn0 : ¬ n = 0 := by omega
  generalize rd % n = x at *
  have hw1 : IntKind.wrap .i64 ((x : Int) + 1) = (x : Int) + 1 := by rw [IntKind.wrap_i64]; omega
  have hc : ((x + 1 : Nat) : Int) = (x : Int) + 1 := by simp
  unfold hd48b
  repeat (first | refine Walk.c rfl ?_ | refine Walk.cRet ?_ | refine Walk.cEnd ?_ | (refine Walk.cReg ?_; simp only [size48_0, size48_1, size48_2, size48_3, size48_4, size48_5, size48_6, size48_7, size48_8, size48_9, size48_10, size48_11, size48_12, size48_13, size48_14, List.range, List.range.loop]) | (refine Walk.oq ?_; try walk_nrm) | (refine Walk.un ?_; walk_nrm))
  (refine Walk.os hf h3 ?_; try walk_nrm)
  have hB1 : (w.setCell ⟨B, 3, none⟩ (.int .i64 ((x : Int) + 1))).heap[B]? = some (.cells (tuArr lv most p (x + 1) (.slice oa ord.length oc)) 112) := by
    rw [heap_set_self _ _ hB]
    simp [tuArr]
  have hrow1 : (w.setCell ⟨B, 3, none⟩ (.int .i64 ((x : Int) + 1))).ownsRow 0 3 1 (.slice oa ord.length oc) ord.length (numbs ord) := row_same hrow fun g hg => heap_set_other _ _ _ _ (fun e => hno (by rw [hg, e]))
  have hK1 : Keep B (.slice oa ord.length oc) w (w.setCell ⟨B, 3, none⟩ (.int .i64 ((x : Int) + 1))) := keep_set
  clear h3 hz3 hf hw1 hrow hB hx
  generalize w.setCell ⟨B, 3, none⟩ (.int .i64 ((x : Int) + 1)) = w1 at *
  have h4 : w1.cell? ⟨B, 4, none⟩ = some (.slice oa ord.length oc) := (cell_of hB1 4).trans rfl
  repeat (first | refine Walk.c rfl ?_ | refine Walk.cRet ?_ | refine Walk.cEnd ?_ | (refine Walk.cReg ?_; simp only [size48_0, size48_1, size48_2, size48_3, size48_4, size48_5, size48_6, size48_7, size48_8, size48_9, size48_10, size48_11, size48_12, size48_13, size48_14, List.range, List.range.loop]) | (refine Walk.oq ?_; try walk_nrm) | (refine Walk.un ?_; walk_nrm))
  (refine Walk.oa ?_; try walk_nrm)
  have hlB := (Array.getElem?_eq_some_iff.1 hB1).1
  have hOA := old_alloc w1 (.cells #[.int .i64 (x : Nat)] 3)
  have hrow2 : (w1.alloc (.cells #[.int .i64 (x : Nat)] 3)).ownsRow 0 3 1 (.slice oa ord.length oc) ord.length (numbs ord) := row_same hrow1 fun g hg => hOA.same g (hrow1.lt g hg).2
  have hnew : ∀ y v, ([.int .i64 (x : Nat)] : List Value)[y]? = some v → (w1.alloc (.cells #[.int .i64 (x : Nat)] 3)).cell? ((⟨w1.heap.size, 0, none⟩ : Addr).add y) = some v := fun y v hv => by
    rw [add_none, Nat.zero_add]
    refine (cell_of (heap_alloc_new _ _) y).trans ?_
    simpa using hv
  have hi3 := Option.some_get (show (Try.prog.info? 3).isSome = true by kernel_rfl)
  refine Walk.append (.tmp 108) (.tmp 110) 24 (ho_of (by conv => lhs; whnf) (by kernel_rfl)) (by rfl) (by decide) rfl 0 3 _ (.int .i64 0) 1 8 (by kernel_rfl) hi3.symm (by rfl) (by rfl) (by rfl) (by rfl) (by decide) (.slice oa ord.length oc) ord.length (numbs ord) rfl hrow2 ⟨w1.heap.size, 0, none⟩ 1 1 [.int .i64 (x : Nat)] ?_ (by rfl) hnew (by simp [Value.oneCell']) (by decide) (by simp [maxLen]; omega) (by omega) (Nat.zero_le _) (fun g _ => apart0 g) (fun g cap w3 hown hg hat hlt => ?_)
  · simp [Act.eval]
  clear hi3 hnew hrow2
  have hP := (picked_of (x := x) hB1 hno hOA hown hg hat).pre hK1
  have hB3 : w3.heap[B]? = some (.cells (tuArr lv most p (x + 1) (.slice oa ord.length oc)) 112) := (hg.block B (Nat.lt_of_lt_of_le hlB hOA.size) (fun e => hno e.symm)).trans ((hOA.same B hlB).trans hB1)
  have h4' : w3.cell? ⟨B, 4, none⟩ = some (.slice oa ord.length oc) := (cell_of hB3 4).trans rfl
  have hz4 := frozen_of hB3 4
  have hf4 : Free (fun _ => none) ⟨B, 4, none⟩ := (apart0 B).1 _ rfl
  clear hB1 hB3 hown hg hat hrow1 hOA h4 hlB
  walk_nrm
  repeat (first | refine Walk.c rfl ?_ | refine Walk.cRet ?_ | refine Walk.cEnd ?_ | (refine Walk.cReg ?_; simp only [size48_0, size48_1, size48_2, size48_3, size48_4, size48_5, size48_6, size48_7, size48_8, size48_9, size48_10, size48_11, size48_12, size48_13, size48_14, List.range, List.range.loop]) | (refine Walk.oq ?_; try walk_nrm) | (refine Walk.un ?_; walk_nrm))
  (refine Walk.os hf4 h4' ?_; try walk_nrm)
  generalize w3.setCell ⟨B, 4, none⟩ (.slice (some ⟨g, 0, none⟩) (ord.length + 1) cap) = w4 at *
  repeat (first | refine Walk.c rfl ?_ | refine Walk.cRet ?_ | refine Walk.cEnd ?_ | (refine Walk.cReg ?_; simp only [size48_0, size48_1, size48_2, size48_3, size48_4, size48_5, size48_6, size48_7, size48_8, size48_9, size48_10, size48_11, size48_12, size48_13, size48_14, List.range, List.range.loop]) | (refine Walk.oq ?_; try walk_nrm) | (refine Walk.un ?_; walk_nrm))
  exact (Walk.ret2 (Post := fun v w' => v = .tuple #[.int .i64 (x : Nat), .bool true] ∧ ∃ d, w' = w4.at d) rfl rfl Try.func48 rfl fun d => ⟨rfl, d, rfl⟩).mono fun g w' ⟨v, ⟨hv, d, hd⟩, hg⟩ => ⟨by rw [hg, hv], by rw [hd]; exact hP.at d⟩
end
section
variable {main : Bool}
theorem BoolsAt.set {ea : Option Addr} {n : Nat} {f : Nat → Bool} {w : World} {B i : Nat} {v : Value} (h : BoolsAt ea n f w) (hne : ∀ b o, ea = some ⟨b, o, none⟩ → b ≠ B) : BoolsAt ea n f (w.setCell ⟨B, i, none⟩ v) := fun j hj => by
  obtain ⟨b, o, e, hc⟩ := h j hj
  exact ⟨b, o, e, (World.cell?_of_block (a := ⟨b, o + j, none⟩) (heap_set_other _ _ _ _ (hne b o e))).trans hc⟩
structure TuIs (B : Nat) (la : Option Addr) (lc : Nat) (sl : List Int) (most : Int) (p rd : Nat) (oa : Option Addr) (oc : Nat) (ord : List Nat) (w : World) : Prop where
  blk : w.heap[B]? = some (.cells (tuArr (.slice la sl.length lc) most p rd (.slice oa ord.length oc)) 112)
  row : w.ownsRow 0 3 1 (.slice oa ord.length oc) ord.length (numbs ord)
  own : (Value.slice oa ord.length oc).ownBlock ≠ some B
  lst : ∀ (j : Nat) (z : Int), sl[j]? = some z → ∃ s so, la = some ⟨s, so, none⟩ ∧ w.cell? ⟨s, so + j, none⟩ = some (.int .i64 z) ∧ s ≠ B
section
variable {X : Type} {A : Abs X} {F st : X × List Nat} {B : Nat} {la : Option Addr} {lc : Nat} {sl : List Int} {most : Int} {p rd : Nat} {oa : Option Addr} {oc : Nat} {w : World} {ea : Option Addr} {n ec : Nat} {f : Nat → Bool} {c : Frame} {cs : List Frame}
theorem TuIs.lt {ord : List Nat} (T : TuIs B la lc sl most p rd oa oc ord w) : B < w.heap.size := (Array.getElem?_eq_some_iff.1 T.blk).1
theorem TuIs.setP {ord : List Nat} (T : TuIs B la lc sl most p rd oa oc ord w) (q : Nat) : TuIs B la lc sl most q rd oa oc ord (w.setCell ⟨B, 2, none⟩ (.int .i64 (q : Nat))) := by
  refine ⟨?_, row_same T.row fun g hg => heap_set_other _ _ _ _ (fun e => T.own (by rw [hg, e])), T.own, fun j z hz => ?_⟩
  · rw [heap_set_self _ _ T.blk]
    simp [tuArr]
  · obtain ⟨s, so, e, h, hs⟩ := T.lst j z hz
    exact ⟨s, so, e, (World.cell?_of_block (a := ⟨s, so + j, none⟩) (heap_set_other _ _ _ _ hs)).trans h, hs⟩
theorem TuIs.setR {ord : List Nat} (T : TuIs B la lc sl most p rd oa oc ord w) (q : Nat) : TuIs B la lc sl most p q oa oc ord (w.setCell ⟨B, 3, none⟩ (.int .i64 (q : Nat))) := by
  refine ⟨?_, row_same T.row fun g hg => heap_set_other _ _ _ _ (fun e => T.own (by rw [hg, e])), T.own, fun j z hz => ?_⟩
  · rw [heap_set_self _ _ T.blk]
    simp [tuArr]
  · obtain ⟨s, so, e, h, hs⟩ := T.lst j z hz
    exact ⟨s, so, e, (World.cell?_of_block (a := ⟨s, so + j, none⟩) (heap_set_other _ _ _ _ hs)).trans h, hs⟩
theorem TuIs.at {ord : List Nat} (T : TuIs B la lc sl most p rd oa oc ord w) (d : Nat) : TuIs B la lc sl most p rd oa oc ord (w.at d) := ⟨T.blk, T.row, T.own, T.lst⟩
def Next (A : Abs X) (F st : X × List Nat) (sl : List Int) (B : Nat) (la : Option Addr) (lc : Nat) (most : Int) (oa : Option Addr) (oc : Nat) (c : Frame) (cs : List Frame) (w : World) (g : Goroutine) (w' : World) : Prop :=
  ∃ x p' rd', x < A.n ∧ A.out st.1 x = none ∧ g = G (c.finish (.tuple #[.int .i64 (x : Nat), .bool true])) cs ∧ Ahead A F sl p' rd' (A.next st.1 x, st.2 ++ [x]) ∧ rd' ≤ A.n ∧ Picked B (.slice la sl.length lc) most p' rd' oa oc st.2 x w w'
theorem Next.pre {w1 w' : World} {g : Goroutine} (h : Keep B (.slice oa st.2.length oc) w w1) (H : Next A F st sl B la lc most oa oc c cs w1 g w') : Next A F st sl B la lc most oa oc c cs w g w' := by
  obtain ⟨x, p', rd', h1, h2, h3, h4, h5, h6⟩ := H
  exact ⟨x, p', rd', h1, h2, h3, h4, h5, h6.pre h⟩
variable (hov : overA A st = false) (hf : ∀ i, i < A.n → f i = (A.out st.1 i).isSome) (hne : ∀ b o, ea = some ⟨b, o, none⟩ → b ≠ B) (hn2 : A.n ≤ 1048576) (hord : st.2.length ≤ 1048576)
include hov hf hne hn2 hord
theorem pick48_rounds : ∀ (k rd : Nat) (u : Nat → Value) (w : World), A.out st.1 ((rd + k) % A.n) = none → rd + k ≤ 4194304 → TuIs B la lc sl most sl.length rd oa oc st.2 w → BoolsAt ea A.n f w → Ahead A F sl sl.length rd st →
    Walk Try.prog main (DR (fun _ => none)) (Next A F st sl B la lc most oa oc c cs w) (G (hd48b (.pointer (some ⟨B, 0, none⟩)) (.slice ea A.n ec) u) (c :: cs)) w := by
  obtain ⟨_, j0, hj0, _⟩ := over_len hov
  have hn : 0 < A.n := by omega
  intro k
  induction k with
  | zero =>
    intro rd u w hk hle T hb H
    rw [Nat.add_zero] at hk
    have hx := Nat.mod_lt rd hn
    obtain ⟨eb, eo, rfl, hc⟩ := hb _ hx
    rw [hf _ hx, hk] at hc
    refine (pick48_last B _ most sl.length rd oa oc st.2 eb eo A.n ec u c cs w T.blk hn (by omega) hc T.row T.own hord).mono ?_
    rintro g w' ⟨hg, hP⟩
    refine ⟨rd % A.n, sl.length, rd % A.n + 1, hx, hk, hg, ?_, hx, hP⟩
    have := (H.turn hov).1
    rw [step_yes hov hx hk] at this
    exact this
  | succ k ih =>
    intro rd u w hk hle T hb H
    have hx := Nat.mod_lt rd hn
    cases ho : A.out st.1 (rd % A.n) with
    | none =>
      obtain ⟨eb, eo, rfl, hc⟩ := hb _ hx
      rw [hf _ hx, ho] at hc
      refine (pick48_last B _ most sl.length rd oa oc st.2 eb eo A.n ec u c cs w T.blk hn (by omega) hc T.row T.own hord).mono ?_
      rintro g w' ⟨hg, hP⟩
      refine ⟨rd % A.n, sl.length, rd % A.n + 1, hx, ho, hg, ?_, hx, hP⟩
      have := (H.turn hov).1
      rw [step_yes hov hx ho] at this
      exact this
    | some b =>
      obtain ⟨eb, eo, he, hc⟩ := hb _ hx
      rw [hf _ hx, ho] at hc
      subst he
      refine (pick48_pass B _ most sl.length rd _ eb eo A.n ec u (c :: cs) w T.blk hn (by omega) hc).then ?_
      rintro g w' ⟨⟨u', rfl⟩, d, rfl⟩
      refine Walk.back ?_ d
      have hA := (H.turn hov).2
      rw [step_no (by
        rintro ⟨_, _, h⟩
        rw [Int.toNat_natCast, ho] at h
        cases h)] at hA
      refine (ih (rd + 1) u' _ ?_ (by omega) (T.setR (rd + 1)) (hb.set hne) hA).mono fun g w' h => h.pre keep_set
      rw [show rd + 1 + k = rd + (k + 1) by omega]
      exact hk
theorem pick48_list (hsl : sl.length ≤ 17592186044416) : ∀ (r p : Nat) (u : Nat → Value) (w : World), p + r = sl.length → rd ≤ A.n → TuIs B la lc sl most p rd oa oc st.2 w → BoolsAt ea A.n f w → Ahead A F sl p rd st →
    Walk Try.prog main (DR (fun _ => none)) (Next A F st sl B la lc most oa oc c cs w) (G (hd48 (.pointer (some ⟨B, 0, none⟩)) (.slice ea A.n ec) u) (c :: cs)) w := by
  intro r
  induction r with
  | zero =>
    intro p u w hp hrd T hb H
    have hp : p = sl.length := hp
    subst hp
    refine (pick48_next B sl.length lc la most rd _ _ u (c :: cs) w T.blk).then ?_
    rintro g w' ⟨⟨u', rfl⟩, d, rfl⟩
    refine Walk.back ?_ d
    obtain ⟨k, hk, ho⟩ := over_far hov rd
    exact pick48_rounds hov hf hne hn2 hord k rd u' w ho (by omega) T hb H
  | succ r ih =>
    intro p u w hp hrd T hb H
    have hpl : p < sl.length := by omega
    have hz : sl[p]? = some sl[p] := List.getElem?_eq_getElem hpl
    generalize sl[p] = z at hz
    obtain ⟨s, so, e, hc, hs⟩ := T.lst p z hz
    subst e
    have hA := H.take hz
    by_cases hok : 0 ≤ z ∧ z < A.n ∧ A.out st.1 z.toNat = none
    · obtain ⟨h0, h1, h2⟩ := hok
      obtain ⟨m, rfl⟩ : ∃ m : Nat, z = m := ⟨z.toNat, by omega⟩
      rw [Int.toNat_natCast] at h2
      have hm : m < A.n := by omega
      obtain ⟨eb, eo, he, hx⟩ := hb m hm
      rw [hf m hm, h2] at hx
      subst he
      refine (pick48_take B s so sl.length lc most p rd oa oc st.2 eb eo A.n ec m u c cs w T.blk hpl hsl hc hm hx (hne eb eo rfl) T.row T.own hord).mono ?_
      rintro g w' ⟨hg, hP⟩
      rw [step_yes hov hm h2] at hA
      exact ⟨m, p + 1, rd, hm, h2, hg, hA, hrd, hP⟩
    · rw [step_no hok] at hA
      refine (pick48_skip B s so sl.length lc most p rd _ ea A.n ec f z u (c :: cs) w T.blk hpl hsl hc hb hne ?_).then ?_
      · rintro ⟨h0, h1, h2⟩
        refine hok ⟨h0, h1, ?_⟩
        rw [hf z.toNat (by omega)] at h2
        cases e : A.out st.1 z.toNat with
        | none => rfl
        | some b => rw [e] at h2; cases h2
      · rintro g w' ⟨⟨u', rfl⟩, d, rfl⟩
        refine Walk.back ?_ d
        exact (ih (p + 1) u' _ (by omega) hrd (T.setP (p + 1)) (hb.set hne) hA).mono fun g w' h => h.pre keep_set
omit hov
theorem pick48_w (hsl : sl.length ≤ 17592186044416) (hrd : rd ≤ A.n) (T : TuIs B la lc sl A.most p rd oa oc st.2 w) (hb : BoolsAt ea A.n f w) (H : Ahead A F sl p rd st) :
    Walk Try.prog main (DR (fun _ => none)) (fun g w' => (overA A st = true ∧ g = G (c.finish (.tuple #[.int .i64 0, .bool false])) cs ∧ ∃ d, w' = w.at d) ∨ overA A st = false ∧ Next A F st sl B la lc A.most oa oc c cs w g w') (G (Frame.enter Try.prog 48 #[.pointer (some ⟨B, 0, none⟩), .slice ea A.n ec] .normal) (c :: cs)) w := by
  have hall : (List.range A.n).all f = decide (goingA A st.1 = 0) := by
    unfold goingA
    rw [Bool.eq_iff_iff]
    simp only [List.all_eq_true, decide_eq_true_eq, List.countP_eq_zero]
    constructor
    · intro h i hi
      have := h i hi
      rw [hf i (List.mem_range.1 hi)] at this
      cases e : A.out st.1 i with
      | none => rw [e] at this; cases this
      | some b => simp
    · intro h i hi
      have := h i hi
      rw [hf i (List.mem_range.1 hi)]
      cases e : A.out st.1 i with
      | none => rw [e] at this; simp at this
      | some b => rfl
  by_cases hg : goingA A st.1 = 0
  · refine (pick48_all B ea A.n ec f c cs w (by omega) hb (by rw [hall]; exact decide_eq_true hg)).mono ?_
    rintro g w' ⟨h1, h2⟩
    exact .inl ⟨by simp [overA, hg], h1, h2⟩
  · have hall : (List.range A.n).all f = false := by rw [hall]; exact decide_eq_false hg
    have hT := T.blk
    by_cases hm : (st.2.length : Int) = A.most
    · rw [← hm] at hT
      refine (pick48_most B _ p rd oa st.2.length oc ea A.n ec f c cs w hT (by omega) hb hall).mono ?_
      rintro g w' ⟨h1, h2⟩
      refine .inl ⟨?_, h1, h2⟩
      unfold overA
      simp only [Bool.or_eq_true, decide_eq_true_eq]
      right; omega
    · have hov : overA A st = false := by
        have := H.short
        unfold overA
        simp only [Bool.or_eq_false_iff, decide_eq_false_iff_not]
        exact ⟨hg, by omega⟩
      refine (pick48_in B _ A.most p rd oa st.2.length oc ea A.n ec f (c :: cs) w hT (by omega) hb hall hm).then ?_
      rintro g w' ⟨⟨u, rfl⟩, d, rfl⟩
      refine Walk.back ?_ d
      exact (pick48_list hov hf hne hn2 hord hsl (sl.length - p) p u w (by have := H.le; omega) hrd T hb H).mono fun g w' h => .inr ⟨hov, h⟩
end
end
section
variable {main : Bool}
noncomputable def reg17_0 : Array Oper := match Try.f17.body with | some (.seq (.region _ ops _) _) => ops | _ => #[]
theorem size17_0 : reg17_0.size = 1 := by kernel_rfl
noncomputable def reg17_1 : Array Oper := match Try.f17.body with | some (.seq _ (.seq (.region _ ops _) _)) => ops | _ => #[]
theorem size17_1 : reg17_1.size = 1 := by kernel_rfl
noncomputable def reg17_2 : Array Oper := match Try.f17.body with | some (.seq _ (.seq _ (.seq (.region _ ops _) _))) => ops | _ => #[]
theorem size17_2 : reg17_2.size = 4 := by kernel_rfl
noncomputable def reg17_3 : Array Oper := match Try.f17.body with | some (.seq _ (.seq _ (.seq _ (.seq (.region _ ops _) _)))) => ops | _ => #[]
theorem size17_3 : reg17_3.size = 1 := by kernel_rfl
noncomputable def reg17_4 : Array Oper := match Try.f17.body with | some (.seq _ (.seq _ (.seq _ (.seq _ (.seq (.region _ ops _) _))))) => ops | _ => #[]
theorem size17_4 : reg17_4.size = 1 := by kernel_rfl
noncomputable def reg17_5 : Array Oper := match Try.f17.body with | some (.seq _ (.seq _ (.seq _ (.seq _ (.seq _ (.seq (.seq (.region _ ops _) _) _)))))) => ops | _ => #[]
theorem size17_5 : reg17_5.size = 1 := by kernel_rfl
noncomputable def reg17_6 : Array Oper := match Try.f17.body with | some (.seq _ (.seq _ (.seq _ (.seq _ (.seq _ (.seq (.seq _ (.block _ (.loop (.seq (.seq (.region _ ops _) _) _)))) _)))))) => ops | _ => #[]
theorem size17_6 : reg17_6.size = 5 := by kernel_rfl
noncomputable def reg17_8 : Array Oper := match Try.f17.body with | some (.seq _ (.seq _ (.seq _ (.seq _ (.seq _ (.seq (.seq _ (.block _ (.loop (.seq _ (.seq (.block _ (.seq (.region _ ops _) _)) _))))) _)))))) => ops | _ => #[]
theorem size17_8 : reg17_8.size = 7 := by kernel_rfl
noncomputable def reg17_9 : Array Oper := match Try.f17.body with | some (.seq _ (.seq _ (.seq _ (.seq _ (.seq _ (.seq (.seq _ (.block _ (.loop (.seq _ (.seq (.block _ (.seq _ (.seq (.region _ ops _) _))) _))))) _)))))) => ops | _ => #[]
theorem size17_9 : reg17_9.size = 4 := by kernel_rfl
noncomputable def reg17_10 : Array Oper := match Try.f17.body with | some (.seq _ (.seq _ (.seq _ (.seq _ (.seq _ (.seq (.seq _ (.block _ (.loop (.seq _ (.seq (.block _ (.seq _ (.seq _ (.seq (.region _ ops _) _)))) _))))) _)))))) => ops | _ => #[]
theorem size17_10 : reg17_10.size = 5 := by kernel_rfl
noncomputable def reg17_11 : Array Oper := match Try.f17.body with | some (.seq _ (.seq _ (.seq _ (.seq _ (.seq _ (.seq (.seq _ (.block _ (.loop (.seq _ (.seq (.block _ (.seq _ (.seq _ (.seq _ (.region _ ops _))))) _))))) _)))))) => ops | _ => #[]
theorem size17_11 : reg17_11.size = 8 := by kernel_rfl
noncomputable def reg17_7 : Array Oper := match Try.f17.body with | some (.seq _ (.seq _ (.seq _ (.seq _ (.seq _ (.seq (.seq _ (.block _ (.loop (.seq _ (.seq _ (.region _ ops _)))))) _)))))) => ops | _ => #[]
theorem size17_7 : reg17_7.size = 3 := by kernel_rfl
noncomputable def reg17_12 : Array Oper := match Try.f17.body with | some (.seq _ (.seq _ (.seq _ (.seq _ (.seq _ (.seq _ (.seq (.region _ ops _) _))))))) => ops | _ => #[]
theorem size17_12 : reg17_12.size = 4 := by kernel_rfl
noncomputable def reg17_13 : Array Oper := match Try.f17.body with | some (.seq _ (.seq _ (.seq _ (.seq _ (.seq _ (.seq _ (.seq _ (.seq (.block _ (.loop (.block _ (.seq (.region _ ops _) _)))) _)))))))) => ops | _ => #[]
theorem size17_13 : reg17_13.size = 8 := by kernel_rfl
noncomputable def reg17_14 : Array Oper := match Try.f17.body with | some (.seq _ (.seq _ (.seq _ (.seq _ (.seq _ (.seq _ (.seq _ (.seq (.block _ (.loop (.block _ (.seq _ (.seq (.seq (.region _ ops _) _) _))))) _)))))))) => ops | _ => #[]
theorem size17_14 : reg17_14.size = 2 := by kernel_rfl
noncomputable def reg17_15 : Array Oper := match Try.f17.body with | some (.seq _ (.seq _ (.seq _ (.seq _ (.seq _ (.seq _ (.seq _ (.seq (.block _ (.loop (.block _ (.seq _ (.seq _ (.seq (.region _ ops _) _)))))) _)))))))) => ops | _ => #[]
theorem size17_15 : reg17_15.size = 6 := by kernel_rfl
noncomputable def reg17_16 : Array Oper := match Try.f17.body with | some (.seq _ (.seq _ (.seq _ (.seq _ (.seq _ (.seq _ (.seq _ (.seq (.block _ (.loop (.block _ (.seq _ (.seq _ (.seq _ (.region _ ops _))))))) _)))))))) => ops | _ => #[]
theorem size17_16 : reg17_16.size = 11 := by kernel_rfl
noncomputable def reg17_17 : Array Oper := match Try.f17.body with | some (.seq _ (.seq _ (.seq _ (.seq _ (.seq _ (.seq _ (.seq _ (.seq _ (.seq (.region _ ops _) _))))))))) => ops | _ => #[]
theorem size17_17 : reg17_17.size = 11 := by kernel_rfl
noncomputable def reg17_18 : Array Oper := match Try.f17.body with | some (.seq _ (.seq _ (.seq _ (.seq _ (.seq _ (.seq _ (.seq _ (.seq _ (.seq _ (.seq (.seq (.region _ ops _) _) _)))))))))) => ops | _ => #[]
theorem size17_18 : reg17_18.size = 1 := by kernel_rfl
noncomputable def reg17_19 : Array Oper := match Try.f17.body with | some (.seq _ (.seq _ (.seq _ (.seq _ (.seq _ (.seq _ (.seq _ (.seq _ (.seq _ (.seq (.seq _ (.block _ (.loop (.seq (.seq (.region _ ops _) _) _)))) _)))))))))) => ops | _ => #[]
theorem size17_19 : reg17_19.size = 4 := by kernel_rfl
noncomputable def reg17_21 : Array Oper := match Try.f17.body with | some (.seq _ (.seq _ (.seq _ (.seq _ (.seq _ (.seq _ (.seq _ (.seq _ (.seq _ (.seq (.seq _ (.block _ (.loop (.seq _ (.seq (.block _ (.region _ ops _)) _))))) _)))))))))) => ops | _ => #[]
theorem size17_21 : reg17_21.size = 13 := by kernel_rfl
noncomputable def reg17_20 : Array Oper := match Try.f17.body with | some (.seq _ (.seq _ (.seq _ (.seq _ (.seq _ (.seq _ (.seq _ (.seq _ (.seq _ (.seq (.seq _ (.block _ (.loop (.seq _ (.seq _ (.region _ ops _)))))) _)))))))))) => ops | _ => #[]
theorem size17_20 : reg17_20.size = 3 := by kernel_rfl
noncomputable def reg17_22 : Array Oper := match Try.f17.body with | some (.seq _ (.seq _ (.seq _ (.seq _ (.seq _ (.seq _ (.seq _ (.seq _ (.seq _ (.seq _ (.seq (.region _ ops _) _))))))))))) => ops | _ => #[]
theorem size17_22 : reg17_22.size = 2 := by kernel_rfl
theorem code17_is : Try.f17.body = some (.seq (.region 0 reg17_0 false) (.seq (.region 1 reg17_1 false) (.seq (.region 2 reg17_2 false) (.seq (.region 3 reg17_3 false) (.seq (.region 4 reg17_4 false) (.seq (.seq (.region 5 reg17_5 false) (.block 0 (.loop (.seq (.seq (.region 6 reg17_6 false) (.cond (.tmp 26 ) (.skip) (.exit 0))) (.seq (.block 1 (.seq (.region 8 reg17_8 false) (.seq (.region 9 reg17_9 false) (.seq (.region 10 reg17_10 false) (.region 11 reg17_11 false))))) (.region 7 reg17_7 false)))))) (.seq (.region 12 reg17_12 false) (.seq (.block 2 (.loop (.block 3 (.seq (.region 13 reg17_13 false) (.seq (.seq (.region 14 reg17_14 false) (.cond (.tmp 60 ) (.exit 2) (.skip))) (.seq (.region 15 reg17_15 false) (.region 16 reg17_16 false))))))) (.seq (.region 17 reg17_17 true) (.seq (.seq (.region 18 reg17_18 false) (.block 4 (.loop (.seq (.seq (.region 19 reg17_19 false) (.cond (.tmp 89 ) (.skip) (.exit 4))) (.seq (.block 5 (.region 21 reg17_21 true)) (.region 20 reg17_20 false)))))) (.seq (.region 22 reg17_22 false) (.ret)))))))))))) := by kernel_rfl
noncomputable def hd17 (r : Nat) (ws pv sv : Value) (most : Int) (st l e : Value) (i : Nat) (u : Nat → Value) : Frame :=
  (base 17).at { tmps := #[ws, pv, sv, .int .i64 most, u 4, u 5, u 6, u 7, .pointer (some ⟨r, 0, none⟩), st, l, e, .int .i64 i, u 13, u 14, u 15, u 16, u 17, u 18, u 19, u 20, u 21, u 22, u 23, u 24, u 25, u 26, u 27, u 28, u 29, u 30, u 31, u 32, u 33, u 34, u 35, u 36, u 37, u 38, u 39, u 40, u 41, u 42, u 43, u 44, u 45, u 46, u 47, u 48, u 49, u 50, u 51, u 52, u 53, u 54, u 55, u 56, u 57, u 58, u 59, u 60, u 61, u 62, u 63, u 64, u 65, u 66, u 67, u 68, u 69, u 70, u 71, u 72, u 73, u 74, u 75, u 76, u 77, u 78, u 79, u 80, u 81, u 82, u 83, u 84, u 85, u 86, u 87, u 88, u 89, u 90, u 91, u 92, u 93, u 94, u 95, u 96, u 97, u 98, u 99, u 100, u 101, u 102, u 103, u 104], defers := [] } [.code (.seq (.seq (.region 6 reg17_6 false) (.cond (.tmp 26 ) (.skip) (.exit 0))) (.seq (.block 1 (.seq (.region 8 reg17_8 false) (.seq (.region 9 reg17_9 false) (.seq (.region 10 reg17_10 false) (.region 11 reg17_11 false))))) (.region 7 reg17_7 false))), .inLoop (.seq (.seq (.region 6 reg17_6 false) (.cond (.tmp 26 ) (.skip) (.exit 0))) (.seq (.block 1 (.seq (.region 8 reg17_8 false) (.seq (.region 9 reg17_9 false) (.seq (.region 10 reg17_10 false) (.region 11 reg17_11 false))))) (.region 7 reg17_7 false))), .inBlock 0, .code (.seq (.region 12 reg17_12 false) (.seq (.block 2 (.loop (.block 3 (.seq (.region 13 reg17_13 false) (.seq (.seq (.region 14 reg17_14 false) (.cond (.tmp 60 ) (.exit 2) (.skip))) (.seq (.region 15 reg17_15 false) (.region 16 reg17_16 false))))))) (.seq (.region 17 reg17_17 true) (.seq (.seq (.region 18 reg17_18 false) (.block 4 (.loop (.seq (.seq (.region 19 reg17_19 false) (.cond (.tmp 89 ) (.skip) (.exit 4))) (.seq (.block 5 (.region 21 reg17_21 true)) (.region 20 reg17_20 false)))))) (.seq (.region 22 reg17_22 false) (.ret))))))]
noncomputable def hd17b (r : Nat) (st l e : Value) (tu : Nat) (u : Nat → Value) : Frame :=
  (base 17).at { tmps := #[u 0, u 1, u 2, u 3, u 4, u 5, u 6, u 7, .pointer (some ⟨r, 0, none⟩), st, l, e, u 12, u 13, .pointer (some ⟨tu, 0, none⟩), u 15, u 16, u 17, u 18, u 19, u 20, u 21, u 22, u 23, u 24, u 25, u 26, u 27, u 28, u 29, u 30, u 31, u 32, u 33, u 34, u 35, u 36, u 37, u 38, u 39, u 40, u 41, u 42, u 43, u 44, u 45, u 46, u 47, u 48, u 49, u 50, u 51, u 52, u 53, u 54, u 55, u 56, u 57, u 58, u 59, u 60, u 61, u 62, u 63, u 64, u 65, u 66, u 67, u 68, u 69, u 70, u 71, u 72, u 73, u 74, u 75, u 76, u 77, u 78, u 79, u 80, u 81, u 82, u 83, u 84, u 85, u 86, u 87, u 88, u 89, u 90, u 91, u 92, u 93, u 94, u 95, u 96, u 97, u 98, u 99, u 100, u 101, u 102, u 103, u 104], defers := [] } [.code (.block 3 (.seq (.region 13 reg17_13 false) (.seq (.seq (.region 14 reg17_14 false) (.cond (.tmp 60 ) (.exit 2) (.skip))) (.seq (.region 15 reg17_15 false) (.region 16 reg17_16 false))))), .inLoop (.block 3 (.seq (.region 13 reg17_13 false) (.seq (.seq (.region 14 reg17_14 false) (.cond (.tmp 60 ) (.exit 2) (.skip))) (.seq (.region 15 reg17_15 false) (.region 16 reg17_16 false))))), .inBlock 2, .code (.seq (.region 17 reg17_17 true) (.seq (.seq (.region 18 reg17_18 false) (.block 4 (.loop (.seq (.seq (.region 19 reg17_19 false) (.cond (.tmp 89 ) (.skip) (.exit 4))) (.seq (.block 5 (.region 21 reg17_21 true)) (.region 20 reg17_20 false)))))) (.seq (.region 22 reg17_22 false) (.ret))))]
noncomputable def hd17c (r : Nat) (l : Value) (o : Nat) (i : Nat) (u : Nat → Value) : Frame :=
  (base 17).at { tmps := #[u 0, u 1, u 2, u 3, u 4, u 5, u 6, u 7, .pointer (some ⟨r, 0, none⟩), u 9, l, u 11, u 12, u 13, u 14, u 15, u 16, .pointer (some ⟨o, 0, none⟩), .int .i64 i, u 19, u 20, u 21, u 22, u 23, u 24, u 25, u 26, u 27, u 28, u 29, u 30, u 31, u 32, u 33, u 34, u 35, u 36, u 37, u 38, u 39, u 40, u 41, u 42, u 43, u 44, u 45, u 46, u 47, u 48, u 49, u 50, u 51, u 52, u 53, u 54, u 55, u 56, u 57, u 58, u 59, u 60, u 61, u 62, u 63, u 64, u 65, u 66, u 67, u 68, u 69, u 70, u 71, u 72, u 73, u 74, u 75, u 76, u 77, u 78, u 79, u 80, u 81, u 82, u 83, u 84, u 85, u 86, u 87, u 88, u 89, u 90, u 91, u 92, u 93, u 94, u 95, u 96, u 97, u 98, u 99, u 100, u 101, u 102, u 103, u 104], defers := [] } [.code (.seq (.seq (.region 19 reg17_19 false) (.cond (.tmp 89 ) (.skip) (.exit 4))) (.seq (.block 5 (.region 21 reg17_21 true)) (.region 20 reg17_20 false))), .inLoop (.seq (.seq (.region 19 reg17_19 false) (.cond (.tmp 89 ) (.skip) (.exit 4))) (.seq (.block 5 (.region 21 reg17_21 true)) (.region 20 reg17_20 false))), .inBlock 4, .code (.seq (.region 22 reg17_22 false) (.ret))]
noncomputable def at17a (r : Nat) (st l e : Value) (tu : Nat) (u : Nat → Value) : Frame :=
  (base 17).at { tmps := #[u 0, u 1, u 2, u 3, u 4, u 5, u 6, u 7, .pointer (some ⟨r, 0, none⟩), st, l, e, u 12, u 13, .pointer (some ⟨tu, 0, none⟩), u 15, u 16, u 17, u 18, u 19, u 20, u 21, u 22, u 23, u 24, u 25, u 26, u 27, u 28, u 29, u 30, u 31, u 32, u 33, u 34, u 35, u 36, u 37, u 38, u 39, u 40, u 41, u 42, u 43, u 44, u 45, u 46, u 47, u 48, u 49, u 50, u 51, u 52, u 53, u 54, u 55, u 56, u 57, u 58, u 59, u 60, u 61, u 62, u 63, u 64, u 65, u 66, u 67, u 68, u 69, u 70, u 71, u 72, u 73, u 74, u 75, u 76, u 77, u 78, u 79, u 80, u 81, u 82, u 83, u 84, u 85, u 86, u 87, u 88, u 89, u 90, u 91, u 92, u 93, u 94, u 95, u 96, u 97, u 98, u 99, u 100, u 101, u 102, u 103, u 104], defers := [] } [.code (.seq (.region 17 reg17_17 true) (.seq (.seq (.region 18 reg17_18 false) (.block 4 (.loop (.seq (.seq (.region 19 reg17_19 false) (.cond (.tmp 89 ) (.skip) (.exit 4))) (.seq (.block 5 (.region 21 reg17_21 true)) (.region 20 reg17_20 false)))))) (.seq (.region 22 reg17_22 false) (.ret))))]
noncomputable def at17s (r : Nat) (st l e : Value) (tu x : Nat) (u : Nat → Value) : Frame :=
  (base 17).at { tmps := #[u 0, u 1, u 2, u 3, u 4, u 5, u 6, u 7, .pointer (some ⟨r, 0, none⟩), st, l, e, u 12, u 13, .pointer (some ⟨tu, 0, none⟩), .int .i64 x, u 16, u 17, u 18, u 19, u 20, u 21, u 22, u 23, u 24, u 25, u 26, u 27, u 28, u 29, u 30, u 31, u 32, u 33, u 34, u 35, u 36, u 37, u 38, u 39, u 40, u 41, u 42, u 43, u 44, u 45, u 46, u 47, u 48, u 49, u 50, u 51, u 52, u 53, u 54, u 55, u 56, u 57, u 58, u 59, u 60, u 61, u 62, u 63, u 64, u 65, u 66, u 67, u 68, u 69, u 70, u 71, u 72, u 73, u 74, u 75, u 76, u 77, u 78, u 79, u 80, u 81, u 82, u 83, u 84, u 85, u 86, u 87, u 88, u 89, u 90, u 91, u 92, u 93, u 94, u 95, u 96, u 97, u 98, u 99, u 100, u 101, u 102, u 103, u 104], defers := [] } (.code (.seq (.region 15 reg17_15 false) (.region 16 reg17_16 false)) :: .inBlock 3 :: ([.code (.block 3 (.seq (.region 13 reg17_13 false) (.seq (.seq (.region 14 reg17_14 false) (.cond (.tmp 60 ) (.exit 2) (.skip))) (.seq (.region 15 reg17_15 false) (.region 16 reg17_16 false))))), .inLoop (.block 3 (.seq (.region 13 reg17_13 false) (.seq (.seq (.region 14 reg17_14 false) (.cond (.tmp 60 ) (.exit 2) (.skip))) (.seq (.region 15 reg17_15 false) (.region 16 reg17_16 false))))), .inBlock 2, .code (.seq (.region 17 reg17_17 true) (.seq (.seq (.region 18 reg17_18 false) (.block 4 (.loop (.seq (.seq (.region 19 reg17_19 false) (.cond (.tmp 89 ) (.skip) (.exit 4))) (.seq (.block 5 (.region 21 reg17_21 true)) (.region 20 reg17_20 false)))))) (.seq (.region 22 reg17_22 false) (.ret))))] : List Item).drop 1)
theorem play17_pick (r : Nat) (st l : Value) (ea : Option Addr) (n ec tu : Nat) (N : World → Prop) (Y : Nat → World → Prop) (u : Nat → Value) (cs : List Frame) (w : World)
    (hp : CallW Try.prog main (fun _ => none) 48 #[.pointer (some ⟨tu, 0, none⟩), .slice ea n ec] w (fun v w' => (v = .tuple #[.int .i64 0, .bool false] ∧ N w') ∨ ∃ x : Nat, v = .tuple #[.int .i64 (x : Nat), .bool true] ∧ Y x w')) :
    Walk Try.prog main (DR (fun _ => none)) (fun g w' => (∃ w1 d, N w1 ∧ w' = w1.at d ∧ ∃ u', g = G (at17a r st l (.slice ea n ec) tu u') cs) ∨ ∃ x w1 d, Y x w1 ∧ w' = w1.at d ∧ ∃ u', g = G (at17s r st l (.slice ea n ec) tu x u') cs) (G (hd17b r st l (.slice ea n ec) tu u) cs) w := by
  conv => arg 5; unfold hd17b
  repeat (first | refine Walk.c rfl ?_ | refine Walk.cRet ?_ | refine Walk.cEnd ?_ | (refine Walk.cReg ?_; simp only [size17_0, size17_1, size17_2, size17_3, size17_4, size17_5, size17_6, size17_8, size17_9, size17_10, size17_11, size17_7, size17_12, size17_13, size17_14, size17_15, size17_16, size17_17, size17_18, size17_19, size17_21, size17_20, size17_22, List.range, List.range.loop]) | (refine Walk.oq ?_; try walk_nrm) | (refine Walk.un ?_; walk_nrm))
  refine Walk.callW (Post := fun v w' => (v = .tuple #[.int .i64 0, .bool false] ∧ N w') ∨ ∃ x : Nat, v = .tuple #[.int .i64 (x : Nat), .bool true] ∧ Y x w') ?_ (ho_of (by conv => lhs; whnf) (by kernel_rfl)) (by rfl) (by decide) rfl Try.func48 (by kernel_rfl) (by rfl) ?_
  · walk_nrm
    exact hp
  rintro v w1 (⟨rfl, hN⟩ | ⟨x, rfl, hY⟩)
  · walk_nrm
    repeat (first | (refine Walk.oq ?_; try walk_nrm) | (refine Walk.un ?_; walk_nrm))
    refine Walk.ctl rfl (fun w => stepG_region_end) ?_
    refine Walk.c rfl ?_
    refine Walk.c rfl ?_
    refine Walk.cReg ?_
    simp only [size17_14, List.range, List.range.loop]
    repeat (first | (refine Walk.oq ?_; try walk_nrm) | (refine Walk.un ?_; walk_nrm))
    refine Walk.ctl rfl (fun w => stepG_region_end) ?_
    refine Walk.c rfl ?_
    refine Walk.c rfl ?_
    refine .stop fun d => .inl ⟨w1, d, hN, rfl, at_slots ?_⟩
    simp only [at17a]
    rfl
  · walk_nrm
    repeat (first | (refine Walk.oq ?_; try walk_nrm) | (refine Walk.un ?_; walk_nrm))
    refine Walk.ctl rfl (fun w => stepG_region_end) ?_
    refine Walk.c rfl ?_
    refine Walk.c rfl ?_
    refine Walk.cReg ?_
    simp only [size17_14, List.range, List.range.loop]
    repeat (first | (refine Walk.oq ?_; try walk_nrm) | (refine Walk.un ?_; walk_nrm))
    refine Walk.ctl rfl (fun w => stepG_region_end) ?_
    refine Walk.c rfl ?_
    refine Walk.c rfl ?_
    refine .stop fun d => .inr ⟨x, w1, d, hY, rfl, at_slots ?_⟩
    simp only [at17s]
    rfl
structure Leaves (Q : Value → World → Prop) (lb eb p x : Nat) : Prop where
  is : ∀ v w', Q v w' → v = .tuple #[] ∧ w'.cell? ⟨lb, x, none⟩ = some (.pointer (some ⟨p, 0, none⟩)) ∧ (∃ b, w'.cell? ⟨p, 7, none⟩ = some (.bool b)) ∧ (∃ y, w'.cell? ⟨eb, x, none⟩ = some y) ∧ w'.frozen? ⟨eb, x, none⟩ = false
theorem play17_step (r sw nw wc lb ln lc eb n ec tu x p : Nat) (Q : Value → World → Prop) (u : Nat → Value) (cs : List Frame) (w : World) (hi : x < n) (hil : x < ln) (hl : w.cell? ⟨lb, x, none⟩ = some (.pointer (some ⟨p, 0, none⟩)))
    (hst : CallW Try.prog main (fun _ => none) 49 #[.pointer (some ⟨p, 0, none⟩), .slice (some ⟨sw, 0, none⟩) nw wc] w Q)
    (hQ : Leaves Q lb eb p x) :
    Walk Try.prog main (DR (fun _ => none)) (fun g w' => (∃ u', g = G (hd17b r (.slice (some ⟨sw, 0, none⟩) nw wc) (.slice (some ⟨lb, 0, none⟩) ln lc) (.slice (some ⟨eb, 0, none⟩) n ec) tu u') cs) ∧ ∃ v w1 b d, Q v w1 ∧ w1.cell? ⟨p, 7, none⟩ = some (.bool b) ∧ w' = (w1.setCell ⟨eb, x, none⟩ (.bool b)).at d)
      (G (at17s r (.slice (some ⟨sw, 0, none⟩) nw wc) (.slice (some ⟨lb, 0, none⟩) ln lc) (.slice (some ⟨eb, 0, none⟩) n ec) tu x u) cs) w := by
  conv => arg 5; unfold at17s
  repeat (first | refine Walk.c rfl ?_ | refine Walk.cRet ?_ | refine Walk.cEnd ?_ | (refine Walk.cReg ?_; simp only [size17_0, size17_1, size17_2, size17_3, size17_4, size17_5, size17_6, size17_8, size17_9, size17_10, size17_11, size17_7, size17_12, size17_13, size17_14, size17_15, size17_16, size17_17, size17_18, size17_19, size17_21, size17_20, size17_22, List.range, List.range.loop]) | (refine Walk.oq ?_; try walk_nrm) | (refine Walk.un ?_; walk_nrm))
  refine Walk.callW (Post := Q) ?_ (ho_of (by conv => lhs; whnf) (by kernel_rfl)) (by rfl) (by decide) rfl Try.func49 (by kernel_rfl) (by rfl) ?_
  · walk_nrm
    exact hst
  intro v w1 hq
  obtain ⟨rfl, hl1, ⟨b, hb⟩, ⟨y, hy⟩, hz⟩ := hQ.is v w1 hq
  clear hQ hst
  have hf : Free (fun _ => none) ⟨eb, x, none⟩ := (apart0 eb).1 _ rfl
  walk_nrm
  repeat (first | refine Walk.c rfl ?_ | refine Walk.cRet ?_ | refine Walk.cEnd ?_ | (refine Walk.cReg ?_; simp only [size17_0, size17_1, size17_2, size17_3, size17_4, size17_5, size17_6, size17_8, size17_9, size17_10, size17_11, size17_7, size17_12, size17_13, size17_14, size17_15, size17_16, size17_17, size17_18, size17_19, size17_21, size17_20, size17_22, List.range, List.range.loop]) | (refine Walk.oq ?_; try walk_nrm) | (refine Walk.un ?_; walk_nrm))
  (refine Walk.os hf hy ?_; try walk_nrm)
  generalize hw2 : w1.setCell ⟨eb, x, none⟩ (.bool b) = w2 at *
  repeat (first | refine Walk.c rfl ?_ | refine Walk.cRet ?_ | refine Walk.cEnd ?_ | (refine Walk.cReg ?_; simp only [size17_0, size17_1, size17_2, size17_3, size17_4, size17_5, size17_6, size17_8, size17_9, size17_10, size17_11, size17_7, size17_12, size17_13, size17_14, size17_15, size17_16, size17_17, size17_18, size17_19, size17_21, size17_20, size17_22, List.range, List.range.loop]) | (refine Walk.oq ?_; try walk_nrm) | (refine Walk.un ?_; walk_nrm))
  refine Walk.ctl rfl (fun w => stepG_inLoop) ?_
  refine .stop fun d => ⟨at_slots ?_, _, w1, b, d, hq, hb, by rw [hw2]⟩
  simp only [hd17b]
  rfl
end
section
variable {main : Bool}
structure Goes (Q : Value → World → Prop) (p i : Nat) (la : Option Addr) (lc : Nat) (xs : List Value) (ea : Option Addr) (ec : Nat) (ys : List Value) : Prop where
  is : ∀ v w1, Q v w1 → v = .tuple #[] ∧ w1.ownsRow 0 102 1 (.slice la i lc) i xs ∧ w1.ownsRow 0 4 1 (.slice ea i ec) i ys ∧ ∃ b, w1.cell? ⟨p, 7, none⟩ = some (.bool b)
  pl : (Value.slice la i lc).ownBlock ≠ some p
  el : ∀ g, (Value.slice ea i ec).ownBlock = some g → (Value.slice la i lc).ownBlock ≠ some g
theorem play17_make (r sn sc n pb po pc m i lc ec L cc : Nat) (sa la ea ca : Option Addr) (wv sv : Value) (most : Int) (xs ys : List Value) (Q : Value → World → Prop) (u : Nat → Value) (cs : List Frame) (w : World) (hm : min (n : Int) 64 = (m : Nat)) (hmn : m ≤ n) (hm64 : m ≤ 64) (hi : i < m) (hpr : w.cell? ⟨pb, po + i, none⟩ = some (.slice ca L cc))
    (hgo : CallW Try.prog main (fun _ => none) 46 #[.pointer (some ⟨w.heap.size, 0, none⟩), .int .i64 sn] (w.alloc (.cells (rtArr (.slice ca L cc) 0 (fun _ => 0) (.slice none 0 0) false) 105)) Q) (hQ : Goes Q w.heap.size i la lc xs ea ec ys) :
    Walk Try.prog main (DR (fun _ => none)) (fun g0 w' => ∃ v w1 b g cap w3 g' cap' w5, Q v w1 ∧ w1.cell? ⟨w.heap.size, 7, none⟩ = some (.bool b) ∧ (∃ u', g0 = G (hd17 r wv (.slice (some ⟨pb, po, none⟩) n pc) sv most (.slice sa sn sc) (.slice (some ⟨g, 0, none⟩) (i + 1) cap) (.slice (some ⟨g', 0, none⟩) (i + 1) cap') (i + 1) u') cs) ∧ (∃ d, w' = w5.at d) ∧
      w3.ownsRow 0 102 1 (.slice (some ⟨g, 0, none⟩) (i + 1) cap) (i + 1) (xs ++ [.pointer (some ⟨w.heap.size, 0, none⟩)]) ∧ (w1.alloc (.cells #[.pointer (some ⟨w.heap.size, 0, none⟩)] 102)).grownBy w3 (Value.slice la i lc).ownBlock ∧ ((Value.slice la i lc).ownBlock = some g ∨ g = (w1.alloc (.cells #[.pointer (some ⟨w.heap.size, 0, none⟩)] 102)).heap.size) ∧
      w5.ownsRow 0 4 1 (.slice (some ⟨g', 0, none⟩) (i + 1) cap') (i + 1) (ys ++ [.bool b]) ∧ (w3.alloc (.cells #[.bool b] 4)).grownBy w5 (Value.slice ea i ec).ownBlock ∧ ((Value.slice ea i ec).ownBlock = some g' ∨ g' = (w3.alloc (.cells #[.bool b] 4)).heap.size))
      (G (hd17 r wv (.slice (some ⟨pb, po, none⟩) n pc) sv most (.slice sa sn sc) (.slice la i lc) (.slice ea i ec) i u) cs) w := by
  have hw1 : IntKind.wrap .i64 ((i : Int) + 1) = (i : Int) + 1 := by rw [IntKind.wrap_i64]; omega
  have hin : i < n := by omega
  have hth := threads21_w (main := main) (V := fun _ => none) n w
  rw [hm] at hth
  conv => arg 5; unfold hd17
  repeat (first | refine Walk.c rfl ?_ | refine Walk.cRet ?_ | refine Walk.cEnd ?_ | (refine Walk.cReg ?_; simp only [size17_0, size17_1, size17_2, size17_3, size17_4, size17_5, size17_6, size17_8, size17_9, size17_10, size17_11, size17_7, size17_12, size17_13, size17_14, size17_15, size17_16, size17_17, size17_18, size17_19, size17_21, size17_20, size17_22, List.range, List.range.loop]) | (refine Walk.oq ?_; try walk_nrm) | (refine Walk.un ?_; walk_nrm))
  refine Walk.callV (x := .int .i64 (m : Nat)) (W := w) ?_ (ho_of (by conv => lhs; whnf) (by kernel_rfl)) (by rfl) (by decide) rfl Try.func21 (by kernel_rfl) (by rfl) ?_
  · walk_nrm
    exact hth
  clear hth hm
  walk_nrm
  repeat (first | refine Walk.c rfl ?_ | refine Walk.cRet ?_ | refine Walk.cEnd ?_ | (refine Walk.cReg ?_; simp only [size17_0, size17_1, size17_2, size17_3, size17_4, size17_5, size17_6, size17_8, size17_9, size17_10, size17_11, size17_7, size17_12, size17_13, size17_14, size17_15, size17_16, size17_17, size17_18, size17_19, size17_21, size17_20, size17_22, List.range, List.range.loop]) | (refine Walk.oq ?_; try walk_nrm) | (refine Walk.un ?_; walk_nrm))
  (refine Walk.oa ?_; try walk_nrm)
  have hgo' := hgo
  unfold rtArr at hgo'
  generalize hwA : w.alloc (.cells #[.slice ca L cc, .int .i64 0, .int .i64 0, .int .i64 0, .int .i64 0, .int .i64 0, .slice none 0 0, .bool false] 105) = wA at *
  generalize w.heap.size = p at *
  clear hpr hgo
  repeat (first | refine Walk.c rfl ?_ | refine Walk.cRet ?_ | refine Walk.cEnd ?_ | (refine Walk.cReg ?_; simp only [size17_0, size17_1, size17_2, size17_3, size17_4, size17_5, size17_6, size17_8, size17_9, size17_10, size17_11, size17_7, size17_12, size17_13, size17_14, size17_15, size17_16, size17_17, size17_18, size17_19, size17_21, size17_20, size17_22, List.range, List.range.loop]) | (refine Walk.oq ?_; try walk_nrm) | (refine Walk.un ?_; walk_nrm))
  refine Walk.callW (Post := Q) ?_ (ho_of (by conv => lhs; whnf) (by kernel_rfl)) (by rfl) (by decide) rfl Try.func46 (by kernel_rfl) (by rfl) ?_
  · walk_nrm
    exact hgo'
  intro v w1 hq
  obtain ⟨hv, hrl, hre, b, hb⟩ := hQ.is v w1 hq
  have hpl := hQ.pl
  have hel := hQ.el
  clear hQ hgo'
  walk_nrm
  repeat (first | refine Walk.c rfl ?_ | refine Walk.cRet ?_ | refine Walk.cEnd ?_ | (refine Walk.cReg ?_; simp only [size17_0, size17_1, size17_2, size17_3, size17_4, size17_5, size17_6, size17_8, size17_9, size17_10, size17_11, size17_7, size17_12, size17_13, size17_14, size17_15, size17_16, size17_17, size17_18, size17_19, size17_21, size17_20, size17_22, List.range, List.range.loop]) | (refine Walk.oq ?_; try walk_nrm) | (refine Walk.un ?_; walk_nrm))
  (refine Walk.oa ?_; try walk_nrm)
  have hsz1 : (w1.alloc (.cells #[.pointer (some ⟨p, 0, none⟩)] 102)).heap.size = w1.heap.size + 1 := by simp
  have hO1 := old_alloc w1 (.cells #[.pointer (some ⟨p, 0, none⟩)] 102)
  have hnew1 : ∀ y v, ([.pointer (some ⟨p, 0, none⟩)] : List Value)[y]? = some v → (w1.alloc (.cells #[.pointer (some ⟨p, 0, none⟩)] 102)).cell? ((⟨w1.heap.size, 0, none⟩ : Addr).add y) = some v := fun y v hv => by
    rw [add_none, Nat.zero_add]
    refine (cell_of (heap_alloc_new _ _) y).trans ?_
    simpa using hv
  have hrl1 : (w1.alloc (.cells #[.pointer (some ⟨p, 0, none⟩)] 102)).ownsRow 0 102 1 (.slice la i lc) i xs := row_same hrl fun g hg => hO1.same g (hrl.lt g hg).2
  have hi102 := Option.some_get (show (Try.prog.info? 102).isSome = true by kernel_rfl)
  refine Walk.append (.tmp 39) (.tmp 41) 101 (ho_of (by conv => lhs; whnf) (by kernel_rfl)) (by rfl) (by decide) rfl 0 102 _ (.pointer none) 1 8 (by kernel_rfl) hi102.symm (by rfl) (by rfl) (by rfl) (by rfl) (by decide) (.slice la i lc) i xs rfl hrl1 ⟨w1.heap.size, 0, none⟩ 1 1 [.pointer (some ⟨p, 0, none⟩)] ?_ (by rfl) hnew1 (by simp [Value.oneCell']) (by decide) (by simp [maxLen]; omega) (by omega) (Nat.zero_le _) (fun g _ => apart0 g) (fun g cap w3 hown hg hat hlt => ?_)
  · simp [Act.eval]
  clear hi102 hnew1 hrl1
  have hfar : ∀ b, b < w1.heap.size → (Value.slice la i lc).ownBlock ≠ some b → w3.heap[b]? = w1.heap[b]? := fun b hb hne => (hg.block b (by omega) (fun e => hne e.symm)).trans (hO1.same b hb)
  have hb3 : w3.cell? ⟨p, 7, none⟩ = some (.bool b) := (World.cell?_of_block (a := ⟨p, 7, none⟩) (hfar p (cell_lt w1 hb) hpl)).trans hb
  have hre3 : w3.ownsRow 0 4 1 (.slice ea i ec) i ys := row_same hre fun g hg => hfar g (hre.lt g hg).2 (hel g hg)
  walk_nrm
  repeat (first | refine Walk.c rfl ?_ | refine Walk.cRet ?_ | refine Walk.cEnd ?_ | (refine Walk.cReg ?_; simp only [size17_0, size17_1, size17_2, size17_3, size17_4, size17_5, size17_6, size17_8, size17_9, size17_10, size17_11, size17_7, size17_12, size17_13, size17_14, size17_15, size17_16, size17_17, size17_18, size17_19, size17_21, size17_20, size17_22, List.range, List.range.loop]) | (refine Walk.oq ?_; try walk_nrm) | (refine Walk.un ?_; walk_nrm))
  (refine Walk.oa ?_; try walk_nrm)
  have hO3 := old_alloc w3 (.cells #[.bool b] 4)
  have hnew3 : ∀ y v, ([.bool b] : List Value)[y]? = some v → (w3.alloc (.cells #[.bool b] 4)).cell? ((⟨w3.heap.size, 0, none⟩ : Addr).add y) = some v := fun y v hv => by
    rw [add_none, Nat.zero_add]
    refine (cell_of (heap_alloc_new _ _) y).trans ?_
    simpa using hv
  have hre4 : (w3.alloc (.cells #[.bool b] 4)).ownsRow 0 4 1 (.slice ea i ec) i ys := row_same hre3 fun g hg => hO3.same g (hre3.lt g hg).2
  have hi4 := Option.some_get (show (Try.prog.info? 4).isSome = true by kernel_rfl)
  refine Walk.append (.tmp 43) (.tmp 48) 50 (ho_of (by conv => lhs; whnf) (by kernel_rfl)) (by rfl) (by decide) rfl 0 4 _ (.bool false) 1 1 (by kernel_rfl) hi4.symm (by rfl) (by rfl) (by rfl) (by rfl) (by decide) (.slice ea i ec) i ys rfl hre4 ⟨w3.heap.size, 0, none⟩ 1 1 [.bool b] ?_ (by rfl) hnew3 (by simp [Value.oneCell']) (by decide) (by simp [maxLen]; omega) (by omega) (Nat.zero_le _) (fun g _ => apart0 g) (fun g' cap' w5 hown5 hg5 hat5 hlt5 => ?_)
  · simp [Act.eval]
  clear hi4 hnew3 hre4
  walk_nrm
  repeat (first | refine Walk.c rfl ?_ | refine Walk.cRet ?_ | refine Walk.cEnd ?_ | (refine Walk.cReg ?_; simp only [size17_0, size17_1, size17_2, size17_3, size17_4, size17_5, size17_6, size17_8, size17_9, size17_10, size17_11, size17_7, size17_12, size17_13, size17_14, size17_15, size17_16, size17_17, size17_18, size17_19, size17_21, size17_20, size17_22, List.range, List.range.loop]) | (refine Walk.oq ?_; try walk_nrm) | (refine Walk.un ?_; walk_nrm))
  refine Walk.ctl rfl (fun w => stepG_inLoop) ?_
  refine .stop fun d' => ⟨v, w1, b, g, cap, w3, g', cap', w5, hq, hb, at_slots ?_, ⟨d', rfl⟩, hown, hg, hat, hown5, hg5, hat5⟩
  have hc : ((i + 1 : Nat) : Int) = (i : Int) + 1 := by simp
  simp only [hd17, hc]
  rfl
end
section
variable {main : Bool} {V : Nat → Option Wait}
noncomputable def reg18_0 : Array Oper := match Try.f18.body with | some (.seq (.region _ ops _) _) => ops | _ => #[]
theorem size18_0 : reg18_0.size = 1 := by kernel_rfl
noncomputable def reg18_1 : Array Oper := match Try.f18.body with | some (.seq _ (.seq (.seq (.region _ ops _) _) _)) => ops | _ => #[]
theorem size18_1 : reg18_1.size = 5 := by kernel_rfl
noncomputable def reg18_2 : Array Oper := match Try.f18.body with | some (.seq _ (.seq (.seq _ (.cond _ (.seq (.region _ ops _) _) _)) _)) => ops | _ => #[]
theorem size18_2 : reg18_2.size = 1 := by kernel_rfl
noncomputable def reg18_3 : Array Oper := match Try.f18.body with | some (.seq _ (.seq _ (.seq (.seq (.region _ ops _) _) _))) => ops | _ => #[]
theorem size18_3 : reg18_3.size = 1 := by kernel_rfl
noncomputable def reg18_4 : Array Oper := match Try.f18.body with | some (.seq _ (.seq _ (.seq (.seq _ (.block _ (.loop (.seq (.seq (.region _ ops _) _) _)))) _))) => ops | _ => #[]
theorem size18_4 : reg18_4.size = 4 := by kernel_rfl
noncomputable def reg18_6 : Array Oper := match Try.f18.body with | some (.seq _ (.seq _ (.seq (.seq _ (.block _ (.loop (.seq _ (.seq (.block _ (.seq (.region _ ops _) _)) _))))) _))) => ops | _ => #[]
theorem size18_6 : reg18_6.size = 9 := by kernel_rfl
noncomputable def reg18_7 : Array Oper := match Try.f18.body with | some (.seq _ (.seq _ (.seq (.seq _ (.block _ (.loop (.seq _ (.seq (.block _ (.seq _ (.cond _ (.seq (.region _ ops _) _) _))) _))))) _))) => ops | _ => #[]
theorem size18_7 : reg18_7.size = 1 := by kernel_rfl
noncomputable def reg18_5 : Array Oper := match Try.f18.body with | some (.seq _ (.seq _ (.seq (.seq _ (.block _ (.loop (.seq _ (.seq _ (.region _ ops _)))))) _))) => ops | _ => #[]
theorem size18_5 : reg18_5.size = 3 := by kernel_rfl
noncomputable def reg18_8 : Array Oper := match Try.f18.body with | some (.seq _ (.seq _ (.seq _ (.seq (.region _ ops _) _)))) => ops | _ => #[]
theorem size18_8 : reg18_8.size = 1 := by kernel_rfl
theorem code18_is : Try.f18.body = some (.seq (.region 0 reg18_0 false) (.seq (.seq (.region 1 reg18_1 false) (.cond (.tmp 10 ) (.seq (.region 2 reg18_2 false) (.ret)) (.skip))) (.seq (.seq (.region 3 reg18_3 false) (.block 0 (.loop (.seq (.seq (.region 4 reg18_4 false) (.cond (.tmp 14 ) (.skip) (.exit 0))) (.seq (.block 1 (.seq (.region 6 reg18_6 true) (.cond (.tmp 25 ) (.seq (.region 7 reg18_7 false) (.ret)) (.skip)))) (.region 5 reg18_5 false)))))) (.seq (.region 8 reg18_8 false) (.ret))))) := by kernel_rfl
noncomputable def hd18 (a b : Value) (i : Nat) (u : Nat → Value) : Frame :=
  (base 18).at { tmps := #[a, b, u 2, u 3, .bool false, .int .i64 i, u 6, u 7, u 8, u 9, u 10, u 11, u 12, u 13, u 14, u 15, u 16, u 17, u 18, u 19, u 20, u 21, u 22, u 23, u 24, u 25], defers := [] } [.code (.seq (.seq (.region 4 reg18_4 false) (.cond (.tmp 14 ) (.skip) (.exit 0))) (.seq (.block 1 (.seq (.region 6 reg18_6 true) (.cond (.tmp 25 ) (.seq (.region 7 reg18_7 false) (.ret)) (.skip)))) (.region 5 reg18_5 false))), .inLoop (.seq (.seq (.region 4 reg18_4 false) (.cond (.tmp 14 ) (.skip) (.exit 0))) (.seq (.block 1 (.seq (.region 6 reg18_6 true) (.cond (.tmp 25 ) (.seq (.region 7 reg18_7 false) (.ret)) (.skip)))) (.region 5 reg18_5 false))), .inBlock 0, .code (.seq (.region 8 reg18_8 false) (.ret))]
theorem same18_in (a b : Option Addr) (n ca cb : Nat) (cs : List Frame) (w : World) :
    Walk Try.prog main (DR V) (fun g w' => (∃ u, g = G (hd18 (.slice a n ca) (.slice b n cb) 0 u) cs) ∧ ∃ d, w' = w.at d) (G (Frame.enter Try.prog 18 #[.slice a n ca, .slice b n cb] .normal) cs) w := by
  rw [enter_at _ Try.func18 code18_is]
  simp only [Try.ntmps18, List.size_toArray, List.length_cons, List.length_nil, Nat.reduceAdd, Nat.reduceSub, Array.replicate_succ, Array.replicate_zero, List.push_toArray, List.append_toArray, List.nil_append, List.cons_append]
  repeat (first | refine Walk.c rfl ?_ | refine Walk.cRet ?_ | refine Walk.cEnd ?_ | (refine Walk.cReg ?_; simp only [size18_0, size18_1, size18_2, size18_3, size18_4, size18_6, size18_7, size18_5, size18_8, List.range, List.range.loop]) | (refine Walk.oq ?_; try walk_nrm) | (refine Walk.un ?_; walk_nrm))
  refine Walk.ctl rfl (fun w => stepG_loop) ?_
  refine .stop fun d => ⟨at_slots ?_, d, rfl⟩
  simp only [hd18]
  rfl
theorem same18_out (a b : Option Addr) (n ca cb : Nat) (u : Nat → Value) (c : Frame) (cs : List Frame) (w : World) :
    Walk Try.prog main (DR V) (fun g w' => g = G (c.finish (.bool true)) cs ∧ ∃ d, w' = w.at d) (G (hd18 (.slice a n ca) (.slice b n cb) n u) (c :: cs)) w := by
  unfold hd18
  repeat (first | refine Walk.c rfl ?_ | refine Walk.cRet ?_ | refine Walk.cEnd ?_ | (refine Walk.cReg ?_; simp only [size18_0, size18_1, size18_2, size18_3, size18_4, size18_6, size18_7, size18_5, size18_8, List.range, List.range.loop]) | (refine Walk.oq ?_; try walk_nrm) | (refine Walk.un ?_; walk_nrm))
  exact (Walk.ret1 (Post := fun v w' => v = .bool true ∧ ∃ d, w' = w.at d) rfl rfl Try.func18 rfl fun d => ⟨rfl, d, rfl⟩).mono fun g w' ⟨v, ⟨hv, hd⟩, hg⟩ => ⟨by rw [hg, hv], hd⟩
theorem same18_go (ab ao n ca bb bo cb i : Nat) (x : Int) (u : Nat → Value) (cs : List Frame) (w : World) (hi : i < n) (hn : n ≤ 17592186044416) (ha : w.cell? ⟨ab, ao + i, none⟩ = some (.int .i64 x)) (hb : w.cell? ⟨bb, bo + i, none⟩ = some (.int .i64 x)) :
    Walk Try.prog main (DR V) (fun g w' => (∃ u', g = G (hd18 (.slice (some ⟨ab, ao, none⟩) n ca) (.slice (some ⟨bb, bo, none⟩) n cb) (i + 1) u') cs) ∧ ∃ d, w' = w.at d) (G (hd18 (.slice (some ⟨ab, ao, none⟩) n ca) (.slice (some ⟨bb, bo, none⟩) n cb) i u) cs) w := by
  have hw1 : IntKind.wrap .i64 ((i : Int) + 1) = (i : Int) + 1 := by rw [IntKind.wrap_i64]; omega
  conv => arg 5; unfold hd18
  repeat (first | refine Walk.c rfl ?_ | refine Walk.cRet ?_ | refine Walk.cEnd ?_ | (refine Walk.cReg ?_; simp only [size18_0, size18_1, size18_2, size18_3, size18_4, size18_6, size18_7, size18_5, size18_8, List.range, List.range.loop]) | (refine Walk.oq ?_; try walk_nrm) | (refine Walk.un ?_; walk_nrm))
  (refine Walk.drawnC (by kernel_rfl) size18_6 (by kernel_rfl) (by kernel_rfl) (by decide) ?_; simp only [List.range, List.range.loop]; repeat (first | (refine Cm.opqA (ho_of (by conv => lhs; whnf) (by kernel_rfl)) (by rfl) (fun dd e he => ?_) ?_; (· (simp [go_sem, *] at he; try (subst he; exact evR_read _ _))); apply Exists.intro; apply And.intro; (· (intro dd K hK; go_simp; exact hK))) | (refine Cm.unw (ho_of (by conv => lhs; whnf) (by kernel_rfl)) (by rfl) ?_; walk_nrm)))
  refine Cm.done ?_
  repeat (first | refine Walk.c rfl ?_ | refine Walk.cRet ?_ | refine Walk.cEnd ?_ | (refine Walk.cReg ?_; simp only [size18_0, size18_1, size18_2, size18_3, size18_4, size18_6, size18_7, size18_5, size18_8, List.range, List.range.loop]) | (refine Walk.oq ?_; try walk_nrm) | (refine Walk.un ?_; walk_nrm))
  refine Walk.ctl rfl (fun w => stepG_inLoop) ?_
  refine .stop fun d' => ⟨at_slots ?_, d', rfl⟩
  have hc : ((i + 1 : Nat) : Int) = (i : Int) + 1 := by simp
  simp only [hd18, hc]
  rfl
theorem same18_loop (a b : Option Addr) (n ca cb : Nat) (f : Nat → Int) (hn : n ≤ 17592186044416) (c : Frame) (cs : List Frame) (w : World) (ha : NumsAt a n f w) (hb : NumsAt b n f w) : ∀ (r i : Nat) (u : Nat → Value), i + r = n →
    Walk Try.prog main (DR V) (fun g w' => g = G (c.finish (.bool true)) cs ∧ ∃ d, w' = w.at d) (G (hd18 (.slice a n ca) (.slice b n cb) i u) (c :: cs)) w := by
  intro r
  induction r with
  | zero =>
    intro i u hi
    have hi : i = n := hi
    subst hi
    exact same18_out a b i ca cb u c cs w
  | succ r ih =>
    intro i u hi
    have hin : i < n := by omega
    obtain ⟨ab, ao, rfl, h1⟩ := ha i hin
    obtain ⟨bb, bo, rfl, h2⟩ := hb i hin
    refine (same18_go ab ao n ca bb bo cb i (f i) u (c :: cs) w hin hn h1 h2).then ?_
    rintro g w' ⟨⟨u', rfl⟩, d, rfl⟩
    exact Walk.back (ih (i + 1) u' (by omega)) d
theorem same18_w (a b : Option Addr) (n ca cb : Nat) (f : Nat → Int) (hn : n ≤ 17592186044416) (w : World) (ha : NumsAt a n f w) (hb : NumsAt b n f w) : CallV Try.prog main V 18 #[.slice a n ca, .slice b n cb] w (.bool true) w := by
  intro fr cs
  refine (same18_in a b n ca cb (fr :: cs) w).then ?_
  rintro g w1 ⟨⟨u, rfl⟩, d, rfl⟩
  refine Walk.back ?_ d
  refine (same18_loop a b n ca cb f hn fr cs w ha hb n 0 u (by omega)).mono ?_
  rintro g w' ⟨rfl, d, rfl⟩
  exact ⟨_, ⟨rfl, d, rfl⟩, rfl⟩
noncomputable def reg44_0 : Array Oper := match Try.f44.body with | some (.seq (.region _ ops _) _) => ops | _ => #[]
theorem size44_0 : reg44_0.size = 1 := by kernel_rfl
noncomputable def reg44_1 : Array Oper := match Try.f44.body with | some (.seq _ (.seq (.seq (.region _ ops _) _) _)) => ops | _ => #[]
theorem size44_1 : reg44_1.size = 5 := by kernel_rfl
noncomputable def reg44_2 : Array Oper := match Try.f44.body with | some (.seq _ (.seq (.seq _ (.cond _ (.seq (.region _ ops _) _) _)) _)) => ops | _ => #[]
theorem size44_2 : reg44_2.size = 1 := by kernel_rfl
noncomputable def reg44_3 : Array Oper := match Try.f44.body with | some (.seq _ (.seq _ (.seq (.seq (.region _ ops _) _) _))) => ops | _ => #[]
theorem size44_3 : reg44_3.size = 1 := by kernel_rfl
noncomputable def reg44_4 : Array Oper := match Try.f44.body with | some (.seq _ (.seq _ (.seq (.seq _ (.block _ (.loop (.seq (.seq (.region _ ops _) _) _)))) _))) => ops | _ => #[]
theorem size44_4 : reg44_4.size = 4 := by kernel_rfl
noncomputable def reg44_6 : Array Oper := match Try.f44.body with | some (.seq _ (.seq _ (.seq (.seq _ (.block _ (.loop (.seq _ (.seq (.block _ (.seq (.region _ ops _) _)) _))))) _))) => ops | _ => #[]
theorem size44_6 : reg44_6.size = 9 := by kernel_rfl
noncomputable def reg44_7 : Array Oper := match Try.f44.body with | some (.seq _ (.seq _ (.seq (.seq _ (.block _ (.loop (.seq _ (.seq (.block _ (.seq _ (.cond _ (.seq (.region _ ops _) _) _))) _))))) _))) => ops | _ => #[]
theorem size44_7 : reg44_7.size = 1 := by kernel_rfl
noncomputable def reg44_5 : Array Oper := match Try.f44.body with | some (.seq _ (.seq _ (.seq (.seq _ (.block _ (.loop (.seq _ (.seq _ (.region _ ops _)))))) _))) => ops | _ => #[]
theorem size44_5 : reg44_5.size = 3 := by kernel_rfl
noncomputable def reg44_8 : Array Oper := match Try.f44.body with | some (.seq _ (.seq _ (.seq _ (.seq (.region _ ops _) _)))) => ops | _ => #[]
theorem size44_8 : reg44_8.size = 1 := by kernel_rfl
theorem code44_is : Try.f44.body = some (.seq (.region 0 reg44_0 false) (.seq (.seq (.region 1 reg44_1 false) (.cond (.tmp 10 ) (.seq (.region 2 reg44_2 false) (.ret)) (.skip))) (.seq (.seq (.region 3 reg44_3 false) (.block 0 (.loop (.seq (.seq (.region 4 reg44_4 false) (.cond (.tmp 14 ) (.skip) (.exit 0))) (.seq (.block 1 (.seq (.region 6 reg44_6 true) (.cond (.tmp 25 ) (.seq (.region 7 reg44_7 false) (.ret)) (.skip)))) (.region 5 reg44_5 false)))))) (.seq (.region 8 reg44_8 false) (.ret))))) := by kernel_rfl
noncomputable def hd44 (a b : Value) (i : Nat) (u : Nat → Value) : Frame :=
  (base 44).at { tmps := #[a, b, u 2, u 3, .bool false, .int .i64 i, u 6, u 7, u 8, u 9, u 10, u 11, u 12, u 13, u 14, u 15, u 16, u 17, u 18, u 19, u 20, u 21, u 22, u 23, u 24, u 25], defers := [] } [.code (.seq (.seq (.region 4 reg44_4 false) (.cond (.tmp 14 ) (.skip) (.exit 0))) (.seq (.block 1 (.seq (.region 6 reg44_6 true) (.cond (.tmp 25 ) (.seq (.region 7 reg44_7 false) (.ret)) (.skip)))) (.region 5 reg44_5 false))), .inLoop (.seq (.seq (.region 4 reg44_4 false) (.cond (.tmp 14 ) (.skip) (.exit 0))) (.seq (.block 1 (.seq (.region 6 reg44_6 true) (.cond (.tmp 25 ) (.seq (.region 7 reg44_7 false) (.ret)) (.skip)))) (.region 5 reg44_5 false))), .inBlock 0, .code (.seq (.region 8 reg44_8 false) (.ret))]
theorem same44_in (a b : Option Addr) (n ca cb : Nat) (cs : List Frame) (w : World) :
    Walk Try.prog main (DR V) (fun g w' => (∃ u, g = G (hd44 (.slice a n ca) (.slice b n cb) 0 u) cs) ∧ ∃ d, w' = w.at d) (G (Frame.enter Try.prog 44 #[.slice a n ca, .slice b n cb] .normal) cs) w := by
  rw [enter_at _ Try.func44 code44_is]
  simp only [Try.ntmps44, List.size_toArray, List.length_cons, List.length_nil, Nat.reduceAdd, Nat.reduceSub, Array.replicate_succ, Array.replicate_zero, List.push_toArray, List.append_toArray, List.nil_append, List.cons_append]
  repeat (first | refine Walk.c rfl ?_ | refine Walk.cRet ?_ | refine Walk.cEnd ?_ | (refine Walk.cReg ?_; simp only [size44_0, size44_1, size44_2, size44_3, size44_4, size44_6, size44_7, size44_5, size44_8, List.range, List.range.loop]) | (refine Walk.oq ?_; try walk_nrm) | (refine Walk.un ?_; walk_nrm))
  refine Walk.ctl rfl (fun w => stepG_loop) ?_
  refine .stop fun d => ⟨at_slots ?_, d, rfl⟩
  simp only [hd44]
  rfl
theorem same44_out (a b : Option Addr) (n ca cb : Nat) (u : Nat → Value) (c : Frame) (cs : List Frame) (w : World) :
    Walk Try.prog main (DR V) (fun g w' => g = G (c.finish (.bool true)) cs ∧ ∃ d, w' = w.at d) (G (hd44 (.slice a n ca) (.slice b n cb) n u) (c :: cs)) w := by
  unfold hd44
  repeat (first | refine Walk.c rfl ?_ | refine Walk.cRet ?_ | refine Walk.cEnd ?_ | (refine Walk.cReg ?_; simp only [size44_0, size44_1, size44_2, size44_3, size44_4, size44_6, size44_7, size44_5, size44_8, List.range, List.range.loop]) | (refine Walk.oq ?_; try walk_nrm) | (refine Walk.un ?_; walk_nrm))
  exact (Walk.ret1 (Post := fun v w' => v = .bool true ∧ ∃ d, w' = w.at d) rfl rfl Try.func44 rfl fun d => ⟨rfl, d, rfl⟩).mono fun g w' ⟨v, ⟨hv, hd⟩, hg⟩ => ⟨by rw [hg, hv], hd⟩
theorem same44_go (ab ao n ca bb bo cb i : Nat) (x : Int) (u : Nat → Value) (cs : List Frame) (w : World) (hi : i < n) (hn : n ≤ 17592186044416) (ha : w.cell? ⟨ab, ao + i, none⟩ = some (.int .i64 x)) (hb : w.cell? ⟨bb, bo + i, none⟩ = some (.int .i64 x)) :
    Walk Try.prog main (DR V) (fun g w' => (∃ u', g = G (hd44 (.slice (some ⟨ab, ao, none⟩) n ca) (.slice (some ⟨bb, bo, none⟩) n cb) (i + 1) u') cs) ∧ ∃ d, w' = w.at d) (G (hd44 (.slice (some ⟨ab, ao, none⟩) n ca) (.slice (some ⟨bb, bo, none⟩) n cb) i u) cs) w := by
  have hw1 : IntKind.wrap .i64 ((i : Int) + 1) = (i : Int) + 1 := by rw [IntKind.wrap_i64]; omega
  conv => arg 5; unfold hd44
  repeat (first | refine Walk.c rfl ?_ | refine Walk.cRet ?_ | refine Walk.cEnd ?_ | (refine Walk.cReg ?_; simp only [size44_0, size44_1, size44_2, size44_3, size44_4, size44_6, size44_7, size44_5, size44_8, List.range, List.range.loop]) | (refine Walk.oq ?_; try walk_nrm) | (refine Walk.un ?_; walk_nrm))
  (refine Walk.drawnC (by kernel_rfl) size44_6 (by kernel_rfl) (by kernel_rfl) (by decide) ?_; simp only [List.range, List.range.loop]; repeat (first | (refine Cm.opqA (ho_of (by conv => lhs; whnf) (by kernel_rfl)) (by rfl) (fun dd e he => ?_) ?_; (· (simp [go_sem, *] at he; try (subst he; exact evR_read _ _))); apply Exists.intro; apply And.intro; (· (intro dd K hK; go_simp; exact hK))) | (refine Cm.unw (ho_of (by conv => lhs; whnf) (by kernel_rfl)) (by rfl) ?_; walk_nrm)))
  refine Cm.done ?_
  repeat (first | refine Walk.c rfl ?_ | refine Walk.cRet ?_ | refine Walk.cEnd ?_ | (refine Walk.cReg ?_; simp only [size44_0, size44_1, size44_2, size44_3, size44_4, size44_6, size44_7, size44_5, size44_8, List.range, List.range.loop]) | (refine Walk.oq ?_; try walk_nrm) | (refine Walk.un ?_; walk_nrm))
  refine Walk.ctl rfl (fun w => stepG_inLoop) ?_
  refine .stop fun d' => ⟨at_slots ?_, d', rfl⟩
  have hc : ((i + 1 : Nat) : Int) = (i : Int) + 1 := by simp
  simp only [hd44, hc]
  rfl
theorem same44_loop (a b : Option Addr) (n ca cb : Nat) (f : Nat → Int) (hn : n ≤ 17592186044416) (c : Frame) (cs : List Frame) (w : World) (ha : NumsAt a n f w) (hb : NumsAt b n f w) : ∀ (r i : Nat) (u : Nat → Value), i + r = n →
    Walk Try.prog main (DR V) (fun g w' => g = G (c.finish (.bool true)) cs ∧ ∃ d, w' = w.at d) (G (hd44 (.slice a n ca) (.slice b n cb) i u) (c :: cs)) w := by
  intro r
  induction r with
  | zero =>
    intro i u hi
    have hi : i = n := hi
    subst hi
    exact same44_out a b i ca cb u c cs w
  | succ r ih =>
    intro i u hi
    have hin : i < n := by omega
    obtain ⟨ab, ao, rfl, h1⟩ := ha i hin
    obtain ⟨bb, bo, rfl, h2⟩ := hb i hin
    refine (same44_go ab ao n ca bb bo cb i (f i) u (c :: cs) w hin hn h1 h2).then ?_
    rintro g w' ⟨⟨u', rfl⟩, d, rfl⟩
    exact Walk.back (ih (i + 1) u' (by omega)) d
theorem same44_w (a b : Option Addr) (n ca cb : Nat) (f : Nat → Int) (hn : n ≤ 17592186044416) (w : World) (ha : NumsAt a n f w) (hb : NumsAt b n f w) : CallV Try.prog main V 44 #[.slice a n ca, .slice b n cb] w (.bool true) w := by
  intro fr cs
  refine (same44_in a b n ca cb (fr :: cs) w).then ?_
  rintro g w1 ⟨⟨u, rfl⟩, d, rfl⟩
  refine Walk.back ?_ d
  refine (same44_loop a b n ca cb f hn fr cs w ha hb n 0 u (by omega)).mono ?_
  rintro g w' ⟨rfl, d, rfl⟩
  exact ⟨_, ⟨rfl, d, rfl⟩, rfl⟩
end
end Go.Proofs.Ytgiiicdpbdfemaa
