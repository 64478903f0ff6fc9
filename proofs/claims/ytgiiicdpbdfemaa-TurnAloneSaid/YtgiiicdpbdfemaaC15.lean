/-
For every walk (how many steps a thread does, behind how many it panics) and every most: TurnAlone returns true on every schedule, without a data race, and what was there stands. Conditions: none beyond the statement's own.
-/
import Derived.Test.YtgiiicdpbdfemaaC14
import Derived.Conc.LeavingOf
import Derived.Test.YtgiiicdpbdfemaaRows
import Derived.Lib.SmallJoins
import Derived.Handy
set_option linter.unusedSimpArgs false
/- The statement's side: from a run of goroutine 0's to the row's own run. -/
section
namespace Go.Proofs.Ytgiiicdpbdfemaa
open Go.Conc Go.RowKit Go.Relay
open Go.ConcN (upd upd_ne upd_same)

/-- Goroutine 0 is about to end the run. -/
structure Closing (f : FuncId) (t : Tmp) (v : Value) (g : Goroutine) : Prop where
  all : ∃ fr, g = G fr [] ∧ fr.mode = .returning ∧ fr.kind = .normal ∧ fr.defers = [] ∧ fr.fn = f ∧ fr.tmps.getD t undef = v

theorem stepG_done {P : Program} {fr : Frame} {w : World} {fn : Func} {v : Value} (hm : fr.mode = .returning) (hn : fr.kind = .normal) (hd : fr.defers = []) (hf : P.funcs[fr.fn]? = some fn) (hr : (results fn fr.tmps).run P w = .ok v w) (he : (results fn fr.tmps).events P w #[] = #[]) (hi : P.inits.idxOf? fr.fn = none) :
    stepG P true (G fr []) w = .ended (.done v) w #[] := by
  simp [G, stepG, unwind, doReturn, hm, hd, hn, hf, hr, he, hi, GStep.after, seen_none]

theorem run_claim {f : FuncId} {fn : Func} {args : Array Value} {W : World} {Post : Value → World → Prop} {v : Value} {t : Tmp} (hf : Try.prog.funcs[f]? = some fn) (hres : fn.results = #[.tmp t]) (hi : Try.prog.inits.idxOf? f = none)
    (h : Runs (fun g w' => Closing f t v g ∧ (OsSame W w' → ∀ d, Post v (w'.at d))) (G (Frame.enter Try.prog f args .normal) []) W) :
    ∃ M last o w' t', runNT Try.prog (M + 1) (solo (G (Frame.enter Try.prog f args .normal) []) W) #[] = (.ended o w', t') ∧ runN Try.prog M (solo (G (Frame.enter Try.prog f args .normal) []) W) = .next last ∧ step Try.prog last = .ended o w' ∧ Go.Conc.Good Try.prog Post last o w' t' := by
  rw [solo_eq_crowd]
  have A0 := at_begin (P := Try.prog) (gs := #[G (Frame.enter Try.prog f args .normal) []]) (a := G (Frame.enter Try.prog f args .normal) []) (sl := none) (w := W) rfl (leavers_one Try.prog _) past_nil
  obtain ⟨N1, m1, T1, r1, ⟨nG, g1, w1, _, ⟨⟨fr, rfl, hm, hn, hd, hfn, hv⟩, hP⟩, A1⟩, ho⟩ := h 1 _ _ (Nat.le_refl _) A0
  obtain ⟨gs, sl, q, B, rfl, _, hg0, hL, hPast⟩ := A1.ends (fun _ => rfl)
  have hP := hP ho
  have hs : ∀ d, stepG Try.prog true (G fr []) (w1.at d) = .ended (.done v) (w1.at d) #[] := fun d =>
    stepG_done hm hn hd (by rw [hfn]; exact hf) (by rw [results_tmp hres, hv]) (events_results_tmp hres _ _) (by rw [hfn]; exact hi)
  have hG : Goes Try.prog true AtRel (fun _ _ es => ∀ e ∈ es, EvL (fun _ => False) B e) (AtEnd Try.prog (fun _ => False) B Post) 0 (G fr []) w1 := by
    rintro _ ⟨d, rfl⟩
    exact ⟨rfl, v, #[], hs d, by simp, hP d⟩
  obtain ⟨M8, last, o, w', t', e1, e2, e3, e4⟩ := beside_ends (P := Try.prog) (Post := Post) (sl := sl) (fun _ _ _ h => h) hg0 hL hPast hG
  refine ⟨N1 + M8, last, o, w', t', ?_, ?_, e3, e4⟩
  · rw [Nat.add_assoc, runNT_add, r1]; exact e1
  · rw [runN_add, ← runNT_fst Try.prog _ _ #[], r1]; exact e2
end Go.Proofs.Ytgiiicdpbdfemaa
end

/- The statement's side: TurnAlone, up to the walker's run. -/
section
namespace Go.Proofs.Ytgiiicdpbdfemaa
open Go.Conc Go.RowKit Go.Relay
open Go.ConcN (upd upd_ne upd_same)

theorem Walk.finish {P : Program} {main : Bool} {D : World → World → Array Event → Prop} {Stop : Goroutine → World → Prop} {w : World} {b : Frame} {a : Act} {k : List Item} {cs : List Frame} {ops : Array Oper} {i : Nat} {rest : List Nat} {o : Oper} {v : Value} (ho : ops[i]? = some o)
    (h : Walk P main D Stop (G (b.at (a.put o.dst v) (.inRegion ops rest :: k)) cs) w) : Walk P main D Stop (G ((b.at a (.inRegion ops (i :: rest) :: k)).finish v) cs) w := by
  rw [Frame.finish_at, ho]
  exact h

noncomputable def reg9_0 : Array Oper := match Try.f9.body with | some (.seq (.region _ ops _) _) => ops | _ => #[]
theorem size9_0 : reg9_0.size = 2 := by kernel_rfl
noncomputable def reg9_1 : Array Oper := match Try.f9.body with | some (.seq _ (.seq (.seq (.region _ ops _) _) _)) => ops | _ => #[]
theorem size9_1 : reg9_1.size = 2 := by kernel_rfl
noncomputable def reg9_2 : Array Oper := match Try.f9.body with | some (.seq _ (.seq (.seq _ (.cond _ (.seq (.region _ ops _) _) _)) _)) => ops | _ => #[]
theorem size9_2 : reg9_2.size = 1 := by kernel_rfl
noncomputable def reg9_3 : Array Oper := match Try.f9.body with | some (.seq _ (.seq _ (.seq (.region _ ops _) _))) => ops | _ => #[]
theorem size9_3 : reg9_3.size = 2 := by kernel_rfl
noncomputable def reg9_4 : Array Oper := match Try.f9.body with | some (.seq _ (.seq _ (.seq _ (.seq (.region _ ops _) _)))) => ops | _ => #[]
theorem size9_4 : reg9_4.size = 3 := by kernel_rfl
noncomputable def reg9_5 : Array Oper := match Try.f9.body with | some (.seq _ (.seq _ (.seq _ (.seq _ (.seq (.region _ ops _) _))))) => ops | _ => #[]
theorem size9_5 : reg9_5.size = 3 := by kernel_rfl
noncomputable def reg9_6 : Array Oper := match Try.f9.body with | some (.seq _ (.seq _ (.seq _ (.seq _ (.seq _ (.seq (.seq (.region _ ops _) _) _)))))) => ops | _ => #[]
theorem size9_6 : reg9_6.size = 7 := by kernel_rfl
noncomputable def reg9_7 : Array Oper := match Try.f9.body with | some (.seq _ (.seq _ (.seq _ (.seq _ (.seq _ (.seq (.seq _ (.cond _ (.seq (.region _ ops _) _) _)) _)))))) => ops | _ => #[]
theorem size9_7 : reg9_7.size = 1 := by kernel_rfl
noncomputable def reg9_8 : Array Oper := match Try.f9.body with | some (.seq _ (.seq _ (.seq _ (.seq _ (.seq _ (.seq _ (.seq (.region _ ops _) _))))))) => ops | _ => #[]
theorem size9_8 : reg9_8.size = 7 := by kernel_rfl
noncomputable def reg9_9 : Array Oper := match Try.f9.body with | some (.seq _ (.seq _ (.seq _ (.seq _ (.seq _ (.seq _ (.seq _ (.seq (.region _ ops _) _)))))))) => ops | _ => #[]
theorem size9_9 : reg9_9.size = 4 := by kernel_rfl
noncomputable def reg9_10 : Array Oper := match Try.f9.body with | some (.seq _ (.seq _ (.seq _ (.seq _ (.seq _ (.seq _ (.seq _ (.seq _ (.seq (.region _ ops _) _))))))))) => ops | _ => #[]
theorem size9_10 : reg9_10.size = 9 := by kernel_rfl
noncomputable def reg9_11 : Array Oper := match Try.f9.body with | some (.seq _ (.seq _ (.seq _ (.seq _ (.seq _ (.seq _ (.seq _ (.seq _ (.seq _ (.seq (.seq (.region _ ops _) _) _)))))))))) => ops | _ => #[]
theorem size9_11 : reg9_11.size = 28 := by kernel_rfl
noncomputable def reg9_12 : Array Oper := match Try.f9.body with | some (.seq _ (.seq _ (.seq _ (.seq _ (.seq _ (.seq _ (.seq _ (.seq _ (.seq _ (.seq (.seq _ (.cond _ (.seq (.region _ ops _) _) _)) _)))))))))) => ops | _ => #[]
theorem size9_12 : reg9_12.size = 1 := by kernel_rfl
noncomputable def reg9_13 : Array Oper := match Try.f9.body with | some (.seq _ (.seq _ (.seq _ (.seq _ (.seq _ (.seq _ (.seq _ (.seq _ (.seq _ (.seq _ (.seq (.region _ ops _) _))))))))))) => ops | _ => #[]
theorem size9_13 : reg9_13.size = 1 := by kernel_rfl
noncomputable def reg9_14 : Array Oper := match Try.f9.body with | some (.seq _ (.seq _ (.seq _ (.seq _ (.seq _ (.seq _ (.seq _ (.seq _ (.seq _ (.seq _ (.seq _ (.seq (.region _ ops _) _)))))))))))) => ops | _ => #[]
theorem size9_14 : reg9_14.size = 2 := by kernel_rfl
noncomputable def reg9_15 : Array Oper := match Try.f9.body with | some (.seq _ (.seq _ (.seq _ (.seq _ (.seq _ (.seq _ (.seq _ (.seq _ (.seq _ (.seq _ (.seq _ (.seq _ (.seq (.region _ ops _) _))))))))))))) => ops | _ => #[]
theorem size9_15 : reg9_15.size = 2 := by kernel_rfl
noncomputable def reg9_16 : Array Oper := match Try.f9.body with | some (.seq _ (.seq _ (.seq _ (.seq _ (.seq _ (.seq _ (.seq _ (.seq _ (.seq _ (.seq _ (.seq _ (.seq _ (.seq _ (.seq (.region _ ops _) _)))))))))))))) => ops | _ => #[]
theorem size9_16 : reg9_16.size = 17 := by kernel_rfl
theorem code9_is : Try.f9.body = some (.seq (.region 0 reg9_0 false) (.seq (.seq (.region 1 reg9_1 false) (.cond (.tmp 14 ) (.seq (.region 2 reg9_2 false) (.ret)) (.skip))) (.seq (.region 3 reg9_3 false) (.seq (.region 4 reg9_4 false) (.seq (.region 5 reg9_5 false) (.seq (.seq (.region 6 reg9_6 false) (.cond (.tmp 26 ) (.seq (.region 7 reg9_7 false) (.ret)) (.skip))) (.seq (.region 8 reg9_8 false) (.seq (.region 9 reg9_9 false) (.seq (.region 10 reg9_10 false) (.seq (.seq (.region 11 reg9_11 false) (.cond (.tmp 70 ) (.seq (.region 12 reg9_12 false) (.ret)) (.skip))) (.seq (.region 13 reg9_13 false) (.seq (.region 14 reg9_14 false) (.seq (.region 15 reg9_15 false) (.seq (.region 16 reg9_16 false) (.ret))))))))))))))) := by kernel_rfl

noncomputable def mid9 : Code := .seq (.seq (.region 11 reg9_11 false) (.cond (.tmp 70) (.seq (.region 12 reg9_12 false) .ret) .skip)) (.seq (.region 13 reg9_13 false) (.seq (.region 14 reg9_14 false) (.seq (.region 15 reg9_15 false) (.seq (.region 16 reg9_16 false) .ret))))
noncomputable def hd9 (wv : Value) (most : Int) (X B C : Nat) (n : Int) (bad : Bool) (held : Int) (u : Nat → Value) : Frame :=
  (base 9).at { tmps := #[wv, .int .i64 most, .pointer (some ⟨X, 0, none⟩), u 3, .bool false, .pointer (some ⟨B, 0, none⟩), .pointer (some ⟨C, 0, none⟩), .int .i64 n, .bool bad, .int .i64 held, u 10, u 11, u 12, u 13, u 14, u 15, u 16, u 17, u 18, u 19, u 20, u 21, u 22, u 23, u 24, u 25, u 26, u 27, u 28, u 29, u 30, u 31, u 32, u 33, u 34, .pointer (some ⟨C, 0, none⟩), .pointer (some ⟨B, 0, none⟩), u 37, u 38, u 39, u 40, u 41, u 42, u 43, u 44, u 45, u 46, u 47, u 48, u 49, u 50, u 51, u 52, u 53, u 54, u 55, u 56, u 57, u 58, u 59, u 60, u 61, u 62, u 63, u 64, u 65, u 66, u 67, u 68, u 69, u 70, u 71, u 72, u 73, u 74, u 75, u 76, u 77, u 78, u 79, u 80, u 81, u 82, u 83, u 84, u 85, u 86, u 87, u 88, u 89], defers := [] } [.inRegion reg9_10 [2, 3, 4, 5, 6, 7, 8], .code mid9]

/-- The three blocks: the walk, the board, the Counter. -/
structure Three (st af m : Int) (X B C : Nat) (w0 w : World) : Prop where
  x : w.heap[X]? = some (.cells #[.int .i64 st, .int .i64 af, .bool false] 58)
  b : w.heap[B]? = some (.cells #[.slice none 0 0] 49)
  c : w.heap[C]? = some (.cells #[.int .i64 m, .int .i64 0] 145)
  nBC : B ≠ C
  old : Old w0 w
  lX : w0.heap.size ≤ X
  lB : w0.heap.size ≤ B
  lC : w0.heap.size ≤ C

theorem und58 : ∃ fs, Try.prog.underlying 58 = some (.struct fs) := by
  have h : (Try.prog.underlying 58).any (fun | .struct _ => true | _ => false) = true := by kernel_rfl
  cases e : Try.prog.underlying 58 with
  | none => rw [e] at h; cases h
  | some x => rw [e] at h; cases x <;> first | exact ⟨_, rfl⟩ | cases h

set_option maxHeartbeats 8000000 in
set_option maxRecDepth 100000 in
theorem alone_first (st af most : Int) (nl : Bool) (W : World) :
    Runs (fun g w' => ∃ X B C, Three st af (min (max most 0) 1048576) X B C W w' ∧ ∃ u, g = G (hd9 (.agg #[.int .i64 st, .int .i64 af, .bool nl]) most X B C (numW (st % 32) af) (badW (st % 32) af) (min (max most 0) 1048576) u) []) (G (Frame.enter Try.prog 9 #[.agg #[.int .i64 st, .int .i64 af, .bool nl], .int .i64 most] .normal) []) W := by
  refine Runs.go ?_
  rw [enter_at _ Try.func9 code9_is]
  simp only [Try.ntmps9, List.size_toArray, List.length_cons, List.length_nil, Nat.reduceAdd, Nat.reduceSub, Array.replicate_succ, Array.replicate_zero, List.push_toArray, List.append_toArray, List.nil_append, List.cons_append]
  repeat (first | (refine Walk.c rfl ?_) | (refine Walk.cRet ?_) | (refine Walk.cEnd ?_) | (refine Walk.cReg ?_; simp only [size9_0, size9_1, size9_2, size9_3, size9_4, size9_5, size9_6, size9_7, size9_8, size9_9, size9_10, size9_11, size9_12, size9_13, size9_14, size9_15, size9_16, List.range, List.range.loop]) | (refine Walk.opq (ho_of (by conv => lhs; whnf) (by kernel_rfl)) (by rfl) (by decide) (fun dd e he => ?_) (fun dd K hK => ?_); (· (simp [go_sem, *] at he; try (subst he; exact evR_read _ _))); go_simp; refine hK _ ?_; clear hK K; try walk_nrm) | (refine Walk.ctl rfl (fun w => stepG_unwanted (ho_of (by conv => lhs; whnf) (by kernel_rfl)) (by rfl)) ?_; walk_nrm))
  (co_applyP Walk.opw (ho_of (by conv => lhs; whnf) (by kernel_rfl)) (by rfl) (by decide) ?wev1 ?wdr1 ?wrun1; (case' wrun1 => (intro dd K hK; go_simp; simp only [alloc_at', setCell_at']; refine hK _ ?wmore1; clear hK K)); (case wdr1 => exact fun dd es hes => DR.alloc' dd es hes); (case wev1 => (intro dd e he; simp [go_sem, *] at he)); try walk_nrm)
  have hX := heap_alloc_new W (.cells #[.int .i64 st, .int .i64 af, .bool nl] 58)
  have O0 := old_alloc W (.cells #[.int .i64 st, .int .i64 af, .bool nl] 58)
  have lX : W.heap.size < (W.alloc (.cells #[.int .i64 st, .int .i64 af, .bool nl] 58)).heap.size := by simp
  generalize hXe : W.heap.size = X at *
  generalize W.alloc (.cells #[.int .i64 st, .int .i64 af, .bool nl] 58) = w0 at *
  repeat (first | (refine Walk.c rfl ?_) | (refine Walk.cRet ?_) | (refine Walk.cEnd ?_) | (refine Walk.cReg ?_; simp only [size9_0, size9_1, size9_2, size9_3, size9_4, size9_5, size9_6, size9_7, size9_8, size9_9, size9_10, size9_11, size9_12, size9_13, size9_14, size9_15, size9_16, List.range, List.range.loop]) | (refine Walk.opq (ho_of (by conv => lhs; whnf) (by kernel_rfl)) (by rfl) (by decide) (fun dd e he => ?_) (fun dd K hK => ?_); (· (simp [go_sem, *] at he; try (subst he; exact evR_read _ _))); go_simp; refine hK _ ?_; clear hK K; try walk_nrm) | (refine Walk.ctl rfl (fun w => stepG_unwanted (ho_of (by conv => lhs; whnf) (by kernel_rfl)) (by rfl)) ?_; walk_nrm))
  refine Walk.callE (ho_of (by conv => lhs; whnf) (by kernel_rfl)) (by rfl) (by decide) rfl Try.func13 (by kernel_rfl) (by rfl) ?_
  refine .stop fun d => ?_
  walk_nrm
  refine Runs.then (awake_run _ _ (w0.at d)) ?_
  rintro _ w1 ⟨O1, rfl⟩
  have O1 := Old.un d O1
  have hX1 := (O1.same X lX).trans hX
  have lX1 : X < w1.heap.size := Nat.lt_of_lt_of_le lX O1.size
  have O01 := O0.trans O1
  clear hX O0 O1 lX
  refine Runs.go ?_
  refine Walk.finish (ho_of (by conv => lhs; whnf) (by kernel_rfl)) ?_
  walk_nrm
  repeat (first | (refine Walk.c rfl ?_) | (refine Walk.cRet ?_) | (refine Walk.cEnd ?_) | (refine Walk.cReg ?_; simp only [size9_0, size9_1, size9_2, size9_3, size9_4, size9_5, size9_6, size9_7, size9_8, size9_9, size9_10, size9_11, size9_12, size9_13, size9_14, size9_15, size9_16, List.range, List.range.loop]) | (refine Walk.opq (ho_of (by conv => lhs; whnf) (by kernel_rfl)) (by rfl) (by decide) (fun dd e he => ?_) (fun dd K hK => ?_); (· (simp [go_sem, *] at he; try (subst he; exact evR_read _ _))); go_simp; refine hK _ ?_; clear hK K; try walk_nrm) | (refine Walk.ctl rfl (fun w => stepG_unwanted (ho_of (by conv => lhs; whnf) (by kernel_rfl)) (by rfl)) ?_; walk_nrm))
  have hc2 := (cell_of hX1 2).trans rfl
  have hf2 : Free (fun _ => none) ⟨X, 2, none⟩ := (apart0 X).1 _ rfl
  have hz2 := frozen_of hX1 2
  (co_applyP Walk.opw (ho_of (by conv => lhs; whnf) (by kernel_rfl)) (by rfl) (by decide) ?wev3 ?wdr3 ?wrun3; (case' wrun3 => (intro dd K hK; go_simp; simp only [alloc_at', setCell_at']; refine hK _ ?wmore3; clear hK K)); (case wdr3 => exact fun dd es hes => DR.set' hf2 hc2 dd es hes); (case wev3 => (intro dd e he; simp [go_sem, storedEv, ev_store_bool, ev_store_int, ev_store_slice, ev_store_pointer, *] at he; subst he; exact evR_write _ _ hf2)); try walk_nrm)
  have hX2 : (w1.setCell ⟨X, 2, none⟩ (.bool false)).heap[X]? = some (.cells #[.int .i64 st, .int .i64 af, .bool false] 58) := (heap_set_self _ _ hX1).trans (by simp)
  have O2 : Old W (w1.setCell ⟨X, 2, none⟩ (.bool false)) := ⟨by rw [size_set]; exact O01.size, fun b hb => (heap_set_other _ _ _ _ (by show b ≠ X; omega)).trans (O01.same b hb)⟩
  have lX2 : X < (w1.setCell ⟨X, 2, none⟩ (.bool false)).heap.size := by rw [size_set]; exact lX1
  clear hc2 hf2 hz2 hX1 O01 lX1
  generalize w1.setCell ⟨X, 2, none⟩ (.bool false) = w2 at *
  repeat (first | (refine Walk.c rfl ?_) | (refine Walk.cRet ?_) | (refine Walk.cEnd ?_) | (refine Walk.cReg ?_; simp only [size9_0, size9_1, size9_2, size9_3, size9_4, size9_5, size9_6, size9_7, size9_8, size9_9, size9_10, size9_11, size9_12, size9_13, size9_14, size9_15, size9_16, List.range, List.range.loop]) | (refine Walk.opq (ho_of (by conv => lhs; whnf) (by kernel_rfl)) (by rfl) (by decide) (fun dd e he => ?_) (fun dd K hK => ?_); (· (simp [go_sem, *] at he; try (subst he; exact evR_read _ _))); go_simp; refine hK _ ?_; clear hK K; try walk_nrm) | (refine Walk.ctl rfl (fun w => stepG_unwanted (ho_of (by conv => lhs; whnf) (by kernel_rfl)) (by rfl)) ?_; walk_nrm))
  (co_applyP Walk.opw (ho_of (by conv => lhs; whnf) (by kernel_rfl)) (by rfl) (by decide) ?wev2 ?wdr2 ?wrun2; (case' wrun2 => (intro dd K hK; go_simp; simp only [alloc_at', setCell_at']; refine hK _ ?wmore2; clear hK K)); (case wdr2 => exact fun dd es hes => DR.alloc' dd es hes); (case wev2 => (intro dd e he; simp [go_sem, *] at he)); try walk_nrm)
  have hB := heap_alloc_new w2 (.cells #[.slice none 0 0] 49)
  have O3 := old_alloc w2 (.cells #[.slice none 0 0] 49)
  have lB : w2.heap.size < (w2.alloc (.cells #[.slice none 0 0] 49)).heap.size := by simp
  have hX3 := (O3.same X lX2).trans hX2
  have O03 := O2.trans O3
  have gB := O2.size
  clear hX2 O2
  generalize hBe : w2.heap.size = B at *
  generalize w2.alloc (.cells #[.slice none 0 0] 49) = w3 at *
  repeat (first | (refine Walk.c rfl ?_) | (refine Walk.cRet ?_) | (refine Walk.cEnd ?_) | (refine Walk.cReg ?_; simp only [size9_0, size9_1, size9_2, size9_3, size9_4, size9_5, size9_6, size9_7, size9_8, size9_9, size9_10, size9_11, size9_12, size9_13, size9_14, size9_15, size9_16, List.range, List.range.loop]) | (refine Walk.opq (ho_of (by conv => lhs; whnf) (by kernel_rfl)) (by rfl) (by decide) (fun dd e he => ?_) (fun dd K hK => ?_); (· (simp [go_sem, *] at he; try (subst he; exact evR_read _ _))); go_simp; refine hK _ ?_; clear hK K; try walk_nrm) | (refine Walk.ctl rfl (fun w => stepG_unwanted (ho_of (by conv => lhs; whnf) (by kernel_rfl)) (by rfl)) ?_; walk_nrm))
  refine Walk.callV (x := .pointer (some ⟨w3.heap.size, 0, none⟩)) (W := w3.alloc (.cells #[.int .i64 (min (max most 0) 1048576), .int .i64 0] 145)) ?_ (ho_of (by conv => lhs; whnf) (by kernel_rfl)) (by rfl) (by decide) rfl Try.func28 (by kernel_rfl) (by rfl) ?_
  · walk_nrm
    exact newCounter_w most w3
  have hC := heap_alloc_new w3 (.cells #[.int .i64 (min (max most 0) 1048576), .int .i64 0] 145)
  have O4 := old_alloc w3 (.cells #[.int .i64 (min (max most 0) 1048576), .int .i64 0] 145)
  have gC : B < w3.heap.size := lB
  have hB4 := (O4.same B lB).trans hB
  have hX4 := (O4.same X (by have := O3.size; omega)).trans hX3
  have O04 := O03.trans O4
  have lC : w3.heap.size < (w3.alloc (.cells #[.int .i64 (min (max most 0) 1048576), .int .i64 0] 145)).heap.size := by simp
  clear hB hX3 O03 O4
  generalize hCe : w3.heap.size = C at *
  generalize w3.alloc (.cells #[.int .i64 (min (max most 0) 1048576), .int .i64 0] 145) = w4 at *
  have hT : Three st af (min (max most 0) 1048576) X B C W w4 := ⟨hX4, hB4, hC, by omega, O04, by omega, by omega, by omega⟩
  have q1 := run_eql_ptr 63 und63
  have q2 := ev_eql_ptr 63 und63
  clear hB4 O04 O3 lB lX2 gB gC lC hXe hBe hCe
  walk_nrm
  repeat (first | (refine Walk.c rfl ?_) | (refine Walk.cRet ?_) | (refine Walk.cEnd ?_) | (refine Walk.cReg ?_; simp only [size9_0, size9_1, size9_2, size9_3, size9_4, size9_5, size9_6, size9_7, size9_8, size9_9, size9_10, size9_11, size9_12, size9_13, size9_14, size9_15, size9_16, List.range, List.range.loop]) | (refine Walk.opq (ho_of (by conv => lhs; whnf) (by kernel_rfl)) (by rfl) (by decide) (fun dd e he => ?_) (fun dd K hK => ?_); (· (simp [go_sem, *] at he; try (subst he; exact evR_read _ _))); go_simp; refine hK _ ?_; clear hK K; try walk_nrm) | (refine Walk.ctl rfl (fun w => stepG_unwanted (ho_of (by conv => lhs; whnf) (by kernel_rfl)) (by rfl)) ?_; walk_nrm))
  refine Walk.callV (x := .int .i64 0) (W := w4) ?_ (ho_of (by conv => lhs; whnf) (by kernel_rfl)) (by rfl) (by decide) rfl Try.func29 (by kernel_rfl) (by rfl) ?_
  · walk_nrm
    exact steps_w C 0 w4 ((cell_of hC 1).trans rfl)
  clear hC
  walk_nrm
  repeat (first | (refine Walk.c rfl ?_) | (refine Walk.cRet ?_) | (refine Walk.cEnd ?_) | (refine Walk.cReg ?_; simp only [size9_0, size9_1, size9_2, size9_3, size9_4, size9_5, size9_6, size9_7, size9_8, size9_9, size9_10, size9_11, size9_12, size9_13, size9_14, size9_15, size9_16, List.range, List.range.loop]) | (refine Walk.opq (ho_of (by conv => lhs; whnf) (by kernel_rfl)) (by rfl) (by decide) (fun dd e he => ?_) (fun dd K hK => ?_); (· (simp [go_sem, *] at he; try (subst he; exact evR_read _ _))); go_simp; refine hK _ ?_; clear hK K; try walk_nrm) | (refine Walk.ctl rfl (fun w => stepG_unwanted (ho_of (by conv => lhs; whnf) (by kernel_rfl)) (by rfl)) ?_; walk_nrm))
  clear q1 q2
  obtain ⟨fs, hu58⟩ := und58
  have hcx : ∀ (j : Nat) (v : Value), [(.int .i64 st : Value), .int .i64 af, .bool false][j]? = some v → w4.cell? ⟨X, 0 + j, none⟩ = some v := fun j v hv => by
    rw [Nat.zero_add]
    refine (cell_of hX4 j).trans ?_
    simpa using hv
  refine Walk.loadS 58 (.tmp 2) (ho_of (by conv => lhs; whnf) (by kernel_rfl)) (by rfl) (by decide) rfl X 0 [.int .i64 st, .int .i64 af, .bool false] _ rfl hcx hu58 rfl (by kernel_rfl) ?_
  clear hcx hu58
  walk_nrm
  refine Walk.callW (Post := fun v w' => v = .tuple #[.int .i64 (numW (st % 32) af), .bool (badW (st % 32) af)] ∧ ∃ d, w' = (w4.alloc (.cells #[.int .i64 st, .int .i64 af, .bool false] 58)).at d) ?_ (ho_of (by conv => lhs; whnf) (by kernel_rfl)) (by rfl) (by decide) rfl Try.func26 (by kernel_rfl) (by rfl) ?_
  · walk_nrm
    exact does_w st af w4
  rintro v w5' ⟨rfl, d5, rfl⟩
  refine Walk.back ?_ d5
  have O5 := old_alloc w4 (.cells #[.int .i64 st, .int .i64 af, .bool false] 58)
  have hT5 : Three st af (min (max most 0) 1048576) X B C W (w4.alloc (.cells #[.int .i64 st, .int .i64 af, .bool false] 58)) := by
    have lt : ∀ {b o}, w4.heap[b]? = some o → b < w4.heap.size := fun h => (Array.getElem?_eq_some_iff.1 h).1
    exact ⟨(O5.same X (lt hT.x)).trans hT.x, (O5.same B (lt hT.b)).trans hT.b, (O5.same C (lt hT.c)).trans hT.c, hT.nBC, hT.old.trans O5, hT.lX, hT.lB, hT.lC⟩
  clear hT O5 hX4
  generalize w4.alloc (.cells #[.int .i64 st, .int .i64 af, .bool false] 58) = w5 at *
  generalize numW (st % 32) af = nn at *
  generalize badW (st % 32) af = bb at *
  have hmx := @events_max_ints Try.prog
  have hmn := @events_min_ints Try.prog
  walk_nrm
  repeat (first | (refine Walk.c rfl ?_) | (refine Walk.cRet ?_) | (refine Walk.cEnd ?_) | (refine Walk.cReg ?_; simp only [size9_0, size9_1, size9_2, size9_3, size9_4, size9_5, size9_6, size9_7, size9_8, size9_9, size9_10, size9_11, size9_12, size9_13, size9_14, size9_15, size9_16, List.range, List.range.loop]) | (refine Walk.opq (ho_of (by conv => lhs; whnf) (by kernel_rfl)) (by rfl) (by decide) (fun dd e he => ?_) (fun dd K hK => ?_); (· (simp [go_sem, *] at he; try (subst he; exact evR_read _ _))); go_simp; refine hK _ ?_; clear hK K; try walk_nrm) | (refine Walk.ctl rfl (fun w => stepG_unwanted (ho_of (by conv => lhs; whnf) (by kernel_rfl)) (by rfl)) ?_; walk_nrm))
  refine Walk.stop fun d => ?_
  refine Runs.now ⟨X, B, C, ⟨hT5.x, hT5.b, hT5.c, hT5.nBC, hT5.old.at d, hT5.lX, hT5.lB, hT5.lC⟩, at_slots ?_⟩
  simp only [hd9, mid9]
  rfl
end Go.Proofs.Ytgiiicdpbdfemaa
end

/- The statement's side: TurnAlone, from the walker's making on. -/
section
namespace Go.Proofs.Ytgiiicdpbdfemaa
open Go.Conc Go.RowKit Go.Relay
open Go.ConcN (upd upd_ne upd_same)

/-- walkers, of one walk. -/
theorem walkers_one (B L : Nat) (st af : Int) (w : World) (hL : w.heap[L]? = some (.cells #[.int .i64 st, .int .i64 af, .bool false] 58)) :
    CallW Try.prog true (fun _ => none) 24 #[.pointer (some ⟨B, 0, none⟩), .slice (some ⟨L, 0, none⟩) 1 1] w (fun v w' => ∃ g cap', v = .slice (some ⟨g, 0, none⟩) 1 cap' ∧ w'.cell? ⟨g, 0, none⟩ = some (thrV w.heap.size) ∧ w'.heap[w.heap.size]? = some (.cells (wkr B 0 st af) 127) ∧ Old w w') := by
  intro fr cs
  have c0 := (cell_of hL 0).trans rfl
  have c1 := (cell_of hL 1).trans rfl
  have c2 := (cell_of hL 2).trans rfl
  refine (walkers24_in B _ (fr :: cs) w).then ?_
  rintro g w1 ⟨⟨u, rfl⟩, d, rfl⟩
  refine Walk.back ?_ d
  refine (walkers24_go B L 1 1 0 none 0 w.heap.size [] st af u (fr :: cs) w (by omega) (by omega) c0 c1 c2 (row_nil w _ _ _) (Nat.le_refl _) (fun g h => by cases h)).then ?_
  rintro g' w2 ⟨g, cap', w3, ⟨u', rfl⟩, ⟨d', rfl⟩, hown, hg, hat, hlt⟩
  refine Walk.back ?_ d'
  have hs2 : (wkrW w B 0 st af).heap.size = w.heap.size + 2 := by simp [wkrW]
  have hsz := hg.size
  have hkeep : ∀ b, b < w.heap.size + 2 → w3.heap[b]? = (wkrW w B 0 st af).heap[b]? := fun b hb => hg.block b (by omega) (by simp [Value.ownBlock])
  obtain ⟨g2, cap2, e, _, _, _, hc⟩ := row_cell hown (j := 0) (x := thrV w.heap.size) rfl
  injection e with e _ _
  injection e with e
  injection e with e
  subst e
  have hWk : w3.heap[w.heap.size]? = some (.cells (wkr B 0 st af) 127) := (hkeep _ (by omega)).trans ((heap_new_lt _ _ (by simp)).trans (heap_alloc_new w _))
  refine (walkers24_out B _ 1 1 _ cap' u' fr cs w3).mono ?_
  rintro g' w' ⟨rfl, d2, rfl⟩
  exact ⟨_, ⟨g, cap', rfl, hc, hWk, ⟨by show w.heap.size ≤ w3.heap.size; omega, fun b hb => (hkeep b (by omega)).trans ((heap_new_lt _ _ (by simp; omega)).trans (heap_new_lt w _ hb))⟩⟩, rfl⟩

noncomputable def last9 (u : Nat → Value) : Frame :=
  (base 9).at { tmps := #[u 0, u 1, u 2, u 3, u 4, u 5, u 6, u 7, u 8, u 9, u 10, u 11, u 12, u 13, u 14, u 15, u 16, u 17, u 18, u 19, u 20, u 21, u 22, u 23, u 24, u 25, u 26, u 27, u 28, u 29, u 30, u 31, u 32, u 33, u 34, u 35, u 36, u 37, u 38, u 39, u 40, u 41, u 42, u 43, u 44, u 45, u 46, u 47, u 48, u 49, u 50, u 51, u 52, u 53, u 54, u 55, u 56, u 57, u 58, u 59, u 60, u 61, u 62, u 63, u 64, u 65, u 66, u 67, u 68, u 69, u 70, u 71, u 72, u 73, u 74, u 75, u 76, u 77, u 78, u 79, u 80, u 81, u 82, u 83, u 84, u 85, u 86, u 87, u 88, u 89], defers := [] } [.code (.seq (.region 13 reg9_13 false) (.seq (.region 14 reg9_14 false) (.seq (.region 15 reg9_15 false) (.seq (.region 16 reg9_16 false) .ret))))]

set_option maxHeartbeats 8000000 in
set_option maxRecDepth 100000 in
theorem alone_third (u : Nat → Value) (w : World) : Walk Try.prog true (DR (fun _ => none)) (fun g w' => Closing 9 4 (.bool true) g ∧ Old w w') (G (last9 u) []) w := by
  unfold last9
  repeat (first | (refine Walk.c rfl ?_) | (refine Walk.cRet ?_) | (refine Walk.cEnd ?_) | (refine Walk.cReg ?_; simp only [size9_0, size9_1, size9_2, size9_3, size9_4, size9_5, size9_6, size9_7, size9_8, size9_9, size9_10, size9_11, size9_12, size9_13, size9_14, size9_15, size9_16, List.range, List.range.loop]) | (refine Walk.opq (ho_of (by conv => lhs; whnf) (by kernel_rfl)) (by rfl) (by decide) (fun dd e he => ?_) (fun dd K hK => ?_); (· (simp [go_sem, *] at he; try (subst he; exact evR_read _ _))); go_simp; refine hK _ ?_; clear hK K; try walk_nrm) | (refine Walk.ctl rfl (fun w => stepG_unwanted (ho_of (by conv => lhs; whnf) (by kernel_rfl)) (by rfl)) ?_; walk_nrm))
  refine Walk.callV (x := .tuple #[]) (W := w) ?_ (ho_of (by conv => lhs; whnf) (by kernel_rfl)) (by rfl) (by decide) rfl Try.func31 (by kernel_rfl) (by rfl) ?_
  · walk_nrm
    exact step31_nil w
  walk_nrm
  repeat (first | (refine Walk.c rfl ?_) | (refine Walk.cRet ?_) | (refine Walk.cEnd ?_) | (refine Walk.cReg ?_; simp only [size9_0, size9_1, size9_2, size9_3, size9_4, size9_5, size9_6, size9_7, size9_8, size9_9, size9_10, size9_11, size9_12, size9_13, size9_14, size9_15, size9_16, List.range, List.range.loop]) | (refine Walk.opq (ho_of (by conv => lhs; whnf) (by kernel_rfl)) (by rfl) (by decide) (fun dd e he => ?_) (fun dd K hK => ?_); (· (simp [go_sem, *] at he; try (subst he; exact evR_read _ _))); go_simp; refine hK _ ?_; clear hK K; try walk_nrm) | (refine Walk.ctl rfl (fun w => stepG_unwanted (ho_of (by conv => lhs; whnf) (by kernel_rfl)) (by rfl)) ?_; walk_nrm))
  have hC := heap_alloc_new w (.cells #[.int .i64 5, .int .i64 0] 145)
  have O1 := old_alloc w (.cells #[.int .i64 5, .int .i64 0] 145)
  have lC : w.heap.size < (w.alloc (.cells #[.int .i64 5, .int .i64 0] 145)).heap.size := by simp
  refine Walk.callV (x := .pointer (some ⟨w.heap.size, 0, none⟩)) (W := w.alloc (.cells #[.int .i64 5, .int .i64 0] 145)) ?_ (ho_of (by conv => lhs; whnf) (by kernel_rfl)) (by rfl) (by decide) rfl Try.func28 (by kernel_rfl) (by rfl) ?_
  · walk_nrm
    exact newCounter_w 5 w
  generalize w.alloc (.cells #[.int .i64 5, .int .i64 0] 145) = w1 at *
  generalize w.heap.size = C at *
  have q1 := run_neq_ptr 63 und63
  have q2 := ev_neq_ptr 63 und63
  walk_nrm
  repeat (first | (refine Walk.c rfl ?_) | (refine Walk.cRet ?_) | (refine Walk.cEnd ?_) | (refine Walk.cReg ?_; simp only [size9_0, size9_1, size9_2, size9_3, size9_4, size9_5, size9_6, size9_7, size9_8, size9_9, size9_10, size9_11, size9_12, size9_13, size9_14, size9_15, size9_16, List.range, List.range.loop]) | (refine Walk.opq (ho_of (by conv => lhs; whnf) (by kernel_rfl)) (by rfl) (by decide) (fun dd e he => ?_) (fun dd K hK => ?_); (· (simp [go_sem, *] at he; try (subst he; exact evR_read _ _))); go_simp; refine hK _ ?_; clear hK K; try walk_nrm) | (refine Walk.ctl rfl (fun w => stepG_unwanted (ho_of (by conv => lhs; whnf) (by kernel_rfl)) (by rfl)) ?_; walk_nrm))
  refine Walk.callV (x := .int .i64 0) (W := w1) ?_ (ho_of (by conv => lhs; whnf) (by kernel_rfl)) (by rfl) (by decide) rfl Try.func29 (by kernel_rfl) (by rfl) ?_
  · walk_nrm
    exact steps_nil w1
  walk_nrm
  repeat (first | (refine Walk.c rfl ?_) | (refine Walk.cRet ?_) | (refine Walk.cEnd ?_) | (refine Walk.cReg ?_; simp only [size9_0, size9_1, size9_2, size9_3, size9_4, size9_5, size9_6, size9_7, size9_8, size9_9, size9_10, size9_11, size9_12, size9_13, size9_14, size9_15, size9_16, List.range, List.range.loop]) | (refine Walk.opq (ho_of (by conv => lhs; whnf) (by kernel_rfl)) (by rfl) (by decide) (fun dd e he => ?_) (fun dd K hK => ?_); (· (simp [go_sem, *] at he; try (subst he; exact evR_read _ _))); go_simp; refine hK _ ?_; clear hK K; try walk_nrm) | (refine Walk.ctl rfl (fun w => stepG_unwanted (ho_of (by conv => lhs; whnf) (by kernel_rfl)) (by rfl)) ?_; walk_nrm))
  refine Walk.callV (x := .bool true) (W := (w1.alloc (.cells #[.bool false] 4)).setCell ⟨w1.heap.size, 0, none⟩ (.bool false)) ?_ (ho_of (by conv => lhs; whnf) (by kernel_rfl)) (by rfl) (by decide) rfl Try.func30 (by kernel_rfl) (by rfl) ?_
  · walk_nrm
    exact alone_nil C w1
  have hC2 : ((w1.alloc (.cells #[.bool false] 4)).setCell ⟨w1.heap.size, 0, none⟩ (.bool false)).heap[C]? = some (.cells #[.int .i64 5, .int .i64 0] 145) := (heap_set_other _ _ _ _ (by show C ≠ w1.heap.size; omega)).trans ((heap_new_lt _ _ lC).trans hC)
  have O2 : Old w ((w1.alloc (.cells #[.bool false] 4)).setCell ⟨w1.heap.size, 0, none⟩ (.bool false)) := ⟨by rw [size_set]; have := O1.size; simp; omega, fun b hb => (heap_set_other _ _ _ _ (by show b ≠ w1.heap.size; have := O1.size; omega)).trans ((heap_new_lt _ _ (by have := O1.size; omega)).trans (O1.same b hb))⟩
  clear hC O1 lC
  generalize (w1.alloc (.cells #[.bool false] 4)).setCell ⟨w1.heap.size, 0, none⟩ (.bool false) = w2 at *
  walk_nrm
  repeat (first | (refine Walk.c rfl ?_) | (refine Walk.cRet ?_) | (refine Walk.cEnd ?_) | (refine Walk.cReg ?_; simp only [size9_0, size9_1, size9_2, size9_3, size9_4, size9_5, size9_6, size9_7, size9_8, size9_9, size9_10, size9_11, size9_12, size9_13, size9_14, size9_15, size9_16, List.range, List.range.loop]) | (refine Walk.opq (ho_of (by conv => lhs; whnf) (by kernel_rfl)) (by rfl) (by decide) (fun dd e he => ?_) (fun dd K hK => ?_); (· (simp [go_sem, *] at he; try (subst he; exact evR_read _ _))); go_simp; refine hK _ ?_; clear hK K; try walk_nrm) | (refine Walk.ctl rfl (fun w => stepG_unwanted (ho_of (by conv => lhs; whnf) (by kernel_rfl)) (by rfl)) ?_; walk_nrm))
  refine Walk.callV (x := .int .i64 0) (W := w2) ?_ (ho_of (by conv => lhs; whnf) (by kernel_rfl)) (by rfl) (by decide) rfl Try.func29 (by kernel_rfl) (by rfl) ?_
  · walk_nrm
    exact steps_w C 0 w2 ((cell_of hC2 1).trans rfl)
  clear hC2
  walk_nrm
  repeat (first | (refine Walk.c rfl ?_) | (refine Walk.cRet ?_) | (refine Walk.cEnd ?_) | (refine Walk.cReg ?_; simp only [size9_0, size9_1, size9_2, size9_3, size9_4, size9_5, size9_6, size9_7, size9_8, size9_9, size9_10, size9_11, size9_12, size9_13, size9_14, size9_15, size9_16, List.range, List.range.loop]) | (refine Walk.opq (ho_of (by conv => lhs; whnf) (by kernel_rfl)) (by rfl) (by decide) (fun dd e he => ?_) (fun dd K hK => ?_); (· (simp [go_sem, *] at he; try (subst he; exact evR_read _ _))); go_simp; refine hK _ ?_; clear hK K; try walk_nrm) | (refine Walk.ctl rfl (fun w => stepG_unwanted (ho_of (by conv => lhs; whnf) (by kernel_rfl)) (by rfl)) ?_; walk_nrm))
  exact .stop fun d => ⟨⟨_, rfl, rfl, rfl, rfl, rfl, rfl⟩, O2.at d⟩

end Go.Proofs.Ytgiiicdpbdfemaa
end

/- The statement's side: TurnAlone, between. -/
section
namespace Go.Proofs.Ytgiiicdpbdfemaa
open Go.Conc Go.RowKit Go.Relay
open Go.ConcN (upd upd_ne upd_same)

section
variable {P : Program}
theorem eqIn_bool (d : Nat) (t : TypeId) (x y : Bool) (w : World) (es : Array Event) (hu : P.underlying t = some .bool) : (Op.equalIn (d + 1) t (.bool x) (.bool y)).run P w = .ok (x == y) w ∧ (Op.equalIn (d + 1) t (.bool x) (.bool y)).events P w es = es := by
  constructor <;> simp [Op.equalIn, run_underlying hu]
theorem run_neq_bool (t : TypeId) (hu : P.underlying t = some .bool) (x y : Bool) (w : World) : (binOp .neq t (.bool x) (.bool y)).run P w = .ok (.bool (x != y)) w := by
  simp only [binOp]
  simp [Op.equal, Op.maxDepth, (eqIn_bool 9999 t x y w #[] hu).1, bne]
theorem ev_neq_bool (t : TypeId) (hu : P.underlying t = some .bool) (x y : Bool) (w : World) (es : Array Event) : (binOp .neq t (.bool x) (.bool y)).events P w es = es := by
  simp only [binOp]
  simp [Op.equal, Op.maxDepth, (eqIn_bool 9999 t x y w #[] hu).1, (eqIn_bool 9999 t x y w es hu).2]
end
theorem und4 : Try.prog.underlying 4 = some .bool := by kernel_rfl

set_option maxHeartbeats 8000000 in
set_option maxRecDepth 100000 in
theorem alone_second (wv : Value) (st af most : Int) (X B C : Nat) (u : Nat → Value) (W w : World) (hT : Three st af (min (max most 0) 1048576) X B C W w) :
    Walk Try.prog true (DR (fun _ => none)) (fun g w' => Closing 9 4 (.bool true) g ∧ Old W w') (G (hd9 wv most X B C (numW (st % 32) af) (badW (st % 32) af) (min (max most 0) 1048576) u) []) w := by
  unfold hd9
  have hm0 : 0 ≤ min (max most 0) 1048576 := by omega
  have hm1 : min (max most 0) 1048576 ≤ (1048576 : Int) := by omega
  generalize min (max most 0) 1048576 = m at *
  obtain ⟨fs, hu58⟩ := und58
  have hcx : ∀ (j : Nat) (v : Value), [(.int .i64 st : Value), .int .i64 af, .bool false][j]? = some v → w.cell? ⟨X, 0 + j, none⟩ = some v := fun j v hv => by
    rw [Nat.zero_add]
    refine (cell_of hT.x j).trans ?_
    simpa using hv
  refine Walk.loadS 58 (.tmp 2) (ho_of (by conv => lhs; whnf) (by kernel_rfl)) (by rfl) (by decide) rfl X 0 [.int .i64 st, .int .i64 af, .bool false] _ rfl hcx hu58 rfl (by kernel_rfl) ?_
  clear hcx hu58
  walk_nrm
  (co_applyP Walk.opw (ho_of (by conv => lhs; whnf) (by kernel_rfl)) (by rfl) (by decide) ?wev1 ?wdr1 ?wrun1; (case' wrun1 => (intro dd K hK; go_simp; simp only [alloc_at', setCell_at']; refine hK _ ?wmore1; clear hK K)); (case wdr1 => exact fun dd es hes => DR.alloc' dd es hes); (case wev1 => (intro dd e he; simp [go_sem, *] at he)); try walk_nrm)
  have hL := heap_alloc_new w (.cells #[.int .i64 st, .int .i64 af, .bool false] 58)
  have O1 := old_alloc w (.cells #[.int .i64 st, .int .i64 af, .bool false] 58)
  have lt : ∀ {b o}, w.heap[b]? = some o → b < w.heap.size := fun h => (Array.getElem?_eq_some_iff.1 h).1
  have hT1 : Three st af m X B C W (w.alloc (.cells #[.int .i64 st, .int .i64 af, .bool false] 58)) := ⟨(O1.same X (lt hT.x)).trans hT.x, (O1.same B (lt hT.b)).trans hT.b, (O1.same C (lt hT.c)).trans hT.c, hT.nBC, hT.old.trans O1, hT.lX, hT.lB, hT.lC⟩
  clear hT O1 lt
  generalize w.heap.size = L at *
  generalize w.alloc (.cells #[.int .i64 st, .int .i64 af, .bool false] 58) = w1 at *
  refine Walk.callW (Post := fun v w' => ∃ g cap', v = .slice (some ⟨g, 0, none⟩) 1 cap' ∧ w'.cell? ⟨g, 0, none⟩ = some (thrV w1.heap.size) ∧ w'.heap[w1.heap.size]? = some (.cells (wkr B 0 st af) 127) ∧ Old w1 w') ?_ (ho_of (by conv => lhs; whnf) (by kernel_rfl)) (by rfl) (by decide) rfl Try.func24 (by kernel_rfl) (by rfl) ?_
  · walk_nrm
    exact walkers_one B L st af w1 hL
  rintro v w2 ⟨g, cap', rfl, hth, hWk, O2⟩
  have lt1 : ∀ {b o}, w1.heap[b]? = some o → b < w1.heap.size := fun h => (Array.getElem?_eq_some_iff.1 h).1
  have hB2 := (O2.same B (lt1 hT1.b)).trans hT1.b
  have hC2 := (O2.same C (lt1 hT1.c)).trans hT1.c
  have nWB : w1.heap.size ≠ B := by have := lt1 hT1.b; omega
  have nWC : w1.heap.size ≠ C := by have := lt1 hT1.c; omega
  have nBC := hT1.nBC
  have lB := hT1.lB
  have lC := hT1.lC
  have O02 := hT1.old.trans O2
  have s2 := O2.size
  clear hL hT1 O2 lt1
  unfold thrV at hth
  unfold wkr at hWk
  generalize w1.heap.size = Wk at *
  walk_nrm
  repeat (first | (refine Walk.c rfl ?_) | (refine Walk.cRet ?_) | (refine Walk.cEnd ?_) | (refine Walk.cReg ?_; simp only [size9_0, size9_1, size9_2, size9_3, size9_4, size9_5, size9_6, size9_7, size9_8, size9_9, size9_10, size9_11, size9_12, size9_13, size9_14, size9_15, size9_16, List.range, List.range.loop]) | (refine Walk.opq (ho_of (by conv => lhs; whnf) (by kernel_rfl)) (by rfl) (by decide) (fun dd e he => ?_) (fun dd K hK => ?_); (· (simp [go_sem, *] at he; try (subst he; exact evR_read _ _))); go_simp; refine hK _ ?_; clear hK K; try walk_nrm) | (refine Walk.ctl rfl (fun w => stepG_unwanted (ho_of (by conv => lhs; whnf) (by kernel_rfl)) (by rfl)) ?_; walk_nrm))
  have hst0 : 0 ≤ st % 32 := by omega
  have hst1 : st % 32 < 32 := by omega
  refine Walk.callW (Post := fun v w' => ∃ j : Nat, (j : Int) = min (numW (st % 32) af) m ∧ v = .bool (decide (numW (st % 32) af ≤ m) && !badW (st % 32) af) ∧ Aloned w2 B C m j w') ?_ (ho_of (by conv => lhs; whnf) (by kernel_rfl)) (by rfl) (by decide) rfl Try.func30 (by kernel_rfl) (by rfl) ?_
  · walk_nrm
    exact alone_w hst0 hst1 hm0 hm1 hWk hB2 hC2 nWB nWC nBC
  rintro v w3 ⟨j, hj, rfl, hA⟩
  have hc1 := (cell_of hA.bC 1).trans rfl
  obtain ⟨la, bcap, hb⟩ := hA.bB
  have hb0 := (cell_of hb 0).trans rfl
  have O03 : Old W w3 := ⟨by have := hA.size; have := O02.size; omega, fun b hb => (hA.same b (by have := O02.size; omega) (by omega) (by omega)).trans (O02.same b hb)⟩
  have hj' : min (numW (st % 32) af) m = (j : Int) := hj.symm
  have hmn := @events_min_ints Try.prog
  clear hA hb hB2 hC2 hWk hth O02 s2 lB lC hj nWB nWC nBC hst0 hst1 hm0 hm1
  generalize numW (st % 32) af = nn at *
  generalize badW (st % 32) af = bb at *
  have q1 := run_neq_bool 4 und4
  have q2 := ev_neq_bool 4 und4
  have third : ∀ u, Walk Try.prog true (DR (fun _ => none)) (fun g w' => Closing 9 4 (.bool true) g ∧ Old W w') (G (last9 u) []) w3 := fun u => (alone_third u w3).mono fun g w' ⟨h1, h2⟩ => ⟨h1, O03.trans h2⟩
  clear O03
  cases bb
  · have e0 : (decide (nn ≤ m) && !false) = decide (nn ≤ m) := by simp
    rw [e0]
    clear e0
    walk_nrm
    repeat (first | (refine Walk.c rfl ?_) | (refine Walk.cRet ?_) | (refine Walk.cEnd ?_) | (refine Walk.cReg ?_; simp only [size9_0, size9_1, size9_2, size9_3, size9_4, size9_5, size9_6, size9_7, size9_8, size9_9, size9_10, size9_11, size9_12, size9_13, size9_14, size9_15, size9_16, List.range, List.range.loop]) | (refine Walk.opq (ho_of (by conv => lhs; whnf) (by kernel_rfl)) (by rfl) (by decide) (fun dd e he => ?_) (fun dd K hK => ?_); (· (simp [go_sem, *] at he; try (subst he; exact evR_read _ _))); go_simp; refine hK _ ?_; clear hK K; try walk_nrm) | (refine Walk.ctl rfl (fun w => stepG_unwanted (ho_of (by conv => lhs; whnf) (by kernel_rfl)) (by rfl)) ?_; walk_nrm))
    refine Walk.callV (x := .int .i64 j) (W := w3) ?_ (ho_of (by conv => lhs; whnf) (by kernel_rfl)) (by rfl) (by decide) rfl Try.func29 (by kernel_rfl) (by rfl) ?_
    · walk_nrm
      exact steps_w C j w3 hc1
    walk_nrm
    repeat (first | (refine Walk.opq (ho_of (by conv => lhs; whnf) (by kernel_rfl)) (by rfl) (by decide) (fun dd e he => ?_) (fun dd K hK => ?_); (· (simp [go_sem, *] at he; try (subst he; exact evR_read _ _))); go_simp; refine hK _ ?_; clear hK K; try walk_nrm) | (refine Walk.ctl rfl (fun w => stepG_unwanted (ho_of (by conv => lhs; whnf) (by kernel_rfl)) (by rfl)) ?_; walk_nrm))
    refine Walk.ctl rfl (fun w => stepG_region_end) ?_
    refine Walk.ctl rfl (fun w => stepG_cond (t := false) rfl) ?_
    simp only [Bool.false_eq_true, if_false]
    refine Walk.ctl rfl (fun w => stepG_skip) ?_
    refine Walk.slots (F := fun u => G (last9 u) []) third ?_
    simp only [last9]
    rfl
  · have e0 : (decide (nn ≤ m) && !true) = false := by simp
    rw [e0]
    clear e0
    walk_nrm
    repeat (first | (refine Walk.c rfl ?_) | (refine Walk.cRet ?_) | (refine Walk.cEnd ?_) | (refine Walk.cReg ?_; simp only [size9_0, size9_1, size9_2, size9_3, size9_4, size9_5, size9_6, size9_7, size9_8, size9_9, size9_10, size9_11, size9_12, size9_13, size9_14, size9_15, size9_16, List.range, List.range.loop]) | (refine Walk.opq (ho_of (by conv => lhs; whnf) (by kernel_rfl)) (by rfl) (by decide) (fun dd e he => ?_) (fun dd K hK => ?_); (· (simp [go_sem, *] at he; try (subst he; exact evR_read _ _))); go_simp; refine hK _ ?_; clear hK K; try walk_nrm) | (refine Walk.ctl rfl (fun w => stepG_unwanted (ho_of (by conv => lhs; whnf) (by kernel_rfl)) (by rfl)) ?_; walk_nrm))
    refine Walk.callV (x := .int .i64 j) (W := w3) ?_ (ho_of (by conv => lhs; whnf) (by kernel_rfl)) (by rfl) (by decide) rfl Try.func29 (by kernel_rfl) (by rfl) ?_
    · walk_nrm
      exact steps_w C j w3 hc1
    walk_nrm
    repeat (first | (refine Walk.opq (ho_of (by conv => lhs; whnf) (by kernel_rfl)) (by rfl) (by decide) (fun dd e he => ?_) (fun dd K hK => ?_); (· (simp [go_sem, *] at he; try (subst he; exact evR_read _ _))); go_simp; refine hK _ ?_; clear hK K; try walk_nrm) | (refine Walk.ctl rfl (fun w => stepG_unwanted (ho_of (by conv => lhs; whnf) (by kernel_rfl)) (by rfl)) ?_; walk_nrm))
    refine Walk.ctl rfl (fun w => stepG_region_end) ?_
    refine Walk.ctl rfl (fun w => stepG_cond (t := false) rfl) ?_
    simp only [Bool.false_eq_true, if_false]
    refine Walk.ctl rfl (fun w => stepG_skip) ?_
    refine Walk.slots (F := fun u => G (last9 u) []) third ?_
    simp only [last9]
    rfl
end Go.Proofs.Ytgiiicdpbdfemaa
end

/- The row of TurnAlone out of a run from every start. -/
section
namespace Go.Proofs.Ytgiiicdpbdfemaa
open Go.Conc Go.RowKit Go.ChangeShapes Go.WideShapes Go.ChangeAt Go.Joins Go.Deep

theorem prog_own : ownKnob Try.prog.godebug = none := by kernel_rfl

/-- What a run leaves: true; what was there stands. -/
def Left (W : World) (v : Value) (w' : World) : Prop := v = .bool true ∧ w'.os = W.os ∧ w'.output = W.output ∧ ∀ b, b < W.heap.size → w'.heap[b]? = W.heap[b]?
theorem Left.kept {W w' : World} {v : Value} (h : Left W v w') (may : MemPlace → Prop) : W.keptBut w' may := by
  refine ⟨h.2.1, h.2.2.1, fun i hi => ?_⟩
  rw [h.2.2.2 i hi]
  split <;> simp_all

noncomputable def flds58 : Array Field := match Try.prog.underlying 58 with | some (.struct fs) => fs | _ => #[]
theorem und58_is : Try.prog.underlying 58 = some (.struct flds58) := by kernel_rfl
theorem flds58_three : ∃ f0 f1 f2, flds58 = #[f0, f1, f2] ∧ f0.type = 3 ∧ f1.type = 3 ∧ f2.type = 4 := by
  obtain ⟨f0, f1, f2, e⟩ := Go.Joins.array3 (show flds58.size = 3 by kernel_rfl)
  have h0 : (flds58[0]?).map (·.type) = some 3 := by kernel_rfl
  have h1 : (flds58[1]?).map (·.type) = some 3 := by kernel_rfl
  have h2 : (flds58[2]?).map (·.type) = some 4 := by kernel_rfl
  rw [e] at h0 h1 h2
  exact ⟨f0, f1, f2, e, by simpa using h0, by simpa using h1, by simpa using h2⟩
theorem und3_is : Try.prog.underlying 3 = some (.int .i64) := by kernel_rfl
theorem und4_is : Try.prog.underlying 4 = some .bool := by kernel_rfl

set_option maxRecDepth 100000 in
theorem turnAlone_lifted (run : ∀ (st af most : Int) (nl : Bool) (W : World), ∃ M last o w' t', runNT Try.prog (M + 1) (solo (G (Frame.enter Try.prog 9 #[.agg #[.int .i64 st, .int .i64 af, .bool nl], .int .i64 most] .normal) []) W) #[] = (.ended o w', t') ∧
      runN Try.prog M (solo (G (Frame.enter Try.prog 9 #[.agg #[.int .i64 st, .int .i64 af, .bool nl], .int .i64 most] .normal) []) W) = .next last ∧ step Try.prog last = .ended o w' ∧ Conc.Good Try.prog (Left W) last o w' t') (os : Os) (started : os.Started) (H : Type) (enc : TypeId × Value → H) :
    ReturnsInLeavingWide {} Try.checked os 9 .any (Rows.turnAloneSpec.pre6 enc Try.prog Try.f9 Rows.turnAloneRow.domain false) (Rows.turnAloneSpec.post enc Try.prog Try.f9 false true false false) := by
  refine returnsInLeavingWide_of_change_sized (C := Try.checked) prog_own started Try.func9
    (ChangeSpec.witness6 (enc := enc) (C := Try.checked) false ⟨#[], #[.agg #[.int .i64 0, .int .i64 0, .bool false], .int .i64 0], []⟩ 8 (by kernel_rfl) (by kernel_rfl) (by kernel_rfl) (by kernel_rfl)) ?_
  intro W base args ds gs before hval0 hW _ _ _
  have hval : ∀ (j : Nat) t v, Try.f9.params[j]? = some t → args[j]? = some v → Value.okWide Try.prog W .any base t v := hval0
  have hW' := hW
  obtain ⟨p, q, hA0, hV, rfl, _, _⟩ := hW
  have hA : DataW.TrodAll enc Try.prog W 0 (fun _ => true) true Try.f9.params.toList args.toList ds p := hA0
  rw [Try.params9] at hA hval
  obtain ⟨v0, v1, d0, d1, p0, p1, rfl, rfl, rfl, h0, h1⟩ := trodAll_two hA
  obtain ⟨rfl, rfl⟩ := trodVars_none hV
  obtain ⟨most, rfl, rfl, rfl, wm⟩ := open_int und3_is (hval 1 3 v1 rfl rfl) h1
  obtain ⟨f0, f1, f2, ef, t0, t1, t2⟩ := flds58_three
  have hs : Try.prog.underlying 58 = some (.struct #[f0, f1, f2]) := by rw [und58_is, ef]
  have hone : oneCellFields Try.prog #[f0, f1, f2] = true := by rw [← ef]; kernel_rfl
  have hC : Try.prog.cellsOf 58 = 3 := by kernel_rfl
  obtain ⟨a0, a1, a2, y0, y1, y2, n, rfl, rfl, rfl, g0, g1, g2⟩ := open_agg3 hs hone hC (hval 0 58 v0 rfl rfl) h0
  rw [t0] at g0
  rw [t1] at g1
  rw [t2] at g2
  obtain ⟨st, e0, rfl, w0⟩ := DataW.trod_int und3_is g0
  obtain ⟨af, e1, rfl, w1⟩ := DataW.trod_int und3_is g1
  obtain ⟨nl, e2, rfl⟩ := DataW.trod_bool und4_is g2
  injection e0 with e0 _
  injection e1 with e1 _
  injection e2 with e2 _
  subst e0 e1 e2
  clear hA0 hval0
  simp only [List.append_nil] at hW'
  obtain ⟨M, last, o, w', t', r1, r2, r3, r4⟩ := run st af most nl W
  refine ⟨M, last, o, w', t', r1, r2, r3, r4.mono fun v hF => ?_⟩
  obtain ⟨rfl, hk⟩ : v = .bool true ∧ Left W (.bool true) w' := ⟨hF.1, ⟨rfl, hF.2⟩⟩
  exact ⟨_, _, _, [], _, [], hW', trodAll_mk1 (shut_bool und4_is true), trodAll_mk2 (shut_agg3 (y0 := (.lit (.int .i64 st), [])) (y1 := (.lit (.int .i64 af), [])) (y2 := (.lit (.bool nl), [])) hs hone hC (by rw [t0]; exact field_of_Trod (shut_int und3_is w0) rfl) (by rw [t1]; exact field_of_Trod (shut_int und3_is w1) rfl) (by rw [t2]; exact field_of_Trod (shut_bool und4_is nl) rfl)) (shut_int und3_is wm), rfl, hk.kept _, fun h => by cases h⟩

theorem turnAlone_of (run : ∀ (st af most : Int) (nl : Bool) (W : World), ∃ M last o w' t', runNT Try.prog (M + 1) (solo (G (Frame.enter Try.prog 9 #[.agg #[.int .i64 st, .int .i64 af, .bool nl], .int .i64 most] .normal) []) W) #[] = (.ended o w', t') ∧
      runN Try.prog M (solo (G (Frame.enter Try.prog 9 #[.agg #[.int .i64 st, .int .i64 af, .bool nl], .int .i64 most] .normal) []) W) = .next last ∧ step Try.prog last = .ended o w' ∧ Conc.Good Try.prog (Left W) last o w' t') : Rows.TurnAloneSaid :=
  OpenClaim.holds_of_wide_leaving 9 Try.f9 rfl rfl rfl rfl rfl rfl rfl ⟨rfl, rfl, rfl, rfl, rfl⟩ rfl rfl rfl rfl rfl (by kernel_rfl) Try.func9 (by kernel_rfl)
    (of_decide_eq_true (by kernel_rfl)) (by unfold Func.isWrapper; first | (rw [if_pos (by decide +kernel)]; kernel_rfl) | (rw [if_neg (by decide +kernel)]; exact ⟨rfl, rfl⟩))
    (fun os started H enc _ => turnAlone_lifted run os started H enc)
end Go.Proofs.Ytgiiicdpbdfemaa
end


section
namespace Go.Proofs.Ytgiiicdpbdfemaa
open Go.Conc Go.RowKit Go.Relay

theorem alone_all (st af most : Int) (nl : Bool) (W : World) : Runs (fun g w' => Closing 9 4 (.bool true) g ∧ (OsSame W w' → ∀ d, Left W (.bool true) (w'.at d))) (G (Frame.enter Try.prog 9 #[.agg #[.int .i64 st, .int .i64 af, .bool nl], .int .i64 most] .normal) []) W := by
  refine Runs.then (alone_first st af most nl W) ?_
  rintro g w ⟨X, B, C, hT, u, rfl⟩
  refine Runs.walk (alone_second _ st af most X B C u W w hT) ?_
  rintro g w' ⟨hc, O⟩
  exact .now ⟨hc, fun ho _ => ⟨rfl, ho.1, ho.2, O.same⟩⟩

theorem turnAlone_holds : Rows.TurnAloneSaid :=
  turnAlone_of fun st af most nl W => run_claim (t := 4) Try.func9 rfl (by kernel_rfl) (alone_all st af most nl W)

#print axioms turnAlone_holds
end Go.Proofs.Ytgiiicdpbdfemaa
end
