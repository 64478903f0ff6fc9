/- Part 12. -/
import Derived.Test.YtgiiicdpbdfemaaC11
import Derived.Conc.LeavingOf
set_option linter.unusedSimpArgs false
/- The statement's side: from a run of goroutine 0's to the row's own run. -/
section
namespace Go.Proofs.Ytgiiicdpbdfemaa
open Go.Conc Go.RowKit Go.Relay
open Go.ConcN (upd upd_ne upd_same)

/-- Goroutine 0 is about to end the run. -/
structure Closing (f : FuncId) (t : Tmp) (v : Value) (g : Goroutine) : Prop where
  all : ∃ fr, g = G fr [] ∧ fr.mode = .returning ∧ fr.kind = .normal ∧ fr.defers = [] ∧ fr.fn = f ∧ fr.tmps.getD t undef = v

theorem stepG_done {P : Program} {fr : Frame} {w : World} {fn : Func} {v : Value} (hm : fr.mode = .returning) (hn : fr.kind = .normal) (hd : fr.defers = []) (hf : P.funcs[fr.fn]? = some fn) (hr : (results fn fr.tmps).run P w = .ok v w) (he : (results fn fr.tmps).events P w #[] = #[]) (hi : P.inits.idxOf? fr.fn = none) :
    stepG P true (G fr []) w = .ended (.done v) w #[] := by
  simp [G, stepG, unwind, doReturn, hm, hd, hn, hf, hr, he, hi, GStep.after, seen_none]

theorem run_claim {f : FuncId} {fn : Func} {args : Array Value} {W : World} {Post : Value → World → Prop} {v : Value} {t : Tmp} (hf : Try.prog.funcs[f]? = some fn) (hres : fn.results = #[.tmp t]) (hi : Try.prog.inits.idxOf? f = none)
    (h : Runs (fun g w' => Closing f t v g ∧ (OsSame W w' → ∀ d, Post v (w'.at d))) (G (Frame.enter Try.prog f args .normal) []) W) :
    ∃ M last o w' t', runNT Try.prog (M + 1) (solo (G (Frame.enter Try.prog f args .normal) []) W) #[] = (.ended o w', t') ∧ runN Try.prog M (solo (G (Frame.enter Try.prog f args .normal) []) W) = .next last ∧ step Try.prog last = .ended o w' ∧ Go.Conc.Good Try.prog Post last o w' t' := by
  rw [solo_eq_crowd]
  have A0 := at_begin (P := Try.prog) (gs := #[G (Frame.enter Try.prog f args .normal) []]) (a := G (Frame.enter Try.prog f args .normal) []) (sl := none) (w := W) rfl (leavers_one Try.prog _) past_nil
  obtain ⟨N1, m1, T1, r1, ⟨nG, g1, w1, _, ⟨⟨fr, rfl, hm, hn, hd, hfn, hv⟩, hP⟩, A1⟩, ho⟩ := h 1 _ _ (Nat.le_refl _) A0
  obtain ⟨gs, sl, q, B, rfl, _, hg0, hL, hPast⟩ := A1.ends (fun _ => rfl)
  have hP := hP ho
  have hs : ∀ d, stepG Try.prog true (G fr []) (w1.at d) = .ended (.done v) (w1.at d) #[] := fun d =>
    stepG_done hm hn hd (by rw [hfn]; exact hf) (by rw [results_tmp hres, hv]) (events_results_tmp hres _ _) (by rw [hfn]; exact hi)
  have hG : Goes Try.prog true AtRel (fun _ _ es => ∀ e ∈ es, EvL (fun _ => False) B e) (AtEnd Try.prog (fun _ => False) B Post) 0 (G fr []) w1 := by
    rintro _ ⟨d, rfl⟩
    exact ⟨rfl, v, #[], hs d, by simp, hP d⟩
  obtain ⟨M8, last, o, w', t', e1, e2, e3, e4⟩ := beside_ends (P := Try.prog) (Post := Post) (sl := sl) (fun _ _ _ h => h) hg0 hL hPast hG
  refine ⟨N1 + M8, last, o, w', t', ?_, ?_, e3, e4⟩
  · rw [Nat.add_assoc, runNT_add, r1]; exact e1
  · rw [runN_add, ← runNT_fst Try.prog _ _ #[], r1]; exact e2
theorem Walk.finish {P : Program} {main : Bool} {D : World → World → Array Event → Prop} {Stop : Goroutine → World → Prop} {w : World} {b : Frame} {a : Act} {k : List Item} {cs : List Frame} {ops : Array Oper} {i : Nat} {rest : List Nat} {o : Oper} {v : Value} (ho : ops[i]? = some o)
    (h : Walk P main D Stop (G (b.at (a.put o.dst v) (.inRegion ops rest :: k)) cs) w) : Walk P main D Stop (G ((b.at a (.inRegion ops (i :: rest) :: k)).finish v) cs) w := by
  rw [Frame.finish_at, ho]
  exact h
end Go.Proofs.Ytgiiicdpbdfemaa
end

/- The statement's side: slots; what a walk does alone. -/
section
namespace Go.Proofs.Ytgiiicdpbdfemaa
open Go.Conc Go.RowKit Go.Relay
open Go.ConcN (upd upd_ne upd_same)

variable {main : Bool} {V : Nat → Option Wait}

/-- A world in which what has been called has left the old cells. -/
theorem slots_walk {P : Program} {D : World → World → Array Event → Prop} {Stop : Goroutine → World → Prop} {b : Frame} {A : Array Value} {todo : List Item} {cs : List Frame} {w : World} {F : (Nat → Value) → Goroutine} (h : ∀ u, Walk P main D Stop (F u) w) (e : G (b.at ⟨A, []⟩ todo) cs = F (fun k => A.getD k undef)) : Walk P main D Stop (G (b.at ⟨A, []⟩ todo) cs) w := e ▸ h _

/-- What a walk does alone: the steps it would do, whether it breaks then. -/
def badW (steps after : Int) : Bool := decide (0 ≤ after) && decide (after ≤ steps)
def numW (steps after : Int) : Int := if badW steps after then after else steps

end Go.Proofs.Ytgiiicdpbdfemaa
end

/- The statement's side: sameInts of two lists of the same numbers. -/
section
namespace Go.Proofs.Ytgiiicdpbdfemaa
open Go.Conc Go.RowKit Go.Relay
open Go.ConcN (upd upd_ne upd_same)

variable {main : Bool} {V : Nat → Option Wait}

noncomputable def reg25_0 : Array Oper := match Try.f25.body with | some (.seq (.region _ ops _) _) => ops | _ => #[]
theorem size25_0 : reg25_0.size = 1 := by kernel_rfl
noncomputable def reg25_1 : Array Oper := match Try.f25.body with | some (.seq _ (.seq (.seq (.region _ ops _) _) _)) => ops | _ => #[]
theorem size25_1 : reg25_1.size = 5 := by kernel_rfl
noncomputable def reg25_2 : Array Oper := match Try.f25.body with | some (.seq _ (.seq (.seq _ (.cond _ (.seq (.region _ ops _) _) _)) _)) => ops | _ => #[]
theorem size25_2 : reg25_2.size = 1 := by kernel_rfl
noncomputable def reg25_3 : Array Oper := match Try.f25.body with | some (.seq _ (.seq _ (.seq (.seq (.region _ ops _) _) _))) => ops | _ => #[]
theorem size25_3 : reg25_3.size = 1 := by kernel_rfl
noncomputable def reg25_4 : Array Oper := match Try.f25.body with | some (.seq _ (.seq _ (.seq (.seq _ (.block _ (.loop (.seq (.seq (.region _ ops _) _) _)))) _))) => ops | _ => #[]
theorem size25_4 : reg25_4.size = 4 := by kernel_rfl
noncomputable def reg25_6 : Array Oper := match Try.f25.body with | some (.seq _ (.seq _ (.seq (.seq _ (.block _ (.loop (.seq _ (.seq (.block _ (.seq (.region _ ops _) _)) _))))) _))) => ops | _ => #[]
theorem size25_6 : reg25_6.size = 9 := by kernel_rfl
noncomputable def reg25_7 : Array Oper := match Try.f25.body with | some (.seq _ (.seq _ (.seq (.seq _ (.block _ (.loop (.seq _ (.seq (.block _ (.seq _ (.cond _ (.seq (.region _ ops _) _) _))) _))))) _))) => ops | _ => #[]
theorem size25_7 : reg25_7.size = 1 := by kernel_rfl
noncomputable def reg25_5 : Array Oper := match Try.f25.body with | some (.seq _ (.seq _ (.seq (.seq _ (.block _ (.loop (.seq _ (.seq _ (.region _ ops _)))))) _))) => ops | _ => #[]
theorem size25_5 : reg25_5.size = 3 := by kernel_rfl
noncomputable def reg25_8 : Array Oper := match Try.f25.body with | some (.seq _ (.seq _ (.seq _ (.seq (.region _ ops _) _)))) => ops | _ => #[]
theorem size25_8 : reg25_8.size = 1 := by kernel_rfl
theorem code25_is : Try.f25.body = some (.seq (.region 0 reg25_0 false) (.seq (.seq (.region 1 reg25_1 false) (.cond (.tmp 10 ) (.seq (.region 2 reg25_2 false) (.ret)) (.skip))) (.seq (.seq (.region 3 reg25_3 false) (.block 0 (.loop (.seq (.seq (.region 4 reg25_4 false) (.cond (.tmp 14 ) (.skip) (.exit 0))) (.seq (.block 1 (.seq (.region 6 reg25_6 true) (.cond (.tmp 25 ) (.seq (.region 7 reg25_7 false) (.ret)) (.skip)))) (.region 5 reg25_5 false)))))) (.seq (.region 8 reg25_8 false) (.ret))))) := by kernel_rfl

noncomputable def hd25 (a b : Value) (i : Nat) (u : Nat → Value) : Frame :=
  (base 25).at { tmps := #[a, b, u 2, u 3, .bool false, .int .i64 i, u 6, u 7, u 8, u 9, u 10, u 11, u 12, u 13, u 14, u 15, u 16, u 17, u 18, u 19, u 20, u 21, u 22, u 23, u 24, u 25], defers := [] } [.code (.seq (.seq (.region 4 reg25_4 false) (.cond (.tmp 14 ) (.skip) (.exit 0))) (.seq (.block 1 (.seq (.region 6 reg25_6 true) (.cond (.tmp 25 ) (.seq (.region 7 reg25_7 false) (.ret)) (.skip)))) (.region 5 reg25_5 false))), .inLoop (.seq (.seq (.region 4 reg25_4 false) (.cond (.tmp 14 ) (.skip) (.exit 0))) (.seq (.block 1 (.seq (.region 6 reg25_6 true) (.cond (.tmp 25 ) (.seq (.region 7 reg25_7 false) (.ret)) (.skip)))) (.region 5 reg25_5 false))), .inBlock 0, .code (.seq (.region 8 reg25_8 false) (.ret))]
def tm25 (a b : Value) (i : Nat) (u : Nat → Value) : Array Value := #[a, b, u 2, u 3, .bool false, .int .i64 i, u 6, u 7, u 8, u 9, u 10, u 11, u 12, u 13, u 14, u 15, u 16, u 17, u 18, u 19, u 20, u 21, u 22, u 23, u 24, u 25]

set_option maxHeartbeats 8000000 in
set_option maxRecDepth 100000 in
theorem rd25_6 {Stop : Goroutine → World → Prop} (ab ao n ca bb bo cb m : Nat) (x : Int) (k : List Item) (cs : List Frame) (u0 : Nat → Value) (w : World) (hm : m < n) (ha : w.cell? ⟨ab, ao + m, none⟩ = some (.int .i64 x)) (hb : w.cell? ⟨bb, bo + m, none⟩ = some (.int .i64 x))
    (hk : ∀ u : Nat → Value, u 25 = .bool false → Walk Try.prog main (DR V) Stop (G ((base 25).at ⟨tm25 (.slice (some ⟨ab, ao, none⟩) n ca) (.slice (some ⟨bb, bo, none⟩) n cb) m u, []⟩ (.inRegion reg25_6 [] :: k)) cs) w) :
    Walk Try.prog main (DR V) Stop (G ((base 25).at ⟨tm25 (.slice (some ⟨ab, ao, none⟩) n ca) (.slice (some ⟨bb, bo, none⟩) n cb) m u0, []⟩ (.code (.region 6 reg25_6 true) :: k)) cs) w := by
  refine Walk.drawnI (Inv := fun f a w' => ∃ u, a = ⟨tm25 (.slice (some ⟨ab, ao, none⟩) n ca) (.slice (some ⟨bb, bo, none⟩) n cb) m u, []⟩ ∧ Facts [17, 18, 19, 20, 21, 22, 23, 24, 25] [.slice (some ⟨ab, ao, none⟩) n ca, .int .i64 m, .pointer (some ⟨ab, ao + m, none⟩), .int .i64 x, .slice (some ⟨bb, bo, none⟩) n cb, .int .i64 m, .pointer (some ⟨bb, bo + m, none⟩), .int .i64 x, .bool false] f u ∧ ∃ d, w' = w.at d) (by kernel_rfl) (by kernel_rfl) (fun d => ⟨u0, rfl, Facts.none _ _ _, d, rfl⟩) ?_ ?_
  · rintro f i o a w' ⟨u, rfl, F, d, rfl⟩ hfi ho hdeps rest hr
    refine Walk.back ?_ d
    have hi : i < 9 := by have := (Array.getElem?_eq_some_iff.1 ho).1; rw [size25_6] at this; exact this
    match i, hi with
    | 0, _ =>
      clear hdeps ho hfi
      simp only [tm25] at hr ⊢
      first | ((refine Walk.opq (ho_of (by conv => lhs; whnf) (by kernel_rfl)) (by rfl) (by decide) (fun dd e he => ?_) (fun dd K hK => ?_); (· (simp [go_sem, *] at he; try (subst he; exact evR_read _ _))); go_simp; refine hK _ ?_; clear hK K; try walk_nrm); refine hr _ _ ⟨upd u 17 (.slice (some ⟨ab, ao, none⟩) n ca), ?_, F.set (by decide) rfl rfl, w.drawn, rfl⟩) | ((refine Walk.ctl rfl (fun w => stepG_unwanted (ho_of (by conv => lhs; whnf) (by kernel_rfl)) (by rfl)) ?_; walk_nrm); refine hr _ _ ⟨upd u 17 undef, ?_, F.set (by decide) rfl rfl, w.drawn, rfl⟩)
      simp [upd]
    | 1, _ =>
      clear hdeps ho hfi
      simp only [tm25] at hr ⊢
      first | ((refine Walk.opq (ho_of (by conv => lhs; whnf) (by kernel_rfl)) (by rfl) (by decide) (fun dd e he => ?_) (fun dd K hK => ?_); (· (simp [go_sem, *] at he; try (subst he; exact evR_read _ _))); go_simp; refine hK _ ?_; clear hK K; try walk_nrm); refine hr _ _ ⟨upd u 18 (.int .i64 m), ?_, F.set (by decide) rfl rfl, w.drawn, rfl⟩) | ((refine Walk.ctl rfl (fun w => stepG_unwanted (ho_of (by conv => lhs; whnf) (by kernel_rfl)) (by rfl)) ?_; walk_nrm); refine hr _ _ ⟨upd u 18 undef, ?_, F.set (by decide) rfl rfl, w.drawn, rfl⟩)
      simp [upd]
    | 2, _ =>
      have hd := deps_of (l := [0, 1]) (by kernel_rfl) ho hdeps
      have e17 := F 0 17 _ (hd 0 (by simp)) rfl rfl
      have e18 := F 1 18 _ (hd 1 (by simp)) rfl rfl
      clear hdeps ho hfi
      simp only [tm25] at hr ⊢
      simp only [e17, e18]
      first | ((refine Walk.opq (ho_of (by conv => lhs; whnf) (by kernel_rfl)) (by rfl) (by decide) (fun dd e he => ?_) (fun dd K hK => ?_); (· (simp [go_sem, *] at he; try (subst he; exact evR_read _ _))); go_simp; refine hK _ ?_; clear hK K; try walk_nrm); refine hr _ _ ⟨upd u 19 (.pointer (some ⟨ab, ao + m, none⟩)), ?_, F.set (by decide) rfl rfl, w.drawn, rfl⟩) | ((refine Walk.ctl rfl (fun w => stepG_unwanted (ho_of (by conv => lhs; whnf) (by kernel_rfl)) (by rfl)) ?_; walk_nrm); refine hr _ _ ⟨upd u 19 undef, ?_, F.set (by decide) rfl rfl, w.drawn, rfl⟩)
      simp [upd, e17, e18]
    | 3, _ =>
      have hd := deps_of (l := [2]) (by kernel_rfl) ho hdeps
      have e19 := F 2 19 _ (hd 2 (by simp)) rfl rfl
      clear hdeps ho hfi
      simp only [tm25] at hr ⊢
      simp only [e19]
      first | ((refine Walk.opq (ho_of (by conv => lhs; whnf) (by kernel_rfl)) (by rfl) (by decide) (fun dd e he => ?_) (fun dd K hK => ?_); (· (simp [go_sem, *] at he; try (subst he; exact evR_read _ _))); go_simp; refine hK _ ?_; clear hK K; try walk_nrm); refine hr _ _ ⟨upd u 20 (.int .i64 x), ?_, F.set (by decide) rfl rfl, w.drawn, rfl⟩) | ((refine Walk.ctl rfl (fun w => stepG_unwanted (ho_of (by conv => lhs; whnf) (by kernel_rfl)) (by rfl)) ?_; walk_nrm); refine hr _ _ ⟨upd u 20 undef, ?_, F.set (by decide) rfl rfl, w.drawn, rfl⟩)
      simp [upd, e19]
    | 4, _ =>
      clear hdeps ho hfi
      simp only [tm25] at hr ⊢
      first | ((refine Walk.opq (ho_of (by conv => lhs; whnf) (by kernel_rfl)) (by rfl) (by decide) (fun dd e he => ?_) (fun dd K hK => ?_); (· (simp [go_sem, *] at he; try (subst he; exact evR_read _ _))); go_simp; refine hK _ ?_; clear hK K; try walk_nrm); refine hr _ _ ⟨upd u 21 (.slice (some ⟨bb, bo, none⟩) n cb), ?_, F.set (by decide) rfl rfl, w.drawn, rfl⟩) | ((refine Walk.ctl rfl (fun w => stepG_unwanted (ho_of (by conv => lhs; whnf) (by kernel_rfl)) (by rfl)) ?_; walk_nrm); refine hr _ _ ⟨upd u 21 undef, ?_, F.set (by decide) rfl rfl, w.drawn, rfl⟩)
      simp [upd]
    | 5, _ =>
      clear hdeps ho hfi
      simp only [tm25] at hr ⊢
      first | ((refine Walk.opq (ho_of (by conv => lhs; whnf) (by kernel_rfl)) (by rfl) (by decide) (fun dd e he => ?_) (fun dd K hK => ?_); (· (simp [go_sem, *] at he; try (subst he; exact evR_read _ _))); go_simp; refine hK _ ?_; clear hK K; try walk_nrm); refine hr _ _ ⟨upd u 22 (.int .i64 m), ?_, F.set (by decide) rfl rfl, w.drawn, rfl⟩) | ((refine Walk.ctl rfl (fun w => stepG_unwanted (ho_of (by conv => lhs; whnf) (by kernel_rfl)) (by rfl)) ?_; walk_nrm); refine hr _ _ ⟨upd u 22 undef, ?_, F.set (by decide) rfl rfl, w.drawn, rfl⟩)
      simp [upd]
    | 6, _ =>
      have hd := deps_of (l := [4, 5]) (by kernel_rfl) ho hdeps
      have e21 := F 4 21 _ (hd 4 (by simp)) rfl rfl
      have e22 := F 5 22 _ (hd 5 (by simp)) rfl rfl
      clear hdeps ho hfi
      simp only [tm25] at hr ⊢
      simp only [e21, e22]
      first | ((refine Walk.opq (ho_of (by conv => lhs; whnf) (by kernel_rfl)) (by rfl) (by decide) (fun dd e he => ?_) (fun dd K hK => ?_); (· (simp [go_sem, *] at he; try (subst he; exact evR_read _ _))); go_simp; refine hK _ ?_; clear hK K; try walk_nrm); refine hr _ _ ⟨upd u 23 (.pointer (some ⟨bb, bo + m, none⟩)), ?_, F.set (by decide) rfl rfl, w.drawn, rfl⟩) | ((refine Walk.ctl rfl (fun w => stepG_unwanted (ho_of (by conv => lhs; whnf) (by kernel_rfl)) (by rfl)) ?_; walk_nrm); refine hr _ _ ⟨upd u 23 undef, ?_, F.set (by decide) rfl rfl, w.drawn, rfl⟩)
      simp [upd, e21, e22]
    | 7, _ =>
      have hd := deps_of (l := [6]) (by kernel_rfl) ho hdeps
      have e23 := F 6 23 _ (hd 6 (by simp)) rfl rfl
      clear hdeps ho hfi
      simp only [tm25] at hr ⊢
      simp only [e23]
      first | ((refine Walk.opq (ho_of (by conv => lhs; whnf) (by kernel_rfl)) (by rfl) (by decide) (fun dd e he => ?_) (fun dd K hK => ?_); (· (simp [go_sem, *] at he; try (subst he; exact evR_read _ _))); go_simp; refine hK _ ?_; clear hK K; try walk_nrm); refine hr _ _ ⟨upd u 24 (.int .i64 x), ?_, F.set (by decide) rfl rfl, w.drawn, rfl⟩) | ((refine Walk.ctl rfl (fun w => stepG_unwanted (ho_of (by conv => lhs; whnf) (by kernel_rfl)) (by rfl)) ?_; walk_nrm); refine hr _ _ ⟨upd u 24 undef, ?_, F.set (by decide) rfl rfl, w.drawn, rfl⟩)
      simp [upd, e23]
    | 8, _ =>
      have hd := deps_of (l := [3, 7]) (by kernel_rfl) ho hdeps
      have e20 := F 3 20 _ (hd 3 (by simp)) rfl rfl
      have e24 := F 7 24 _ (hd 7 (by simp)) rfl rfl
      clear hdeps ho hfi
      simp only [tm25] at hr ⊢
      simp only [e20, e24]
      first | ((refine Walk.opq (ho_of (by conv => lhs; whnf) (by kernel_rfl)) (by rfl) (by decide) (fun dd e he => ?_) (fun dd K hK => ?_); (· (simp [go_sem, *] at he; try (subst he; exact evR_read _ _))); go_simp; refine hK _ ?_; clear hK K; try walk_nrm); refine hr _ _ ⟨upd u 25 (.bool false), ?_, F.set (by decide) rfl rfl, w.drawn, rfl⟩) | ((refine Walk.ctl rfl (fun w => stepG_unwanted (ho_of (by conv => lhs; whnf) (by kernel_rfl)) (by rfl)) ?_; walk_nrm); refine hr _ _ ⟨upd u 25 undef, ?_, F.set (by decide) rfl rfl, w.drawn, rfl⟩)
      simp [upd, e20, e24]
  · rintro f a w' ⟨u, rfl, F, d, rfl⟩ hall
    exact (hk u (F 8 25 _ (hall 8 (by rw [size25_6]; decide)) rfl rfl)).back d


set_option maxHeartbeats 8000000 in
set_option maxRecDepth 100000 in
theorem same25_in (a b : Option Addr) (n ca cb : Nat) (cs : List Frame) (w : World) :
    Walk Try.prog main (DR V) (fun g w' => (∃ u, g = G (hd25 (.slice a n ca) (.slice b n cb) 0 u) cs) ∧ ∃ d, w' = w.at d) (G (Frame.enter Try.prog 25 #[.slice a n ca, .slice b n cb] .normal) cs) w := by
  rw [enter_at _ Try.func25 code25_is]
  simp only [Try.ntmps25, List.size_toArray, List.length_cons, List.length_nil, Nat.reduceAdd, Nat.reduceSub, Array.replicate_succ, Array.replicate_zero, List.push_toArray, List.append_toArray, List.nil_append, List.cons_append]
  repeat (first | (refine Walk.c rfl ?_) | (refine Walk.cRet ?_) | (refine Walk.cEnd ?_) | (refine Walk.cReg ?_; simp only [size25_0, size25_1, size25_2, size25_3, size25_4, size25_6, size25_7, size25_5, size25_8, List.range, List.range.loop]) | (refine Walk.opq (ho_of (by conv => lhs; whnf) (by kernel_rfl)) (by rfl) (by decide) (fun dd e he => ?_) (fun dd K hK => ?_); (· (simp [go_sem, *] at he; try (subst he; exact evR_read _ _))); go_simp; refine hK _ ?_; clear hK K; try walk_nrm) | (refine Walk.ctl rfl (fun w => stepG_unwanted (ho_of (by conv => lhs; whnf) (by kernel_rfl)) (by rfl)) ?_; walk_nrm))
  refine Walk.ctl rfl (fun w => stepG_loop) ?_
  refine .stop fun d => ⟨at_slots ?_, d, rfl⟩
  simp only [hd25]
  rfl

set_option maxHeartbeats 8000000 in
set_option maxRecDepth 100000 in
theorem same25_out (a b : Option Addr) (n ca cb : Nat) (u : Nat → Value) (c : Frame) (cs : List Frame) (w : World) :
    Walk Try.prog main (DR V) (fun g w' => g = G (c.finish (.bool true)) cs ∧ ∃ d, w' = w.at d) (G (hd25 (.slice a n ca) (.slice b n cb) n u) (c :: cs)) w := by
  unfold hd25
  repeat (first | (refine Walk.c rfl ?_) | (refine Walk.cRet ?_) | (refine Walk.cEnd ?_) | (refine Walk.cReg ?_; simp only [size25_0, size25_1, size25_2, size25_3, size25_4, size25_6, size25_7, size25_5, size25_8, List.range, List.range.loop]) | (refine Walk.opq (ho_of (by conv => lhs; whnf) (by kernel_rfl)) (by rfl) (by decide) (fun dd e he => ?_) (fun dd K hK => ?_); (· (simp [go_sem, *] at he; try (subst he; exact evR_read _ _))); go_simp; refine hK _ ?_; clear hK K; try walk_nrm) | (refine Walk.ctl rfl (fun w => stepG_unwanted (ho_of (by conv => lhs; whnf) (by kernel_rfl)) (by rfl)) ?_; walk_nrm))
  exact (Walk.ret1 (Post := fun v w' => v = .bool true ∧ ∃ d, w' = w.at d) rfl rfl Try.func25 rfl fun d => ⟨rfl, d, rfl⟩).mono fun g w' ⟨v, ⟨hv, hd⟩, hg⟩ => ⟨by rw [hg, hv], hd⟩

set_option maxHeartbeats 8000000 in
set_option maxRecDepth 100000 in
theorem same25_go (ab ao n ca bb bo cb i : Nat) (x : Int) (u : Nat → Value) (cs : List Frame) (w : World) (hi : i < n) (hn : n ≤ 17592186044416) (ha : w.cell? ⟨ab, ao + i, none⟩ = some (.int .i64 x)) (hb : w.cell? ⟨bb, bo + i, none⟩ = some (.int .i64 x)) :
    Walk Try.prog main (DR V) (fun g w' => (∃ u', g = G (hd25 (.slice (some ⟨ab, ao, none⟩) n ca) (.slice (some ⟨bb, bo, none⟩) n cb) (i + 1) u') cs) ∧ ∃ d, w' = w.at d) (G (hd25 (.slice (some ⟨ab, ao, none⟩) n ca) (.slice (some ⟨bb, bo, none⟩) n cb) i u) cs) w := by
  have hw1 : IntKind.wrap .i64 ((i : Int) + 1) = (i : Int) + 1 := by rw [IntKind.wrap_i64]; omega
  conv => arg 5; unfold hd25
  repeat (first | (refine Walk.c rfl ?_) | (refine Walk.cRet ?_) | (refine Walk.cEnd ?_) | (refine Walk.cReg ?_; simp only [size25_0, size25_1, size25_2, size25_3, size25_4, size25_6, size25_7, size25_5, size25_8, List.range, List.range.loop]) | (refine Walk.opq (ho_of (by conv => lhs; whnf) (by kernel_rfl)) (by rfl) (by decide) (fun dd e he => ?_) (fun dd K hK => ?_); (· (simp [go_sem, *] at he; try (subst he; exact evR_read _ _))); go_simp; refine hK _ ?_; clear hK K; try walk_nrm) | (refine Walk.ctl rfl (fun w => stepG_unwanted (ho_of (by conv => lhs; whnf) (by kernel_rfl)) (by rfl)) ?_; walk_nrm))
  refine slots_walk (F := fun u => G ((base 25).at ⟨tm25 (.slice (some ⟨ab, ao, none⟩) n ca) (.slice (some ⟨bb, bo, none⟩) n cb) i u, []⟩ (.code (.region 6 reg25_6 true) :: ([.code (.cond (.tmp 25) (.seq (.region 7 reg25_7 false) .ret) .skip), .inBlock 1, .code (.region 5 reg25_5 false)] ++ ([.code (.seq (.seq (.region 4 reg25_4 false) (.cond (.tmp 14 ) (.skip) (.exit 0))) (.seq (.block 1 (.seq (.region 6 reg25_6 true) (.cond (.tmp 25 ) (.seq (.region 7 reg25_7 false) (.ret)) (.skip)))) (.region 5 reg25_5 false))), .inLoop (.seq (.seq (.region 4 reg25_4 false) (.cond (.tmp 14 ) (.skip) (.exit 0))) (.seq (.block 1 (.seq (.region 6 reg25_6 true) (.cond (.tmp 25 ) (.seq (.region 7 reg25_7 false) (.ret)) (.skip)))) (.region 5 reg25_5 false))), .inBlock 0, .code (.seq (.region 8 reg25_8 false) (.ret))] : List Item).drop 1))) cs) (fun u => rd25_6 ab ao n ca bb bo cb i x _ cs u w hi ha hb fun u e => ?_) (by simp only [tm25]; rfl)
  simp only [tm25]
  rw [e]
  clear e
  simp only [List.cons_append, List.nil_append, List.drop_succ_cons, List.drop_zero]
  repeat (first | (refine Walk.c rfl ?_) | (refine Walk.cRet ?_) | (refine Walk.cEnd ?_) | (refine Walk.cReg ?_; simp only [size25_0, size25_1, size25_2, size25_3, size25_4, size25_6, size25_7, size25_5, size25_8, List.range, List.range.loop]) | (refine Walk.opq (ho_of (by conv => lhs; whnf) (by kernel_rfl)) (by rfl) (by decide) (fun dd e he => ?_) (fun dd K hK => ?_); (· (simp [go_sem, *] at he; try (subst he; exact evR_read _ _))); go_simp; refine hK _ ?_; clear hK K; try walk_nrm) | (refine Walk.ctl rfl (fun w => stepG_unwanted (ho_of (by conv => lhs; whnf) (by kernel_rfl)) (by rfl)) ?_; walk_nrm))
  refine Walk.ctl rfl (fun w => stepG_inLoop) ?_
  refine .stop fun d' => ⟨at_slots ?_, d', rfl⟩
  have hc : ((i + 1 : Nat) : Int) = (i : Int) + 1 := by simp
  simp only [hd25, hc]
  rfl

/-- Numbers in a slice, wherever it begins. -/
def NumsAt (a : Option Addr) (n : Nat) (f : Nat → Int) (w : World) : Prop := ∀ i, i < n → ∃ b o, a = some ⟨b, o, none⟩ ∧ w.cell? ⟨b, o + i, none⟩ = some (.int .i64 (f i))

theorem same25_loop (a b : Option Addr) (n ca cb : Nat) (f : Nat → Int) (hn : n ≤ 17592186044416) (c : Frame) (cs : List Frame) (w : World) (ha : NumsAt a n f w) (hb : NumsAt b n f w) : ∀ (r i : Nat) (u : Nat → Value), i + r = n →
    Walk Try.prog main (DR V) (fun g w' => g = G (c.finish (.bool true)) cs ∧ ∃ d, w' = w.at d) (G (hd25 (.slice a n ca) (.slice b n cb) i u) (c :: cs)) w := by
  intro r
  induction r with
  | zero =>
    intro i u hi
    have hi : i = n := hi
    subst hi
    exact same25_out a b i ca cb u c cs w
  | succ r ih =>
    intro i u hi
    have hin : i < n := by omega
    obtain ⟨ab, ao, rfl, h1⟩ := ha i hin
    obtain ⟨bb, bo, rfl, h2⟩ := hb i hin
    refine (same25_go ab ao n ca bb bo cb i (f i) u (c :: cs) w hin hn h1 h2).then ?_
    rintro g w' ⟨⟨u', rfl⟩, d, rfl⟩
    exact Walk.back (ih (i + 1) u' (by omega)) d

theorem same25_w (a b : Option Addr) (n ca cb : Nat) (f : Nat → Int) (hn : n ≤ 17592186044416) (w : World) (ha : NumsAt a n f w) (hb : NumsAt b n f w) : CallV Try.prog main V 25 #[.slice a n ca, .slice b n cb] w (.bool true) w := by
  intro fr cs
  refine (same25_in a b n ca cb (fr :: cs) w).then ?_
  rintro g w1 ⟨⟨u, rfl⟩, d, rfl⟩
  refine Walk.back ?_ d
  refine (same25_loop a b n ca cb f hn fr cs w ha hb n 0 u (by omega)).mono ?_
  rintro g w' ⟨rfl, d, rfl⟩
  exact ⟨_, ⟨rfl, d, rfl⟩, rfl⟩
end Go.Proofs.Ytgiiicdpbdfemaa
end

/- The statement's side: an operation that panics with a value that the tape may turn; beyond. -/
section
namespace Go.Proofs.Ytgiiicdpbdfemaa
open Go.Conc Go.RowKit Go.Relay
open Go.ConcN (upd upd_ne upd_same)

variable {main : Bool} {V : Nat → Option Wait}

section
variable {P : Program} {Stop : Goroutine → World → Prop} {w w' : World} {b : Frame} {a : Act} {k : List Item} {cs : List Frame} {ops : Array Oper} {i : Nat} {rest : List Nat} {o : Oper}
theorem stepG_raiseW {x : Value} (ho : ops[i]? = some o) (hw : Region.wanted o (yielded ops a.tmps) = true) (hk : b.kind ≠ .early) (hr : (execOp a.eval o).run P w = .halt (.panic x) w') (he : (execOp a.eval o).events P w #[] = #[]) :
    stepG P main (G (b.at a (.inRegion ops (i :: rest) :: k)) cs) w = .go (G { b.at a (.inRegion ops (i :: rest) :: k) with mode := .panicking [{ v := x, recovered := false }] } cs) w' := by
  have hk' : (b.kind == CallKind.early) = false := by simpa using hk
  rw [stepG_oper ho hw]
  simp [stepG.apply, hr, he, G, Frame.at, Frame.raise, hk', GStep.after, seen_none]
/-- An operation that panics, with a value that the tape may turn. -/
theorem Walk.raiseD {Q : Value → Prop} (ho : ops[i]? = some o) (hw : Region.wanted o (yielded ops a.tmps) = true) (hk : b.kind ≠ .early) (hr : ∀ d, ∃ x d', Q x ∧ (execOp a.eval o).run P (w.at d) = .halt (.panic x) (w.at d') ∧ (execOp a.eval o).events P (w.at d) #[] = #[])
    (h : ∀ x, Q x → Walk P main (DR V) Stop (G { b.at a (.inRegion ops (i :: rest) :: k) with mode := .panicking [{ v := x, recovered := false }] } cs) w) : Walk P main (DR V) Stop (G (b.at a (.inRegion ops (i :: rest) :: k)) cs) w := by
  refine Walk.go rfl fun d => ?_
  obtain ⟨x, d', hq, h1, h2⟩ := hr d
  rw [stepG_raiseW ho hw hk h1 h2]
  exact ⟨⟨fun _ _ _ => id, fun _ _ _ _ h _ => h, by simp, ⟨rfl, rfl⟩⟩, (h x hq).back d'⟩
theorem draw_panic {α : Type} (P : Program) (q : Question) (f : Nat → Bool) (k : Bool → Sem α) (v : Bool → Value) (hk : ∀ (s : Bool) (w : World), (k s).run P w = .halt (.panic (v s)) w ∧ (k s).events P w #[] = #[]) (w : World) (d : Nat) :
    ∃ s d', ((f <$> choose q) >>= k).run P (w.at d) = .halt (.panic (v s)) (w.at d') ∧ ((f <$> choose q) >>= k).events P (w.at d) #[] = #[] := by
  obtain ⟨n, d', hc⟩ : ∃ n d', (choose q).run P (w.at d) = .ok n (w.at d') := by
    rw [run_choose]
    by_cases hq : q.forced = true
    · exact ⟨0, d, by rw [if_pos hq]⟩
    · exact ⟨_, d + 1, by rw [if_neg hq]; rfl⟩
  have he : (choose q).events P (w.at d) #[] = #[] := by rw [events_choose]
  generalize choose q = c at hc he
  refine ⟨f n, d', ?_, ?_⟩
  · simp [hc, (hk (f n) (w.at d')).1]
  · simp [hc, he, (hk (f n) (w.at d')).2, Sem.events_bind]
theorem bounds_at {α : Type} (P : Program) (k : IntKind) (x y : Int) (code : BoundsCode) (w : World) (d : Nat) : ∃ s d', (boundsPanic k x y code : Sem α).run P (w.at d) = .halt (.panic (.iface P.rt.boundsError (.agg #[.int .i64 (IntKind.i64.wrap x), .int .i64 y, .bool s, .int .u8 code.toNat]))) (w.at d') ∧ (boundsPanic k x y code : Sem α).events P (w.at d) #[] = #[] := by
  have hk : ∀ (s : Bool) (w : World), (runtimePanic (.bounds (IntKind.i64.wrap x) y s code) : Sem α).run P w = .halt (.panic (.iface P.rt.boundsError (.agg #[.int .i64 (IntKind.i64.wrap x), .int .i64 y, .bool s, .int .u8 code.toNat]))) w ∧ (runtimePanic (.bounds (IntKind.i64.wrap x) y s code) : Sem α).events P w #[] = #[] := fun s w => by
    constructor
    · simp [runtimePanic, goPanic, go_sem]
    · simp [runtimePanic, goPanic, go_sem, Sem.events_bind]
  unfold boundsPanic
  split
  · exact draw_panic P _ _ _ _ hk w d
  · refine ⟨k != .u64, d, ?_, ?_⟩
    · simp [(hk (k != .u64) (w.at d)).1, go_sem]
    · simp [(hk (k != .u64) (w.at d)).2, go_sem, Sem.events_bind]
end

noncomputable def reg66_0 : Array Oper := match Try.f66.body with | some (.seq (.region _ ops _) _) => ops | _ => #[]
theorem size66_0 : reg66_0.size = 1 := by kernel_rfl
noncomputable def reg66_1 : Array Oper := match Try.f66.body with | some (.seq _ (.seq (.region _ ops _) _)) => ops | _ => #[]
theorem size66_1 : reg66_1.size = 1 := by kernel_rfl
noncomputable def reg66_2 : Array Oper := match Try.f66.body with | some (.seq _ (.seq _ (.seq (.region _ ops _) _))) => ops | _ => #[]
theorem size66_2 : reg66_2.size = 5 := by kernel_rfl
theorem code66_is : Try.f66.body = some (.seq (.region 0 reg66_0 false) (.seq (.region 1 reg66_1 false) (.seq (.region 2 reg66_2 false) (.ret)))) := by kernel_rfl

theorem und24 : Try.prog.underlying 24 = some (.slice 3) := by kernel_rfl
theorem bounds_type : Try.prog.rt.boundsError ≠ 147 := by
  have : Try.prog.rt.boundsError = 8 := by kernel_rfl
  rw [this]; decide
/-- An element of an empty list. -/
theorem nil_at (n : Int) (w : World) (d : Nat) : ∃ x d', (∃ t v, t ≠ 147 ∧ x = .iface t v) ∧ (Instr.indexAt 24 (.slice none 0 0) (.int .i64 n)).run Try.prog (w.at d) = .halt (.panic x) (w.at d') ∧ (Instr.indexAt 24 (.slice none 0 0) (.int .i64 n)).events Try.prog (w.at d) #[] = #[] := by
  obtain ⟨s, d', h1, h2⟩ := bounds_at (α := Value) Try.prog .i64 n 0 .index w d
  have e1 : (Instr.indexAt 24 (.slice none 0 0) (.int .i64 n)).run Try.prog (w.at d) = (boundsPanic .i64 n 0 .index : Sem Value).run Try.prog (w.at d) := by simp [Instr.indexAt, run_underlying und24, asIntOf]
  have e2 : (Instr.indexAt 24 (.slice none 0 0) (.int .i64 n)).events Try.prog (w.at d) #[] = (boundsPanic .i64 n 0 .index : Sem Value).events Try.prog (w.at d) #[] := by simp [Instr.indexAt, run_underlying und24, asIntOf]
  exact ⟨_, d', ⟨_, _, bounds_type, rfl⟩, e1.trans h1, e2.trans h2⟩

set_option maxHeartbeats 8000000 in
set_option maxRecDepth 100000 in
theorem beyond_panics (n : Int) (w : World) (fr : Frame) (cs : List Frame) :
    Walk Try.prog main (DR V) (fun g w' => (∃ t v, t ≠ 147 ∧ g = G (fr.raise [{ v := .iface t v, recovered := false }]) cs) ∧ ∃ d, w' = w.at d) (G (Frame.enter Try.prog 66 #[.int .i64 n] .normal) (fr :: cs)) w := by
  rw [enter_at _ Try.func66 code66_is]
  simp only [Try.ntmps66, List.size_toArray, List.length_cons, List.length_nil, Nat.reduceAdd, Nat.reduceSub, Array.replicate_succ, Array.replicate_zero, List.push_toArray, List.append_toArray, List.nil_append, List.cons_append]
  repeat (first | (refine Walk.c rfl ?_) | (refine Walk.cRet ?_) | (refine Walk.cEnd ?_) | (refine Walk.cReg ?_; simp only [size66_0, size66_1, size66_2, List.range, List.range.loop]) | (refine Walk.opq (ho_of (by conv => lhs; whnf) (by kernel_rfl)) (by rfl) (by decide) (fun dd e he => ?_) (fun dd K hK => ?_); (· (simp [go_sem, *] at he; try (subst he; exact evR_read _ _))); go_simp; refine hK _ ?_; clear hK K; try walk_nrm) | (refine Walk.ctl rfl (fun w => stepG_unwanted (ho_of (by conv => lhs; whnf) (by kernel_rfl)) (by rfl)) ?_; walk_nrm))
  refine Walk.raiseD (Q := fun x => ∃ t v, t ≠ 147 ∧ x = .iface t v) (ho_of (by conv => lhs; whnf) (by kernel_rfl)) (by rfl) (by decide) (fun d => ?_) ?_
  · obtain ⟨x, d', hq, h1, h2⟩ := nil_at n w d
    refine ⟨x, d', hq, ?_, ?_⟩
    · unfold execOp
      simp [Act.eval, h1]
    · unfold execOp
      simp [Act.eval, h1, h2]
  · rintro x ⟨t, v, ht, rfl⟩
    refine Walk.ctl rfl (fun w => stepG_pop rfl rfl (by kernel_rfl)) ?_
    exact .stop fun d => ⟨⟨t, v, ht, rfl⟩, d, rfl⟩
end Go.Proofs.Ytgiiicdpbdfemaa
end

/- The statement's side: a walker notes its number upon the board. -/
section
namespace Go.Proofs.Ytgiiicdpbdfemaa
open Go.Conc Go.RowKit Go.Relay
open Go.ConcN (upd upd_ne upd_same)

variable {main : Bool} {V : Nat → Option Wait}

noncomputable def reg57_0 : Array Oper := match Try.f57.body with | some (.seq (.seq (.region _ ops _) _) _) => ops | _ => #[]
theorem size57_0 : reg57_0.size = 1 := by kernel_rfl
noncomputable def reg57_1 : Array Oper := match Try.f57.body with | some (.seq (.seq _ (.block _ (.loop (.seq (.seq (.region _ ops _) _) _)))) _) => ops | _ => #[]
theorem size57_1 : reg57_1.size = 6 := by kernel_rfl
noncomputable def reg57_3 : Array Oper := match Try.f57.body with | some (.seq (.seq _ (.block _ (.loop (.seq _ (.seq (.block _ (.seq (.seq (.region _ ops _) _) _)) _))))) _) => ops | _ => #[]
theorem size57_3 : reg57_3.size = 6 := by kernel_rfl
noncomputable def reg57_4 : Array Oper := match Try.f57.body with | some (.seq (.seq _ (.block _ (.loop (.seq _ (.seq (.block _ (.seq (.seq _ (.cond _ (.region _ ops _) _)) _)) _))))) _) => ops | _ => #[]
theorem size57_4 : reg57_4.size = 9 := by kernel_rfl
noncomputable def reg57_5 : Array Oper := match Try.f57.body with | some (.seq (.seq _ (.block _ (.loop (.seq _ (.seq (.block _ (.seq _ (.seq (.region _ ops _) _))) _))))) _) => ops | _ => #[]
theorem size57_5 : reg57_5.size = 2 := by kernel_rfl
noncomputable def reg57_6 : Array Oper := match Try.f57.body with | some (.seq (.seq _ (.block _ (.loop (.seq _ (.seq (.block _ (.seq _ (.seq _ (.cond _ (.seq (.region _ ops _) _) _)))) _))))) _) => ops | _ => #[]
theorem size57_6 : reg57_6.size = 2 := by kernel_rfl
noncomputable def reg57_7 : Array Oper := match Try.f57.body with | some (.seq (.seq _ (.block _ (.loop (.seq _ (.seq (.block _ (.seq _ (.seq _ (.cond _ (.seq _ (.region _ ops _)) _)))) _))))) _) => ops | _ => #[]
theorem size57_7 : reg57_7.size = 20 := by kernel_rfl
noncomputable def reg57_2 : Array Oper := match Try.f57.body with | some (.seq (.seq _ (.block _ (.loop (.seq _ (.seq _ (.region _ ops _)))))) _) => ops | _ => #[]
theorem size57_2 : reg57_2.size = 3 := by kernel_rfl
noncomputable def reg57_8 : Array Oper := match Try.f57.body with | some (.seq _ (.seq (.region _ ops _) _)) => ops | _ => #[]
theorem size57_8 : reg57_8.size = 9 := by kernel_rfl
noncomputable def reg57_9 : Array Oper := match Try.f57.body with | some (.seq _ (.seq _ (.cond _ (.region _ ops _) _))) => ops | _ => #[]
theorem size57_9 : reg57_9.size = 9 := by kernel_rfl
theorem code57_is : Try.f57.body = some (.seq (.seq (.region 0 reg57_0 false) (.block 0 (.loop (.seq (.seq (.region 1 reg57_1 false) (.cond (.tmp 10 ) (.skip) (.exit 0))) (.seq (.block 1 (.seq (.seq (.region 3 reg57_3 false) (.cond (.tmp 18 ) (.region 4 reg57_4 false) (.skip))) (.seq (.region 5 reg57_5 false) (.cond (.tmp 28 ) (.seq (.region 6 reg57_6 false) (.region 7 reg57_7 true)) (.skip))))) (.region 2 reg57_2 false)))))) (.seq (.region 8 reg57_8 true) (.cond (.tmp 58 ) (.region 9 reg57_9 false) (.skip)))) := by kernel_rfl

/-- What is asked where a walker notes its number: its block, the board's, the board's list. -/
structure Note (V : Nat → Option Wait) (W B n0 : Nat) (n : Int) (la : Option Addr) (len cap : Nat) (xs : List Value) (w : World) : Prop where
  w0 : w.cell? ⟨W, 0, none⟩ = some (.pointer (some ⟨B, 0, none⟩))
  w1 : w.cell? ⟨W, 1, none⟩ = some (.int .i64 n)
  b0 : w.cell? ⟨B, 0, none⟩ = some (.slice la len cap)
  bz : w.frozen? ⟨B, 0, none⟩ = false
  row : w.ownsRow n0 3 1 (.slice la len cap) len xs
  free : Free V ⟨B, 0, none⟩
  ap : ∀ g, (Value.slice la len cap).ownBlock = some g → Apart V g
  rW : (Value.slice la len cap).ownBlock ≠ some W
  rB : (Value.slice la len cap).ownBlock ≠ some B
  len : len ≤ 1099511627776
  base : n0 ≤ w.heap.size

/-- The list, with the number behind it. -/
structure Noted (n0 : Nat) (n : Int) (la : Option Addr) (len cap : Nat) (xs : List Value) (w : World) (g cap' : Nat) (w3 : World) : Prop where
  row : w3.ownsRow n0 3 1 (.slice (some ⟨g, 0, none⟩) (len + 1) cap') (len + 1) (xs ++ [.int .i64 n])
  grown : (w.alloc (.cells #[.int .i64 n] 3)).grownBy w3 (Value.slice la len cap).ownBlock
  at_ : (Value.slice la len cap).ownBlock = some g ∨ g = (w.alloc (.cells #[.int .i64 n] 3)).heap.size
  lt : g < w3.heap.size

/-- How far the region is. -/
def Ph57 (B n0 : Nat) (n : Int) (la : Option Addr) (len cap : Nat) (xs : List Value) (w : World) (f15 f16 f19 : Bool) (v : Value) (w' : World) : Prop :=
  (f15 = false ∧ f16 = false ∧ f19 = false ∧ ∃ d, w' = w.at d) ∨
  (f15 = true ∧ f16 = false ∧ f19 = false ∧ ∃ d, w' = (w.alloc (.cells #[.int .i64 n] 3)).at d) ∨
  (f16 = true ∧ f15 = true ∧ f19 = false ∧ ∃ g cap' w3 d, Noted n0 n la len cap xs w g cap' w3 ∧ v = .slice (some ⟨g, 0, none⟩) (len + 1) cap' ∧ w' = w3.at d) ∨
  (f19 = true ∧ f15 = true ∧ f16 = true ∧ ∃ g cap' w3 d, Noted n0 n la len cap xs w g cap' w3 ∧ w' = (w3.setCell ⟨B, 0, none⟩ (.slice (some ⟨g, 0, none⟩) (len + 1) cap')).at d)

section
variable {W B n0 : Nat} {n : Int} {la : Option Addr} {len cap : Nat} {xs : List Value} {w : World}
theorem Note.row1 (H : Note V W B n0 n la len cap xs w) : (w.alloc (.cells #[.int .i64 n] 3)).ownsRow n0 3 1 (.slice la len cap) len xs := H.row.kept (World.grownBy_alloc w _ none) (by cases (Value.slice la len cap).ownBlock <;> simp)
theorem note_new (w : World) (n : Int) : ∀ y v, ([.int .i64 n] : List Value)[y]? = some v → (w.alloc (.cells #[.int .i64 n] 3)).cell? ((⟨w.heap.size, 0, none⟩ : Addr).add y) = some v := fun y v hv => by
  rw [add_none, Nat.zero_add]
  refine (cell_of (heap_alloc_new _ _) y).trans ?_
  simpa using hv
theorem Note.keep (H : Note V W B n0 n la len cap xs w) {g cap' : Nat} {w3 : World} (A : Noted n0 n la len cap xs w g cap' w3) {b : Nat} (hb : b < w.heap.size) (hne : (Value.slice la len cap).ownBlock ≠ some b) : w3.heap[b]? = w.heap[b]? := by
  have hs1 : (w.alloc (.cells #[.int .i64 n] 3)).heap.size = w.heap.size + 1 := by simp
  have := H.base
  exact (A.grown.block b (by omega) (fun e => hne e.symm)).trans (heap_new_lt w _ hb)
theorem Note.grown (H : Note V W B n0 n la len cap xs w) {g cap' : Nat} {w3 : World} (A : Noted n0 n la len cap xs w g cap' w3) : w3.cell? ⟨W, 0, none⟩ = some (.pointer (some ⟨B, 0, none⟩)) ∧ w3.cell? ⟨W, 1, none⟩ = some (.int .i64 n) ∧ w3.cell? ⟨B, 0, none⟩ = some (.slice la len cap) ∧ w3.frozen? ⟨B, 0, none⟩ = false := by
  have hW := H.keep A (cell_lt w H.w0) H.rW
  have hB := H.keep A (cell_lt w H.b0) H.rB
  refine ⟨(World.cell?_of_block (a := ⟨W, 0, none⟩) hW).trans H.w0, (World.cell?_of_block (a := ⟨W, 1, none⟩) hW).trans H.w1, (World.cell?_of_block (a := ⟨B, 0, none⟩) hB).trans H.b0, ?_⟩
  have := H.bz
  unfold World.frozen? at this ⊢
  rw [hB]; exact this
theorem Note.reads (H : Note V W B n0 n la len cap xs w) {f15 f16 f19 : Bool} {v : Value} {w' : World} (hp : Ph57 B n0 n la len cap xs w f15 f16 f19 v w') (h19 : f19 ≠ true) : w'.cell? ⟨W, 0, none⟩ = some (.pointer (some ⟨B, 0, none⟩)) ∧ w'.cell? ⟨W, 1, none⟩ = some (.int .i64 n) ∧ w'.cell? ⟨B, 0, none⟩ = some (.slice la len cap) := by
  rcases hp with ⟨_, _, _, d, rfl⟩ | ⟨_, _, _, d, rfl⟩ | ⟨_, _, _, g, cap', w3, d, A, _, rfl⟩ | ⟨h, _⟩
  · exact ⟨H.w0, H.w1, H.b0⟩
  · exact ⟨old_cell (⟨by simp, fun _ hb => heap_new_lt w _ hb⟩) H.w0, old_cell (⟨by simp, fun _ hb => heap_new_lt w _ hb⟩) H.w1, old_cell (⟨by simp, fun _ hb => heap_new_lt w _ hb⟩) H.b0⟩
  · exact ⟨(H.grown A).1, (H.grown A).2.1, (H.grown A).2.2.1⟩
  · exact absurd h h19
end

def tm57 (W : Nat) (S : Value) (i : Int) (u : Nat → Value) : Array Value := #[.pointer (some ⟨W, 0, none⟩), S, u 2, u 3, .int .i64 i, u 5, u 6, u 7, u 8, u 9, u 10, u 11, u 12, u 13, u 14, u 15, u 16, u 17, u 18, u 19, u 20, u 21, u 22, u 23, u 24, u 25, u 26, u 27, u 28, u 29, u 30, u 31, u 32, u 33, u 34, u 35, u 36, u 37, u 38, u 39, u 40, u 41, u 42, u 43, u 44, u 45, u 46, u 47, u 48, u 49, u 50, u 51, u 52, u 53, u 54, u 55, u 56, u 57, u 58, u 59, u 60, u 61, u 62, u 63, u 64, u 65, u 66]

set_option maxHeartbeats 8000000 in
set_option maxRecDepth 100000 in
theorem note57 {Stop : Goroutine → World → Prop} (W B n0 : Nat) (n : Int) (la : Option Addr) (len cap : Nat) (xs : List Value) (S : Value) (i0 : Int) (u0 : Nat → Value) (k : List Item) (cs : List Frame) (w : World) (H : Note V W B n0 n la len cap xs w)
    (hk : ∀ g cap' w3 u, Noted n0 n la len cap xs w g cap' w3 → Walk Try.prog main (DR V) Stop (G ((base 57).at ⟨tm57 W S i0 u, []⟩ (.inRegion reg57_7 [] :: k)) cs) (w3.setCell ⟨B, 0, none⟩ (.slice (some ⟨g, 0, none⟩) (len + 1) cap'))) :
    Walk Try.prog main (DR V) Stop (G ((base 57).at ⟨tm57 W S i0 u0, []⟩ (.code (.region 7 reg57_7 true) :: k)) cs) w := by
  refine Walk.drawnJ (Inv := fun f a w' => ∃ u, a = ⟨tm57 W S i0 u, []⟩ ∧ Facts [31, 32, 33, 34, 35, 36, 37, 38, 39, 40, 41, 42, 43, 44, 45, 46, 2016, 48, 49, 2019] [.pointer (some ⟨W, 0, none⟩), .pointer (some ⟨W, 0, none⟩), .pointer (some ⟨W, 0, none⟩), .pointer (some ⟨B, 0, none⟩), .pointer (some ⟨W, 0, none⟩), .pointer (some ⟨W, 0, none⟩), .pointer (some ⟨W, 0, none⟩), .pointer (some ⟨B, 0, none⟩), .pointer (some ⟨B, 0, none⟩), .pointer (some ⟨B, 0, none⟩), .slice la len cap, .pointer (some ⟨W, 0, none⟩), .pointer (some ⟨W, 0, none⟩), .pointer (some ⟨W, 1, none⟩), .int .i64 n, .slice (some ⟨w.heap.size, 0, none⟩) 1 1, undef, .pointer (some ⟨B, 0, none⟩), .pointer (some ⟨B, 0, none⟩), undef] f u ∧ Ph57 B n0 n la len cap xs w (f 15) (f 16) (f 19) (u 47) w') (by kernel_rfl) (by kernel_rfl) (fun d => ⟨u0, rfl, Facts.none _ _ _, .inl ⟨rfl, rfl, rfl, d, rfl⟩⟩) ?_ ?_
  · rintro f i o a w' ⟨u, rfl, F, hp⟩ hC hfi ho hdeps rest hr
    have hi : i < 20 := by have := (Array.getElem?_eq_some_iff.1 ho).1; rw [size57_7] at this; exact this
    have hall : f 19 = true → ∀ j, j < 19 → f j = true := fun h19 j hj => by
      have d19 := hC.deps h19 (show depB reg57_7 19 [16, 18] = true by kernel_rfl)
      have h16 := d19 16 (by simp)
      have h18 := d19 18 (by simp)
      have d18 := hC.deps h18 (show depB reg57_7 18 [17] = true by kernel_rfl)
      have h17 := d18 17 (by simp)
      have d17 := hC.deps h17 (show depB reg57_7 17 [3] = true by kernel_rfl)
      have h3 := d17 3 (by simp)
      have d16 := hC.deps h16 (show depB reg57_7 16 [10, 15] = true by kernel_rfl)
      have h10 := d16 10 (by simp)
      have h15 := d16 15 (by simp)
      have d15 := hC.deps h15 (show depB reg57_7 15 [14] = true by kernel_rfl)
      have h14 := d15 14 (by simp)
      have d14 := hC.deps h14 (show depB reg57_7 14 [13] = true by kernel_rfl)
      have h13 := d14 13 (by simp)
      have d13 := hC.deps h13 (show depB reg57_7 13 [12] = true by kernel_rfl)
      have h12 := d13 12 (by simp)
      have d12 := hC.deps h12 (show depB reg57_7 12 [11] = true by kernel_rfl)
      have h11 := d12 11 (by simp)
      have d10 := hC.deps h10 (show depB reg57_7 10 [9] = true by kernel_rfl)
      have h9 := d10 9 (by simp)
      have d9 := hC.deps h9 (show depB reg57_7 9 [8] = true by kernel_rfl)
      have h8 := d9 8 (by simp)
      have d8 := hC.deps h8 (show depB reg57_7 8 [7] = true by kernel_rfl)
      have h7 := d8 7 (by simp)
      have d7 := hC.deps h7 (show depB reg57_7 7 [6] = true by kernel_rfl)
      have h6 := d7 6 (by simp)
      have d6 := hC.deps h6 (show depB reg57_7 6 [5] = true by kernel_rfl)
      have h5 := d6 5 (by simp)
      have d5 := hC.deps h5 (show depB reg57_7 5 [4] = true by kernel_rfl)
      have h4 := d5 4 (by simp)
      have d3 := hC.deps h3 (show depB reg57_7 3 [2] = true by kernel_rfl)
      have h2 := d3 2 (by simp)
      have d2 := hC.deps h2 (show depB reg57_7 2 [1] = true by kernel_rfl)
      have h1 := d2 1 (by simp)
      have d1 := hC.deps h1 (show depB reg57_7 1 [0] = true by kernel_rfl)
      have h0 := d1 0 (by simp)
      match j, hj with
      | 0, _ => exact h0
      | 1, _ => exact h1
      | 2, _ => exact h2
      | 3, _ => exact h3
      | 4, _ => exact h4
      | 5, _ => exact h5
      | 6, _ => exact h6
      | 7, _ => exact h7
      | 8, _ => exact h8
      | 9, _ => exact h9
      | 10, _ => exact h10
      | 11, _ => exact h11
      | 12, _ => exact h12
      | 13, _ => exact h13
      | 14, _ => exact h14
      | 15, _ => exact h15
      | 16, _ => exact h16
      | 17, _ => exact h17
      | 18, _ => exact h18
      | j + 19, hj => exact absurd hj (by omega)
    match i, hi with
    | 0, _ =>
      have hrd := H.reads hp (fun h => by have := hall h 0 (by decide); rw [this] at hfi; cases hfi)
      obtain ⟨hW0, hW1, hB0⟩ := hrd
      clear hdeps ho hC
      simp only [tm57] at hr ⊢
      (refine Walk.opq (ho_of (by conv => lhs; whnf) (by kernel_rfl)) (by rfl) (by decide) (fun dd e he => ?_) (fun dd K hK => ?_); (· (simp [go_sem, *] at he; try (subst he; exact evR_read _ _))); go_simp; refine hK _ ?_; clear hK K; try walk_nrm)
      refine hr _ _ ⟨upd u 31 (.pointer (some ⟨W, 0, none⟩)), ?_, F.set (by decide) rfl rfl, by simpa [upd] using hp⟩
      simp [upd]
    | 1, _ =>
      have hd := deps_of (l := [0]) (by kernel_rfl) ho hdeps
      have e31 := F 0 31 _ (hd 0 (by simp)) rfl rfl
      have hrd := H.reads hp (fun h => by have := hall h 1 (by decide); rw [this] at hfi; cases hfi)
      obtain ⟨hW0, hW1, hB0⟩ := hrd
      clear hdeps ho hC
      simp only [tm57] at hr ⊢
      (refine Walk.opq (ho_of (by conv => lhs; whnf) (by kernel_rfl)) (by rfl) (by decide) (fun dd e he => ?_) (fun dd K hK => ?_); (· (simp [go_sem, *] at he; try (subst he; exact evR_read _ _))); go_simp; refine hK _ ?_; clear hK K; try walk_nrm)
      refine hr _ _ ⟨upd u 32 (.pointer (some ⟨W, 0, none⟩)), ?_, F.set (by decide) rfl rfl, by simpa [upd] using hp⟩
      simp [upd, e31]
    | 2, _ =>
      have hd := deps_of (l := [1]) (by kernel_rfl) ho hdeps
      have e32 := F 1 32 _ (hd 1 (by simp)) rfl rfl
      have hrd := H.reads hp (fun h => by have := hall h 2 (by decide); rw [this] at hfi; cases hfi)
      obtain ⟨hW0, hW1, hB0⟩ := hrd
      clear hdeps ho hC
      simp only [tm57] at hr ⊢
      (refine Walk.opq (ho_of (by conv => lhs; whnf) (by kernel_rfl)) (by rfl) (by decide) (fun dd e he => ?_) (fun dd K hK => ?_); (· (simp [go_sem, *] at he; try (subst he; exact evR_read _ _))); go_simp; refine hK _ ?_; clear hK K; try walk_nrm)
      refine hr _ _ ⟨upd u 33 (.pointer (some ⟨W, 0, none⟩)), ?_, F.set (by decide) rfl rfl, by simpa [upd] using hp⟩
      simp [upd, e32]
    | 3, _ =>
      have hd := deps_of (l := [2]) (by kernel_rfl) ho hdeps
      have e33 := F 2 33 _ (hd 2 (by simp)) rfl rfl
      have hrd := H.reads hp (fun h => by have := hall h 3 (by decide); rw [this] at hfi; cases hfi)
      obtain ⟨hW0, hW1, hB0⟩ := hrd
      clear hdeps ho hC
      simp only [tm57] at hr ⊢
      (refine Walk.opq (ho_of (by conv => lhs; whnf) (by kernel_rfl)) (by rfl) (by decide) (fun dd e he => ?_) (fun dd K hK => ?_); (· (simp [go_sem, *] at he; try (subst he; exact evR_read _ _))); go_simp; refine hK _ ?_; clear hK K; try walk_nrm)
      refine hr _ _ ⟨upd u 34 (.pointer (some ⟨B, 0, none⟩)), ?_, F.set (by decide) rfl rfl, by simpa [upd] using hp⟩
      simp [upd, e33]
    | 4, _ =>
      have hrd := H.reads hp (fun h => by have := hall h 4 (by decide); rw [this] at hfi; cases hfi)
      obtain ⟨hW0, hW1, hB0⟩ := hrd
      clear hdeps ho hC
      simp only [tm57] at hr ⊢
      (refine Walk.opq (ho_of (by conv => lhs; whnf) (by kernel_rfl)) (by rfl) (by decide) (fun dd e he => ?_) (fun dd K hK => ?_); (· (simp [go_sem, *] at he; try (subst he; exact evR_read _ _))); go_simp; refine hK _ ?_; clear hK K; try walk_nrm)
      refine hr _ _ ⟨upd u 35 (.pointer (some ⟨W, 0, none⟩)), ?_, F.set (by decide) rfl rfl, by simpa [upd] using hp⟩
      simp [upd]
    | 5, _ =>
      have hd := deps_of (l := [4]) (by kernel_rfl) ho hdeps
      have e35 := F 4 35 _ (hd 4 (by simp)) rfl rfl
      have hrd := H.reads hp (fun h => by have := hall h 5 (by decide); rw [this] at hfi; cases hfi)
      obtain ⟨hW0, hW1, hB0⟩ := hrd
      clear hdeps ho hC
      simp only [tm57] at hr ⊢
      (refine Walk.opq (ho_of (by conv => lhs; whnf) (by kernel_rfl)) (by rfl) (by decide) (fun dd e he => ?_) (fun dd K hK => ?_); (· (simp [go_sem, *] at he; try (subst he; exact evR_read _ _))); go_simp; refine hK _ ?_; clear hK K; try walk_nrm)
      refine hr _ _ ⟨upd u 36 (.pointer (some ⟨W, 0, none⟩)), ?_, F.set (by decide) rfl rfl, by simpa [upd] using hp⟩
      simp [upd, e35]
    | 6, _ =>
      have hd := deps_of (l := [5]) (by kernel_rfl) ho hdeps
      have e36 := F 5 36 _ (hd 5 (by simp)) rfl rfl
      have hrd := H.reads hp (fun h => by have := hall h 6 (by decide); rw [this] at hfi; cases hfi)
      obtain ⟨hW0, hW1, hB0⟩ := hrd
      clear hdeps ho hC
      simp only [tm57] at hr ⊢
      (refine Walk.opq (ho_of (by conv => lhs; whnf) (by kernel_rfl)) (by rfl) (by decide) (fun dd e he => ?_) (fun dd K hK => ?_); (· (simp [go_sem, *] at he; try (subst he; exact evR_read _ _))); go_simp; refine hK _ ?_; clear hK K; try walk_nrm)
      refine hr _ _ ⟨upd u 37 (.pointer (some ⟨W, 0, none⟩)), ?_, F.set (by decide) rfl rfl, by simpa [upd] using hp⟩
      simp [upd, e36]
    | 7, _ =>
      have hd := deps_of (l := [6]) (by kernel_rfl) ho hdeps
      have e37 := F 6 37 _ (hd 6 (by simp)) rfl rfl
      have hrd := H.reads hp (fun h => by have := hall h 7 (by decide); rw [this] at hfi; cases hfi)
      obtain ⟨hW0, hW1, hB0⟩ := hrd
      clear hdeps ho hC
      simp only [tm57] at hr ⊢
      (refine Walk.opq (ho_of (by conv => lhs; whnf) (by kernel_rfl)) (by rfl) (by decide) (fun dd e he => ?_) (fun dd K hK => ?_); (· (simp [go_sem, *] at he; try (subst he; exact evR_read _ _))); go_simp; refine hK _ ?_; clear hK K; try walk_nrm)
      refine hr _ _ ⟨upd u 38 (.pointer (some ⟨B, 0, none⟩)), ?_, F.set (by decide) rfl rfl, by simpa [upd] using hp⟩
      simp [upd, e37]
    | 8, _ =>
      have hd := deps_of (l := [7]) (by kernel_rfl) ho hdeps
      have e38 := F 7 38 _ (hd 7 (by simp)) rfl rfl
      have hrd := H.reads hp (fun h => by have := hall h 8 (by decide); rw [this] at hfi; cases hfi)
      obtain ⟨hW0, hW1, hB0⟩ := hrd
      clear hdeps ho hC
      simp only [tm57] at hr ⊢
      (refine Walk.opq (ho_of (by conv => lhs; whnf) (by kernel_rfl)) (by rfl) (by decide) (fun dd e he => ?_) (fun dd K hK => ?_); (· (simp [go_sem, *] at he; try (subst he; exact evR_read _ _))); go_simp; refine hK _ ?_; clear hK K; try walk_nrm)
      refine hr _ _ ⟨upd u 39 (.pointer (some ⟨B, 0, none⟩)), ?_, F.set (by decide) rfl rfl, by simpa [upd] using hp⟩
      simp [upd, e38]
    | 9, _ =>
      have hd := deps_of (l := [8]) (by kernel_rfl) ho hdeps
      have e39 := F 8 39 _ (hd 8 (by simp)) rfl rfl
      have hrd := H.reads hp (fun h => by have := hall h 9 (by decide); rw [this] at hfi; cases hfi)
      obtain ⟨hW0, hW1, hB0⟩ := hrd
      clear hdeps ho hC
      simp only [tm57] at hr ⊢
      (refine Walk.opq (ho_of (by conv => lhs; whnf) (by kernel_rfl)) (by rfl) (by decide) (fun dd e he => ?_) (fun dd K hK => ?_); (· (simp [go_sem, *] at he; try (subst he; exact evR_read _ _))); go_simp; refine hK _ ?_; clear hK K; try walk_nrm)
      refine hr _ _ ⟨upd u 40 (.pointer (some ⟨B, 0, none⟩)), ?_, F.set (by decide) rfl rfl, by simpa [upd] using hp⟩
      simp [upd, e39]
    | 10, _ =>
      have hd := deps_of (l := [9]) (by kernel_rfl) ho hdeps
      have e40 := F 9 40 _ (hd 9 (by simp)) rfl rfl
      have hrd := H.reads hp (fun h => by have := hall h 10 (by decide); rw [this] at hfi; cases hfi)
      obtain ⟨hW0, hW1, hB0⟩ := hrd
      clear hdeps ho hC
      simp only [tm57] at hr ⊢
      (refine Walk.opq (ho_of (by conv => lhs; whnf) (by kernel_rfl)) (by rfl) (by decide) (fun dd e he => ?_) (fun dd K hK => ?_); (· (simp [go_sem, *] at he; try (subst he; exact evR_read _ _))); go_simp; refine hK _ ?_; clear hK K; try walk_nrm)
      refine hr _ _ ⟨upd u 41 (.slice la len cap), ?_, F.set (by decide) rfl rfl, by simpa [upd] using hp⟩
      simp [upd, e40]
    | 11, _ =>
      have hrd := H.reads hp (fun h => by have := hall h 11 (by decide); rw [this] at hfi; cases hfi)
      obtain ⟨hW0, hW1, hB0⟩ := hrd
      clear hdeps ho hC
      simp only [tm57] at hr ⊢
      (refine Walk.opq (ho_of (by conv => lhs; whnf) (by kernel_rfl)) (by rfl) (by decide) (fun dd e he => ?_) (fun dd K hK => ?_); (· (simp [go_sem, *] at he; try (subst he; exact evR_read _ _))); go_simp; refine hK _ ?_; clear hK K; try walk_nrm)
      refine hr _ _ ⟨upd u 42 (.pointer (some ⟨W, 0, none⟩)), ?_, F.set (by decide) rfl rfl, by simpa [upd] using hp⟩
      simp [upd]
    | 12, _ =>
      have hd := deps_of (l := [11]) (by kernel_rfl) ho hdeps
      have e42 := F 11 42 _ (hd 11 (by simp)) rfl rfl
      have hrd := H.reads hp (fun h => by have := hall h 12 (by decide); rw [this] at hfi; cases hfi)
      obtain ⟨hW0, hW1, hB0⟩ := hrd
      clear hdeps ho hC
      simp only [tm57] at hr ⊢
      (refine Walk.opq (ho_of (by conv => lhs; whnf) (by kernel_rfl)) (by rfl) (by decide) (fun dd e he => ?_) (fun dd K hK => ?_); (· (simp [go_sem, *] at he; try (subst he; exact evR_read _ _))); go_simp; refine hK _ ?_; clear hK K; try walk_nrm)
      refine hr _ _ ⟨upd u 43 (.pointer (some ⟨W, 0, none⟩)), ?_, F.set (by decide) rfl rfl, by simpa [upd] using hp⟩
      simp [upd, e42]
    | 13, _ =>
      have hd := deps_of (l := [12]) (by kernel_rfl) ho hdeps
      have e43 := F 12 43 _ (hd 12 (by simp)) rfl rfl
      have hrd := H.reads hp (fun h => by have := hall h 13 (by decide); rw [this] at hfi; cases hfi)
      obtain ⟨hW0, hW1, hB0⟩ := hrd
      clear hdeps ho hC
      simp only [tm57] at hr ⊢
      (refine Walk.opq (ho_of (by conv => lhs; whnf) (by kernel_rfl)) (by rfl) (by decide) (fun dd e he => ?_) (fun dd K hK => ?_); (· (simp [go_sem, *] at he; try (subst he; exact evR_read _ _))); go_simp; refine hK _ ?_; clear hK K; try walk_nrm)
      refine hr _ _ ⟨upd u 44 (.pointer (some ⟨W, 1, none⟩)), ?_, F.set (by decide) rfl rfl, by simpa [upd] using hp⟩
      simp [upd, e43]
    | 14, _ =>
      have hd := deps_of (l := [13]) (by kernel_rfl) ho hdeps
      have e44 := F 13 44 _ (hd 13 (by simp)) rfl rfl
      have hrd := H.reads hp (fun h => by have := hall h 14 (by decide); rw [this] at hfi; cases hfi)
      obtain ⟨hW0, hW1, hB0⟩ := hrd
      clear hdeps ho hC
      simp only [tm57] at hr ⊢
      (refine Walk.opq (ho_of (by conv => lhs; whnf) (by kernel_rfl)) (by rfl) (by decide) (fun dd e he => ?_) (fun dd K hK => ?_); (· (simp [go_sem, *] at he; try (subst he; exact evR_read _ _))); go_simp; refine hK _ ?_; clear hK K; try walk_nrm)
      refine hr _ _ ⟨upd u 45 (.int .i64 n), ?_, F.set (by decide) rfl rfl, by simpa [upd] using hp⟩
      simp [upd, e44]
    | 15, _ =>
      have hd := deps_of (l := [14]) (by kernel_rfl) ho hdeps
      have e45 := F 14 45 _ (hd 14 (by simp)) rfl rfl
      rcases hp with ⟨h15, h16, h19, d, rfl⟩ | ⟨h15, _⟩ | ⟨_, h15, _⟩ | ⟨_, h15, _⟩
      · refine Walk.back ?_ d
        clear hdeps ho hC
        simp only [tm57] at hr ⊢
        simp only [e45]
        (co_applyP Walk.opw (ho_of (by conv => lhs; whnf) (by kernel_rfl)) (by rfl) (by decide) ?wev1 ?wdr1 ?wrun1; (case' wrun1 => (intro dd K hK; go_simp; simp only [alloc_at', setCell_at']; refine hK _ ?wmore1; clear hK K)); (case wdr1 => exact fun dd es hes => DR.alloc' dd es hes); (case wev1 => (intro dd e he; simp [go_sem, *] at he)); try walk_nrm)
        refine hr _ _ ⟨upd u 46 (.slice (some ⟨w.heap.size, 0, none⟩) 1 1), ?_, F.set (by decide) rfl rfl, .inr (.inl ⟨by simp [upd], by simpa [upd] using h16, by simpa [upd] using h19, _, rfl⟩)⟩
        simp [upd, e45]
      · rw [h15] at hfi; cases hfi
      · rw [h15] at hfi; cases hfi
      · rw [h15] at hfi; cases hfi
    | 16, _ =>
      have hd := deps_of (l := [10, 15]) (by kernel_rfl) ho hdeps
      have e41 := F 10 41 _ (hd 10 (by simp)) rfl rfl
      have e46 := F 15 46 _ (hd 15 (by simp)) rfl rfl
      have h15 := hd 15 (by simp)
      rcases hp with ⟨h15', _⟩ | ⟨_, h16, h19, d, rfl⟩ | ⟨h16, _⟩ | ⟨_, _, h16, _⟩
      · rw [h15'] at h15; cases h15
      · refine Walk.back ?_ d
        clear hdeps ho hC
        simp only [tm57] at hr ⊢
        simp only [e41, e46]
        have hi3 := Option.some_get (show (Try.prog.info? 3).isSome = true by kernel_rfl)
        refine Walk.append (.tmp 41) (.tmp 46) 24 (ho_of (by conv => lhs; whnf) (by kernel_rfl)) (by rfl) (by decide) rfl n0 3 _ (.int .i64 0) 1 8 (by kernel_rfl) hi3.symm (by rfl) (by rfl) (by rfl) (by rfl) (by decide) (.slice la len cap) len xs rfl H.row1 ⟨w.heap.size, 0, none⟩ 1 1 [.int .i64 n] ?_ (by rfl) (note_new w n) (by simp [Value.oneCell']) (by decide) (by have := H.len; simp [maxLen]; omega) (by have := H.len; omega) (by have := H.base; simp; omega) H.ap (fun g cap' w3 hown hg hat hlt => ?_)
        · simp [Act.eval]
        clear hi3
        walk_nrm
        refine hr _ _ ⟨upd (upd u 2016 undef) 47 (.slice (some ⟨g, 0, none⟩) (len + 1) cap'), ?_, Facts.other (F.set (i := 16) (d := 2016) (v := undef) (by decide) rfl rfl) (by decide), .inr (.inr (.inl ⟨by simp [upd], by simpa [upd] using h15, by simpa [upd] using h19, g, cap', w3, w3.drawn, ⟨hown, hg, hat, hlt⟩, by simp [upd], rfl⟩))⟩
        simp [upd, e41, e46]
      · rw [h16] at hfi; cases hfi
      · rw [h16] at hfi; cases hfi
    | 17, _ =>
      have hd := deps_of (l := [0, 1, 2, 3, 4, 5, 6, 7, 8, 9, 10, 11, 12, 13, 14, 15, 16]) (by kernel_rfl) ho hdeps
      have e34 := F 3 34 _ (hd 3 (by simp)) rfl rfl
      have hrd := H.reads hp (fun h => by have := hall h 17 (by decide); rw [this] at hfi; cases hfi)
      obtain ⟨hW0, hW1, hB0⟩ := hrd
      clear hdeps ho hC
      simp only [tm57] at hr ⊢
      (refine Walk.opq (ho_of (by conv => lhs; whnf) (by kernel_rfl)) (by rfl) (by decide) (fun dd e he => ?_) (fun dd K hK => ?_); (· (simp [go_sem, *] at he; try (subst he; exact evR_read _ _))); go_simp; refine hK _ ?_; clear hK K; try walk_nrm)
      refine hr _ _ ⟨upd u 48 (.pointer (some ⟨B, 0, none⟩)), ?_, F.set (by decide) rfl rfl, by simpa [upd] using hp⟩
      simp [upd, e34]
    | 18, _ =>
      have hd := deps_of (l := [0, 1, 2, 3, 4, 5, 6, 7, 8, 9, 10, 11, 12, 13, 14, 15, 16, 17]) (by kernel_rfl) ho hdeps
      have e48 := F 17 48 _ (hd 17 (by simp)) rfl rfl
      have hrd := H.reads hp (fun h => by have := hall h 18 (by decide); rw [this] at hfi; cases hfi)
      obtain ⟨hW0, hW1, hB0⟩ := hrd
      clear hdeps ho hC
      simp only [tm57] at hr ⊢
      (refine Walk.opq (ho_of (by conv => lhs; whnf) (by kernel_rfl)) (by rfl) (by decide) (fun dd e he => ?_) (fun dd K hK => ?_); (· (simp [go_sem, *] at he; try (subst he; exact evR_read _ _))); go_simp; refine hK _ ?_; clear hK K; try walk_nrm)
      refine hr _ _ ⟨upd u 49 (.pointer (some ⟨B, 0, none⟩)), ?_, F.set (by decide) rfl rfl, by simpa [upd] using hp⟩
      simp [upd, e48]
    | 19, _ =>
      have hd := deps_of (l := [0, 1, 2, 3, 4, 5, 6, 7, 8, 9, 10, 11, 12, 13, 14, 15, 16, 18]) (by kernel_rfl) ho hdeps
      have e49 := F 18 49 _ (hd 18 (by simp)) rfl rfl
      have h16 := hd 16 (by simp)
      rcases hp with ⟨_, h16', _⟩ | ⟨_, h16', _⟩ | ⟨_, h15, h19, g, cap', w3, d, A, e47, rfl⟩ | ⟨h19, _⟩
      · rw [h16'] at h16; cases h16
      · rw [h16'] at h16; cases h16
      · refine Walk.back ?_ d
        clear hdeps ho hC
        obtain ⟨_, _, hB3, hBz3⟩ := H.grown A
        simp only [tm57] at hr ⊢
        simp only [e47, e49]
        (co_applyP Walk.opw (ho_of (by conv => lhs; whnf) (by kernel_rfl)) (by rfl) (by decide) ?wev2 ?wdr2 ?wrun2; (case' wrun2 => (intro dd K hK; go_simp; simp only [alloc_at', setCell_at']; refine hK _ ?wmore2; clear hK K)); (case wdr2 => exact fun dd es hes => DR.set' H.free hB3 dd es hes); (case wev2 => (intro dd e he; simp [go_sem, storedEv, ev_store_bool, ev_store_int, ev_store_slice, ev_store_pointer, *] at he; subst he; exact evR_write _ _ H.free)); try walk_nrm)
        refine hr _ _ ⟨upd u 2019 undef, ?_, F.set (by decide) rfl rfl, .inr (.inr (.inr ⟨by simp [upd], by simpa [upd] using h15, by simpa [upd] using h16, g, cap', w3, _, A, rfl⟩))⟩
        simp [upd, e47, e49]
      · rw [h19] at hfi; cases hfi
  · rintro f a w' ⟨u, rfl, F, hp⟩ hall
    have h19 := hall 19 (by rw [size57_7]; decide)
    rcases hp with ⟨_, _, h, _⟩ | ⟨_, _, h, _⟩ | ⟨_, _, h, _⟩ | ⟨_, _, _, g, cap', w3, d, A, rfl⟩
    · rw [h19] at h; cases h
    · rw [h19] at h; cases h
    · rw [h19] at h; cases h
    · exact (hk g cap' w3 u A).back d
end Go.Proofs.Ytgiiicdpbdfemaa
end

/- The statement's side: a walker's loop. -/
section
namespace Go.Proofs.Ytgiiicdpbdfemaa
open Go.Conc Go.RowKit Go.Relay
open Go.ConcN (upd upd_ne upd_same)

variable {main : Bool} {V : Nat → Option Wait}

set_option maxHeartbeats 8000000 in
set_option maxRecDepth 100000 in
theorem rd57_8 {Stop : Goroutine → World → Prop} (W : Nat) (S : Value) (i0 steps after : Int) (k : List Item) (cs : List Frame) (u0 : Nat → Value) (w : World) (h2 : w.cell? ⟨W, 2, none⟩ = some (.int .i64 steps)) (h3 : w.cell? ⟨W, 3, none⟩ = some (.int .i64 after))
    (hk : ∀ u : Nat → Value, u 58 = .bool (after == steps) → Walk Try.prog main (DR V) Stop (G ((base 57).at ⟨tm57 W S i0 u, []⟩ (.inRegion reg57_8 [] :: k)) cs) w) :
    Walk Try.prog main (DR V) Stop (G ((base 57).at ⟨tm57 W S i0 u0, []⟩ (.code (.region 8 reg57_8 true) :: k)) cs) w := by
  refine Walk.drawnI (Inv := fun f a w' => ∃ u, a = ⟨tm57 W S i0 u, []⟩ ∧ Facts [50, 51, 52, 53, 54, 55, 56, 57, 58] [.pointer (some ⟨W, 0, none⟩), .pointer (some ⟨W, 0, none⟩), .pointer (some ⟨W, 3, none⟩), .int .i64 after, .pointer (some ⟨W, 0, none⟩), .pointer (some ⟨W, 0, none⟩), .pointer (some ⟨W, 2, none⟩), .int .i64 steps, .bool (after == steps)] f u ∧ ∃ d, w' = w.at d) (by kernel_rfl) (by kernel_rfl) (fun d => ⟨u0, rfl, Facts.none _ _ _, d, rfl⟩) ?_ ?_
  · rintro f i o a w' ⟨u, rfl, F, d, rfl⟩ hfi ho hdeps rest hr
    refine Walk.back ?_ d
    have hi : i < 9 := by have := (Array.getElem?_eq_some_iff.1 ho).1; rw [size57_8] at this; exact this
    match i, hi with
    | 0, _ =>
      clear hdeps ho hfi
      simp only [tm57] at hr ⊢
      first | ((refine Walk.opq (ho_of (by conv => lhs; whnf) (by kernel_rfl)) (by rfl) (by decide) (fun dd e he => ?_) (fun dd K hK => ?_); (· (simp [go_sem, *] at he; try (subst he; exact evR_read _ _))); go_simp; refine hK _ ?_; clear hK K; try walk_nrm); refine hr _ _ ⟨upd u 50 (.pointer (some ⟨W, 0, none⟩)), ?_, F.set (by decide) rfl rfl, w.drawn, rfl⟩) | ((refine Walk.ctl rfl (fun w => stepG_unwanted (ho_of (by conv => lhs; whnf) (by kernel_rfl)) (by rfl)) ?_; walk_nrm); refine hr _ _ ⟨upd u 50 undef, ?_, F.set (by decide) rfl rfl, w.drawn, rfl⟩)
      simp [upd]
    | 1, _ =>
      have hd := deps_of (l := [0]) (by kernel_rfl) ho hdeps
      have e50 := F 0 50 _ (hd 0 (by simp)) rfl rfl
      clear hdeps ho hfi
      simp only [tm57] at hr ⊢
      simp only [e50]
      first | ((refine Walk.opq (ho_of (by conv => lhs; whnf) (by kernel_rfl)) (by rfl) (by decide) (fun dd e he => ?_) (fun dd K hK => ?_); (· (simp [go_sem, *] at he; try (subst he; exact evR_read _ _))); go_simp; refine hK _ ?_; clear hK K; try walk_nrm); refine hr _ _ ⟨upd u 51 (.pointer (some ⟨W, 0, none⟩)), ?_, F.set (by decide) rfl rfl, w.drawn, rfl⟩) | ((refine Walk.ctl rfl (fun w => stepG_unwanted (ho_of (by conv => lhs; whnf) (by kernel_rfl)) (by rfl)) ?_; walk_nrm); refine hr _ _ ⟨upd u 51 undef, ?_, F.set (by decide) rfl rfl, w.drawn, rfl⟩)
      simp [upd, e50]
    | 2, _ =>
      have hd := deps_of (l := [1]) (by kernel_rfl) ho hdeps
      have e51 := F 1 51 _ (hd 1 (by simp)) rfl rfl
      clear hdeps ho hfi
      simp only [tm57] at hr ⊢
      simp only [e51]
      first | ((refine Walk.opq (ho_of (by conv => lhs; whnf) (by kernel_rfl)) (by rfl) (by decide) (fun dd e he => ?_) (fun dd K hK => ?_); (· (simp [go_sem, *] at he; try (subst he; exact evR_read _ _))); go_simp; refine hK _ ?_; clear hK K; try walk_nrm); refine hr _ _ ⟨upd u 52 (.pointer (some ⟨W, 3, none⟩)), ?_, F.set (by decide) rfl rfl, w.drawn, rfl⟩) | ((refine Walk.ctl rfl (fun w => stepG_unwanted (ho_of (by conv => lhs; whnf) (by kernel_rfl)) (by rfl)) ?_; walk_nrm); refine hr _ _ ⟨upd u 52 undef, ?_, F.set (by decide) rfl rfl, w.drawn, rfl⟩)
      simp [upd, e51]
    | 3, _ =>
      have hd := deps_of (l := [2]) (by kernel_rfl) ho hdeps
      have e52 := F 2 52 _ (hd 2 (by simp)) rfl rfl
      clear hdeps ho hfi
      simp only [tm57] at hr ⊢
      simp only [e52]
      first | ((refine Walk.opq (ho_of (by conv => lhs; whnf) (by kernel_rfl)) (by rfl) (by decide) (fun dd e he => ?_) (fun dd K hK => ?_); (· (simp [go_sem, *] at he; try (subst he; exact evR_read _ _))); go_simp; refine hK _ ?_; clear hK K; try walk_nrm); refine hr _ _ ⟨upd u 53 (.int .i64 after), ?_, F.set (by decide) rfl rfl, w.drawn, rfl⟩) | ((refine Walk.ctl rfl (fun w => stepG_unwanted (ho_of (by conv => lhs; whnf) (by kernel_rfl)) (by rfl)) ?_; walk_nrm); refine hr _ _ ⟨upd u 53 undef, ?_, F.set (by decide) rfl rfl, w.drawn, rfl⟩)
      simp [upd, e52]
    | 4, _ =>
      clear hdeps ho hfi
      simp only [tm57] at hr ⊢
      first | ((refine Walk.opq (ho_of (by conv => lhs; whnf) (by kernel_rfl)) (by rfl) (by decide) (fun dd e he => ?_) (fun dd K hK => ?_); (· (simp [go_sem, *] at he; try (subst he; exact evR_read _ _))); go_simp; refine hK _ ?_; clear hK K; try walk_nrm); refine hr _ _ ⟨upd u 54 (.pointer (some ⟨W, 0, none⟩)), ?_, F.set (by decide) rfl rfl, w.drawn, rfl⟩) | ((refine Walk.ctl rfl (fun w => stepG_unwanted (ho_of (by conv => lhs; whnf) (by kernel_rfl)) (by rfl)) ?_; walk_nrm); refine hr _ _ ⟨upd u 54 undef, ?_, F.set (by decide) rfl rfl, w.drawn, rfl⟩)
      simp [upd]
    | 5, _ =>
      have hd := deps_of (l := [4]) (by kernel_rfl) ho hdeps
      have e54 := F 4 54 _ (hd 4 (by simp)) rfl rfl
      clear hdeps ho hfi
      simp only [tm57] at hr ⊢
      simp only [e54]
      first | ((refine Walk.opq (ho_of (by conv => lhs; whnf) (by kernel_rfl)) (by rfl) (by decide) (fun dd e he => ?_) (fun dd K hK => ?_); (· (simp [go_sem, *] at he; try (subst he; exact evR_read _ _))); go_simp; refine hK _ ?_; clear hK K; try walk_nrm); refine hr _ _ ⟨upd u 55 (.pointer (some ⟨W, 0, none⟩)), ?_, F.set (by decide) rfl rfl, w.drawn, rfl⟩) | ((refine Walk.ctl rfl (fun w => stepG_unwanted (ho_of (by conv => lhs; whnf) (by kernel_rfl)) (by rfl)) ?_; walk_nrm); refine hr _ _ ⟨upd u 55 undef, ?_, F.set (by decide) rfl rfl, w.drawn, rfl⟩)
      simp [upd, e54]
    | 6, _ =>
      have hd := deps_of (l := [5]) (by kernel_rfl) ho hdeps
      have e55 := F 5 55 _ (hd 5 (by simp)) rfl rfl
      clear hdeps ho hfi
      simp only [tm57] at hr ⊢
      simp only [e55]
      first | ((refine Walk.opq (ho_of (by conv => lhs; whnf) (by kernel_rfl)) (by rfl) (by decide) (fun dd e he => ?_) (fun dd K hK => ?_); (· (simp [go_sem, *] at he; try (subst he; exact evR_read _ _))); go_simp; refine hK _ ?_; clear hK K; try walk_nrm); refine hr _ _ ⟨upd u 56 (.pointer (some ⟨W, 2, none⟩)), ?_, F.set (by decide) rfl rfl, w.drawn, rfl⟩) | ((refine Walk.ctl rfl (fun w => stepG_unwanted (ho_of (by conv => lhs; whnf) (by kernel_rfl)) (by rfl)) ?_; walk_nrm); refine hr _ _ ⟨upd u 56 undef, ?_, F.set (by decide) rfl rfl, w.drawn, rfl⟩)
      simp [upd, e55]
    | 7, _ =>
      have hd := deps_of (l := [6]) (by kernel_rfl) ho hdeps
      have e56 := F 6 56 _ (hd 6 (by simp)) rfl rfl
      clear hdeps ho hfi
      simp only [tm57] at hr ⊢
      simp only [e56]
      first | ((refine Walk.opq (ho_of (by conv => lhs; whnf) (by kernel_rfl)) (by rfl) (by decide) (fun dd e he => ?_) (fun dd K hK => ?_); (· (simp [go_sem, *] at he; try (subst he; exact evR_read _ _))); go_simp; refine hK _ ?_; clear hK K; try walk_nrm); refine hr _ _ ⟨upd u 57 (.int .i64 steps), ?_, F.set (by decide) rfl rfl, w.drawn, rfl⟩) | ((refine Walk.ctl rfl (fun w => stepG_unwanted (ho_of (by conv => lhs; whnf) (by kernel_rfl)) (by rfl)) ?_; walk_nrm); refine hr _ _ ⟨upd u 57 undef, ?_, F.set (by decide) rfl rfl, w.drawn, rfl⟩)
      simp [upd, e56]
    | 8, _ =>
      have hd := deps_of (l := [3, 7]) (by kernel_rfl) ho hdeps
      have e53 := F 3 53 _ (hd 3 (by simp)) rfl rfl
      have e57 := F 7 57 _ (hd 7 (by simp)) rfl rfl
      clear hdeps ho hfi
      simp only [tm57] at hr ⊢
      simp only [e53, e57]
      first | ((refine Walk.opq (ho_of (by conv => lhs; whnf) (by kernel_rfl)) (by rfl) (by decide) (fun dd e he => ?_) (fun dd K hK => ?_); (· (simp [go_sem, *] at he; try (subst he; exact evR_read _ _))); go_simp; refine hK _ ?_; clear hK K; try walk_nrm); refine hr _ _ ⟨upd u 58 (.bool (after == steps)), ?_, F.set (by decide) rfl rfl, w.drawn, rfl⟩) | ((refine Walk.ctl rfl (fun w => stepG_unwanted (ho_of (by conv => lhs; whnf) (by kernel_rfl)) (by rfl)) ?_; walk_nrm); refine hr _ _ ⟨upd u 58 undef, ?_, F.set (by decide) rfl rfl, w.drawn, rfl⟩)
      simp [upd, e53, e57]
  · rintro f a w' ⟨u, rfl, F, d, rfl⟩ hall
    exact (hk u (F 8 58 _ (hall 8 (by rw [size57_8]; decide)) rfl rfl)).back d


noncomputable def hd57 (W : Nat) (S : Value) (i : Int) (u : Nat → Value) : Frame :=
  (base 57).at { tmps := #[.pointer (some ⟨W, 0, none⟩), S, u 2, u 3, .int .i64 i, u 5, u 6, u 7, u 8, u 9, u 10, u 11, u 12, u 13, u 14, u 15, u 16, u 17, u 18, u 19, u 20, u 21, u 22, u 23, u 24, u 25, u 26, u 27, u 28, u 29, u 30, u 31, u 32, u 33, u 34, u 35, u 36, u 37, u 38, u 39, u 40, u 41, u 42, u 43, u 44, u 45, u 46, u 47, u 48, u 49, u 50, u 51, u 52, u 53, u 54, u 55, u 56, u 57, u 58, u 59, u 60, u 61, u 62, u 63, u 64, u 65, u 66], defers := [] } [.code (.seq (.seq (.region 1 reg57_1 false) (.cond (.tmp 10 ) (.skip) (.exit 0))) (.seq (.block 1 (.seq (.seq (.region 3 reg57_3 false) (.cond (.tmp 18 ) (.region 4 reg57_4 false) (.skip))) (.seq (.region 5 reg57_5 false) (.cond (.tmp 28 ) (.seq (.region 6 reg57_6 false) (.region 7 reg57_7 true)) (.skip))))) (.region 2 reg57_2 false))), .inLoop (.seq (.seq (.region 1 reg57_1 false) (.cond (.tmp 10 ) (.skip) (.exit 0))) (.seq (.block 1 (.seq (.seq (.region 3 reg57_3 false) (.cond (.tmp 18 ) (.region 4 reg57_4 false) (.skip))) (.seq (.region 5 reg57_5 false) (.cond (.tmp 28 ) (.seq (.region 6 reg57_6 false) (.region 7 reg57_7 true)) (.skip))))) (.region 2 reg57_2 false))), .inBlock 0, .code (.seq (.region 8 reg57_8 true) (.cond (.tmp 58 ) (.region 9 reg57_9 false) (.skip)))]

theorem und115 : ∃ ms, Try.prog.underlying 115 = some (.interface ms) := by
  have h : (Try.prog.underlying 115).any (fun | .interface _ => true | _ => false) = true := by kernel_rfl
  cases e : Try.prog.underlying 115 with
  | none => rw [e] at h; cases h
  | some x => rw [e] at h; cases x <;> first | exact ⟨_, rfl⟩ | cases h

set_option maxHeartbeats 8000000 in
set_option maxRecDepth 100000 in
theorem walk57_in (W : Nat) (S : Value) (cs : List Frame) (w : World) :
    Walk Try.prog main (DR V) (fun g w' => (∃ u, g = G (hd57 W S 0 u) cs) ∧ ∃ d, w' = w.at d) (G (Frame.enter Try.prog 57 #[.pointer (some ⟨W, 0, none⟩), S] .normal) cs) w := by
  rw [enter_at _ Try.func57 code57_is]
  simp only [Try.ntmps57, List.size_toArray, List.length_cons, List.length_nil, Nat.reduceAdd, Nat.reduceSub, Array.replicate_succ, Array.replicate_zero, List.push_toArray, List.append_toArray, List.nil_append, List.cons_append]
  repeat (first | (refine Walk.c rfl ?_) | (refine Walk.cRet ?_) | (refine Walk.cEnd ?_) | (refine Walk.cReg ?_; simp only [size57_0, size57_1, size57_3, size57_4, size57_5, size57_6, size57_7, size57_2, size57_8, size57_9, List.range, List.range.loop]) | (refine Walk.opq (ho_of (by conv => lhs; whnf) (by kernel_rfl)) (by rfl) (by decide) (fun dd e he => ?_) (fun dd K hK => ?_); (· (simp [go_sem, *] at he; try (subst he; exact evR_read _ _))); go_simp; refine hK _ ?_; clear hK K; try walk_nrm) | (refine Walk.ctl rfl (fun w => stepG_unwanted (ho_of (by conv => lhs; whnf) (by kernel_rfl)) (by rfl)) ?_; walk_nrm))
  refine Walk.ctl rfl (fun w => stepG_loop) ?_
  refine .stop fun d => ⟨at_slots ?_, d, rfl⟩
  simp only [hd57]
  rfl

/-- Where a walker is about to call Step. -/
noncomputable def at57 (W : Nat) (S : Value) (i : Int) (u : Nat → Value) : Act := ⟨#[.pointer (some ⟨W, 0, none⟩), S, u 2, u 3, .int .i64 i, u 5, u 6, u 7, u 8, u 9, u 10, u 11, u 12, u 13, u 14, u 15, u 16, u 17, u 18, u 19, u 20, u 21, u 22, u 23, u 24, u 25, u 26, u 27, u 28, S, u 30, u 31, u 32, u 33, u 34, u 35, u 36, u 37, u 38, u 39, u 40, u 41, u 42, u 43, u 44, u 45, u 46, u 47, u 48, u 49, u 50, u 51, u 52, u 53, u 54, u 55, u 56, u 57, u 58, u 59, u 60, u 61, u 62, u 63, u 64, u 65, u 66], []⟩
noncomputable def todo57 : List Item := [.code (.seq (.seq (.region 1 reg57_1 false) (.cond (.tmp 10 ) (.skip) (.exit 0))) (.seq (.block 1 (.seq (.seq (.region 3 reg57_3 false) (.cond (.tmp 18 ) (.region 4 reg57_4 false) (.skip))) (.seq (.region 5 reg57_5 false) (.cond (.tmp 28 ) (.seq (.region 6 reg57_6 false) (.region 7 reg57_7 true)) (.skip))))) (.region 2 reg57_2 false))), .inLoop (.seq (.seq (.region 1 reg57_1 false) (.cond (.tmp 10 ) (.skip) (.exit 0))) (.seq (.block 1 (.seq (.seq (.region 3 reg57_3 false) (.cond (.tmp 18 ) (.region 4 reg57_4 false) (.skip))) (.seq (.region 5 reg57_5 false) (.cond (.tmp 28 ) (.seq (.region 6 reg57_6 false) (.region 7 reg57_7 true)) (.skip))))) (.region 2 reg57_2 false))), .inBlock 0, .code (.seq (.region 8 reg57_8 true) (.cond (.tmp 58 ) (.region 9 reg57_9 false) (.skip)))]
noncomputable def k57 : List Item := [.code (.region 7 reg57_7 true), .inBlock 1, .code (.region 2 reg57_2 false)] ++ todo57.drop 1

set_option maxHeartbeats 8000000 in
set_option maxRecDepth 100000 in
theorem walk57_more (W : Nat) (t : TypeId) (v : Value) (i steps after : Int) (u : Nat → Value) (cs : List Frame) (w : World) (h2 : w.cell? ⟨W, 2, none⟩ = some (.int .i64 steps)) (h3 : w.cell? ⟨W, 3, none⟩ = some (.int .i64 after)) (hi : i < steps) (ha : i ≠ after) :
    Walk Try.prog main (DR V) (fun g w' => (∃ u', g = G ((base 57).at (at57 W (.iface t v) i u') (.inRegion reg57_6 [1] :: k57)) cs) ∧ ∃ d, w' = w.at d) (G (hd57 W (.iface t v) i u) cs) w := by
  obtain ⟨ms, h115⟩ := und115
  have q1 := fun w => run_neq_iface (P := Try.prog) (w := w) 115 t v h115
  have q2 := fun w es => ev_neq_iface (P := Try.prog) (w := w) 115 t v es h115
  have d1 : decide (i < steps) = true := decide_eq_true hi
  have d2 : (i == after) = false := by simpa using ha
  have d3 : decide (i = after) = false := decide_eq_false ha
  conv => arg 5; unfold hd57
  repeat (first | (refine Walk.c rfl ?_) | (refine Walk.cRet ?_) | (refine Walk.cEnd ?_) | (refine Walk.cReg ?_; simp only [size57_0, size57_1, size57_3, size57_4, size57_5, size57_6, size57_7, size57_2, size57_8, size57_9, List.range, List.range.loop]) | (refine Walk.opq (ho_of (by conv => lhs; whnf) (by kernel_rfl)) (by rfl) (by decide) (fun dd e he => ?_) (fun dd K hK => ?_); (· (simp [go_sem, *] at he; try (subst he; exact evR_read _ _))); go_simp; refine hK _ ?_; clear hK K; try walk_nrm) | (refine Walk.ctl rfl (fun w => stepG_unwanted (ho_of (by conv => lhs; whnf) (by kernel_rfl)) (by rfl)) ?_; walk_nrm))
  refine .stop fun d => ⟨at_slots (F := fun u => G ((base 57).at (at57 W (.iface t v) i u) (.inRegion reg57_6 [1] :: k57)) cs) ?_, d, rfl⟩
  simp only [at57, k57, todo57, hd57]
  rfl

set_option maxHeartbeats 8000000 in
set_option maxRecDepth 100000 in
theorem walk57_break (W : Nat) (S : Value) (i steps n : Int) (u : Nat → Value) (c : Frame) (cs : List Frame) (w : World) (h1 : w.cell? ⟨W, 1, none⟩ = some (.int .i64 n)) (h2 : w.cell? ⟨W, 2, none⟩ = some (.int .i64 steps)) (h3 : w.cell? ⟨W, 3, none⟩ = some (.int .i64 i)) (hi : i < steps) :
    Walk Try.prog main (DR V) (fun g w' => (∃ t v, t ≠ 147 ∧ g = G (c.raise [{ v := .iface t v, recovered := false }]) cs) ∧ ∃ d, w' = w.at d) (G (hd57 W S i u) (c :: cs)) w := by
  have d1 : decide (i < steps) = true := decide_eq_true hi
  conv => arg 5; unfold hd57
  repeat (first | (refine Walk.c rfl ?_) | (refine Walk.cRet ?_) | (refine Walk.cEnd ?_) | (refine Walk.cReg ?_; simp only [size57_0, size57_1, size57_3, size57_4, size57_5, size57_6, size57_7, size57_2, size57_8, size57_9, List.range, List.range.loop]) | (refine Walk.opq (ho_of (by conv => lhs; whnf) (by kernel_rfl)) (by rfl) (by decide) (fun dd e he => ?_) (fun dd K hK => ?_); (· (simp [go_sem, *] at he; try (subst he; exact evR_read _ _))); go_simp; refine hK _ ?_; clear hK K; try walk_nrm) | (refine Walk.ctl rfl (fun w => stepG_unwanted (ho_of (by conv => lhs; whnf) (by kernel_rfl)) (by rfl)) ?_; walk_nrm))
  refine Walk.callE (ho_of (by conv => lhs; whnf) (by kernel_rfl)) (by rfl) (by decide) rfl Try.func66 (by kernel_rfl) (by rfl) ?_
  walk_nrm
  refine (beyond_panics _ w _ _).then ?_
  rintro g w' ⟨⟨t, v, ht, rfl⟩, d, rfl⟩
  refine Walk.back ?_ d
  rw [Frame.raise_at]
  refine Walk.ctl rfl (fun w => stepG_pop rfl rfl (by kernel_rfl)) ?_
  exact .stop fun d => ⟨⟨t, v, ht, rfl⟩, d, rfl⟩

set_option maxHeartbeats 8000000 in
set_option maxRecDepth 100000 in
theorem walk57_end (W : Nat) (S : Value) (i steps after n : Int) (u : Nat → Value) (c : Frame) (cs : List Frame) (w : World) (h1 : w.cell? ⟨W, 1, none⟩ = some (.int .i64 n)) (h2 : w.cell? ⟨W, 2, none⟩ = some (.int .i64 steps)) (h3 : w.cell? ⟨W, 3, none⟩ = some (.int .i64 after)) (hi : steps ≤ i) :
    Walk Try.prog main (DR V) (fun g w' => ((after = steps ∧ ∃ t v, t ≠ 147 ∧ g = G (c.raise [{ v := .iface t v, recovered := false }]) cs) ∨ (after ≠ steps ∧ g = G (c.finish (.tuple #[])) cs)) ∧ ∃ d, w' = w.at d) (G (hd57 W S i u) (c :: cs)) w := by
  have d1 : decide (i < steps) = false := decide_eq_false (by omega)
  conv => arg 5; unfold hd57
  repeat (first | (refine Walk.c rfl ?_) | (refine Walk.cRet ?_) | (refine Walk.cEnd ?_) | (refine Walk.cReg ?_; simp only [size57_0, size57_1, size57_3, size57_4, size57_5, size57_6, size57_7, size57_2, size57_8, size57_9, List.range, List.range.loop]) | (refine Walk.opq (ho_of (by conv => lhs; whnf) (by kernel_rfl)) (by rfl) (by decide) (fun dd e he => ?_) (fun dd K hK => ?_); (· (simp [go_sem, *] at he; try (subst he; exact evR_read _ _))); go_simp; refine hK _ ?_; clear hK K; try walk_nrm) | (refine Walk.ctl rfl (fun w => stepG_unwanted (ho_of (by conv => lhs; whnf) (by kernel_rfl)) (by rfl)) ?_; walk_nrm))
  refine slots_walk (F := fun u => G ((base 57).at ⟨tm57 W S i u, []⟩ (.code (.region 8 reg57_8 true) :: [.code (.cond (.tmp 58) (.region 9 reg57_9 false) .skip)])) (c :: cs)) (fun u => rd57_8 W S i steps after _ (c :: cs) u w h2 h3 fun u e => ?_) (by simp only [tm57]; rfl)
  by_cases ha : after = steps
  · have e : u 58 = .bool true := by rw [e]; simp [ha]
    simp only [tm57]
    rw [e]
    clear e
    repeat (first | (refine Walk.c rfl ?_) | (refine Walk.cRet ?_) | (refine Walk.cEnd ?_) | (refine Walk.cReg ?_; simp only [size57_0, size57_1, size57_3, size57_4, size57_5, size57_6, size57_7, size57_2, size57_8, size57_9, List.range, List.range.loop]) | (refine Walk.opq (ho_of (by conv => lhs; whnf) (by kernel_rfl)) (by rfl) (by decide) (fun dd e he => ?_) (fun dd K hK => ?_); (· (simp [go_sem, *] at he; try (subst he; exact evR_read _ _))); go_simp; refine hK _ ?_; clear hK K; try walk_nrm) | (refine Walk.ctl rfl (fun w => stepG_unwanted (ho_of (by conv => lhs; whnf) (by kernel_rfl)) (by rfl)) ?_; walk_nrm))
    refine Walk.callE (ho_of (by conv => lhs; whnf) (by kernel_rfl)) (by rfl) (by decide) rfl Try.func66 (by kernel_rfl) (by rfl) ?_
    walk_nrm
    refine (beyond_panics _ w _ _).then ?_
    rintro g w' ⟨⟨t, v, ht, rfl⟩, d, rfl⟩
    refine Walk.back ?_ d
    rw [Frame.raise_at]
    refine Walk.ctl rfl (fun w => stepG_pop rfl rfl (by kernel_rfl)) ?_
    exact .stop fun d => ⟨.inl ⟨ha, t, v, ht, rfl⟩, d, rfl⟩
  · have e : u 58 = .bool false := by rw [e]; simp [ha]
    simp only [tm57]
    rw [e]
    clear e
    repeat (first | (refine Walk.c rfl ?_) | (refine Walk.cRet ?_) | (refine Walk.cEnd ?_) | (refine Walk.cReg ?_; simp only [size57_0, size57_1, size57_3, size57_4, size57_5, size57_6, size57_7, size57_2, size57_8, size57_9, List.range, List.range.loop]) | (refine Walk.opq (ho_of (by conv => lhs; whnf) (by kernel_rfl)) (by rfl) (by decide) (fun dd e he => ?_) (fun dd K hK => ?_); (· (simp [go_sem, *] at he; try (subst he; exact evR_read _ _))); go_simp; refine hK _ ?_; clear hK K; try walk_nrm) | (refine Walk.ctl rfl (fun w => stepG_unwanted (ho_of (by conv => lhs; whnf) (by kernel_rfl)) (by rfl)) ?_; walk_nrm))
    exact Walk.ctl rfl (fun w => stepG_leave rfl rfl Try.func57 (results_none rfl _ _ w) (events_results_none rfl _ _)) (.stop fun d => ⟨.inr ⟨ha, rfl⟩, d, rfl⟩)
end Go.Proofs.Ytgiiicdpbdfemaa
end

/- The statement's side: a walker behind its Step. -/
section
namespace Go.Proofs.Ytgiiicdpbdfemaa
open Go.Conc Go.RowKit Go.Relay
open Go.ConcN (upd upd_ne upd_same)

variable {main : Bool} {V : Nat → Option Wait}

set_option maxHeartbeats 8000000 in
set_option maxRecDepth 100000 in
theorem walk57_back (W B n0 : Nat) (n : Int) (la : Option Addr) (len cap : Nat) (xs : List Value) (S : Value) (i : Int) (u : Nat → Value) (cs : List Frame) (w : World) (H : Note V W B n0 n la len cap xs w) (hi0 : 0 ≤ i) (hi1 : i < 32) :
    Walk Try.prog main (DR V) (fun g' w' => ∃ g cap' w3, Noted n0 n la len cap xs w g cap' w3 ∧ (∃ u', g' = G (hd57 W S (i + 1) u') cs) ∧ ∃ d, w' = (w3.setCell ⟨B, 0, none⟩ (.slice (some ⟨g, 0, none⟩) (len + 1) cap')).at d)
      (G (((base 57).at (at57 W S i u) (.inRegion reg57_6 [1] :: k57)).finish (.tuple #[])) cs) w := by
  have hw1 : IntKind.wrap .i64 (i + 1) = i + 1 := by rw [IntKind.wrap_i64]; omega
  rw [Frame.finish_at]
  simp only [at57, k57, todo57, hd57]
  walk_nrm
  refine Walk.ctl rfl (fun w => stepG_region_end) ?_
  refine slots_walk (F := fun u => G ((base 57).at ⟨tm57 W S i u, []⟩ (.code (.region 7 reg57_7 true) :: ([.inBlock 1, .code (.region 2 reg57_2 false)] ++ todo57.drop 1))) cs) (fun u => note57 W B n0 n la len cap xs S i u _ cs w H fun g cap' w3 u A => ?_) (by simp only [tm57, todo57, hd57]; rfl)
  simp only [tm57, todo57, hd57]
  clear H
  refine Walk.ctl rfl (fun w => stepG_region_end) ?_
  simp only [List.cons_append, List.nil_append, List.drop_succ_cons, List.drop_zero]
  repeat (first | (refine Walk.c rfl ?_) | (refine Walk.cRet ?_) | (refine Walk.cEnd ?_) | (refine Walk.cReg ?_; simp only [size57_0, size57_1, size57_3, size57_4, size57_5, size57_6, size57_7, size57_2, size57_8, size57_9, List.range, List.range.loop]) | (refine Walk.opq (ho_of (by conv => lhs; whnf) (by kernel_rfl)) (by rfl) (by decide) (fun dd e he => ?_) (fun dd K hK => ?_); (· (simp [go_sem, *] at he; try (subst he; exact evR_read _ _))); go_simp; refine hK _ ?_; clear hK K; try walk_nrm) | (refine Walk.ctl rfl (fun w => stepG_unwanted (ho_of (by conv => lhs; whnf) (by kernel_rfl)) (by rfl)) ?_; walk_nrm))
  refine Walk.ctl rfl (fun w => stepG_inLoop) ?_
  refine .stop fun d => ⟨g, cap', w3, A, at_slots ?_, d, rfl⟩
  simp only [hd57]
  rfl

end Go.Proofs.Ytgiiicdpbdfemaa
end

/- Walkers as the threads of a run: what is known of them, and that each works as it says. -/
section
namespace Go.Proofs.Ytgiiicdpbdfemaa
open Go.Conc Go.RowKit Go.Relay
open Go.ConcN (upd upd_ne upd_same)

/-- Walks: which are nil; how many steps each does, and behind how many it panics. -/
structure Wlk where
  nl : Nat → Bool
  st : Nat → Int
  af : Nat → Int
/-- The walkers of a run: how many, the board's block, each one's block; what else stands. -/
structure WG where
  n : Nat
  B : Nat
  W : Nat → Nat
  s : Wlk
  ro : Nat → Option Obj

/-- Where they are: how many steps each has done, who has ended, how many steps in all, what stands upon the board. -/
structure WX where
  dn : Nat → Nat
  out : Nat → Option Bool
  cnt : Nat
  list : List Nat
def wx0 : WX := ⟨fun _ => 0, fun _ => none, 0, []⟩
def setW (s : Wlk) (x : WX) (i : Nat) : WX :=
  { x with out := upd x.out i (if s.nl i then some false else if (x.dn i : Int) < numW (s.st i) (s.af i) then none else some (badW (s.st i) (s.af i))) }
def doneW (x : WX) (i : Nat) : WX := { x with dn := upd x.dn i (x.dn i + 1), cnt := x.cnt + 1, list := x.list ++ [i] }
def nextW (s : Wlk) (x : WX) (i : Nat) : WX := setW s (doneW x i) i

theorem numW_nonneg {steps after : Int} (h : 0 ≤ steps) : 0 ≤ numW steps after := by
  unfold numW badW; split
  · next h => simp at h; omega
  · omega
theorem numW_le (steps after : Int) : numW steps after ≤ steps := by
  unfold numW badW; split
  · next h => simp at h; omega
  · omega

inductive WR where
  | wk (i : Nat)
  | bd
  | bl
  | ro

/-- What is known, but of thread h, which works. -/
structure WInv (g : WG) (S : Stile) (h : Option Nat) (k : Nat) (o : Nat → Option Role) (x : WX) (cs : Nat → List Frame) (w : World) (κ : Nat → Option WR) (la : Option Addr) (cap : Nat) (us : Nat → Nat → Value) : Prop where
  lt : ∀ b r, κ b = some r → o b = none ∧ b < w.heap.size
  n : S.n = g.n
  wk : ∀ i, i < g.n → g.s.nl i = false → w.heap[g.W i]? = some (.cells #[.pointer (some ⟨g.B, 0, none⟩), .int .i64 i, .int .i64 (g.s.st i), .int .i64 (g.s.af i)] 127)
  bd : w.heap[g.B]? = some (.cells #[.slice la x.list.length cap] 49)
  row : w.ownsRow 0 3 1 (.slice la x.list.length cap) x.list.length (x.list.map fun i => .int .i64 (i : Nat))
  rW : ∀ i, i < g.n → g.s.nl i = false → κ (g.W i) = some (.wk i)
  rB : κ g.B = some .bd
  rL : ∀ b, (Value.slice la x.list.length cap).ownBlock = some b → κ b = some .bl
  rT : κ S.tb = some .ro
  tb : ∀ i, i < g.n → w.cell? ⟨S.tb, i, none⟩ = some (S.F i)
  sch : ∀ (j : Nat) (z : Int), S.sl[j]? = some z → ∃ s so, S.sa = some ⟨s, so, none⟩ ∧ κ s = some .ro ∧ w.cell? ⟨s, so + j, none⟩ = some (.int .i64 z)
  F : ∀ i, i < g.n → S.F i = if g.s.nl i then .nilFunc else .func (.func 57) #[.pointer (some ⟨g.W i, 0, none⟩)] #[]
  st0 : ∀ i, 0 ≤ g.s.st i ∧ g.s.st i < 32
  len : x.list.length = x.cnt
  stands : ∀ i, h ≠ some i → i < k → i < g.n → x.out i = none → g.s.nl i = false ∧ (x.dn i : Int) < numW (g.s.st i) (g.s.af i) ∧
    cs i = [(base 57).at (at57 (g.W i) (.iface 161 (.pointer (some ⟨S.p i, 0, none⟩))) (x.dn i) (us i)) (.inRegion reg57_6 [1] :: k57)]
  fresh : ∀ i, k ≤ i → h ≠ some i → x.dn i = 0
  kn : k ≤ g.n
  rr : ∀ b ob, g.ro b = some ob → κ b = some .ro ∧ w.heap[b]? = some ob

def invW (g : WG) (S : Stile) (k : Nat) (o : Nat → Option Role) (x : WX) (cs : Nat → List Frame) (w : World) : Prop := ∃ κ la cap us, WInv g S none k o x cs w κ la cap us

section
variable {V : Nat → Option Wait} {g : WG} {S : Stile} {h : Option Nat} {k : Nat} {o : Nat → Option Role} {x : WX} {cs : Nat → List Frame} {w : World} {κ : Nat → Option WR} {la : Option Addr} {cap : Nat} {us : Nat → Nat → Value}

theorem WInv.two (_ : WInv g S h k o x cs w κ la cap us) {b b' : Nat} {r r' : WR} (h : κ b = some r) (h' : κ b' = some r') (hr : r ≠ r') : b ≠ b' := by
  rintro rfl
  rw [h] at h'
  exact hr (Option.some.inj h')

theorem WInv.at (P : WInv g S h k o x cs w κ la cap us) (d : Nat) : WInv g S h k o x cs (w.at d) κ la cap us :=
  ⟨P.lt, P.n, P.wk, P.bd, P.row, P.rW, P.rB, P.rL, P.rT, P.tb, P.sch, P.F, P.st0, P.len, P.stands, P.fresh, P.kn, P.rr⟩

theorem invW_keep {o' : Nat → Option Role} {w' : World} (h : invW g S k o x cs w) (K : Keeps o o' w w') : invW g S k o' x cs w' := by
  obtain ⟨κ, la, cap, us, P⟩ := h
  have hb : ∀ b r, κ b = some r → w'.heap[b]? = w.heap[b]? := fun b r h => (K.same b (P.lt b r h).2 (P.lt b r h).1).2
  refine ⟨κ, la, cap, us, ⟨fun b r h => ⟨(K.same b (P.lt b r h).2 (P.lt b r h).1).1, Nat.lt_of_lt_of_le (P.lt b r h).2 K.size⟩, P.n, fun i hi hn => (hb _ _ (P.rW i hi hn)).trans (P.wk i hi hn), (hb _ _ P.rB).trans P.bd, row_same P.row fun b e => hb b _ (P.rL b e), P.rW, P.rB, P.rL, P.rT, fun i hi => ?_, fun j z hz => ?_, P.F, P.st0, P.len, P.stands, P.fresh, P.kn, fun b ob e => ⟨(P.rr b ob e).1, (hb b _ (P.rr b ob e).1).trans (P.rr b ob e).2⟩⟩⟩
  · exact (World.cell?_of_block (a := ⟨S.tb, i, none⟩) (hb _ _ P.rT)).trans (P.tb i hi)
  · obtain ⟨s, so, e, hs, hc⟩ := P.sch j z hz
    exact ⟨s, so, e, hs, (World.cell?_of_block (a := ⟨s, so + j, none⟩) (hb _ _ hs)).trans hc⟩

/-- Thread i's work is done for now: what is known of all. -/
theorem WInv.settled {i : Nat} (P : WInv g S (some i) k o x cs w κ la cap us) (l : List Frame) (u : Nat → Value)
    (hs : (setW g.s x i).out i = none → g.s.nl i = false ∧ (x.dn i : Int) < numW (g.s.st i) (g.s.af i) ∧ l = [(base 57).at (at57 (g.W i) (.iface 161 (.pointer (some ⟨S.p i, 0, none⟩))) (x.dn i) u) (.inRegion reg57_6 [1] :: k57)]) (hi : i < k) :
    WInv g S none k o (setW g.s x i) (upd cs i l) w κ la cap (upd us i u) := by
  refine ⟨P.lt, P.n, P.wk, P.bd, P.row, P.rW, P.rB, P.rL, P.rT, P.tb, P.sch, P.F, P.st0, P.len, fun j _ hj hjn ho => ?_, fun j hj _ => P.fresh j hj (fun e => by cases e; omega), P.kn, P.rr⟩
  by_cases e : j = i
  · subst e
    rw [upd_same, upd_same]
    exact hs ho
  · have ho' : x.out j = none := by
      have : upd x.out i _ j = none := ho
      rwa [upd_ne _ _ e] at this
    obtain ⟨h1, h2, h3⟩ := P.stands j (fun e' => e (by cases e'; rfl)) hj hjn ho'
    rw [upd_ne _ _ e, upd_ne _ _ e]
    exact ⟨h1, h2, h3⟩

/-- A thread goes on from its loop's head. -/
theorem settle57 {i : Nat} {w0 : World} (P : WInv g S (some i) k o x cs w κ la cap us) (hi : i < k) (hnl : g.s.nl i = false) (hle : (x.dn i : Int) ≤ numW (g.s.st i) (g.s.af i)) (hsz : w0.heap.size ≤ w.heap.size) (hown : ∀ b r, o b = some r → w.heap[b]? = w0.heap[b]?) (f : Frame) (fs : List Frame) (u : Nat → Value) :
    Walk Try.prog false (DR V) (Fin (invW g S) WX.out S k o (setW g.s x i) cs i f fs w0) (G (hd57 (g.W i) (.iface 161 (.pointer (some ⟨S.p i, 0, none⟩))) (x.dn i) u) (f :: fs)) w := by
  have hin : i < g.n := Nat.lt_of_lt_of_le hi P.kn
  have hb := P.wk i hin hnl
  have h1 := (cell_of hb 1).trans rfl
  have h2 := (cell_of hb 2).trans rfl
  have h3 := (cell_of hb 3).trans rfl
  have hn := numW_le (g.s.st i) (g.s.af i)
  have hout : (setW g.s x i).out i = if (x.dn i : Int) < numW (g.s.st i) (g.s.af i) then none else some (badW (g.s.st i) (g.s.af i)) := by
    show upd x.out i _ i = _
    rw [upd_same, hnl]; rfl
  have hinv : ∀ (d : Nat), (setW g.s x i).out i ≠ none → invW g S k o (setW g.s x i) (upd cs i []) (w.at d) := fun d hne => ⟨κ, la, cap, _, (P.settled [] (fun _ => undef) (fun e => absurd e hne) hi).at d⟩
  by_cases hlt : (x.dn i : Int) < numW (g.s.st i) (g.s.af i)
  · have hlt2 : (x.dn i : Int) < g.s.st i := by omega
    have hna : (x.dn i : Int) ≠ g.s.af i := fun e => by
      have : numW (g.s.st i) (g.s.af i) = g.s.af i := by unfold numW badW; rw [if_pos]; simp; omega
      omega
    refine (walk57_more (g.W i) 161 (.pointer (some ⟨S.p i, 0, none⟩)) (x.dn i) (g.s.st i) (g.s.af i) u (f :: fs) w h2 h3 hlt2 hna).then ?_
    rintro g1 w1 ⟨⟨u', rfl⟩, d, rfl⟩
    refine Walk.back ?_ d
    refine Walk.invokeStep (a := at57 (g.W i) (.iface 161 (.pointer (some ⟨S.p i, 0, none⟩))) (x.dn i) u') (S.p i) (ho_of (by conv => lhs; whnf) (by kernel_rfl)) (by rfl) (by decide) rfl rfl ?_
    refine .stop fun d' => ⟨hsz, fun b r hb => hown b r hb, _, ⟨κ, la, cap, _, (P.settled _ u' (fun _ => ⟨hnl, hlt, rfl⟩) hi).at d'⟩, .inl ⟨?_, rfl⟩⟩
    rw [hout, if_pos hlt]
  · have hin' : (x.dn i : Int) = numW (g.s.st i) (g.s.af i) := by omega
    rw [if_neg hlt] at hout
    have hne : (setW g.s x i).out i ≠ none := by rw [hout]; simp
    cases hbd : badW (g.s.st i) (g.s.af i) with
    | true =>
      rw [hbd] at hout
      have ha : g.s.af i = x.dn i := by unfold numW at hin'; rw [hbd] at hin'; simpa using hin'.symm
      by_cases hlt2 : (x.dn i : Int) < g.s.st i
      · rw [ha] at h3
        refine (walk57_break (g.W i) _ (x.dn i) (g.s.st i) i u f fs w h1 h2 h3 hlt2).mono ?_
        rintro g1 w1 ⟨⟨t, v, ht, rfl⟩, d, rfl⟩
        exact ⟨hsz, fun b r hb => hown b r hb, [], hinv d hne, .inr (.inr ⟨hout, t, v, ht, rfl⟩)⟩
      · refine (walk57_end (g.W i) _ (x.dn i) (g.s.st i) (g.s.af i) i u f fs w h1 h2 h3 (by omega)).mono ?_
        rintro g1 w1 ⟨h, d, rfl⟩
        rcases h with ⟨_, t, v, ht, rfl⟩ | ⟨hne', _⟩
        · exact ⟨hsz, fun b r hb => hown b r hb, [], hinv d hne, .inr (.inr ⟨hout, t, v, ht, rfl⟩)⟩
        · omega
    | false =>
      rw [hbd] at hout
      have hst : g.s.st i = x.dn i := by unfold numW at hin'; rw [hbd] at hin'; simpa using hin'.symm
      have hst0 := (P.st0 i).1
      have hna : g.s.af i ≠ g.s.st i := fun e => by
        unfold badW at hbd
        rw [e] at hbd
        simp at hbd; omega
      refine (walk57_end (g.W i) _ (x.dn i) (g.s.st i) (g.s.af i) i u f fs w h1 h2 h3 (by omega)).mono ?_
      rintro g1 w1 ⟨h, d, rfl⟩
      rcases h with ⟨he, _⟩ | ⟨_, rfl⟩
      · exact absurd he hna
      · exact ⟨hsz, fun b r hb => hown b r hb, [], hinv d hne, .inr (.inl ⟨hout, rfl⟩)⟩

/-- A thread starts. -/
theorem startW (f : Frame) (fs : List Frame) (h : invW g S k o x cs w) (hk : k < S.n) :
    (∃ fi fn first cap, S.F k = .func (.func fi) first cap ∧ Try.prog.funcs[fi]? = some fn ∧ (fn.name == "runtime.NumGoroutine") = false ∧ fn.body.isNone = false ∧
      Walk Try.prog false (DR V) (Fin (invW g S) WX.out S (k + 1) o (setW g.s x k) cs k f fs w) (G (Frame.enter Try.prog fi (first ++ #[.iface 161 (.pointer (some ⟨S.p k, 0, none⟩))] ++ cap) .normal) (f :: fs)) w) ∨
    (S.F k = .nilFunc ∧ (setW g.s x k).out k = some false ∧ invW g S (k + 1) o (setW g.s x k) (upd cs k []) w) := by
  obtain ⟨κ, la, cap, us, P⟩ := h
  have hi : k < g.n := P.n ▸ hk
  have P1 : WInv g S (some k) (k + 1) o x cs w κ la cap us := by
    refine ⟨P.lt, P.n, P.wk, P.bd, P.row, P.rW, P.rB, P.rL, P.rT, P.tb, P.sch, P.F, P.st0, P.len, fun j hj hjk hjn ho => P.stands j (by simp) ?_ hjn ho, fun j hj _ => P.fresh j (by omega) (by simp), hi, P.rr⟩
    have : j ≠ k := fun e => hj (by rw [e])
    omega
  have hF := P.F k hi
  cases hnl : g.s.nl k with
  | true =>
    right
    rw [hnl] at hF
    have ho : (setW g.s x k).out k = some false := by
      show upd x.out k _ k = _
      rw [upd_same, hnl]; rfl
    exact ⟨hF, ho, κ, la, cap, _, P1.settled [] (fun _ => undef) (fun e => by rw [ho] at e; cases e) (Nat.lt_succ_self _)⟩
  | false =>
    left
    rw [hnl] at hF
    refine ⟨57, Try.f57, #[.pointer (some ⟨g.W k, 0, none⟩)], #[], hF, Try.func57, by decide, by rfl, ?_⟩
    have harr : (#[.pointer (some ⟨g.W k, 0, none⟩)] ++ #[.iface 161 (.pointer (some ⟨S.p k, 0, none⟩))] ++ #[] : Array Value) = #[.pointer (some ⟨g.W k, 0, none⟩), .iface 161 (.pointer (some ⟨S.p k, 0, none⟩))] := rfl
    rw [harr]
    refine (walk57_in (g.W k) _ (f :: fs) w).then ?_
    rintro g1 w1 ⟨⟨u, rfl⟩, d, rfl⟩
    refine Walk.back ?_ d
    have hd : x.dn k = 0 := P.fresh k (Nat.le_refl _) (by simp)
    have := settle57 (V := V) (w0 := w) P1 (Nat.lt_succ_self _) hnl (by rw [hd]; exact numW_nonneg (P.st0 k).1) (Nat.le_refl _) (fun _ _ _ => rfl) f fs u
    rw [hd] at this
    exact this

/-- A thread has its turn. -/
theorem goW {i : Nat} {c : Frame} {l : List Frame} (f : Frame) (fs : List Frame) (h : invW g S k o x cs w) (hik : i < k) (hout : x.out i = none) (hcs : cs i = c :: l) (hc : x.cnt < 1048576) (hA : ∀ b, o b = none → Apart V b) (hlt : ∀ b r, o b = some r → b < w.heap.size) :
    Walk Try.prog false (DR V) (Fin (invW g S) WX.out S k o (nextW g.s x i) cs i f fs w) (G (c.finish (.tuple #[])) (l ++ f :: fs)) w := by
  obtain ⟨κ, la, cap, us, P⟩ := h
  have hi : i < g.n := Nat.lt_of_lt_of_le hik P.kn
  obtain ⟨hnl, hdn, e6⟩ := P.stands i (by simp) hik hi hout
  rw [e6] at hcs
  cases hcs
  rw [List.nil_append]
  have hnl1 := numW_le (g.s.st i) (g.s.af i)
  have hst := (P.st0 i).2
  have hW := P.wk i hi hnl
  have hrW := P.rW i hi hnl
  have hN : Note V (g.W i) g.B 0 i la x.list.length cap (x.list.map fun i => .int .i64 (i : Nat)) w :=
    ⟨(cell_of hW 0).trans rfl, (cell_of hW 1).trans rfl, (cell_of P.bd 0).trans rfl, frozen_of P.bd 0, P.row, (hA _ (P.lt _ _ P.rB).1).1 _ rfl, fun b hb => hA b (P.lt _ _ (P.rL b hb)).1, fun e => P.two (P.rL _ e) hrW (by simp) rfl, fun e => P.two (P.rL _ e) P.rB (by simp) rfl, by have := P.len; omega, Nat.zero_le _⟩
  refine (walk57_back (g.W i) g.B 0 i la x.list.length cap (x.list.map fun i => .int .i64 (i : Nat)) (.iface 161 (.pointer (some ⟨S.p i, 0, none⟩))) (x.dn i) (us i) (f :: fs) w hN (by omega) (by omega)).then ?_
  rintro g1 w1 ⟨b, cap', w3, A, ⟨u', rfl⟩, d, rfl⟩
  refine Walk.back ?_ d
  have hs1 : (w.alloc (.cells #[.int .i64 i] 3)).heap.size = w.heap.size + 1 := by simp
  have hsz3 : w.heap.size ≤ w3.heap.size := by have := A.grown.size; omega
  have hfr : ∀ b, w.heap.size ≤ b → o b = none := fun b hb => by
    cases h : o b with
    | none => rfl
    | some r => have := hlt b r h; omega
  have hk3 : ∀ b r, κ b = some r → r ≠ .bl → w3.heap[b]? = w.heap[b]? := fun b r h hr => hN.keep A (P.lt b r h).2 fun e => P.two h (P.rL b e) hr rfl
  have hk4 : ∀ b r, κ b = some r → r ≠ .bl → r ≠ .bd → (w3.setCell ⟨g.B, 0, none⟩ (.slice (some ⟨b, 0, none⟩) (x.list.length + 1) cap')).heap[b]? = w.heap[b]? := fun b r h h1 h2 => (heap_set_other _ _ _ _ (P.two h P.rB h2)).trans (hk3 b r h h1)
  have hk5 : ∀ v b r, κ b = some r → r ≠ .bl → r ≠ .bd → (w3.setCell ⟨g.B, 0, none⟩ v).heap[b]? = w.heap[b]? := fun v b r h h1 h2 => (heap_set_other _ _ _ _ (P.two h P.rB h2)).trans (hk3 b r h h1)
  have hbB : b ≠ g.B := by
    rcases A.at_ with h | h
    · exact P.two (P.rL b h) P.rB (by simp)
    · have := (P.lt _ _ P.rB).2; omega
  have hnb : κ b = some .bl ∨ (κ b = none ∧ w.heap.size ≤ b) := by
    rcases A.at_ with h | h
    · exact .inl (P.rL b h)
    · right
      refine ⟨?_, by omega⟩
      cases hb : κ b with
      | none => rfl
      | some r => have := (P.lt b r hb).2; omega
  have hkap : ∀ b' r, κ b' = some r → upd κ b (some .bl) b' = some r := fun b' r h => by
    by_cases e : b' = b
    · subst e
      rw [upd_same]
      rcases hnb with h' | ⟨h', _⟩
      · rw [← h, h']
      · rw [h] at h'; cases h'
    · rw [upd_ne _ _ e]; exact h
  have hlen : (doneW x i).list.length = x.list.length + 1 := by simp [doneW]
  have hmap : ((doneW x i).list.map fun i => (.int .i64 (i : Nat) : Value)) = (x.list.map fun i => .int .i64 (i : Nat)) ++ [.int .i64 (i : Nat)] := by simp [doneW]
  have P2 : WInv g S (some i) k o (doneW x i) cs (w3.setCell ⟨g.B, 0, none⟩ (.slice (some ⟨b, 0, none⟩) (x.list.length + 1) cap')) (upd κ b (some .bl)) (some ⟨b, 0, none⟩) cap' us := by
    refine ⟨fun b' r h => ?_, P.n, fun j hj hn => (hk5 _ _ _ (P.rW j hj hn) (by simp) (by simp)).trans (P.wk j hj hn), ?_, ?_, fun j hj hn => hkap _ _ (P.rW j hj hn), hkap _ _ P.rB, fun b' h => ?_, hkap _ _ P.rT, fun j hj => ?_, fun j z hz => ?_, P.F, P.st0, ?_, fun j hj hjk hjn ho => ?_, fun j hj hne => ?_, P.kn, fun b' ob e => ⟨hkap _ _ (P.rr b' ob e).1, (hk5 _ _ _ (P.rr b' ob e).1 (by simp) (by simp)).trans (P.rr b' ob e).2⟩⟩
    · rw [size_set]
      by_cases e : b' = b
      · subst e
        refine ⟨?_, A.lt⟩
        rcases hnb with h' | ⟨_, h'⟩
        · exact (P.lt _ _ h').1
        · exact hfr _ h'
      · rw [upd_ne _ _ e] at h
        have := P.lt b' r h
        exact ⟨this.1, by omega⟩
    · rw [hlen]
      refine (heap_set_self _ _ ((hk3 _ _ P.rB (by simp)).trans P.bd)).trans ?_
      simp
    · rw [hlen, hmap]
      refine row_same A.row fun b' hb' => heap_set_other _ _ _ _ ?_
      have : b = b' := by simpa [Value.ownBlock] using hb'
      subst this
      exact hbB
    · have : b = b' := by simpa [Value.ownBlock] using h
      subst this
      exact upd_same _ _ _
    · exact (World.cell?_of_block (a := ⟨S.tb, j, none⟩) (hk5 _ _ _ P.rT (by simp) (by simp))).trans (P.tb j hj)
    · obtain ⟨s, so, e, hs, hc⟩ := P.sch j z hz
      exact ⟨s, so, e, hkap _ _ hs, (World.cell?_of_block (a := ⟨s, so + j, none⟩) (hk5 _ _ _ hs (by simp) (by simp))).trans hc⟩
    · rw [hlen]
      show _ = x.cnt + 1
      have := P.len; omega
    · have e : j ≠ i := fun e => hj (by rw [e])
      have := P.stands j (by simp) hjk hjn ho
      show _ ∧ ((upd x.dn i (x.dn i + 1) j : Nat) : Int) < _ ∧ _ = [(base 57).at (at57 _ _ ((upd x.dn i (x.dn i + 1) j : Nat) : Int) _) _]
      rw [upd_ne _ _ e]
      exact this
    · have e : j ≠ i := fun e => hne (by rw [e])
      show upd x.dn i (x.dn i + 1) j = 0
      rw [upd_ne _ _ e]
      exact P.fresh j hj (by simp)
  have hdn' : (doneW x i).dn i = x.dn i + 1 := upd_same _ _ _
  have hh : ∀ b' r, o b' = some r → (w3.setCell ⟨g.B, 0, none⟩ (.slice (some ⟨b, 0, none⟩) (x.list.length + 1) cap')).heap[b']? = w.heap[b']? := fun b' r h => by
    have hne : ∀ b'' r', κ b'' = some r' → b' ≠ b'' := fun b'' r' h' e => by rw [e, (P.lt _ _ h').1] at h; cases h
    exact (heap_set_other _ _ _ _ (hne _ _ P.rB)).trans (hN.keep A (hlt b' r h) fun e => hne _ _ (P.rL _ e) rfl)
  have hfin := settle57 (V := V) (w0 := w) P2 hik hnl (by rw [hdn']; omega) (by rw [size_set]; exact hsz3) hh f fs u'
  rw [hdn'] at hfin
  have hcast : ((x.dn i + 1 : Nat) : Int) = (x.dn i : Int) + 1 := by omega
  rw [hcast] at hfin
  exact hfin
end

theorem plain57 (a : Act) (td : List Item) (h : a.defers = []) : Plain ((base 57).at a td) := ⟨h, rfl, Try.f57, Try.func57⟩

/-- The crew of walkers. -/
noncomputable def crewW (g : WG) (S : Stile) : Crew S WX where
  inv := invW g S
  born := setW g.s
  next := nextW g.s
  out := WX.out
  cnt := WX.cnt
  cntBorn := fun _ _ => rfl
  cntNext := fun _ _ => rfl
  keep := invW_keep
  bornOut := fun x i j h => upd_ne _ _ h
  nextOut := fun x i j h => upd_ne _ _ h
  shape := fun {k o x cs w i} h hik hout => by
    obtain ⟨κ, la, cap, us, P⟩ := h
    obtain ⟨_, _, e6⟩ := P.stands i (by simp) hik (Nat.lt_of_lt_of_le hik P.kn) hout
    refine ⟨⟨_, [], e6⟩, fun f hf => ?_⟩
    rw [e6] at hf
    rw [List.mem_singleton.1 hf]
    exact plain57 _ _ rfl
  thr := fun {k o x cs w i} h _ hi => by
    obtain ⟨κ, la, cap, us, P⟩ := h
    exact P.tb i (P.n ▸ hi)
  sch := fun {k o x cs w j z} h hz => by
    obtain ⟨κ, la, cap, us, P⟩ := h
    obtain ⟨s, so, e, _, hc⟩ := P.sch j z hz
    exact ⟨s, so, e, hc⟩
  start := fun f fs h hk _ _ _ => startW f fs h hk
  go := fun f fs h hik hout hcs hc hA hlt => goW f fs h hik hout hcs hc hA hlt
end Go.Proofs.Ytgiiicdpbdfemaa
end
