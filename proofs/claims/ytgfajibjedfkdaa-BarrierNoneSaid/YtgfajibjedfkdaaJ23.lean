/-
For all q, tries and ways: BarrierNone returns true on every schedule of the goroutines, without a data race, and what was there stands. Conditions: none beyond the statement's own.
-/
import Derived.Test.YtgfajibjedfkdaaJ22
import Derived.Test.YtgfajibjedfkdaaRows
import Derived.Conc.LeavingOf
import Derived.Lib.SmallJoins
set_option linter.unusedSimpArgs false
set_option linter.unusedVariables false
set_option maxHeartbeats 8000000
set_option maxRecDepth 100000
namespace Go.Proofs.Ytgfajibjedfkdaa
open Go.Conc Go.RowKit Go.Relay
open Go.ConcN (upd upd_ne upd_same)
section
open Go.ChangeShapes Go.WideShapes Go.ChangeAt Go.Joins Go.Deep
theorem prog_own : ownKnob Try.prog.godebug = none := by kernel_rfl
def Left (W : World) (v : Value) (w' : World) : Prop := v = .bool true ∧ w'.os = W.os ∧ w'.output = W.output ∧ ∀ b, b < W.heap.size → w'.heap[b]? = W.heap[b]?
theorem Left.kept {W w' : World} {v : Value} (h : Left W v w') (may : MemPlace → Prop) : W.keptBut w' may := by
  refine ⟨h.2.1, h.2.2.1, fun i hi => ?_⟩
  rw [h.2.2.2 i hi]
  split <;> simp_all
theorem und4_is : Try.prog.underlying 4 = some .bool := by kernel_rfl
theorem stepG_done {P : Program} {fr : Frame} {w : World} {fn : Func} {v : Value} (hm : fr.mode = .returning) (hn : fr.kind = .normal) (hd : fr.defers = []) (hf : P.funcs[fr.fn]? = some fn) (hr : (results fn fr.tmps).run P w = .ok v w) (he : (results fn fr.tmps).events P w #[] = #[]) (hi : P.inits.idxOf? fr.fn = none) :
    stepG P true (G fr []) w = .ended (.done v) w #[] := by
  simp [G, stepG, unwind, doReturn, hm, hd, hn, hf, hr, he, hi, GStep.after, seen_none]
theorem run_claim {f : FuncId} {fn : Func} {args : Array Value} {W : World} {Post : Value → World → Prop} {v : Value} {t : Tmp} (hf : Try.prog.funcs[f]? = some fn) (hres : fn.results = #[.tmp t]) (hi : Try.prog.inits.idxOf? f = none)
    (h : Runs (fun g w' => Closing f t v g ∧ (OsSame W w' → ∀ d, Post v (w'.at d))) (G (Frame.enter Try.prog f args .normal) []) W) :
    ∃ M last o w' t', runNT Try.prog (M + 1) (solo (G (Frame.enter Try.prog f args .normal) []) W) #[] = (.ended o w', t') ∧ Go.runN Try.prog M (solo (G (Frame.enter Try.prog f args .normal) []) W) = .next last ∧ step Try.prog last = .ended o w' ∧ Go.Conc.Good Try.prog Post last o w' t' := by
  rw [solo_eq_crowd]
  have A0 := at_begin (P := Try.prog) (gs := #[G (Frame.enter Try.prog f args .normal) []]) (a := G (Frame.enter Try.prog f args .normal) []) (sl := none) (w := W) rfl (leavers_one Try.prog _) past_nil
  obtain ⟨N1, m1, T1, r1, ⟨nG, g1, w1, _, ⟨⟨fr, rfl, hm, hn, hd, hfn, hv⟩, hP⟩, A1⟩, ho⟩ := h 1 _ _ (Nat.le_refl _) A0
  obtain ⟨gs, sl, q, B, rfl, _, hg0, hL, hPast⟩ := A1.ends (fun _ => rfl)
  have hP := hP ho
  have hs : ∀ d, stepG Try.prog true (G fr []) (w1.at d) = .ended (.done v) (w1.at d) #[] := fun d =>
    stepG_done hm hn hd (by rw [hfn]; exact hf) (by rw [results_tmp hres, hv]) (events_results_tmp hres _ _) (by rw [hfn]; exact hi)
  have hG : Goes Try.prog true AtRel (fun _ _ es => ∀ e ∈ es, EvL (fun _ => False) B e) (AtEnd Try.prog (fun _ => False) B Post) 0 (G fr []) w1 := by
    rintro _ ⟨d, rfl⟩
    exact ⟨rfl, v, #[], hs d, by simp, hP d⟩
  obtain ⟨M8, last, o, w', t', e1, e2, e3, e4⟩ := beside_ends (P := Try.prog) (Post := Post) (sl := sl) (fun _ _ _ h => h) hg0 hL hPast hG
  refine ⟨N1 + M8, last, o, w', t', ?_, ?_, e3, e4⟩
  · rw [Nat.add_assoc, runNT_add, r1]; exact e1
  · rw [Go.runN_add, ← runNT_fst Try.prog _ _ #[], r1]; exact e2
end
section
open Go.ChangeShapes Go.WideShapes Go.ChangeAt Go.Joins Go.Deep
theorem undI64 : Try.prog.underlying 2 = some (.int .i64) := by kernel_rfl
theorem undI : Try.prog.underlying 3 = some (.int .i64) := by kernel_rfl
theorem bn_all (q tries way : Int) (W : World) : Walk Try.prog true (DR (fun _ => none)) (fun g w' => Closing 5 6 (.bool true) g ∧ ∀ b, b < W.heap.size → w'.heap[b]? = W.heap[b]?) (G (Frame.enter Try.prog 5 #[.int .i64 q, .int .i64 tries, .int .i64 way] .normal) []) W := by
  have hA : ∀ b, Apart (fun _ => none) b := fun b => ⟨fun _ _ _ _ h => (by cases h), fun _ _ h => (by cases h)⟩
  by_cases h1 : way < 1
  · exact bn_a q tries way h1 hA W
  · by_cases h3 : 3 < way
    · exact bn_b q tries way h3 hA W
    · exact bn_c q tries way (by omega) (by omega) hA W
section
variable {H : Type} {enc : TypeId × Value → H} {W : World} {base : Nat} {spare : Nat → Bool} {held : Bool}
theorem trodAll_3 {P : Program} {t t1 t2 : TypeId} {args : Array Value} {ds : List (DataW H)} {ps : List MemPlace} (h : DataW.TrodAll enc P W base spare held [t, t1, t2] args.toList ds ps) :
    ∃ v v1 v2 d d1 d2 p p1 p2, args = #[v, v1, v2] ∧ ds = [d, d1, d2] ∧ ps = p ++ p1 ++ p2 ∧ DataW.Trod enc P W base spare held t v d p ∧ DataW.Trod enc P W base spare held t1 v1 d1 p1 ∧ DataW.Trod enc P W base spare held t2 v2 d2 p2 := by
  obtain ⟨v, vs, d, ds1, p, q, hargs, rfl, rfl, hd, hrest⟩ := trodAll_cons h
  obtain ⟨v1, vs1, d1, ds2, p1, q1, rfl, rfl, rfl, hd1, hrest1⟩ := trodAll_cons hrest
  obtain ⟨v2, vs2, d2, ds3, p2, q2, rfl, rfl, rfl, hd2, hrest2⟩ := trodAll_cons hrest1
  obtain ⟨rfl, rfl, rfl⟩ := trodAll_nil hrest2
  exact ⟨v, v1, v2, d, d1, d2, p, p1, p2, by cases args; simp_all, rfl, by simp, hd, hd1, hd2⟩
end
theorem barrierNone_lifted (os : Os) (started : os.Started) (H : Type) (enc : TypeId × Value → H) :
    ReturnsInLeavingWide {} Try.checked os 5 .any (Rows.barrierNoneSpec.pre6 enc Try.prog Try.f5 Rows.barrierNoneRow.domain false) (Rows.barrierNoneSpec.post enc Try.prog Try.f5 false true false false) := by
  refine returnsInLeavingWide_of_change_sized (C := Try.checked) prog_own started Try.func5
    (ChangeSpec.witness6 (enc := enc) (C := Try.checked) false ⟨#[], #[.int .i64 0, .int .i64 0, .int .i64 0], []⟩ 8 (by kernel_rfl) (by kernel_rfl) (by kernel_rfl) (by kernel_rfl)) ?_
  intro W base args ds gs before hval0 hW _ hsz0 _
  have hval : ∀ (j : Nat) t v, Try.f5.params[j]? = some t → args[j]? = some v → Value.okWide Try.prog W .any base t v := hval0
  have hW' := hW
  obtain ⟨p, q, hA0, hV, rfl, _, _⟩ := hW
  have hA : DataW.TrodAll enc Try.prog W 0 (fun _ => true) true Try.f5.params.toList args.toList ds p := hA0
  rw [Try.params5] at hA hval
  obtain ⟨v0, v1, v2, d0, d1, d2, p0, p1, p2, rfl, rfl, rfl, h0, h1, h2⟩ := trodAll_3 hA
  obtain ⟨rfl, rfl⟩ := trodVars_none hV
  obtain ⟨q, rfl, rfl, rfl, wq⟩ := open_int undI64 (hval 0 2 v0 rfl rfl) h0
  obtain ⟨tr, rfl, rfl, rfl, wt⟩ := open_int undI (hval 1 3 v1 rfl rfl) h1
  obtain ⟨wy, rfl, rfl, rfl, ww⟩ := open_int undI (hval 2 3 v2 rfl rfl) h2
  clear hA0 hval0 hsz0
  simp only [List.append_nil, List.nil_append] at hW'
  obtain ⟨M, last, o, w', t', r1, r2, r3, r4⟩ := run_claim (Post := Left W) (t := 6) Try.func5 rfl (by kernel_rfl) (Runs.walk (bn_all q tr wy W) fun g w' ⟨hC, hO⟩ => .now ⟨hC, fun ho d => ⟨rfl, ho.1, ho.2, hO⟩⟩)
  refine ⟨M, last, o, w', t', r1, r2, r3, r4.mono fun v hF => ?_⟩
  have hk : Left W (.bool true) w' := ⟨rfl, hF.2⟩
  obtain rfl : v = .bool true := hF.1
  exact ⟨_, _, _, [], _, [], hW', trodAll_mk1 (shut_bool und4_is true), trodAll_cons_mk (shut_int undI64 wq) (trodAll_cons_mk (shut_int undI wt) (trodAll_mk1 (shut_int undI ww))), rfl, hk.kept _, fun h => by cases h⟩
theorem barrierNone_holds : Rows.BarrierNoneSaid :=
  OpenClaim.holds_of_wide_leaving 5 Try.f5 rfl rfl rfl rfl rfl rfl rfl ⟨rfl, rfl, rfl, rfl, rfl⟩ rfl rfl rfl rfl rfl (by kernel_rfl) Try.func5 (by kernel_rfl)
    (of_decide_eq_true (by kernel_rfl)) (by unfold Func.isWrapper; first | (rw [if_pos (by decide +kernel)]; kernel_rfl) | (rw [if_neg (by decide +kernel)]; exact ⟨rfl, rfl⟩))
    (fun os started H enc _ => barrierNone_lifted os started H enc)
end
end Go.Proofs.Ytgfajibjedfkdaa
