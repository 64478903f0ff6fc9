/-
For all numbers of Onces, for all threads of operations, schedules and every most: OncePlays returns true on every schedule of the goroutines, without a data race, and what was there stands. Conditions: none beyond the statement's own.
-/
import Derived.Test.YtdcjgmlgmjjogaaJ20
import Derived.Test.YtdcjgmlgmjjogaaJ30
import Derived.Test.YtdcjgmlgmjjogaaRows
import Derived.Conc.LeavingOf
import Derived.Lib.SmallJoins
import Derived.Handy
import Derived.SizedLaws
import Derived.Carry
import Derived.Deep.Slices
import Derived.Deep.Fields
set_option linter.unusedSimpArgs false
set_option linter.unusedVariables false
set_option maxHeartbeats 8000000
set_option maxRecDepth 100000
namespace Go.Proofs.Ytdcjgmlgmjjogaa
open Go.Conc Go.RowKit Go.Relay
open Go.ConcN (upd upd_ne upd_same)
structure Closing (f : FuncId) (t : Tmp) (v : Value) (g : Goroutine) : Prop where
  all : ∃ fr, g = G fr [] ∧ fr.mode = .returning ∧ fr.kind = .normal ∧ fr.defers = [] ∧ fr.fn = f ∧ fr.tmps.getD t undef = v
theorem q5 {α β γ δ ε : Type} {a a' : α} {b b' : β} {c c' : γ} {d d' : δ} {e e' : ε} (h : (a, b, c, d, e) = (a', b', c', d', e')) : a = a' ∧ b = b' ∧ c = c' ∧ d = d' ∧ e = e' := by simpa using h
theorem sets_run (c : Frame) (cs : List Frame) (w : World) : Runs (fun g w' => g = G (c.finish (.bool true)) cs ∧ (∀ b, b < w.heap.size → w'.heap[b]? = w.heap[b]?) ∧ w.heap.size ≤ w'.heap.size) (G (Frame.enter Try.prog 9 #[] .normal) (c :: cs)) w := by
  refine Runs.walk (sets_in c cs w) ?_
  rintro _ w1 ⟨fr, rfl, O1, Z1, I1, hs1, hB⟩
  refine Runs.then (oplay_any 1 (.slice (some ⟨w.heap.size + 2, 0, none⟩) 2 2) 100 (some ⟨w.heap.size + 2, 0, none⟩) (w.heap.size + 2) 0 2 2 (fun _ => rfl) (by decide) (seOa w.heap.size) (fun _ => 1) (fun _ => 1) seOps (some ⟨w.heap.size + 3, 0, none⟩) 5 seSl (by decide) fr (c :: cs) w1 I1 (fun j z hz => ⟨_, _, rfl, hs1 j z hz⟩) fun w' _ => firstOps_some (some ⟨w.heap.size + 2, 0, none⟩) 2 2 w' (Nat.le_refl _) (.inr ⟨_, rfl⟩)) ?_
  rintro _ w2 ⟨cells, H, rfl⟩
  have O2 := H.old
  have Z2 := H.size
  have hT := H.tr
  rw [cellsN1] at hT
  obtain ⟨e1, e2, e3, e4, e5⟩ := q5 (se_run (w1.heap.size + 1))
  unfold sePlay at e1 e2 e3 e4 e5
  rw [e1, e2] at hT
  refine Runs.walk (hB cells _ _ w2 hT e3 e4 e5) ?_
  rintro _ w3 ⟨rfl, O3, Z3⟩
  exact .now ⟨rfl, fun b hb => (O3 b (by omega)).trans ((O2 b (by omega)).trans (O1 b hb)), by omega⟩
noncomputable def reg3_0 := rg Try.f3.body [0]
noncomputable def reg3_1 := rg Try.f3.body [1, 0, 0]
noncomputable def reg3_2 := rg Try.f3.body [1, 0, 1, 0, 0]
noncomputable def reg3_3 := rg Try.f3.body [1, 1, 0]
theorem z3 : List.range reg3_0.size = [0] ∧ List.range reg3_1.size = [0, 1] ∧ List.range reg3_2.size = [0] ∧ List.range reg3_3.size = [0, 1, 2, 3, 4, 5, 6, 7, 8, 9, 10, 11] := by refine ⟨?_, ?_, ?_, ?_⟩ <;> kernel_rfl
theorem code3_is : Try.f3.body = some (.seq (.region 0 reg3_0 false) (.seq (.seq (.region 1 reg3_1 false) (.cond (.tmp 10 ) (.seq (.region 2 reg3_2 false) (.ret)) (.skip))) (.seq (.region 3 reg3_3 false) (.ret)))) := by kernel_rfl
def PB2 (sz : Int) (tv sv : Value) (most : Int) (fr : Frame) : Prop := ∀ (cells : Array Value) (w : World) (Y : Array Value → World → Prop),
  CallW Try.prog true (fun _ => none) 12 #[.int .i64 sz, tv, sv, .int .i64 most] w (fun v w' => ∃ cb, v = .agg cb ∧ Y cb w') →
  (∀ cb w1, Y cb w1 → CallW Try.prog true (fun _ => none) 10 #[.agg cells, .agg cb] w1 (fun v w' => v = .bool true ∧ Chg (fun _ => False) w1 w')) →
  Walk Try.prog true (DR (fun _ => none)) (fun g w' => Closing 3 8 (.bool true) g ∧ ∃ cb w1, Y cb w1 ∧ Chg (fun _ => False) w1 w') (G (fr.finish (.agg cells)) []) w
def PB1 (sz : Int) (tv sv : Value) (most : Int) (fr : Frame) : Prop := ∀ (w : World),
  Walk Try.prog true (DR (fun _ => none)) (fun g w' => ∃ fr2, g = G (Frame.enter Try.prog 11 #[.int .i64 sz, tv, sv, .int .i64 most] .normal) [fr2] ∧ (∃ d, w' = w.at d) ∧ PB2 sz tv sv most fr2) (G (fr.finish (.bool true)) []) w
theorem opl_in (sz : Int) (tv sv : Value) (most : Int) (w : World) : Walk Try.prog true (DR (fun _ => none)) (fun g w' => ∃ fr, g = G (Frame.enter Try.prog 9 #[] .normal) [fr] ∧ (∃ d, w' = w.at d) ∧ PB1 sz tv sv most fr) (G (Frame.enter Try.prog 3 #[.int .i64 sz, tv, sv, .int .i64 most] .normal) []) w := by
  rw [enter_at _ Try.func3 code3_is]
  simp only [Try.ntmps3, ez, Nat.reduceAdd, Nat.reduceSub]
  repeat (first | refine Walk.cx ?_ | (refine Walk.cReg ?_; simp only [z3]) | (refine Walk.oq ?_; try walk_nrm) | (refine Walk.un ?_; walk_nrm))
  refine Walk.callE (ho_of (by conv => lhs; whnf) (by kernel_rfl)) (by rfl) (by decide) rfl Try.func9 (by kernel_rfl) (by rfl) ?_
  walk_nrm
  refine .stop fun d => ⟨_, rfl, ⟨d, rfl⟩, ?_⟩
  intro w1
  refine Walk.finish (ho_of (by conv => lhs; whnf) (by kernel_rfl)) ?_
  walk_nrm
  repeat (first | refine Walk.cx ?_ | (refine Walk.cReg ?_; simp only [z3]) | (refine Walk.oq ?_; try walk_nrm) | (refine Walk.un ?_; walk_nrm))
  refine Walk.callE (ho_of (by conv => lhs; whnf) (by kernel_rfl)) (by rfl) (by decide) rfl Try.func11 (by kernel_rfl) (by rfl) ?_
  walk_nrm
  refine .stop fun d => ⟨_, rfl, ⟨d, rfl⟩, ?_⟩
  intro cells w2 Y hY hS
  refine Walk.finish (ho_of (by conv => lhs; whnf) (by kernel_rfl)) ?_
  walk_nrm
  repeat (first | (refine Walk.oq ?_; try walk_nrm) | (refine Walk.un ?_; walk_nrm))
  refine Walk.callW (Post := fun v w' => ∃ cb, v = .agg cb ∧ Y cb w') ?_ (ho_of (by conv => lhs; whnf) (by kernel_rfl)) (by rfl) (by decide) rfl Try.func12 (by kernel_rfl) (by rfl) ?_
  · walk_nrm
    exact hY
  rintro v w3 ⟨cb, rfl, hY3⟩
  have hS3 := hS cb w3 hY3
  clear hY hS
  walk_nrm
  repeat (first | (refine Walk.oq ?_; try walk_nrm) | (refine Walk.un ?_; walk_nrm))
  refine Walk.callW (Post := fun v w' => v = .bool true ∧ Chg (fun _ => False) w3 w') ?_ (ho_of (by conv => lhs; whnf) (by kernel_rfl)) (by rfl) (by decide) rfl Try.func10 (by kernel_rfl) (by rfl) ?_
  · walk_nrm
    exact hS3
  rintro v w4 ⟨rfl, hC⟩
  clear hS3
  walk_nrm
  repeat (first | refine Walk.cx ?_ | (refine Walk.cReg ?_; simp only [z3]) | (refine Walk.oq ?_; try walk_nrm) | (refine Walk.un ?_; walk_nrm))
  refine .stop fun d => ⟨⟨_, rfl, rfl, rfl, rfl, rfl, rfl⟩, cb, w3, hY3, ⟨hC.size, hC.same⟩⟩
theorem opl_all (sz : Int) (most : Int) (ta : Option Addr) (n0 tc tb toff : Nat) (oa : Nat → Option Addr) (ln oc : Nat → Nat) (ops : Nat → List OpV) (sa : Option Addr) (sc : Nat) (sl : List Int) (W : World)
    (I : OpsIn tb toff (min n0 64) oa ln oc ops W) (hta : 0 < n0 → ta = some ⟨tb, toff, none⟩) (had : ta = none ∧ tc = 0 ∨ ∃ p, ta = some p) (hcap : n0 ≤ tc)
    (hsl : sl.length ≤ 17592186044416) (hnil : sa = none → sl = [] ∧ sc = 0) (hs : ∀ (j : Nat) (z : Int), sl[j]? = some z → ∃ s so, sa = some ⟨s, so, none⟩ ∧ W.cell? ⟨s, so + j, none⟩ = some (.int .i64 z)) :
    Runs (fun g w' => Closing 3 8 (.bool true) g ∧ ∀ b, b < W.heap.size → w'.heap[b]? = W.heap[b]?) (G (Frame.enter Try.prog 3 #[.int .i64 sz, .slice ta n0 tc, .slice sa sl.length sc, .int .i64 most] .normal) []) W := by
  refine Runs.walk (opl_in sz _ _ most W) ?_
  rintro _ _ ⟨fr1, rfl, ⟨d1, rfl⟩, hB1⟩
  refine Runs.then (sets_run fr1 [] (W.at d1)) ?_
  rintro _ w1 ⟨rfl, O1, Z1⟩
  have Z1' : W.heap.size ≤ w1.heap.size := Z1
  have O1' : ∀ b, b < W.heap.size → w1.heap[b]? = W.heap[b]? := O1
  refine Runs.walk (hB1 w1) ?_
  rintro _ _ ⟨fr2, rfl, ⟨d2, rfl⟩, hB2⟩
  have I1 : OpsIn tb toff (min n0 64) oa ln oc ops (w1.at d2) := I.old O1'
  have hta' : 0 < min n0 64 → ta = some ⟨tb, toff, none⟩ := fun h => hta (by omega)
  have hs1 : ∀ (j : Nat) (z : Int), sl[j]? = some z → ∃ s so, sa = some ⟨s, so, none⟩ ∧ (w1.at d2).cell? ⟨s, so + j, none⟩ = some (.int .i64 z) := fun j z hz => by
    obtain ⟨s, so, e, hc⟩ := hs j z hz
    exact ⟨s, so, e, (World.cell?_of_block (a := ⟨s, so + j, none⟩) (O1' s (cell_lt' hc))).trans hc⟩
  refine Runs.then (oplay_any sz (.slice ta n0 tc) most ta tb toff tc (min n0 64) hta' (by omega) oa ln oc ops sa sc sl hsl fr2 [] (w1.at d2) I1 hs1 fun w' _ => firstOps_some ta n0 tc w' hcap had) ?_
  rintro _ w2 ⟨cells, H, rfl⟩
  have O2 : ∀ b, b < w1.heap.size → w2.heap[b]? = w1.heap[b]? := H.old
  have Z2 : w1.heap.size ≤ w2.heap.size := H.size
  have I2 : OpsIn tb toff (min n0 64) oa ln oc ops w2 := I1.old O2
  have hs2 : ∀ (j : Nat) (z : Int), sl[j]? = some z → ∃ s so, sa = some ⟨s, so, none⟩ ∧ w2.cell? ⟨s, so + j, none⟩ = some (.int .i64 z) := fun j z hz => by
    obtain ⟨s, so, e, hc⟩ := hs1 j z hz
    exact ⟨s, so, e, (World.cell?_of_block (a := ⟨s, so + j, none⟩) (O2 s (cell_lt' hc))).trans hc⟩
  have href := rplay_w (main := true) sz ((w1.at d2).heap.size + 1) tb toff n0 tc (min n0 64) ta oa ln oc ops sa sc sl most w2 I2 rfl hta' (fun w h => I2.old h) hsl hnil hs2
  have hT := H.tr
  have hN := (cellsN_le sz).2.1
  generalize playO (onLa ((w1.at d2).heap.size + 1) (cellsN sz)) oz0 ops (min n0 64) most sl = F at *
  refine Runs.walk (hB2 cells w2 (fun cb w' => TrA cb (min n0 64) (fun i => (F.1.th i).ans) F.2 (ozState F.1.s (cellsN sz)) (stuckO (min n0 64) F.1) w' ∧ Chg (fun _ => False) w2 w' ∧ F.2.length ≤ 1048576 ∧ ∀ i, i < min n0 64 → (F.1.th i).ans.length ≤ 65536) (fun c' cs' => (href c' cs').mono ?_) fun cb w3 ⟨h1, h2, h3, h4⟩ => ?_) ?_
  · rintro g w' ⟨v, ⟨cb, rfl, h⟩, hg⟩
    exact ⟨_, ⟨cb, rfl, h⟩, hg⟩
  · refine sm_w cells cb (min n0 64) _ _ _ _ w3 (by omega) h3 ?_ h4 (hT.chg h2) h1
    have := ozState_len F.1.s (cellsN sz)
    exact Nat.le_trans (Nat.le_of_eq this) (by omega)
  · rintro g w' ⟨hC, cb, w3, ⟨_, h2, _⟩, h5⟩
    refine .now ⟨hC, fun b hb => ?_⟩
    have e2 := h2.size
    exact (h5.same b (by omega) id).trans ((h2.same b (by omega) id).trans ((O2 b (by omega)).trans (O1' b hb)))
section
open Go.ChangeShapes Go.WideShapes Go.ChangeAt Go.Joins Go.Deep
theorem prog_own : ownKnob Try.prog.godebug = none := by kernel_rfl
def Left (W : World) (v : Value) (w' : World) : Prop := v = .bool true ∧ w'.os = W.os ∧ w'.output = W.output ∧ ∀ b, b < W.heap.size → w'.heap[b]? = W.heap[b]?
theorem Left.kept {W w' : World} {v : Value} (h : Left W v w') (may : MemPlace → Prop) : W.keptBut w' may := by
  refine ⟨h.2.1, h.2.2.1, fun i hi => ?_⟩
  rw [h.2.2.2 i hi]
  split <;> simp_all
theorem und4_is : Try.prog.underlying 4 = some .bool := by kernel_rfl
theorem stepG_done {P : Program} {fr : Frame} {w : World} {fn : Func} {v : Value} (hm : fr.mode = .returning) (hn : fr.kind = .normal) (hd : fr.defers = []) (hf : P.funcs[fr.fn]? = some fn) (hr : (results fn fr.tmps).run P w = .ok v w) (he : (results fn fr.tmps).events P w #[] = #[]) (hi : P.inits.idxOf? fr.fn = none) :
    stepG P true (G fr []) w = .ended (.done v) w #[] := by
  simp [G, stepG, unwind, doReturn, hm, hd, hn, hf, hr, he, hi, GStep.after, seen_none]
theorem run_claim {f : FuncId} {fn : Func} {args : Array Value} {W : World} {Post : Value → World → Prop} {v : Value} {t : Tmp} (hf : Try.prog.funcs[f]? = some fn) (hres : fn.results = #[.tmp t]) (hi : Try.prog.inits.idxOf? f = none)
    (h : Runs (fun g w' => Closing f t v g ∧ (OsSame W w' → ∀ d, Post v (w'.at d))) (G (Frame.enter Try.prog f args .normal) []) W) :
    ∃ M last o w' t', runNT Try.prog (M + 1) (solo (G (Frame.enter Try.prog f args .normal) []) W) #[] = (.ended o w', t') ∧ Go.runN Try.prog M (solo (G (Frame.enter Try.prog f args .normal) []) W) = .next last ∧ step Try.prog last = .ended o w' ∧ Go.Conc.Good Try.prog Post last o w' t' := by
  rw [solo_eq_crowd]
  have A0 := at_begin (P := Try.prog) (gs := #[G (Frame.enter Try.prog f args .normal) []]) (a := G (Frame.enter Try.prog f args .normal) []) (sl := none) (w := W) rfl (leavers_one Try.prog _) past_nil
  obtain ⟨N1, m1, T1, r1, ⟨nG, g1, w1, _, ⟨⟨fr, rfl, hm, hn, hd, hfn, hv⟩, hP⟩, A1⟩, ho⟩ := h 1 _ _ (Nat.le_refl _) A0
  obtain ⟨gs, sl, q, B, rfl, _, hg0, hL, hPast⟩ := A1.ends (fun _ => rfl)
  have hP := hP ho
  have hs : ∀ d, stepG Try.prog true (G fr []) (w1.at d) = .ended (.done v) (w1.at d) #[] := fun d =>
    stepG_done hm hn hd (by rw [hfn]; exact hf) (by rw [results_tmp hres, hv]) (events_results_tmp hres _ _) (by rw [hfn]; exact hi)
  have hG : Goes Try.prog true AtRel (fun _ _ es => ∀ e ∈ es, EvL (fun _ => False) B e) (AtEnd Try.prog (fun _ => False) B Post) 0 (G fr []) w1 := by
    rintro _ ⟨d, rfl⟩
    exact ⟨rfl, v, #[], hs d, by simp, hP d⟩
  obtain ⟨M8, last, o, w', t', e1, e2, e3, e4⟩ := beside_ends (P := Try.prog) (Post := Post) (sl := sl) (fun _ _ _ h => h) hg0 hL hPast hG
  refine ⟨N1 + M8, last, o, w', t', ?_, ?_, e3, e4⟩
  · rw [Nat.add_assoc, runNT_add, r1]; exact e1
  · rw [Go.runN_add, ← runNT_fst Try.prog _ _ #[], r1]; exact e2
end
section
open Go.Conc Go.RowKit Go.Relay Go.ChangeShapes Go.WideShapes Go.ChangeAt Go.Joins Go.Deep
theorem und3_is : Try.prog.underlying 3 = some (.int .i64) := by kernel_rfl
theorem und2_is : Try.prog.underlying 2 = some (.int .i64) := by kernel_rfl
theorem laid_out : laidOutB Try.prog = true := by kernel_rfl
section
variable {H : Type} {enc : TypeId × Value → H} {W w' : World}
theorem Left.stays {r : Value} {t : TypeId} {v : Value} {d : DataW H} {ps : List MemPlace} (K : Left W r w') (hr : Try.prog.readableRec t = true) (hrow : t < Try.prog.types.size) (h : DataW.Trod enc Try.prog W 0 (fun _ => true) true t v d ps) (hlt : ∀ x ∈ ps, x.block < W.heap.size) :
    DataW.Trod enc Try.prog w' 0 (fun b => decide (b < W.heap.size)) true t v d ps :=
  WideElems.Trod_stays laid_out hr hrow h (fun x hx => by
    have hb := K.2.2.2 x.block (hlt x hx)
    cases x with
    | cell b o => exact World.cell?_of_block (w := W) (a := ⟨b, o, none⟩) hb
    | map b => exact hb) (fun x hx => by simpa using hlt x hx)
theorem addr_form {w : World} {a : Addr} {v : Value} (h : w.cell? a = some v) : a = ⟨a.block, a.off, none⟩ := by
  obtain ⟨b, o, s⟩ := a
  cases s with
  | none => rfl
  | some s =>
    unfold World.cell? at h
    split at h
    · simp at h
    · cases h
theorem open_nums {t : TypeId} {base : Nat} {v : Value} {d : DataW H} {ps : List MemPlace} (hu : Try.prog.underlying t = some (.slice 3)) (hval : Value.okWide Try.prog W .any base t v) (h : DataW.Trod enc Try.prog W 0 (fun _ => true) true t v d ps)
    {ts : List TypeId} {ds : List (DataW H)} {j : Nat} (hsz : (DataW.weightsEach Try.prog ts ds).all (· ≤ reachBytes) = true) (ht : ts[j]? = some t) (hd : ds[j]? = some d) :
    ∃ (a : Option Addr) (cap : Nat) (zs : List Int), v = .slice a zs.length cap ∧ zs.length ≤ 17592186044416 ∧ (∀ (i : Nat) (z : Int), zs[i]? = some z → ∃ s so, a = some ⟨s, so, none⟩ ∧ W.cell? ⟨s, so + i, none⟩ = some (.int .i64 z)) ∧ (a = none → zs = [] ∧ cap = 0) := by
  obtain ⟨a, len, cap, rfl⟩ := okWide_slice hu hval
  obtain ⟨fuel, hf⟩ := h
  have hc3 : Try.prog.cellsOf 3 = 1 := by kernel_rfl
  have hb3 : Try.prog.bytesOf 3 = 8 := by kernel_rfl
  rcases open_ints hu und3_is hc3 hf with ⟨e, _⟩ | ⟨a', len', cap', zs, e, _, hl, _, hzl, hx, hcell, _⟩
  · have e : [Value.slice a len cap] = [.slice none 0 0] := e
    injection e with e _
    injection e with e1 e2 e3
    subst e1 e2 e3
    exact ⟨none, 0, [], rfl, Nat.zero_le _, fun i z h => by simp at h, fun _ => ⟨rfl, rfl⟩⟩
  · have e : [Value.slice a len cap] = [.slice (some a') len' cap'] := e
    injection e with e _
    injection e with e1 e2 e3
    subst e1 e2 e3
    have hzl : zs.length = cap := by simpa using hzl
    injection hx with hx _
    subst hx
    have hs := sized_slice hsz ht hd hu
    rw [hb3] at hs
    have hs2 : ((lits .i64 (zs.take len) : List (DataW H)).length + (lits .i64 (zs.drop len) : List (DataW H)).length) = cap := by simp [lits]; omega
    rw [hs2] at hs
    have hr := reachBytes_lt
    have htl : (zs.take len).length = len := by rw [List.length_take]; omega
    refine ⟨some a', cap, zs.take len, by rw [htl], by omega, fun i z hz => ?_, fun e => by cases e⟩
    have hi : i < len := by have := (List.getElem?_eq_some_iff.1 hz).1; omega
    have h0 := hcell 0 (by omega)
    have ha : a'.add 0 = a' := by simp [Addr.add]
    rw [ha] at h0
    have hform := addr_form h0
    have hci := hcell i (by omega)
    rw [hform] at hci
    refine ⟨_, _, congrArg some hform, ?_⟩
    rw [add_none] at hci
    rw [hci]
    have : zs[i]? = some z := by
      rw [List.getElem?_take, if_pos hi] at hz
      exact hz
    rw [List.getD_eq_getElem?_getD, this]
    rfl
end
noncomputable def fldsOp : Array Field := match Try.prog.underlying 34 with | some (.struct fs) => fs | _ => #[]
theorem undOp_is : Try.prog.underlying 34 = some (.struct fldsOp) := by kernel_rfl
theorem fldsOp_four : ∃ f0 f1 f2 f3, fldsOp = #[f0, f1, f2, f3] ∧ f0.type = 3 ∧ f1.type = 2 ∧ f2.type = 2 ∧ f3.type = 2 := by
  have hs : fldsOp.size = 4 := by kernel_rfl
  have h0 : (fldsOp[0]?).map (·.type) = some 3 := by kernel_rfl
  have h1 : (fldsOp[1]?).map (·.type) = some 2 := by kernel_rfl
  have h2 : (fldsOp[2]?).map (·.type) = some 2 := by kernel_rfl
  have h3 : (fldsOp[3]?).map (·.type) = some 2 := by kernel_rfl
  generalize fldsOp = F at *
  obtain ⟨l⟩ := F
  match l, hs with
  | [f0, f1, f2, f3], _ => exact ⟨f0, f1, f2, f3, rfl, by simpa using h0, by simpa using h1, by simpa using h2, by simpa using h3⟩
section
variable {H : Type} {enc : TypeId × Value → H} {W : World} {base : Nat} {spare : Nat → Bool} {held : Bool}
theorem trod_struct4 {P : Program} {t : TypeId} {f0 f1 f2 f3 : Field} {fuel : Nat} {cs : List Value} {x : DataW H × List MemPlace} (ht : P.underlying t = some (.struct #[f0, f1, f2, f3])) (h : DataW.trod enc P W base spare held fuel t cs = some x) :
    ∃ y0 y1 y2 y3 n, cs.length = P.cellsOf t ∧ DataW.trod enc P W base spare held n f0.type ((cs.drop f0.offset).take (P.cellsOf f0.type)) = some y0 ∧
      DataW.trod enc P W base spare held n f1.type ((cs.drop f1.offset).take (P.cellsOf f1.type)) = some y1 ∧ DataW.trod enc P W base spare held n f2.type ((cs.drop f2.offset).take (P.cellsOf f2.type)) = some y2 ∧
      DataW.trod enc P W base spare held n f3.type ((cs.drop f3.offset).take (P.cellsOf f3.type)) = some y3 := by
  obtain ⟨xs, n, _, rfl, hl, hlen, hf⟩ := DataW.trod_struct ht h
  match xs, hlen with
  | [y0, y1, y2, y3], _ => exact ⟨y0, y1, y2, y3, n, hl, by simpa using hf 0 f0 rfl, by simpa using hf 1 f1 rfl, by simpa using hf 2 f2 rfl, by simpa using hf 3 f3 rfl⟩
structure ThIn (W : World) (v : Value) (a : Option Addr) (ln oc : Nat) (l : List OpV) : Prop where
  is : v = .slice a ln oc
  len : l.length = ln
  cap : ln ≤ oc
  ad : (a = none ∧ oc = 0) ∨ ∃ p, a = some p
  ops : ∀ (k : Nat) (o : OpV), l[k]? = some o → ∃ b off, a = some ⟨b, off, none⟩ ∧ W.cell? ⟨b, off + k * 4, none⟩ = some (.int .i64 o.k) ∧ W.cell? ⟨b, off + k * 4 + 1, none⟩ = some (.int .i64 o.a) ∧ W.cell? ⟨b, off + k * 4 + 2, none⟩ = some (.int .i64 o.b) ∧ W.cell? ⟨b, off + k * 4 + 3, none⟩ = some (.int .i64 o.c)
theorem open_ops {n : Nat} {v : Value} {x : DataW H × List MemPlace} (hu : Try.prog.underlying 32 = some (.slice 34)) (h : DataW.trod enc Try.prog W base (fun _ => true) held n 32 [v] = some x) :
    ∃ (q : (Option Addr × Nat × Nat) × List OpV), ThIn W v q.1.1 q.1.2.1 q.1.2.2 q.2 := by
  have hC : Try.prog.cellsOf 34 = 4 := by kernel_rfl
  obtain ⟨f0, f1, f2, f3, ef, t0, t1, t2, t3⟩ := fldsOp_four
  have hst : Try.prog.underlying 34 = some (.struct #[f0, f1, f2, f3]) := by rw [undOp_is, ef]
  have hone : oneCellFields Try.prog #[f0, f1, f2, f3] = true := by rw [← ef]; kernel_rfl
  rcases open_slice hu h with ⟨e, _⟩ | ⟨a', len', cap', m, n', D, Pl, e, _, hl, _, hm, hx, hel⟩
  · injection e with e _
    exact ⟨((none, 0, 0), []), e, rfl, Nat.le_refl _, .inl ⟨rfl, rfl⟩, fun k o h => by simp at h⟩
  · injection e with e _
    have hm : m = cap' := by simpa using hm
    have key : ∀ i, i < len' → ∃ o : OpV, ∀ k v, ([.int .i64 o.k, .int .i64 o.a, .int .i64 o.b, .int .i64 o.c] : List Value)[k]? = some v → W.cell? ((a'.add (i * 4)).add k) = some v := fun i hi => by
      obtain ⟨cs', h1, h2⟩ := hel i (by omega)
      rw [hC] at h1
      obtain ⟨_, hlen, hcell⟩ := World.cells?_some h1
      obtain ⟨y0, y1, y2, y3, k, _, u0, u1, u2, u3⟩ := trod_struct4 hst h2
      obtain ⟨o0, k0⟩ := hone_of hone 0 f0 rfl
      obtain ⟨o1, k1⟩ := hone_of hone 1 f1 rfl
      obtain ⟨o2, k2⟩ := hone_of hone 2 f2 rfl
      obtain ⟨o3, k3⟩ := hone_of hone 3 f3 rfl
      match cs', hlen with
      | [c0, c1, c2, c3], _ =>
        rw [o0, k0, t0] at u0
        rw [o1, k1, t1] at u1
        rw [o2, k2, t2] at u2
        rw [o3, k3, t3] at u3
        obtain ⟨z0, e0, _, _⟩ := DataW.trod_int und3_is u0
        obtain ⟨z1, e1, _, _⟩ := DataW.trod_int und2_is u1
        obtain ⟨z2, e2, _, _⟩ := DataW.trod_int und2_is u2
        obtain ⟨z3, e3, _, _⟩ := DataW.trod_int und2_is u3
        simp at e0 e1 e2 e3
        subst e0 e1 e2 e3
        refine ⟨⟨z0, z1, z2, z3⟩, fun k v hv => ?_⟩
        have hk4 : k < 4 := (List.getElem?_eq_some_iff.1 hv).1
        have hc := hcell k (by simpa using hk4)
        rw [hc]
        exact hv
    have hI : Inhabited OpV := ⟨⟨0, 0, 0, 0⟩⟩
    obtain ⟨f, hf'⟩ := choose_lt (α := OpV) key
    refine ⟨((some a', len', cap'), (List.range len').map f), e, by simp, hl, .inr ⟨_, rfl⟩, fun k o hd => ?_⟩
    have hk : k < len' := by simpa using (List.getElem?_eq_some_iff.1 hd).1
    have hd : f k = o := by simpa [hk] using hd
    have hf := hf' k hk
    rw [hd] at hf
    have h0 := hf' 0 (by omega) 0 _ rfl
    have ha : (a'.add (0 * 4)).add 0 = a' := by simp [Addr.add]
    rw [ha] at h0
    have hform := addr_form h0
    have hc : ∀ (m : Nat) (v : Value), ([.int .i64 o.k, .int .i64 o.a, .int .i64 o.b, .int .i64 o.c] : List Value)[m]? = some v → W.cell? ⟨a'.block, a'.off + k * 4 + m, none⟩ = some v := fun m v hv => by
      have := hf m v hv
      rw [hform, add_none, add_none] at this
      exact this
    exact ⟨a'.block, a'.off, congrArg some hform, hc 0 _ rfl, hc 1 _ rfl, hc 2 _ rfl, hc 3 _ rfl⟩
theorem open_threads {t : TypeId} {base : Nat} {v : Value} {d : DataW H} {ps : List MemPlace} (hu : Try.prog.underlying t = some (.slice 32)) (hu2 : Try.prog.underlying 32 = some (.slice 34)) (hval : Value.okWide Try.prog W .any base t v) (h : DataW.Trod enc Try.prog W 0 (fun _ => true) true t v d ps) :
    ∃ (a : Option Addr) (n0 cap tb toff : Nat) (oa : Nat → Option Addr) (ln oc : Nat → Nat) (ops : Nat → List OpV), v = .slice a n0 cap ∧ OpsIn tb toff (min n0 64) oa ln oc ops W ∧ (0 < n0 → a = some ⟨tb, toff, none⟩) ∧ (a = none ∧ cap = 0 ∨ ∃ p, a = some p) ∧ n0 ≤ cap := by
  obtain ⟨a, len, cap, rfl⟩ := okWide_slice hu hval
  obtain ⟨fuel, hf⟩ := h
  have hC : Try.prog.cellsOf 32 = 1 := by kernel_rfl
  rcases open_slice1 hu hC hf with ⟨e, _⟩ | ⟨a', len', cap', m, n, V, D, Pl, e, _, hl, _, hm, hx, hel⟩
  · have e : [Value.slice a len cap] = [.slice none 0 0] := e
    injection e with e _
    injection e with e1 e2 e3
    subst e1 e2 e3
    exact ⟨none, 0, 0, 0, 0, fun _ => none, fun _ => 0, fun _ => 0, fun _ => [], rfl, ⟨fun i h => absurd h (by omega), fun i h => absurd h (by omega), fun i h => absurd h (by omega), fun i h => absurd h (by omega), fun i h => absurd h (by omega)⟩, fun h => absurd h (Nat.lt_irrefl _), .inl ⟨rfl, rfl⟩, Nat.le_refl _⟩
  · have e : [Value.slice a len cap] = [.slice (some a') len' cap'] := e
    injection e with e _
    injection e with e1 e2 e3
    subst e1 e2 e3
    have hm : m = cap := by simpa using hm
    have key : ∀ i, i < len → ∃ q : (Option Addr × Nat × Nat) × List OpV, ThIn W (V i) q.1.1 q.1.2.1 q.1.2.2 q.2 := fun i hi => open_ops hu2 (hel i (by omega)).2
    have hI : Inhabited ((Option Addr × Nat × Nat) × List OpV) := ⟨((none, 0, 0), [])⟩
    obtain ⟨f, hf'⟩ := choose_lt (α := (Option Addr × Nat × Nat) × List OpV) key
    have hform : 0 < len → a' = ⟨a'.block, a'.off, none⟩ := fun h => by
      have h0 := (hel 0 (by omega)).1
      have ha : a'.add 0 = a' := by simp [Addr.add]
      rw [ha] at h0
      exact addr_form h0
    refine ⟨some a', len, cap, a'.block, a'.off, fun i => (f i).1.1, fun i => (f i).1.2.1, fun i => (f i).1.2.2, fun i => (f i).2.take 65536, rfl, ⟨fun i hi => ?_, fun i hi => (hf' i (by omega)).cap, fun i hi => (hf' i (by omega)).ad, fun i hi => ?_, fun i hi j o ho => ?_⟩, fun h => congrArg some (hform h), .inr ⟨_, rfl⟩, hl⟩
    · have hci := (hel i (by omega)).1
      rw [(hf' i (by omega)).is, hform (by omega), add_none] at hci
      exact hci
    · rw [List.length_take, (hf' i (by omega)).len]
      omega
    · refine (hf' i (by omega)).ops j o ?_
      rw [List.getElem?_take] at ho
      split at ho
      · exact ho
      · cases ho
theorem trodAll_four {P : Program} {t t1 t2 t3 : TypeId} {args : Array Value} {ds : List (DataW H)} {ps : List MemPlace} (h : DataW.TrodAll enc P W base spare held [t, t1, t2, t3] args.toList ds ps) :
    ∃ v v1 v2 v3 d d1 d2 d3 p p1 p2 p3, args = #[v, v1, v2, v3] ∧ ds = [d, d1, d2, d3] ∧ ps = p ++ p1 ++ p2 ++ p3 ∧ DataW.Trod enc P W base spare held t v d p ∧ DataW.Trod enc P W base spare held t1 v1 d1 p1 ∧ DataW.Trod enc P W base spare held t2 v2 d2 p2 ∧ DataW.Trod enc P W base spare held t3 v3 d3 p3 := by
  obtain ⟨v, vs, d, ds1, p, q, hargs, rfl, rfl, hd, hrest⟩ := trodAll_cons h
  obtain ⟨v1, vs1, d1, ds2, p1, q1, rfl, rfl, rfl, hd1, hrest1⟩ := trodAll_cons hrest
  obtain ⟨v2, vs2, d2, ds3, p2, q2, rfl, rfl, rfl, hd2, hrest2⟩ := trodAll_cons hrest1
  obtain ⟨v3, vs3, d3, ds4, p3, q3, rfl, rfl, rfl, hd3, hrest3⟩ := trodAll_cons hrest2
  obtain ⟨rfl, rfl, rfl⟩ := trodAll_nil hrest3
  exact ⟨v, v1, v2, v3, d, d1, d2, d3, p, p1, p2, p3, by cases args; simp_all, rfl, by simp, hd, hd1, hd2, hd3⟩
end
end
section
open Go.ChangeShapes Go.WideShapes Go.ChangeAt Go.Joins Go.Deep
theorem oncePlays_lifted (os : Os) (started : os.Started) (H : Type) (enc : TypeId × Value → H) :
    ReturnsInLeavingWide {} Try.checked os 3 .any (Rows.oncePlaysSpec.pre6 enc Try.prog Try.f3 Rows.oncePlaysRow.domain false) (Rows.oncePlaysSpec.post enc Try.prog Try.f3 false true false false) := by
  refine returnsInLeavingWide_of_change_sized (C := Try.checked) prog_own started Try.func3
    (ChangeSpec.witness6 (enc := enc) (C := Try.checked) false ⟨#[], #[.int .i64 0, .slice none 0 0, .slice none 0 0, .int .i64 0], []⟩ 8 (by kernel_rfl) (by kernel_rfl) (by kernel_rfl) (by kernel_rfl)) ?_
  intro W base args ds gs before hval0 hW _ hsz0 _
  have hval : ∀ (j : Nat) t v, Try.f3.params[j]? = some t → args[j]? = some v → Value.okWide Try.prog W .any base t v := hval0
  have hW' := hW
  obtain ⟨p, q, hA0, hV, rfl, _, _⟩ := hW
  have hA : DataW.TrodAll enc Try.prog W 0 (fun _ => true) true Try.f3.params.toList args.toList ds p := hA0
  rw [Try.params3] at hA hval
  have hsz : (DataW.weightsEach Try.prog (Try.f3.params.toList ++ Rows.oncePlaysSpec.plain.varTypes Try.prog) (ds ++ gs)).all (· ≤ reachBytes) = true := hsz0
  rw [Try.params3] at hsz
  obtain ⟨v0, v1, v2, v3, d0, d1, d2, d3, p0, p1, p2, p3, rfl, rfl, rfl, h0, h1, h2, h3⟩ := trodAll_four hA
  obtain ⟨rfl, rfl⟩ := trodVars_none hV
  have hlt := hW'.lt
  obtain ⟨sz, rfl, rfl, rfl, wsz⟩ := open_int und3_is (hval 0 3 v0 rfl rfl) h0
  obtain ⟨ta, n0, tc, tb, toff, oa, ln, oc, ops, rfl, hI, hta, had, hcap⟩ := open_threads (t := 22) (by kernel_rfl) (by kernel_rfl) (hval 1 22 v1 rfl rfl) h1
  obtain ⟨sa, sc, sl, rfl, hsl, hs, hnil⟩ := open_nums (t := 23) (by kernel_rfl) (hval 2 23 v2 rfl rfl) h2 (j := 2) hsz rfl rfl
  obtain ⟨most, rfl, rfl, rfl, wm⟩ := open_int und3_is (hval 3 3 v3 rfl rfl) h3
  clear hA0 hval0 hsz0 hsz
  simp only [List.append_nil, List.nil_append] at hW' hlt
  obtain ⟨M, last, o, w', t', r1, r2, r3, r4⟩ := run_claim (Post := Left W) (t := 8) Try.func3 rfl (by kernel_rfl) (Runs.then (opl_all sz most ta n0 tc tb toff oa ln oc ops sa sc sl W hI hta had hcap hsl hnil hs) fun g w' ⟨hC, hO⟩ => .now ⟨hC, fun ho d => ⟨rfl, ho.1, ho.2, hO⟩⟩)
  refine ⟨M, last, o, w', t', r1, r2, r3, r4.mono fun v hF => ?_⟩
  have hk : Left W (.bool true) w' := ⟨rfl, hF.2⟩
  obtain rfl : v = .bool true := hF.1
  exact ⟨_, _, _, [], _, [], hW', trodAll_mk1 (shut_bool und4_is true), trodAll_mk4 (shut_int und3_is wsz) (hk.stays (by kernel_rfl) (of_decide_eq_true (by kernel_rfl)) h1 fun x hx => hlt x (by simp [hx])) (hk.stays (by kernel_rfl) (of_decide_eq_true (by kernel_rfl)) h2 fun x hx => hlt x (by simp [hx])) (shut_int und3_is wm), rfl, hk.kept _, fun h => by cases h⟩
theorem oncePlays_holds : Rows.OncePlaysSaid :=
  OpenClaim.holds_of_wide_leaving 3 Try.f3 rfl rfl rfl rfl rfl rfl rfl ⟨rfl, rfl, rfl, rfl, rfl⟩ rfl rfl rfl rfl rfl (by kernel_rfl) Try.func3 (by kernel_rfl)
    (of_decide_eq_true (by kernel_rfl)) (by unfold Func.isWrapper; first | (rw [if_pos (by decide +kernel)]; kernel_rfl) | (rw [if_neg (by decide +kernel)]; exact ⟨rfl, rfl⟩))
    (fun os started H enc _ => oncePlays_lifted os started H enc)
end
end Go.Proofs.Ytdcjgmlgmjjogaa
