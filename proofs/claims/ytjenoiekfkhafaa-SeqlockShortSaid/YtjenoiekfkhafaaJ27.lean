/-
For all lists of numbers: SeqlockShort returns true on every schedule of the goroutines, without a data race, and what was there stands. Conditions: none beyond the statement's own.
-/
import Derived.Test.YtjenoiekfkhafaaJ26
import Derived.Test.YtjenoiekfkhafaaRows
import Derived.Conc.LeavingOf
import Derived.Lib.SmallJoins
import Derived.SizedLaws
import Derived.Carry
import Derived.Deep.Slices
import Derived.Deep.Fields
set_option linter.unusedVariables false
set_option linter.unusedSimpArgs false
set_option maxHeartbeats 8000000
set_option maxRecDepth 100000
namespace Go.Proofs.Ytjenoiekfkhafaa
open Go.Conc Go.RowKit Go.Relay
open Go.ConcN (upd upd_ne upd_same)
section
open Go.ChangeShapes Go.WideShapes Go.ChangeAt Go.Joins Go.Deep
theorem prog_own : ownKnob Try.prog.godebug = none := by kernel_rfl
def Left (W : World) (v : Value) (w' : World) : Prop := v = .bool true ∧ w'.os = W.os ∧ w'.output = W.output ∧ ∀ b, b < W.heap.size → w'.heap[b]? = W.heap[b]?
theorem Left.kept {W w' : World} {v : Value} (h : Left W v w') (may : MemPlace → Prop) : W.keptBut w' may := by
  refine ⟨h.2.1, h.2.2.1, fun i hi => ?_⟩
  rw [h.2.2.2 i hi]
  split <;> simp_all
theorem und4_is : Try.prog.underlying 4 = some .bool := by kernel_rfl
theorem stepG_done {P : Program} {fr : Frame} {w : World} {fn : Func} {v : Value} (hm : fr.mode = .returning) (hn : fr.kind = .normal) (hd : fr.defers = []) (hf : P.funcs[fr.fn]? = some fn) (hr : (results fn fr.tmps).run P w = .ok v w) (he : (results fn fr.tmps).events P w #[] = #[]) (hi : P.inits.idxOf? fr.fn = none) :
    stepG P true (G fr []) w = .ended (.done v) w #[] := by
  simp [G, stepG, unwind, doReturn, hm, hd, hn, hf, hr, he, hi, GStep.after, seen_none]
theorem run_claim {f : FuncId} {fn : Func} {args : Array Value} {W : World} {Post : Value → World → Prop} {v : Value} {t : Tmp} (hf : Try.prog.funcs[f]? = some fn) (hres : fn.results = #[.tmp t]) (hi : Try.prog.inits.idxOf? f = none)
    (h : Runs (fun g w' => Closing f t v g ∧ (OsSame W w' → ∀ d, Post v (w'.at d))) (G (Frame.enter Try.prog f args .normal) []) W) :
    ∃ M last o w' t', runNT Try.prog (M + 1) (solo (G (Frame.enter Try.prog f args .normal) []) W) #[] = (.ended o w', t') ∧ Go.runN Try.prog M (solo (G (Frame.enter Try.prog f args .normal) []) W) = .next last ∧ step Try.prog last = .ended o w' ∧ Go.Conc.Good Try.prog Post last o w' t' := by
  rw [solo_eq_crowd]
  have A0 := at_begin (P := Try.prog) (gs := #[G (Frame.enter Try.prog f args .normal) []]) (a := G (Frame.enter Try.prog f args .normal) []) (sl := none) (w := W) rfl (leavers_one Try.prog _) past_nil
  obtain ⟨N1, m1, T1, r1, ⟨nG, g1, w1, _, ⟨⟨fr, rfl, hm, hn, hd, hfn, hv⟩, hP⟩, A1⟩, ho⟩ := h 1 _ _ (Nat.le_refl _) A0
  obtain ⟨gs, sl, q, B, rfl, _, hg0, hL, hPast⟩ := A1.ends (fun _ => rfl)
  have hP := hP ho
  have hs : ∀ d, stepG Try.prog true (G fr []) (w1.at d) = .ended (.done v) (w1.at d) #[] := fun d =>
    stepG_done hm hn hd (by rw [hfn]; exact hf) (by rw [results_tmp hres, hv]) (events_results_tmp hres _ _) (by rw [hfn]; exact hi)
  have hG : Goes Try.prog true AtRel (fun _ _ es => ∀ e ∈ es, EvL (fun _ => False) B e) (AtEnd Try.prog (fun _ => False) B Post) 0 (G fr []) w1 := by
    rintro _ ⟨d, rfl⟩
    exact ⟨rfl, v, #[], hs d, by simp, hP d⟩
  obtain ⟨M8, last, o, w', t', e1, e2, e3, e4⟩ := beside_ends (P := Try.prog) (Post := Post) (sl := sl) (fun _ _ _ h => h) hg0 hL hPast hG
  refine ⟨N1 + M8, last, o, w', t', ?_, ?_, e3, e4⟩
  · rw [Nat.add_assoc, runNT_add, r1]; exact e1
  · rw [Go.runN_add, ← runNT_fst Try.prog _ _ #[], r1]; exact e2
end
section
open Go.Conc Go.RowKit Go.Relay Go.ChangeShapes Go.WideShapes Go.ChangeAt Go.Joins Go.Deep
theorem laid_out : laidOutB Try.prog = true := by kernel_rfl
section
variable {H : Type} {enc : TypeId × Value → H} {W w' : World}
theorem Left.stays {r : Value} {t : TypeId} {v : Value} {d : DataW H} {ps : List MemPlace} (K : Left W r w') (hr : Try.prog.readableRec t = true) (hrow : t < Try.prog.types.size) (h : DataW.Trod enc Try.prog W 0 (fun _ => true) true t v d ps) (hlt : ∀ x ∈ ps, x.block < W.heap.size) :
    DataW.Trod enc Try.prog w' 0 (fun b => decide (b < W.heap.size)) true t v d ps :=
  WideElems.Trod_stays laid_out hr hrow h (fun x hx => by
    have hb := K.2.2.2 x.block (hlt x hx)
    cases x with
    | cell b o => exact World.cell?_of_block (w := W) (a := ⟨b, o, none⟩) hb
    | map b => exact hb) (fun x hx => by simpa using hlt x hx)
theorem addr_form {w : World} {a : Addr} {v : Value} (h : w.cell? a = some v) : a = ⟨a.block, a.off, none⟩ := by
  obtain ⟨b, o, s⟩ := a
  cases s with
  | none => rfl
  | some s =>
    unfold World.cell? at h
    split at h
    · simp at h
    · cases h
end
section
variable {H : Type} {enc : TypeId × Value → H} {W : World}
theorem lit_wraps {z : Int} (h : (Lit.int .i64 z).wf = true) : IntKind.i64.wrap z = z := by
  simp [Lit.wf, IntKind.min, IntKind.max, IntKind.signed, IntKind.bits] at h
  rw [IntKind.wrap_i64]
  omega
theorem open_numsT {t e : TypeId} {n : Nat} {v : Value} {x : DataW H × List MemPlace} (hu : Try.prog.underlying t = some (.slice e)) (he : Try.prog.underlying e = some (.int .i64)) (hc3 : Try.prog.cellsOf e = 1) (hb3 : Try.prog.bytesOf e = 8) (h : DataW.trod enc Try.prog W 0 (fun _ => true) true n t [v] = some x)
    {ts : List TypeId} {ds : List (DataW H)} {j : Nat} (hsz : (DataW.weightsEach Try.prog ts ds).all (· ≤ reachBytes) = true) (ht : ts[j]? = some t) (hd : ds[j]? = some x.1) :
    ∃ (a : Option Addr) (cap : Nat) (zs : List Int), v = .slice a zs.length cap ∧ zs.length ≤ 17592186044416 ∧ (∀ (i : Nat) (z : Int), zs[i]? = some z → IntKind.i64.wrap z = z ∧ ∃ s so, a = some ⟨s, so, none⟩ ∧ W.cell? ⟨s, so + i, none⟩ = some (.int .i64 z)) ∧ zs.length ≤ cap ∧ (a = none ∧ cap = 0 ∨ ∃ p, a = some p) := by
  rcases open_ints hu he hc3 h with ⟨e, _⟩ | ⟨a', len', cap', zs, e, _, hl, _, hzl, hx, hcell, hwf⟩
  · have e : [v] = [.slice none 0 0] := e
    injection e with e _
    subst e
    exact ⟨none, 0, [], rfl, Nat.zero_le _, fun i z h => by simp at h, Nat.zero_le _, .inl ⟨rfl, rfl⟩⟩
  · have e : [v] = [.slice (some a') len' cap'] := e
    injection e with e _
    subst e
    have hzl : zs.length = cap' := by simpa using hzl
    subst hx
    have hs := sized_slice hsz ht hd hu
    rw [hb3] at hs
    have hs2 : ((lits .i64 (zs.take len') : List (DataW H)).length + (lits .i64 (zs.drop len') : List (DataW H)).length) = cap' := by simp [lits]; omega
    rw [hs2] at hs
    have hr := reachBytes_lt
    have htl : (zs.take len').length = len' := by rw [List.length_take]; omega
    refine ⟨some a', cap', zs.take len', by rw [htl], by omega, fun i z hz => ?_, by omega, .inr ⟨_, rfl⟩⟩
    have hi : i < len' := by have := (List.getElem?_eq_some_iff.1 hz).1; omega
    have h0 := hcell 0 (by omega)
    have ha : a'.add 0 = a' := by simp [Addr.add]
    rw [ha] at h0
    have hform := addr_form h0
    have hci := hcell i (by omega)
    rw [hform] at hci
    have hz' : zs[i]? = some z := by
      rw [List.getElem?_take, if_pos hi] at hz
      exact hz
    refine ⟨lit_wraps (hwf z (List.mem_of_getElem? hz')), _, _, congrArg some hform, ?_⟩
    rw [add_none] at hci
    rw [hci]
    rw [List.getD_eq_getElem?_getD, hz']
    rfl
theorem numsT_lsR {a : Option Addr} {cap : Nat} {zs : List Int} (h1 : ∀ (i : Nat) (z : Int), zs[i]? = some z → IntKind.i64.wrap z = z ∧ ∃ s so, a = some ⟨s, so, none⟩ ∧ W.cell? ⟨s, so + i, none⟩ = some (.int .i64 z)) (h2 : zs.length ≤ cap) (h3 : a = none ∧ cap = 0 ∨ ∃ p, a = some p) : LsR (.slice a zs.length cap) zs W :=
  have hn : a = none → cap = 0 := fun e => by
    rcases h3 with h | ⟨p, h⟩
    · exact h.2
    · rw [h] at e; cases e
  ⟨a, cap, rfl, h2, hn, fun j z hz => (h1 j z hz).2⟩
variable {base : Nat} {spare : Nat → Bool} {held : Bool}
theorem trodAll_three {P : Program} {t t1 t2 : TypeId} {args : Array Value} {ds : List (DataW H)} {ps : List MemPlace} (h : DataW.TrodAll enc P W base spare held [t, t1, t2] args.toList ds ps) :
    ∃ v v1 v2 d d1 d2 p p1 p2, args = #[v, v1, v2] ∧ ds = [d, d1, d2] ∧ ps = p ++ p1 ++ p2 ∧ DataW.Trod enc P W base spare held t v d p ∧ DataW.Trod enc P W base spare held t1 v1 d1 p1 ∧ DataW.Trod enc P W base spare held t2 v2 d2 p2 := by
  obtain ⟨v, vs, d, ds1, p, q, hargs, rfl, rfl, hd, hrest⟩ := trodAll_cons h
  obtain ⟨v1, vs1, d1, ds2, p1, q1, rfl, rfl, rfl, hd1, hrest1⟩ := trodAll_cons hrest
  obtain ⟨v2, vs2, d2, ds3, p2, q2, rfl, rfl, rfl, hd2, hrest2⟩ := trodAll_cons hrest1
  obtain ⟨rfl, rfl, rfl⟩ := trodAll_nil hrest2
  exact ⟨v, v1, v2, d, d1, d2, p, p1, p2, by cases args; simp_all, rfl, by simp, hd, hd1, hd2⟩
end
end
section
open Go.ChangeShapes Go.WideShapes Go.ChangeAt Go.Joins Go.Deep
theorem seqlockShort_lifted (os : Os) (started : os.Started) (H : Type) (enc : TypeId × Value → H) :
    ReturnsInLeavingWide {} Try.checked os 5 .any (Rows.seqlockShortSpec.pre6 enc Try.prog Try.f5 Rows.seqlockShortRow.domain false) (Rows.seqlockShortSpec.post enc Try.prog Try.f5 false true false false) := by
  refine returnsInLeavingWide_of_change_sized (C := Try.checked) prog_own started Try.func5
    (ChangeSpec.witness6 (enc := enc) (C := Try.checked) false ⟨#[], #[.slice none 0 0, .slice none 0 0, .slice none 0 0], []⟩ 8 (by kernel_rfl) (by kernel_rfl) (by kernel_rfl) (by kernel_rfl)) ?_
  intro W base args ds gs before hval0 hW _ hsz0 _
  have hval : ∀ (j : Nat) t v, Try.f5.params[j]? = some t → args[j]? = some v → Value.okWide Try.prog W .any base t v := hval0
  have hW' := hW
  obtain ⟨p, q, hA0, hV, rfl, _, _⟩ := hW
  have hA : DataW.TrodAll enc Try.prog W 0 (fun _ => true) true Try.f5.params.toList args.toList ds p := hA0
  rw [Try.params5] at hA hval
  have hsz : (DataW.weightsEach Try.prog (Try.f5.params.toList ++ Rows.seqlockShortSpec.plain.varTypes Try.prog) (ds ++ gs)).all (· ≤ reachBytes) = true := hsz0
  rw [Try.params5] at hsz
  obtain ⟨v0, v1, v2, d0, d1, d2, p0, p1, p2, rfl, rfl, rfl, h0, h1, h2⟩ := trodAll_three hA
  obtain ⟨rfl, rfl⟩ := trodVars_none hV
  have hlt := hW'.lt
  obtain ⟨a0, l0, c0, rfl⟩ := okWide_slice (t := 22) (e := 2) (by kernel_rfl) (hval 0 22 v0 rfl rfl)
  obtain ⟨a1, l1, c1, rfl⟩ := okWide_slice (t := 22) (e := 2) (by kernel_rfl) (hval 1 22 v1 rfl rfl)
  obtain ⟨a2, l2, c2, rfl⟩ := okWide_slice (t := 22) (e := 2) (by kernel_rfl) (hval 2 22 v2 rfl rfl)
  obtain ⟨n0, h0'⟩ := id h0
  obtain ⟨n1, h1'⟩ := id h1
  obtain ⟨n2, h2'⟩ := id h2
  obtain ⟨xa, xc, xs, e0, hxn, x1, x2, x3⟩ := open_numsT (t := 22) (e := 2) (by kernel_rfl) (by kernel_rfl) (by kernel_rfl) (by kernel_rfl) (x := (d0, p0)) h0' (j := 0) hsz rfl rfl
  obtain ⟨va, vc, vs, e1, hvn, y1, y2, y3⟩ := open_numsT (t := 22) (e := 2) (by kernel_rfl) (by kernel_rfl) (by kernel_rfl) (by kernel_rfl) (x := (d1, p1)) h1' (j := 1) hsz rfl rfl
  obtain ⟨ua, uc, us, e2, hun, z1, z2, z3⟩ := open_numsT (t := 22) (e := 2) (by kernel_rfl) (by kernel_rfl) (by kernel_rfl) (by kernel_rfl) (x := (d2, p2)) h2' (j := 2) hsz rfl rfl
  obtain ⟨rfl, rfl, rfl⟩ := Value.slice.inj e0
  obtain ⟨rfl, rfl, rfl⟩ := Value.slice.inj e1
  obtain ⟨rfl, rfl, rfl⟩ := Value.slice.inj e2
  clear hA0 hval0 hval hsz0 hsz h0' h1' h2' e0 e1 e2
  simp only [List.append_nil] at hW' hlt
  obtain ⟨M, last, o, w', t', r1, r2, r3, r4⟩ := run_claim (Post := Left W) (t := 6) Try.func5 rfl (by kernel_rfl) (Runs.then (sho_all _ xs hxn _ vs hvn _ us hun W (numsT_lsR x1 x2 x3) (numsT_lsR y1 y2 y3) (numsT_lsR z1 z2 z3)) fun g w' ⟨hC, hO⟩ => .now ⟨hC, fun ho d => ⟨rfl, ho.1, ho.2, hO⟩⟩)
  refine ⟨M, last, o, w', t', r1, r2, r3, r4.mono fun v hF => ?_⟩
  have hk : Left W (.bool true) w' := ⟨rfl, hF.2⟩
  obtain rfl : v = .bool true := hF.1
  have hl : ∀ x, x ∈ p0 ∨ x ∈ p1 ∨ x ∈ p2 → x.block < W.heap.size := fun x hx => by rcases hx with h | h | h <;> exact hlt x (by simp [h])
  exact ⟨_, _, _, [], _, [], hW', trodAll_mk1 (shut_bool und4_is true), trodAll_mk3 (hk.stays (by kernel_rfl) (of_decide_eq_true (by kernel_rfl)) h0 fun x hx => hl x (.inl hx)) (hk.stays (by kernel_rfl) (of_decide_eq_true (by kernel_rfl)) h1 fun x hx => hl x (.inr (.inl hx))) (hk.stays (by kernel_rfl) (of_decide_eq_true (by kernel_rfl)) h2 fun x hx => hl x (.inr (.inr hx))), rfl, hk.kept _, fun h => by cases h⟩
theorem seqlockShort_holds : Rows.SeqlockShortSaid :=
  OpenClaim.holds_of_wide_leaving 5 Try.f5 rfl rfl rfl rfl rfl rfl rfl ⟨rfl, rfl, rfl, rfl, rfl⟩ rfl rfl rfl rfl rfl (by kernel_rfl) Try.func5 (by kernel_rfl)
    (of_decide_eq_true (by kernel_rfl)) (by unfold Func.isWrapper; first | (rw [if_pos (by decide +kernel)]; kernel_rfl) | (rw [if_neg (by decide +kernel)]; exact ⟨rfl, rfl⟩))
    (fun os started H enc _ => seqlockShort_lifted os started H enc)
end
end Go.Proofs.Ytjenoiekfkhafaa
