/-
For all lists of operations: SeqlockNone returns true on every schedule of the goroutines, without a data race, and what was there stands. Conditions: none beyond the statement's own.
-/
import Derived.Test.YtjenoiekfkhafaaK1
import Derived.Test.YtjenoiekfkhafaaK2
import Derived.Test.YtjenoiekfkhafaaRows
import Derived.Conc.LeavingOf
import Derived.Lib.SmallJoins
import Derived.Handy
import Derived.SizedLaws
import Derived.Carry
import Derived.Deep.Slices
import Derived.Deep.Fields
set_option linter.unusedSimpArgs false
set_option linter.unusedVariables false
set_option maxHeartbeats 8000000
set_option maxRecDepth 100000
namespace Go.Proofs.Ytjenoiekfkhafaa
open Go.Conc Go.RowKit Go.Relay
open Go.ConcN (upd upd_ne upd_same)
section
theorem none_even : ¬ sqOdd (sq0 []).v := by
  have h : decide (¬ sqOdd 0) = true := by decide
  exact of_decide_eq_true h
theorem zero_lock {w : World} {b : Nat} (h : w.heap[b]? = some (.cells #[.int .i64 0, .int .i64 0, .int .i64 0, .int .i64 0, .int .i64 0, .int .i64 0, .int .i64 0, .int .i64 0, .int .i64 0, .int .i64 0, .int .i64 0, .int .i64 0, .int .i64 0, .int .i64 0, .int .i64 0, .int .i64 0, .int .i64 0, .int .i64 0] 75)) : SqI b 0 (sq0 []) w :=
  ⟨⟨_, h, rfl, rfl, fun i hi => by
    obtain rfl : i = 0 := by omega
    rfl, rfl⟩, by decide⟩
theorem none_in (ov : Value) (w : World) : Walk Try.prog true (DR (fun _ => none)) (fun g w' => ∃ fr, g = G (Frame.enter Try.prog 12 #[] .normal) [fr] ∧ (∃ d, w' = w.at d) ∧ ∀ w1,
      Walk Try.prog true (DR (fun _ => none)) (fun g w' => (∃ u, g = G (hdNon ov w1.heap.size (w1.heap.size + 1) 0 u) []) ∧ NonI w1.heap.size (w1.heap.size + 1) (sq0 []) w1 w') (G (fr.finish (.bool true)) []) w1)
    (G (Frame.enter Try.prog 10 #[ov] .normal) []) w := by
  rw [enter_at _ Try.func10 code10_is]
  simp only [Try.ntmps10, List.size_toArray, List.length_cons, List.length_nil, Nat.reduceAdd, Nat.reduceSub, Array.replicate_succ, Array.replicate_zero, List.push_toArray, List.append_toArray, List.nil_append, List.cons_append]
  repeat (first | refine Walk.c rfl ?_ | refine Walk.cRet ?_ | refine Walk.cEnd ?_ | (refine Walk.cReg ?_; simp only [size10_0, size10_1, size10_2, size10_3, size10_4, size10_5, size10_6, size10_8, size10_9, size10_10, size10_11, size10_12, size10_13, size10_14, size10_7, size10_15, List.range, List.range.loop]) | (refine Walk.oq ?_; try walk_nrm) | (refine Walk.un ?_; walk_nrm))
  refine Walk.callE (ho_of (by conv => lhs; whnf) (by kernel_rfl)) (by rfl) (by decide) rfl Try.func12 (by kernel_rfl) (by rfl) ?_
  walk_nrm
  refine .stop fun d => ⟨_, rfl, ⟨d, rfl⟩, fun w1 => ?_⟩
  refine Walk.finish (ho_of (by conv => lhs; whnf) (by kernel_rfl)) ?_
  walk_nrm
  repeat (first | refine Walk.c rfl ?_ | refine Walk.cRet ?_ | refine Walk.cEnd ?_ | (refine Walk.cReg ?_; simp only [size10_0, size10_1, size10_2, size10_3, size10_4, size10_5, size10_6, size10_8, size10_9, size10_10, size10_11, size10_12, size10_13, size10_14, size10_7, size10_15, List.range, List.range.loop]) | (refine Walk.oq ?_; try walk_nrm) | (refine Walk.un ?_; walk_nrm))
  (refine Walk.oa ?_; try walk_nrm)
  have s2 : (w1.alloc (.cells #[.int .i64 0, .int .i64 0, .int .i64 0, .int .i64 0, .int .i64 0, .int .i64 0, .int .i64 0, .int .i64 0, .int .i64 0, .int .i64 0, .int .i64 0, .int .i64 0, .int .i64 0, .int .i64 0, .int .i64 0, .int .i64 0, .int .i64 0, .int .i64 0] 75)).heap.size = w1.heap.size + 1 := by simp
  have o2 : ∀ b, b < w1.heap.size → (w1.alloc (.cells #[.int .i64 0, .int .i64 0, .int .i64 0, .int .i64 0, .int .i64 0, .int .i64 0, .int .i64 0, .int .i64 0, .int .i64 0, .int .i64 0, .int .i64 0, .int .i64 0, .int .i64 0, .int .i64 0, .int .i64 0, .int .i64 0, .int .i64 0, .int .i64 0] 75)).heap[b]? = w1.heap[b]? := fun b hb => heap_new_lt _ _ hb
  have d2 := zero_lock (heap_alloc_new w1 (.cells #[.int .i64 0, .int .i64 0, .int .i64 0, .int .i64 0, .int .i64 0, .int .i64 0, .int .i64 0, .int .i64 0, .int .i64 0, .int .i64 0, .int .i64 0, .int .i64 0, .int .i64 0, .int .i64 0, .int .i64 0, .int .i64 0, .int .i64 0, .int .i64 0] 75))
  generalize hT : w1.heap.size = T at *
  generalize w1.alloc (.cells #[.int .i64 0, .int .i64 0, .int .i64 0, .int .i64 0, .int .i64 0, .int .i64 0, .int .i64 0, .int .i64 0, .int .i64 0, .int .i64 0, .int .i64 0, .int .i64 0, .int .i64 0, .int .i64 0, .int .i64 0, .int .i64 0, .int .i64 0, .int .i64 0] 75) = x2 at *
  have hn1 : CallW Try.prog true (fun _ => none) 16 #[.slice none 0 0] x2 (fun v w' => v = .pointer (some ⟨x2.heap.size, 0, none⟩) ∧ SqI x2.heap.size 0 (sq0 []) w' ∧ (∀ b, b < x2.heap.size → w'.heap[b]? = x2.heap[b]?) ∧ x2.heap.size < w'.heap.size) := new_w x2 (.slice none 0 0) [] ⟨none, 0, rfl, Nat.le_refl _, fun _ => rfl, fun j z hj => (by simp at hj)⟩ (by decide) (fun b _ => ap0 b)
  rw [s2] at hn1
  generalize sq0 [] = S0 at *
  repeat (first | (refine Walk.oq ?_; try walk_nrm) | (refine Walk.un ?_; walk_nrm))
  refine Walk.callW (Post := fun v w' => v = .pointer (some ⟨T + 1, 0, none⟩) ∧ SqI (T + 1) 0 S0 w' ∧ (∀ b, b < T + 1 → w'.heap[b]? = x2.heap[b]?) ∧ T + 1 < w'.heap.size) ?_ (ho_of (by conv => lhs; whnf) (by kernel_rfl)) (by rfl) (by decide) rfl Try.func16 (by kernel_rfl) (by rfl) ?_
  · walk_nrm
    exact hn1
  rintro v w3 ⟨rfl, I3, O3, Z3⟩
  clear hn1
  walk_nrm
  have N3 : NonI T (T + 1) S0 w1 w3 := ⟨d2.old (O3 T (by omega)), I3, fun b hb _ => (O3 b (by omega)).trans (o2 b (by omega)), by omega⟩
  repeat (first | refine Walk.c rfl ?_ | refine Walk.cRet ?_ | refine Walk.cEnd ?_ | (refine Walk.cReg ?_; simp only [size10_0, size10_1, size10_2, size10_3, size10_4, size10_5, size10_6, size10_8, size10_9, size10_10, size10_11, size10_12, size10_13, size10_14, size10_7, size10_15, List.range, List.range.loop]) | (refine Walk.oq ?_; try walk_nrm) | (refine Walk.un ?_; walk_nrm))
  refine Walk.ctl rfl (fun w => stepG_loop) ?_
  refine .stop fun d => ⟨at_slots ?_, N3.at d⟩
  simp only [hdNon]
  rfl
section
variable {zb lb : Nat}
theorem none_loop (oa0 : Option Addr) (n0 tc : Nat) (l : List OpV) (hl : l.length = n0) (hn0 : n0 ≤ 17592186044416) (W0 : World) (T : zb ≠ lb)
    (hop : ∀ (j : Nat) (o : OpV), l[j]? = some o → ∃ b off, oa0 = some ⟨b, off, none⟩ ∧ OffN zb lb b ∧ W0.cell? ⟨b, off + j * 4, none⟩ = some (.int .i64 o.k) ∧ W0.cell? ⟨b, off + j * 4 + 1, none⟩ = some (.int .i64 o.a) ∧ W0.cell? ⟨b, off + j * 4 + 2, none⟩ = some (.int .i64 o.b) ∧ W0.cell? ⟨b, off + j * 4 + 3, none⟩ = some (.int .i64 o.c)) :
    ∀ (r i : Nat) (w : World) (u : Nat → Value) (S : Sq), ¬ sqOdd S.v → i + r = n0 → NonI zb lb S W0 w →
    Walk Try.prog true (DR (fun _ => none)) (fun g w' => Closing 10 2 (.bool true) g ∧ ∀ b, b < W0.heap.size → OffN zb lb b → w'.heap[b]? = W0.heap[b]?) (G (hdNon (.slice oa0 n0 tc) zb lb i u) []) w := by
  intro r
  induction r with
  | zero =>
    intro i w u S hs hi I
    have hi : i = n0 := hi
    subst hi
    refine (none_end (.slice oa0 i tc) oa0 i tc rfl w u).mono ?_
    rintro g w' ⟨hC, d, rfl⟩
    exact ⟨hC, I.old⟩
  | succ r ih =>
    intro i w u S hs hi I
    have hil : i < l.length := by omega
    have ho : l[i]? = some l[i] := List.getElem?_eq_getElem hil
    generalize l[i] = o at ho
    obtain ⟨b, off, rfl, hOb, o0, o1, o2, o3⟩ := hop i o ho
    have hcell : ∀ {x y : Nat} {v : Value}, OffN zb lb x → W0.cell? ⟨x, y, none⟩ = some v → w.cell? ⟨x, y, none⟩ = some v := fun {x y v} e h => (World.cell?_of_block (a := ⟨x, y, none⟩) (I.old x (cell_lt' h) e)).trans h
    refine (none_round b off n0 tc i S hs o (by omega) hn0 W0 w I T hOb (hcell hOb o0) (hcell hOb o1) (hcell hOb o2) (hcell hOb o3) [] u).then ?_
    rintro g w' ⟨⟨u', rfl⟩, I'⟩
    exact ih (i + 1) w' u' _ (one_even S hs o) (by omega) I'
end
theorem none_all (oa0 : Option Addr) (n0 tc : Nat) (hn0 : n0 ≤ 17592186044416) (l : List OpV) (hl : l.length = n0) (W : World)
    (hop : ∀ (j : Nat) (o : OpV), l[j]? = some o → ∃ b off, oa0 = some ⟨b, off, none⟩ ∧ W.cell? ⟨b, off + j * 4, none⟩ = some (.int .i64 o.k) ∧ W.cell? ⟨b, off + j * 4 + 1, none⟩ = some (.int .i64 o.a) ∧ W.cell? ⟨b, off + j * 4 + 2, none⟩ = some (.int .i64 o.b) ∧ W.cell? ⟨b, off + j * 4 + 3, none⟩ = some (.int .i64 o.c)) :
    Runs (fun g w' => Closing 10 2 (.bool true) g ∧ ∀ b, b < W.heap.size → w'.heap[b]? = W.heap[b]?) (G (Frame.enter Try.prog 10 #[.slice oa0 n0 tc] .normal) []) W := by
  refine Runs.walk (none_in (.slice oa0 n0 tc) W) ?_
  rintro _ _ ⟨fr, rfl, ⟨d, rfl⟩, hB⟩
  refine Runs.then (fixed_run fr [] (W.at d)) ?_
  rintro _ w1 ⟨rfl, O1, Z1⟩
  have O1 : ∀ b, b < W.heap.size → w1.heap[b]? = W.heap[b]? := O1
  have Z1 : W.heap.size ≤ w1.heap.size := Z1
  have hB := hB w1
  generalize hT : w1.heap.size = T at *
  have off : ∀ b, b < T → OffN T (T + 1) b := fun b hb => ⟨by omega, by omega⟩
  have two : T ≠ T + 1 := by omega
  have hlp := fun w u (I : NonI T (T + 1) (sq0 []) w1 w) => none_loop oa0 n0 tc l hl hn0 w1 two (fun j o ho => by
    obtain ⟨b, off', e, c0, c1, c2, c3⟩ := hop j o ho
    have hbW := cell_lt' c0
    have hb := O1 b hbW
    exact ⟨b, off', e, off b (by omega), (World.cell?_of_block (a := ⟨b, _, none⟩) hb).trans c0, (World.cell?_of_block (a := ⟨b, _, none⟩) hb).trans c1, (World.cell?_of_block (a := ⟨b, _, none⟩) hb).trans c2, (World.cell?_of_block (a := ⟨b, _, none⟩) hb).trans c3⟩) n0 0 w u _ none_even (by omega) I
  refine Runs.walk (hB.then ?_) (Stop := fun g w' => Closing 10 2 (.bool true) g ∧ ∀ b, b < w1.heap.size → OffN T (T + 1) b → w'.heap[b]? = w1.heap[b]?) ?_
  · rintro g w2 ⟨⟨u, rfl⟩, I2⟩
    exact hlp w2 u I2
  · rintro g w3 ⟨hC, hO⟩
    exact .now ⟨hC, fun b hb => (hO b (by omega) (off b (by omega))).trans (O1 b hb)⟩
end
section
open Go.ChangeShapes Go.WideShapes Go.ChangeAt Go.Joins Go.Deep
theorem prog_own : ownKnob Try.prog.godebug = none := by kernel_rfl
def Left (W : World) (v : Value) (w' : World) : Prop := v = .bool true ∧ w'.os = W.os ∧ w'.output = W.output ∧ ∀ b, b < W.heap.size → w'.heap[b]? = W.heap[b]?
theorem Left.kept {W w' : World} {v : Value} (h : Left W v w') (may : MemPlace → Prop) : W.keptBut w' may := by
  refine ⟨h.2.1, h.2.2.1, fun i hi => ?_⟩
  rw [h.2.2.2 i hi]
  split <;> simp_all
theorem und4_is : Try.prog.underlying 4 = some .bool := by kernel_rfl
theorem stepG_done {P : Program} {fr : Frame} {w : World} {fn : Func} {v : Value} (hm : fr.mode = .returning) (hn : fr.kind = .normal) (hd : fr.defers = []) (hf : P.funcs[fr.fn]? = some fn) (hr : (results fn fr.tmps).run P w = .ok v w) (he : (results fn fr.tmps).events P w #[] = #[]) (hi : P.inits.idxOf? fr.fn = none) :
    stepG P true (G fr []) w = .ended (.done v) w #[] := by
  simp [G, stepG, unwind, doReturn, hm, hd, hn, hf, hr, he, hi, GStep.after, seen_none]
theorem run_claim {f : FuncId} {fn : Func} {args : Array Value} {W : World} {Post : Value → World → Prop} {v : Value} {t : Tmp} (hf : Try.prog.funcs[f]? = some fn) (hres : fn.results = #[.tmp t]) (hi : Try.prog.inits.idxOf? f = none)
    (h : Runs (fun g w' => Closing f t v g ∧ (OsSame W w' → ∀ d, Post v (w'.at d))) (G (Frame.enter Try.prog f args .normal) []) W) :
    ∃ M last o w' t', runNT Try.prog (M + 1) (solo (G (Frame.enter Try.prog f args .normal) []) W) #[] = (.ended o w', t') ∧ Go.runN Try.prog M (solo (G (Frame.enter Try.prog f args .normal) []) W) = .next last ∧ step Try.prog last = .ended o w' ∧ Go.Conc.Good Try.prog Post last o w' t' := by
  rw [solo_eq_crowd]
  have A0 := at_begin (P := Try.prog) (gs := #[G (Frame.enter Try.prog f args .normal) []]) (a := G (Frame.enter Try.prog f args .normal) []) (sl := none) (w := W) rfl (leavers_one Try.prog _) past_nil
  obtain ⟨N1, m1, T1, r1, ⟨nG, g1, w1, _, ⟨⟨fr, rfl, hm, hn, hd, hfn, hv⟩, hP⟩, A1⟩, ho⟩ := h 1 _ _ (Nat.le_refl _) A0
  obtain ⟨gs, sl, q, B, rfl, _, hg0, hL, hPast⟩ := A1.ends (fun _ => rfl)
  have hP := hP ho
  have hs : ∀ d, stepG Try.prog true (G fr []) (w1.at d) = .ended (.done v) (w1.at d) #[] := fun d =>
    stepG_done hm hn hd (by rw [hfn]; exact hf) (by rw [results_tmp hres, hv]) (events_results_tmp hres _ _) (by rw [hfn]; exact hi)
  have hG : Goes Try.prog true AtRel (fun _ _ es => ∀ e ∈ es, EvL (fun _ => False) B e) (AtEnd Try.prog (fun _ => False) B Post) 0 (G fr []) w1 := by
    rintro _ ⟨d, rfl⟩
    exact ⟨rfl, v, #[], hs d, by simp, hP d⟩
  obtain ⟨M8, last, o, w', t', e1, e2, e3, e4⟩ := beside_ends (P := Try.prog) (Post := Post) (sl := sl) (fun _ _ _ h => h) hg0 hL hPast hG
  refine ⟨N1 + M8, last, o, w', t', ?_, ?_, e3, e4⟩
  · rw [Nat.add_assoc, runNT_add, r1]; exact e1
  · rw [Go.runN_add, ← runNT_fst Try.prog _ _ #[], r1]; exact e2
end
section
open Go.Conc Go.RowKit Go.Relay Go.ChangeShapes Go.WideShapes Go.ChangeAt Go.Joins Go.Deep
theorem und3_is : Try.prog.underlying 3 = some (.int .i64) := by kernel_rfl
theorem und2_is : Try.prog.underlying 2 = some (.int .i64) := by kernel_rfl
theorem laid_out : laidOutB Try.prog = true := by kernel_rfl
section
variable {H : Type} {enc : TypeId × Value → H} {W w' : World}
theorem Left.stays {r : Value} {t : TypeId} {v : Value} {d : DataW H} {ps : List MemPlace} (K : Left W r w') (hr : Try.prog.readableRec t = true) (hrow : t < Try.prog.types.size) (h : DataW.Trod enc Try.prog W 0 (fun _ => true) true t v d ps) (hlt : ∀ x ∈ ps, x.block < W.heap.size) :
    DataW.Trod enc Try.prog w' 0 (fun b => decide (b < W.heap.size)) true t v d ps :=
  WideElems.Trod_stays laid_out hr hrow h (fun x hx => by
    have hb := K.2.2.2 x.block (hlt x hx)
    cases x with
    | cell b o => exact World.cell?_of_block (w := W) (a := ⟨b, o, none⟩) hb
    | map b => exact hb) (fun x hx => by simpa using hlt x hx)
theorem addr_form {w : World} {a : Addr} {v : Value} (h : w.cell? a = some v) : a = ⟨a.block, a.off, none⟩ := by
  obtain ⟨b, o, s⟩ := a
  cases s with
  | none => rfl
  | some s =>
    unfold World.cell? at h
    split at h
    · simp at h
    · cases h
end
end
section
open Go.Conc Go.RowKit Go.Relay Go.ChangeShapes Go.WideShapes Go.ChangeAt Go.Joins Go.Deep
noncomputable def fldsOp : Array Field := match Try.prog.underlying 47 with | some (.struct fs) => fs | _ => #[]
theorem undOp_is : Try.prog.underlying 47 = some (.struct fldsOp) := by kernel_rfl
theorem fldsOp_four : ∃ f0 f1 f2 f3, fldsOp = #[f0, f1, f2, f3] ∧ f0.type = 3 ∧ f1.type = 2 ∧ f2.type = 2 ∧ f3.type = 2 := by
  have hs : fldsOp.size = 4 := by kernel_rfl
  have h0 : (fldsOp[0]?).map (·.type) = some 3 := by kernel_rfl
  have h1 : (fldsOp[1]?).map (·.type) = some 2 := by kernel_rfl
  have h2 : (fldsOp[2]?).map (·.type) = some 2 := by kernel_rfl
  have h3 : (fldsOp[3]?).map (·.type) = some 2 := by kernel_rfl
  generalize fldsOp = F at *
  obtain ⟨l⟩ := F
  match l, hs with
  | [f0, f1, f2, f3], _ => exact ⟨f0, f1, f2, f3, rfl, by simpa using h0, by simpa using h1, by simpa using h2, by simpa using h3⟩
section
variable {H : Type} {enc : TypeId × Value → H} {W : World} {base : Nat} {spare : Nat → Bool} {held : Bool}
theorem trod_struct4 {P : Program} {t : TypeId} {f0 f1 f2 f3 : Field} {fuel : Nat} {cs : List Value} {x : DataW H × List MemPlace} (ht : P.underlying t = some (.struct #[f0, f1, f2, f3])) (h : DataW.trod enc P W base spare held fuel t cs = some x) :
    ∃ y0 y1 y2 y3 n, cs.length = P.cellsOf t ∧ DataW.trod enc P W base spare held n f0.type ((cs.drop f0.offset).take (P.cellsOf f0.type)) = some y0 ∧
      DataW.trod enc P W base spare held n f1.type ((cs.drop f1.offset).take (P.cellsOf f1.type)) = some y1 ∧ DataW.trod enc P W base spare held n f2.type ((cs.drop f2.offset).take (P.cellsOf f2.type)) = some y2 ∧
      DataW.trod enc P W base spare held n f3.type ((cs.drop f3.offset).take (P.cellsOf f3.type)) = some y3 := by
  obtain ⟨xs, n, _, rfl, hl, hlen, hf⟩ := DataW.trod_struct ht h
  match xs, hlen with
  | [y0, y1, y2, y3], _ => exact ⟨y0, y1, y2, y3, n, hl, by simpa using hf 0 f0 rfl, by simpa using hf 1 f1 rfl, by simpa using hf 2 f2 rfl, by simpa using hf 3 f3 rfl⟩
structure ThIn (W : World) (v : Value) (a : Option Addr) (ln oc : Nat) (l : List OpV) : Prop where
  is : v = .slice a ln oc
  len : l.length = ln
  cap : ln ≤ oc
  ad : (a = none ∧ oc = 0) ∨ ∃ p, a = some p
  ops : ∀ (k : Nat) (o : OpV), l[k]? = some o → ∃ b off, a = some ⟨b, off, none⟩ ∧ W.cell? ⟨b, off + k * 4, none⟩ = some (.int .i64 o.k) ∧ W.cell? ⟨b, off + k * 4 + 1, none⟩ = some (.int .i64 o.a) ∧ W.cell? ⟨b, off + k * 4 + 2, none⟩ = some (.int .i64 o.b) ∧ W.cell? ⟨b, off + k * 4 + 3, none⟩ = some (.int .i64 o.c)
theorem open_ops {n : Nat} {v : Value} {x : DataW H × List MemPlace} (hu : Try.prog.underlying 34 = some (.slice 47)) (h : DataW.trod enc Try.prog W base (fun _ => true) held n 34 [v] = some x) :
    ∃ (q : (Option Addr × Nat × Nat) × List OpV), ThIn W v q.1.1 q.1.2.1 q.1.2.2 q.2 := by
  have hC : Try.prog.cellsOf 47 = 4 := by kernel_rfl
  obtain ⟨f0, f1, f2, f3, ef, t0, t1, t2, t3⟩ := fldsOp_four
  have hst : Try.prog.underlying 47 = some (.struct #[f0, f1, f2, f3]) := by rw [undOp_is, ef]
  have hone : oneCellFields Try.prog #[f0, f1, f2, f3] = true := by rw [← ef]; kernel_rfl
  rcases open_slice hu h with ⟨e, _⟩ | ⟨a', len', cap', m, n', D, Pl, e, _, hl, _, hm, hx, hel⟩
  · injection e with e _
    exact ⟨((none, 0, 0), []), e, rfl, Nat.le_refl _, .inl ⟨rfl, rfl⟩, fun k o h => by simp at h⟩
  · injection e with e _
    have hm : m = cap' := by simpa using hm
    have key : ∀ i, i < len' → ∃ o : OpV, ∀ k v, ([.int .i64 o.k, .int .i64 o.a, .int .i64 o.b, .int .i64 o.c] : List Value)[k]? = some v → W.cell? ((a'.add (i * 4)).add k) = some v := fun i hi => by
      obtain ⟨cs', h1, h2⟩ := hel i (by omega)
      rw [hC] at h1
      obtain ⟨_, hlen, hcell⟩ := World.cells?_some h1
      obtain ⟨y0, y1, y2, y3, k, _, u0, u1, u2, u3⟩ := trod_struct4 hst h2
      obtain ⟨o0, k0⟩ := hone_of hone 0 f0 rfl
      obtain ⟨o1, k1⟩ := hone_of hone 1 f1 rfl
      obtain ⟨o2, k2⟩ := hone_of hone 2 f2 rfl
      obtain ⟨o3, k3⟩ := hone_of hone 3 f3 rfl
      match cs', hlen with
      | [c0, c1, c2, c3], _ =>
        rw [o0, k0, t0] at u0
        rw [o1, k1, t1] at u1
        rw [o2, k2, t2] at u2
        rw [o3, k3, t3] at u3
        obtain ⟨z0, e0, _, _⟩ := DataW.trod_int und3_is u0
        obtain ⟨z1, e1, _, _⟩ := DataW.trod_int und2_is u1
        obtain ⟨z2, e2, _, _⟩ := DataW.trod_int und2_is u2
        obtain ⟨z3, e3, _, _⟩ := DataW.trod_int und2_is u3
        simp at e0 e1 e2 e3
        subst e0 e1 e2 e3
        refine ⟨⟨z0, z1, z2, z3⟩, fun k v hv => ?_⟩
        have hk4 : k < 4 := (List.getElem?_eq_some_iff.1 hv).1
        have hc := hcell k (by simpa using hk4)
        rw [hc]
        exact hv
    have hI : Inhabited OpV := ⟨⟨0, 0, 0, 0⟩⟩
    obtain ⟨f, hf'⟩ := choose_lt (α := OpV) key
    refine ⟨((some a', len', cap'), (List.range len').map f), e, by simp, hl, .inr ⟨_, rfl⟩, fun k o hd => ?_⟩
    have hk : k < len' := by simpa using (List.getElem?_eq_some_iff.1 hd).1
    have hd : f k = o := by simpa [hk] using hd
    have hf := hf' k hk
    rw [hd] at hf
    have h0 := hf' 0 (by omega) 0 _ rfl
    have ha : (a'.add (0 * 4)).add 0 = a' := by simp [Addr.add]
    rw [ha] at h0
    have hform := addr_form h0
    have hc : ∀ (m : Nat) (v : Value), ([.int .i64 o.k, .int .i64 o.a, .int .i64 o.b, .int .i64 o.c] : List Value)[m]? = some v → W.cell? ⟨a'.block, a'.off + k * 4 + m, none⟩ = some v := fun m v hv => by
      have := hf m v hv
      rw [hform, add_none, add_none] at this
      exact this
    exact ⟨a'.block, a'.off, congrArg some hform, hc 0 _ rfl, hc 1 _ rfl, hc 2 _ rfl, hc 3 _ rfl⟩
end
section
variable {H : Type} {enc : TypeId × Value → H} {W : World}
theorem open_opsN {base : Nat} {v : Value} {d : DataW H} {ps : List MemPlace} (hu : Try.prog.underlying 34 = some (.slice 47)) (hval : Value.okWide Try.prog W .any base 34 v) (h : DataW.Trod enc Try.prog W 0 (fun _ => true) true 34 v d ps)
    {ts : List TypeId} {ds : List (DataW H)} {j : Nat} (hsz : (DataW.weightsEach Try.prog ts ds).all (· ≤ reachBytes) = true) (ht : ts[j]? = some 34) (hd : ds[j]? = some d) :
    ∃ (a : Option Addr) (n0 tc : Nat) (ops : List OpV), v = .slice a n0 tc ∧ ops.length = n0 ∧ n0 ≤ tc ∧ (a = none ∧ tc = 0 ∨ ∃ p, a = some p) ∧ n0 ≤ 17592186044416 ∧
      ∀ (j : Nat) (o : OpV), ops[j]? = some o → ∃ b off, a = some ⟨b, off, none⟩ ∧ W.cell? ⟨b, off + j * 4, none⟩ = some (.int .i64 o.k) ∧ W.cell? ⟨b, off + j * 4 + 1, none⟩ = some (.int .i64 o.a) ∧ W.cell? ⟨b, off + j * 4 + 2, none⟩ = some (.int .i64 o.b) ∧ W.cell? ⟨b, off + j * 4 + 3, none⟩ = some (.int .i64 o.c) := by
  obtain ⟨sa, sl, sc, rfl⟩ := okWide_slice hu hval
  obtain ⟨fuel, hf⟩ := h
  have hf : DataW.trod enc Try.prog W 0 (fun _ => true) true fuel 34 [.slice sa sl sc] = some (d, ps) := hf
  generalize hv : Value.slice sa sl sc = v at *
  obtain ⟨⟨⟨a, n0, tc⟩, l⟩, I⟩ := open_ops hu hf
  have hb : n0 ≤ 17592186044416 := by
    have hB : Try.prog.bytesOf 47 = 32 := by kernel_rfl
    have hr := reachBytes_lt
    rcases open_slice hu hf with ⟨e, _⟩ | ⟨a', len', cap', m, n', D, Pl, e, _, hl, _, hm, hx, _⟩
    · have e : [v] = [.slice none 0 0] := e
      injection e with e _
      rw [I.is] at e
      injection e with _ e _
      have e : n0 = 0 := e
      omega
    · have e : [v] = [.slice (some a') len' cap'] := e
      injection e with e _
      rw [I.is] at e
      injection e with _ e _
      have e : n0 = len' := e
      injection hx with hx _
      subst hx
      have hs := sized_slice hsz ht hd hu
      rw [hB] at hs
      simp only [List.length_map, List.length_range] at hs
      omega
  exact ⟨a, n0, tc, l, I.is, I.len, I.cap, I.ad, hb, fun j o ho => I.ops j o ho⟩
theorem trodAll_one {P : Program} {base : Nat} {spare : Nat → Bool} {held : Bool} {t : TypeId} {args : Array Value} {ds : List (DataW H)} {ps : List MemPlace} (h : DataW.TrodAll enc P W base spare held [t] args.toList ds ps) : ∃ v d, args = #[v] ∧ ds = [d] ∧ DataW.Trod enc P W base spare held t v d ps := by
  obtain ⟨v, vs, d, ds1, p, q, hargs, rfl, rfl, hd, hrest⟩ := trodAll_cons h
  obtain ⟨rfl, rfl, rfl⟩ := trodAll_nil hrest
  exact ⟨v, d, by cases args; simp_all, rfl, by simpa using hd⟩
end
end
section
open Go.ChangeShapes Go.WideShapes Go.ChangeAt Go.Joins Go.Deep
theorem seqlockNone_lifted (os : Os) (started : os.Started) (H : Type) (enc : TypeId × Value → H) :
    ReturnsInLeavingWide {} Try.checked os 10 .any (Rows.seqlockNoneSpec.pre6 enc Try.prog Try.f10 Rows.seqlockNoneRow.domain false) (Rows.seqlockNoneSpec.post enc Try.prog Try.f10 false true false false) := by
  refine returnsInLeavingWide_of_change_sized (C := Try.checked) prog_own started Try.func10
    (ChangeSpec.witness6 (enc := enc) (C := Try.checked) false ⟨#[], #[.slice none 0 0], []⟩ 8 (by kernel_rfl) (by kernel_rfl) (by kernel_rfl) (by kernel_rfl)) ?_
  intro W base args ds gs before hval0 hW _ hsz0 _
  have hval : ∀ (j : Nat) t v, Try.f10.params[j]? = some t → args[j]? = some v → Value.okWide Try.prog W .any base t v := hval0
  have hW' := hW
  obtain ⟨p, q, hA0, hV, rfl, _, _⟩ := hW
  have hA : DataW.TrodAll enc Try.prog W 0 (fun _ => true) true Try.f10.params.toList args.toList ds p := hA0
  rw [Try.params10] at hA hval
  have hsz : (DataW.weightsEach Try.prog (Try.f10.params.toList ++ Rows.seqlockNoneSpec.plain.varTypes Try.prog) (ds ++ gs)).all (· ≤ reachBytes) = true := hsz0
  rw [Try.params10] at hsz
  obtain ⟨v0, d0, rfl, rfl, h0⟩ := trodAll_one hA
  obtain ⟨rfl, rfl⟩ := trodVars_none hV
  have hlt := hW'.lt
  obtain ⟨ta, n0, tc, ops, rfl, hlen, hcap, had, hn0, hop⟩ := open_opsN (by kernel_rfl) (hval 0 34 v0 rfl rfl) h0 (j := 0) hsz rfl rfl
  clear hA0 hval0 hsz0 hsz
  simp only [List.append_nil] at hW' hlt
  obtain ⟨M, last, o, w', t', r1, r2, r3, r4⟩ := run_claim (Post := Left W) (t := 2) Try.func10 rfl (by kernel_rfl) (Runs.then (none_all ta n0 tc hn0 ops hlen W hop) fun g w' ⟨hC, hO⟩ => .now ⟨hC, fun ho d => ⟨rfl, ho.1, ho.2, hO⟩⟩)
  refine ⟨M, last, o, w', t', r1, r2, r3, r4.mono fun v hF => ?_⟩
  have hk : Left W (.bool true) w' := ⟨rfl, hF.2⟩
  obtain rfl : v = .bool true := hF.1
  exact ⟨_, _, _, [], _, [], hW', trodAll_mk1 (shut_bool und4_is true), trodAll_mk1 (hk.stays (by kernel_rfl) (of_decide_eq_true (by kernel_rfl)) h0 fun x hx => hlt x (by simp [hx])), rfl, hk.kept _, fun h => by cases h⟩
theorem seqlockNone_holds : Rows.SeqlockNoneSaid :=
  OpenClaim.holds_of_wide_leaving 10 Try.f10 rfl rfl rfl rfl rfl rfl rfl ⟨rfl, rfl, rfl, rfl, rfl⟩ rfl rfl rfl rfl rfl (by kernel_rfl) Try.func10 (by kernel_rfl)
    (of_decide_eq_true (by kernel_rfl)) (by unfold Func.isWrapper; first | (rw [if_pos (by decide +kernel)]; kernel_rfl) | (rw [if_neg (by decide +kernel)]; exact ⟨rfl, rfl⟩))
    (fun os started H enc _ => seqlockNone_lifted os started H enc)
end
end Go.Proofs.Ytjenoiekfkhafaa
