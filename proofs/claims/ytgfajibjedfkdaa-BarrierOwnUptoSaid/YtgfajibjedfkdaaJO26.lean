/-
For all lists, q, tries and ways whose bulk is at most 1048576: BarrierOwn returns true on every schedule of the goroutines, without a data race, and what was there stands. Conditions: the arguments' bulk is at most 1048576 (one list of 2^45 or more bytes among the first five makes a row of steps of 2^48 bytes or more).
-/
import Derived.Test.YtgfajibjedfkdaaJO13
import Derived.Test.YtgfajibjedfkdaaJO22
import Derived.Test.YtgfajibjedfkdaaJO25
import Derived.Test.YtgfajibjedfkdaaRows
import Derived.Conc.LeavingOf
import Derived.Lib.SmallJoins
import Derived.Handy
import Derived.JoinedCond
import Derived.JoinedOf
import Derived.Conc.Holds
import Derived.SizedLaws
import Derived.Carry
import Derived.Deep.Slices
import Derived.Deep.Fields
set_option linter.unusedSimpArgs false
set_option linter.unusedVariables false
set_option linter.unusedVariables false
set_option maxHeartbeats 8000000
set_option maxRecDepth 100000
namespace Go.Proofs.Ytgfajibjedfkdaa
open Go.Conc Go.RowKit Go.Relay
open Go.ConcN (upd upd_ne upd_same)
section
open Go.ChangeShapes Go.WideShapes Go.ChangeAt Go.Joins Go.Deep
theorem prog_own : ownKnob Try.prog.godebug = none := by kernel_rfl
def Left (W : World) (v : Value) (w' : World) : Prop := v = .bool true ∧ w'.os = W.os ∧ w'.output = W.output ∧ ∀ b, b < W.heap.size → w'.heap[b]? = W.heap[b]?
theorem Left.kept {W w' : World} {v : Value} (h : Left W v w') (may : MemPlace → Prop) : W.keptBut w' may := by
  refine ⟨h.2.1, h.2.2.1, fun i hi => ?_⟩
  rw [h.2.2.2 i hi]
  split <;> simp_all
theorem und4_is : Try.prog.underlying 4 = some .bool := by kernel_rfl
theorem stepG_done {P : Program} {fr : Frame} {w : World} {fn : Func} {v : Value} (hm : fr.mode = .returning) (hn : fr.kind = .normal) (hd : fr.defers = []) (hf : P.funcs[fr.fn]? = some fn) (hr : (results fn fr.tmps).run P w = .ok v w) (he : (results fn fr.tmps).events P w #[] = #[]) (hi : P.inits.idxOf? fr.fn = none) :
    stepG P true (G fr []) w = .ended (.done v) w #[] := by
  simp [G, stepG, unwind, doReturn, hm, hd, hn, hf, hr, he, hi, GStep.after, seen_none]
theorem run_claim {f : FuncId} {fn : Func} {args : Array Value} {W : World} {Post : Value → World → Prop} {v : Value} {t : Tmp} (hf : Try.prog.funcs[f]? = some fn) (hres : fn.results = #[.tmp t]) (hi : Try.prog.inits.idxOf? f = none)
    (h : Runs (fun g w' => Closing f t v g ∧ (OsSame W w' → ∀ d, Post v (w'.at d))) (G (Frame.enter Try.prog f args .normal) []) W) :
    ∃ M last o w' t', runNT Try.prog (M + 1) (solo (G (Frame.enter Try.prog f args .normal) []) W) #[] = (.ended o w', t') ∧ Go.runN Try.prog M (solo (G (Frame.enter Try.prog f args .normal) []) W) = .next last ∧ step Try.prog last = .ended o w' ∧ Go.Conc.Good Try.prog Post last o w' t' := by
  rw [solo_eq_crowd]
  have A0 := at_begin (P := Try.prog) (gs := #[G (Frame.enter Try.prog f args .normal) []]) (a := G (Frame.enter Try.prog f args .normal) []) (sl := none) (w := W) rfl (leavers_one Try.prog _) past_nil
  obtain ⟨N1, m1, T1, r1, ⟨nG, g1, w1, _, ⟨⟨fr, rfl, hm, hn, hd, hfn, hv⟩, hP⟩, A1⟩, ho⟩ := h 1 _ _ (Nat.le_refl _) A0
  obtain ⟨gs, sl, q, B, rfl, _, hg0, hL, hPast⟩ := A1.ends (fun _ => rfl)
  have hP := hP ho
  have hs : ∀ d, stepG Try.prog true (G fr []) (w1.at d) = .ended (.done v) (w1.at d) #[] := fun d =>
    stepG_done hm hn hd (by rw [hfn]; exact hf) (by rw [results_tmp hres, hv]) (events_results_tmp hres _ _) (by rw [hfn]; exact hi)
  have hG : Goes Try.prog true AtRel (fun _ _ es => ∀ e ∈ es, EvL (fun _ => False) B e) (AtEnd Try.prog (fun _ => False) B Post) 0 (G fr []) w1 := by
    rintro _ ⟨d, rfl⟩
    exact ⟨rfl, v, #[], hs d, by simp, hP d⟩
  obtain ⟨M8, last, o, w', t', e1, e2, e3, e4⟩ := beside_ends (P := Try.prog) (Post := Post) (sl := sl) (fun _ _ _ h => h) hg0 hL hPast hG
  refine ⟨N1 + M8, last, o, w', t', ?_, ?_, e3, e4⟩
  · rw [Nat.add_assoc, runNT_add, r1]; exact e1
  · rw [Go.runN_add, ← runNT_fst Try.prog _ _ #[], r1]; exact e2
end
section
open Go.Conc Go.RowKit Go.Relay Go.ChangeShapes Go.WideShapes Go.ChangeAt Go.Joins
theorem upto_runs {H : Type} {enc : TypeId × Value → H} {C : Checked} {os : Os} {f : FuncId} {fn : Func} {s : OpenSpec} {k : (H : Type) → List (DataW H) → Bool} (hk : s.cond = some k) {F : Stop.Interp} {conds : List PathCond} {apart fresh handsOn again : Bool}
    (own : ownKnob C.prog.godebug = none) (started : os.Started) (hfn : C.prog.funcs[f]? = some fn)
    (wit : ∃ (w : World) (tape : Tape) (i : Input), w.os = os ∧ (w.forCall tape i).Shaped C.prog ∧ i.vars = [] ∧ Input.okWide C.prog (w.forCall tape i) .any w.heap.size f i ∧ s.pre6 enc C.prog fn conds apart (w.forCall tape i).memory i.args ∧ ({} : Assume).holds C.prog (lone (Frame.enter C.prog f i.args .normal) [] (w.forCall tape i)))
    (run : ∀ (W : World) (base : Nat) (args : Array Value) (ds gs : List (DataW H)) (ps : List MemPlace), (∀ (j : Nat) t v, fn.params[j]? = some t → args[j]? = some v → Value.okWide C.prog W .any base t v) → DataW.Whole enc C.prog fn.params.toList s.vars apart W args.toList ds gs ps → k H (ds ++ gs) = true →
      ∃ M last o w' t', runNT C.prog (M + 1) (solo (G (Frame.enter C.prog f args .normal) []) W) #[] = (.ended o w', t') ∧ Go.runN C.prog M (solo (G (Frame.enter C.prog f args .normal) []) W) = .next last ∧ step C.prog last = .ended o w' ∧ Go.Conc.Good C.prog (fun v W' => (s.at F).post enc C.prog fn apart fresh handsOn again W args v W') last o w' t') :
    ReturnsInLeavingWide {} C os f .any (s.pre6 enc C.prog fn conds apart) ((s.at F).post enc C.prog fn apart fresh handsOn again) := by
  refine returnsInLeavingWide_of_good own started wit fun w tape i _ _ _ hok hpre _ => ?_
  obtain ⟨_, _, _, fn', hfn', _, _, _, _, hval⟩ := hok
  obtain rfl := Option.some.inj (hfn'.symm.trans hfn)
  obtain ⟨ds, gs, ps, hW, _, hsmall⟩ := (OpenSpec.pre_some hk conds apart _ _).1 hpre.1
  have hW' := DataW.Whole.of_heap (w' := w.forCall tape i) (by rfl) hW
  obtain ⟨M, last, o, w', t', r1, r2, r3, r4⟩ := run (w.forCall tape i) w.heap.size i.args ds gs ps hval hW' hsmall
  exact ⟨M, last, o, w', t', r1, r2, r3, r4.mono fun v => ChangeSpec.post_blind⟩
theorem upto_holds {p : Pinned} {s : OpenSpec} {c : OpenClaim} (f : FuncId) (fn : Func) (name : c.program = p.name ∧ c.sum = p.sum ∧ c.spec = s.name)
    (plain : c.start = .entering ∧ c.outside = [] ∧ c.inits = [] ∧ c.under = none ∧ c.noBlocks = false ∧ c.leaving = true ∧ c.followed = none ∧ c.still = false) (ini : c.initsInPlace = [] ∧ c.initsUnfollowed = false ∧ c.initsRecurse = false ∧ c.initsNamed = [] ∧ c.initsPassed = []) (nar : c.narrowed = s.cond.isSome)
    (named : p.checked.prog.funcNamed c.func = some f) (isf : p.checked.prog.funcs[f]? = some fn) (facts : joinedFacts p.checked.prog f fn s.bare c = true) (inst : fn.isInstance p.checked.prog c.origin c.targs) (wrp : fn.isWrapper p.checked.prog c.wrapper c.mainSum)
    (call : ∀ os : Os, os.Started → ∀ (H : Type) (enc : TypeId × Value → H), (∀ a b, enc a = enc b → a = b) → ∀ F : Stop.Interp, ReturnsInLeavingWide c.assume p.checked os f .any (c.pre enc p.checked.prog fn s) ((s.at F).post enc p.checked.prog fn c.apart c.fresh c.handsOn c.again)) : c.holds p s := by
  obtain ⟨st, outs, inis, und, blk, lv, fol, stl⟩ := plain
  simp only [joinedFacts, Bool.and_eq_true, beq_iff_eq, Array.all_eq_true_iff_forall_mem, List.all_eq_true, decide_eq_true_eq, and_assoc] at facts
  obtain ⟨wf, laid, rowed, pars, tie, cs, ps, ck, pk, ipl, unf, rec, nmd, mps, ifs, mpo, lps, wdk, vrs, res, ifo, lpo, x1, x2, x3, x4, x5, x6, x7, x8, x9, x10⟩ := facts
  have quiet : ∀ os : Os, Stop.quiet p.checked.prog os := fun os k hk => by rw [pk] at hk; cases hk
  unfold OpenClaim.holds
  refine ⟨wf, name.1, name.2.1, name.2.2, laid, rowed, ?start, ?told, f, fn, named, isf, ⟨pars, res⟩, fun h => ?blocks, ?list, inst, wrp, cs.trans ps.symm, ⟨ck.trans pk.symm, ?word, ?heard⟩, ipl, unf, rec, nmd, mps, ?_, ?_, ?_, ?_, ?short, fun n hn => varReadable_some (vrs n hn), ?world, [], ?lists, fun os hos _ H enc inj => ?main⟩
  case start => unfold OpenClaim.startFits; rw [st]; exact x4
  case told => unfold OpenClaim.startTold; rw [st]; exact ⟨inis, und, ini⟩
  case blocks => rw [blk] at h; cases h
  case list => unfold OpenClaim.namedList; rw [fol]; exact tie
  case word => unfold Program.envWorded; rw [pk]; rfl
  case heard => exact x3
  case refine_1 => exact ⟨ifs, x9, x10⟩
  case refine_2 => exact ⟨mpo, ifo⟩
  case refine_3 => exact ⟨lps, lpo, x7, x8⟩
  case refine_4 => exact ⟨x1, x5, x6, wdk⟩
  case short =>
    have hs : c.shortTexts = none := Option.isNone_iff_eq_none.1 x2
    rw [outs, nar, hs]
    simp
  case world => exact ⟨_, by unfold OpenClaim.world; rw [outs, st]; exact WideRow.started_initial, quiet _⟩
  case lists => unfold OpenClaim.lists; rw [fol]
  case main =>
    have hos' : os.Started := by unfold OpenClaim.world at hos; rw [outs, st] at hos; exact hos
    have ok : c.okInput = Input.okWide := by unfold OpenClaim.okInput; rw [blk]
    have ret : c.atReturn p.checked.prog = leavingAtReturn p.checked.prog := by unfold OpenClaim.atReturn; rw [lv]
    have alw : c.always p.checked.prog [] = nothingAlways := by unfold OpenClaim.always; rw [fol]
    rw [OpenClaim.post_not_still stl]
    unfold OpenClaim.form
    rw [st, cs]
    intro F
    have pst : s.post enc p.checked.prog fn F c.outside c.apart c.fresh c.handsOn c.again = (s.at F).post enc p.checked.prog fn c.apart c.fresh c.handsOn c.again := by rw [outs]; rfl
    rw [ok, ret, alw]
    show ReturnsInOpen _ _ _ _ _ _ _ _ (s.post enc p.checked.prog fn F c.outside c.apart c.fresh c.handsOn c.again) _ _
    rw [pst]
    exact call os hos' H enc inj F x4
end
section
open Go.Conc Go.RowKit Go.Relay Go.ChangeShapes Go.WideShapes Go.ChangeAt Go.Joins Go.Deep
theorem laid_out : laidOutB Try.prog = true := by kernel_rfl
section
variable {H : Type} {enc : TypeId × Value → H} {W w' : World}
theorem Left.stays {r : Value} {t : TypeId} {v : Value} {d : DataW H} {ps : List MemPlace} (K : Left W r w') (hr : Try.prog.readableRec t = true) (hrow : t < Try.prog.types.size) (h : DataW.Trod enc Try.prog W 0 (fun _ => true) true t v d ps) (hlt : ∀ x ∈ ps, x.block < W.heap.size) :
    DataW.Trod enc Try.prog w' 0 (fun b => decide (b < W.heap.size)) true t v d ps :=
  WideElems.Trod_stays laid_out hr hrow h (fun x hx => by
    have hb := K.2.2.2 x.block (hlt x hx)
    cases x with
    | cell b o => exact World.cell?_of_block (w := W) (a := ⟨b, o, none⟩) hb
    | map b => exact hb) (fun x hx => by simpa using hlt x hx)
theorem addr_form {w : World} {a : Addr} {v : Value} (h : w.cell? a = some v) : a = ⟨a.block, a.off, none⟩ := by
  obtain ⟨b, o, s⟩ := a
  cases s with
  | none => rfl
  | some s =>
    unfold World.cell? at h
    split at h
    · simp at h
    · cases h
end
end
section
open Go.ChangeShapes Go.WideShapes Go.ChangeAt Go.Joins Go.Deep
theorem undO2 : Try.prog.underlying 2 = some (.int .i64) := by kernel_rfl
theorem undO3 : Try.prog.underlying 3 = some (.int .i64) := by kernel_rfl
theorem undO5 : Try.prog.underlying 5 = some (.int .u8) := by kernel_rfl
theorem u8_rangeO {z : Int} (h : (Lit.int .u8 z).wf = true) : 0 ≤ z ∧ z < 256 := by
  simp [Lit.wf, IntKind.min, IntKind.max, IntKind.signed, IntKind.bits] at h
  omega
theorem i64_le {z : Int} (h : (Lit.int .i64 z).wf = true) : z ≤ 9223372036854775807 := by
  simp [Lit.wf, IntKind.min, IntKind.max, IntKind.signed, IntKind.bits] at h
  omega
theorem bulkO_pos {H : Type} (d : DataW H) : 1 ≤ Rows.uptoBulk d := by
  cases d with
  | lit l => cases l <;> simp only [Rows.uptoBulk] <;> omega
  | _ => simp only [Rows.uptoBulk] <;> omega
theorem bulkO_len {H : Type} : ∀ l : List (DataW H), l.length ≤ Rows.uptoBulkAll l
  | [] => Nat.zero_le _
  | d :: l => by
    have h1 := bulkO_pos d
    have h2 := bulkO_len l
    simp only [Rows.uptoBulkAll, List.length_cons]
    omega
theorem bulkO_mem {H : Type} {d : DataW H} : ∀ {l : List (DataW H)}, d ∈ l → Rows.uptoBulk d ≤ Rows.uptoBulkAll l
  | e :: l, h => by
    simp only [Rows.uptoBulkAll]
    rcases List.mem_cons.1 h with rfl | h
    · omega
    · have := bulkO_mem h
      omega
section
variable {H : Type} {enc : TypeId × Value → H} {W : World} {base : Nat} {spare : Nat → Bool} {held : Bool}
theorem trodAll_4 {P : Program} {t t1 t2 t3 : TypeId} {args : Array Value} {ds : List (DataW H)} {ps : List MemPlace} (h : DataW.TrodAll enc P W base spare held [t, t1, t2, t3] args.toList ds ps) :
    ∃ v v1 v2 v3 d d1 d2 d3 p p1 p2 p3, args = #[v, v1, v2, v3] ∧ ds = [d, d1, d2, d3] ∧ ps = p ++ p1 ++ p2 ++ p3 ∧ DataW.Trod enc P W base spare held t v d p ∧ DataW.Trod enc P W base spare held t1 v1 d1 p1 ∧ DataW.Trod enc P W base spare held t2 v2 d2 p2 ∧ DataW.Trod enc P W base spare held t3 v3 d3 p3 := by
  obtain ⟨v, vs, d, ds1, p, q, hargs, rfl, rfl, hd, hrest⟩ := trodAll_cons h
  obtain ⟨v1, vs1, d1, ds2, p1, q1, rfl, rfl, rfl, hd1, hrest1⟩ := trodAll_cons hrest
  obtain ⟨v2, vs2, d2, ds3, p2, q2, rfl, rfl, rfl, hd2, hrest2⟩ := trodAll_cons hrest1
  obtain ⟨v3, vs3, d3, ds4, p3, q3, rfl, rfl, rfl, hd3, hrest3⟩ := trodAll_cons hrest2
  obtain ⟨rfl, rfl, rfl⟩ := trodAll_nil hrest3
  exact ⟨v, v1, v2, v3, d, d1, d2, d3, p, p1, p2, p3, by cases args; simp_all, rfl, by simp, hd, hd1, hd2, hd3⟩
theorem openO_bytes {fuel : Nat} {cs : List Value} {d : DataW H} {ps : List MemPlace} (hf : DataW.trod enc Try.prog W 0 (fun _ => true) true fuel 26 cs = some (d, ps)) :
    ∃ (a : Option Addr) (L c : Nat), cs = [.slice a L c] ∧ L ≤ Rows.uptoBulk d ∧ BytI W a L := by
  have hu : Try.prog.underlying 26 = some (.slice 5) := by kernel_rfl
  have hC : Try.prog.cellsOf 5 = 1 := by kernel_rfl
  rcases open_slice hu hf with ⟨e, _⟩ | ⟨a', sl, sc, m, n', D, Pl, e, _, hl, _, hm, hx, hel⟩
  · exact ⟨none, 0, 0, e, Nat.zero_le _, fun i hi => absurd hi (Nat.not_lt_zero i)⟩
  · have hm : m = sc := by simpa using hm
    refine ⟨some a', sl, sc, e, ?_, fun i hi => ?_⟩
    · injection hx with hx _
      subst hx
      have := bulkO_len (H := H) ((List.range sl).map D)
      simp only [List.length_map, List.length_range] at this
      simp only [Rows.uptoBulk]
      omega
    · have hform : a' = ⟨a'.block, a'.off, none⟩ := by
        obtain ⟨cs', h1, _⟩ := hel 0 (by omega)
        rw [hC] at h1
        obtain ⟨_, hlen, hcell⟩ := World.cells?_some h1
        have := hcell 0 (by omega)
        have ha : (a'.add (0 * 1)).add 0 = a' := by simp [Addr.add]
        rw [ha] at this
        exact addr_form (this.trans (List.getElem?_eq_getElem (by omega)))
      obtain ⟨cs', h1, h2⟩ := hel i (by omega)
      rw [hC] at h1
      obtain ⟨_, hlen, hcell⟩ := World.cells?_some h1
      match cs', hlen with
      | [c0], _ =>
        obtain ⟨z0, q0, _, r0⟩ := DataW.trod_int undO5 h2
        simp at q0
        subst q0
        obtain ⟨p1, p2⟩ := u8_rangeO r0
        refine ⟨a'.block, a'.off, z0, congrArg some hform, p1, p2, ?_⟩
        have hc := hcell 0 (by omega)
        rw [hform, add_none, add_none, Nat.mul_one, Nat.add_zero] at hc
        exact hc
theorem openO_lists {base : Nat} {v : Value} {d : DataW H} {ps : List MemPlace} (hval : Value.okWide Try.prog W .any base 22 v) (h : DataW.Trod enc Try.prog W 0 (fun _ => true) true 22 v d ps) (hb : Rows.uptoBulk d ≤ 1048576) :
    ∃ (a : Option Addr) (L c : Nat), v = .slice a L c ∧ L ≤ c ∧ (a = none → c = 0) ∧ LstI W a L := by
  have hC : Try.prog.cellsOf 26 = 1 := by kernel_rfl
  obtain ⟨sa, sl, sc, rfl⟩ := okWide_slice huByt hval
  obtain ⟨fuel, hf⟩ := h
  have hf : DataW.trod enc Try.prog W 0 (fun _ => true) true fuel 22 [.slice sa sl sc] = some (d, ps) := hf
  rcases open_slice huByt hf with ⟨e, _⟩ | ⟨a', len', cap', m, n', D, Pl, e, _, hl, _, hm, hx, hel⟩
  · have e : [Value.slice sa sl sc] = [.slice none 0 0] := e
    injection e with e _
    injection e with e4 e5 e6
    subst e4 e5 e6
    exact ⟨none, 0, 0, rfl, Nat.le_refl _, fun _ => rfl, fun i hi => absurd hi (Nat.not_lt_zero i)⟩
  · have e : [Value.slice sa sl sc] = [.slice (some a') len' cap'] := e
    injection e with e _
    injection e with e4 e5 e6
    subst e4 e5 e6
    have hm : m = sc := by simpa using hm
    refine ⟨some a', sl, sc, rfl, hl, (fun h => nomatch h), fun i hi => ?_⟩
    have hform : a' = ⟨a'.block, a'.off, none⟩ := by
      obtain ⟨cs', h1, _⟩ := hel 0 (by omega)
      rw [hC] at h1
      obtain ⟨_, hlen, hcell⟩ := World.cells?_some h1
      have := hcell 0 (by omega)
      have ha : (a'.add (0 * 1)).add 0 = a' := by simp [Addr.add]
      rw [ha] at this
      exact addr_form (this.trans (List.getElem?_eq_getElem (by omega)))
    have hD : Rows.uptoBulk (D i) ≤ 1048576 := by
      injection hx with hx _
      subst hx
      have h2 := bulkO_mem (List.mem_map.2 ⟨i, List.mem_range.2 hi, rfl⟩ : D i ∈ (List.range sl).map D)
      simp only [Rows.uptoBulk] at hb
      omega
    obtain ⟨cs', h1, h2⟩ := hel i (by omega)
    rw [hC] at h1
    obtain ⟨_, hlen, hcell⟩ := World.cells?_some h1
    obtain ⟨ba, n, c, rfl, hn, hB⟩ := openO_bytes h2
    refine ⟨a'.block, a'.off, ba, n, c, congrArg some hform, ?_, by omega, hB⟩
    have hc := hcell 0 (by omega)
    rw [hform, add_none, add_none, Nat.mul_one, Nat.add_zero] at hc
    exact hc
end
theorem barrierOwn_lifted (os : Os) (started : os.Started) (H : Type) (enc : TypeId × Value → H) (F : Stop.Interp) :
    ReturnsInLeavingWide {} Try.checked os 3 .any ((Rows.OpenSpec.upto Rows.barrierOwnSpec).pre6 enc Try.prog Try.f3 Rows.barrierOwnUptoRow.domain false) (((Rows.OpenSpec.upto Rows.barrierOwnSpec).at F).post enc Try.prog Try.f3 false true false false) := by
  refine upto_runs (C := Try.checked) (s := Rows.OpenSpec.upto Rows.barrierOwnSpec) (k := Rows.uptoSmall) rfl prog_own started Try.func3
    (OpenSpec.witness (enc := enc) (C := Try.checked) (s := Rows.OpenSpec.upto Rows.barrierOwnSpec) (k := Rows.uptoSmall) rfl false ⟨#[], #[.slice none 0 0, .int .i64 0, .int .i64 0, .int .i64 0], []⟩ 8 (by kernel_rfl) (by kernel_rfl) (by kernel_rfl)
      (x := ([.nil, .lit (.int .i64 0), .lit (.int .i64 0), .lit (.int .i64 0)], [], [])) (by kernel_rfl) rfl (by kernel_rfl)) ?_
  intro W base args ds gs before hval0 hW hsmall
  have hval : ∀ (j : Nat) t v, Try.f3.params[j]? = some t → args[j]? = some v → Value.okWide Try.prog W .any base t v := hval0
  have hW' := hW
  obtain ⟨p, q, hA0, hV, rfl, _, _⟩ := hW
  have hA : DataW.TrodAll enc Try.prog W 0 (fun _ => true) true Try.f3.params.toList args.toList ds p := hA0
  rw [Try.params3] at hA hval
  obtain ⟨v0, v1, v2, v3, d0, d1, d2, d3, p0, p1, p2, p3, rfl, rfl, rfl, h0, h1, h2, h3⟩ := trodAll_4 hA
  obtain ⟨rfl, rfl⟩ := trodVars_none hV
  have hlt := hW'.lt
  obtain ⟨q, rfl, rfl, rfl, wq⟩ := open_int undO2 (hval 1 2 v1 rfl rfl) h1
  obtain ⟨tr, rfl, rfl, rfl, wt⟩ := open_int undO3 (hval 2 3 v2 rfl rfl) h2
  obtain ⟨wy, rfl, rfl, rfl, ww⟩ := open_int undO3 (hval 3 3 v3 rfl rfl) h3
  have hb : Rows.uptoBulkAll ([d0, .lit (.int .i64 q), .lit (.int .i64 tr), .lit (.int .i64 wy)] ++ []) ≤ 1048576 := of_decide_eq_true hsmall
  have hb0 : Rows.uptoBulk d0 ≤ 1048576 := by
    simp only [List.append_nil, Rows.uptoBulkAll] at hb
    omega
  obtain ⟨sa, L, sc, rfl, hL, hcn, hin⟩ := openO_lists (hval 0 22 v0 rfl rfl) h0 hb0
  clear hA0 hval0 hsmall hb hb0
  simp only [List.append_nil, List.nil_append] at hW' hlt
  obtain ⟨M, last, o, w', t', r1, r2, r3, r4⟩ := run_claim (Post := Left W) (t := 8) Try.func3 rfl (by kernel_rfl) (Runs.walk (bo_all sa L sc hL hcn q tr wy (i64_le wq) W hin) fun g w' ⟨hC, hO⟩ => .now ⟨hC, fun ho d => ⟨rfl, ho.1, ho.2, hO⟩⟩)
  refine ⟨M, last, o, w', t', r1, r2, r3, r4.mono fun v hF => ?_⟩
  have hk : Left W (.bool true) w' := ⟨rfl, hF.2⟩
  obtain rfl : v = .bool true := hF.1
  exact ⟨_, _, _, [], _, [], hW', trodAll_mk1 (shut_bool und4_is true), trodAll_cons_mk (hk.stays (by kernel_rfl) (of_decide_eq_true (by kernel_rfl)) h0 fun x hx => hlt x (by simp [hx])) (trodAll_cons_mk (shut_int undO2 wq) (trodAll_cons_mk (shut_int undO3 wt) (trodAll_mk1 (shut_int undO3 ww)))), rfl, hk.kept _, fun h => by cases h⟩
theorem barrierOwn_holds : Rows.BarrierOwnUptoSaid :=
  upto_holds 3 Try.f3 ⟨rfl, rfl, rfl⟩ ⟨rfl, rfl, rfl, rfl, rfl, rfl, rfl, rfl⟩ ⟨rfl, rfl, rfl, rfl, rfl⟩ rfl (by kernel_rfl) Try.func3 (by kernel_rfl)
    (of_decide_eq_true (by kernel_rfl)) (by unfold Func.isWrapper; first | (rw [if_pos (by decide +kernel)]; kernel_rfl) | (rw [if_neg (by decide +kernel)]; exact ⟨rfl, rfl⟩))
    (fun os started H enc _ F => barrierOwn_lifted os started H enc F)
end
end Go.Proofs.Ytgfajibjedfkdaa
