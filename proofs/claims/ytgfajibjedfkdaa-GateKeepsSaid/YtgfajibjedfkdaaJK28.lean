/- Part 28. -/
import Derived.Test.YtgfajibjedfkdaaJK13
import Derived.Test.YtgfajibjedfkdaaJK14
import Derived.Test.YtgfajibjedfkdaaJK24
import Derived.Test.YtgfajibjedfkdaaJK26
import Derived.Test.YtgfajibjedfkdaaJK27
import Derived.Test.YtgfajibjedfkdaaRows
import Derived.Conc.LeavingOf
import Derived.Lib.SmallJoins
import Derived.Handy
import Derived.SizedLaws
import Derived.Carry
import Derived.Deep.Slices
import Derived.Deep.Fields
set_option linter.unusedSimpArgs false
set_option linter.unusedVariables false
set_option linter.unusedVariables false
set_option maxHeartbeats 8000000
set_option maxRecDepth 100000
namespace Go.Proofs.Ytgfajibjedfkdaa
open Go.Conc Go.RowKit Go.Relay
open Go.ConcN (upd upd_ne upd_same)
section
section
variable {X : Type} {A : Abs X} {Q : X × List Nat → Prop}
theorem rest_keep (h : ∀ st z, Q st → Q (stepA A st z)) : ∀ (f : Nat) (st : X × List Nat), Q st → Q (restA A f st)
  | 0, _, hq => hq
  | f + 1, st, hq => by
    unfold restA
    split
    · exact hq
    · rename_i hov
      clear hov
      refine rest_keep h f _ ?_
      unfold roundA
      generalize List.range A.n = l
      induction l generalizing st with
      | nil => exact hq
      | cons a l ih => exact ih _ (h _ _ hq)
theorem follow_keep (h : ∀ st z, Q st → Q (stepA A st z)) (l : List Int) (st : X × List Nat) (hq : Q st) : Q (followA A st l) := by
  unfold followA
  refine rest_keep h _ _ ?_
  induction l generalizing st with
  | nil => exact hq
  | cons a l ih => exact ih _ (h _ _ hq)
end
section
variable {X X' : Type} {C : Abs X} {C' : Abs X'} {e : X → X'}
theorem over_sim (hn : C'.n = C.n) (hm : C'.most = C.most) (ho : ∀ x i, C'.out (e x) i = C.out x i) (st : X × List Nat) : overA C' (e st.1, st.2) = overA C st := by
  have hg : goingA C' (e st.1) = goingA C st.1 := by
    unfold goingA
    simp only [hn, ho]
  simp only [overA, hg, hm]
theorem step_sim (hn : C'.n = C.n) (hm : C'.most = C.most) (hx : ∀ x i, C'.next (e x) i = e (C.next x i)) (ho : ∀ x i, C'.out (e x) i = C.out x i) (st : X × List Nat) (z : Int) : stepA C' (e st.1, st.2) z = (e (stepA C st z).1, (stepA C st z).2) := by
  have hcond : (overA C' (e st.1, st.2) = false ∧ 0 ≤ z ∧ z < C'.n ∧ C'.out (e st.1, st.2).1 z.toNat = none) ↔ (overA C st = false ∧ 0 ≤ z ∧ z < C.n ∧ C.out st.1 z.toNat = none) := by rw [over_sim hn hm ho, hn, ho]
  unfold stepA
  by_cases h : overA C st = false ∧ 0 ≤ z ∧ z < C.n ∧ C.out st.1 z.toNat = none
  · rw [if_pos (hcond.2 h), if_pos h, hx]
  · rw [if_neg fun q => h (hcond.1 q), if_neg h]
theorem folds_sim (hn : C'.n = C.n) (hm : C'.most = C.most) (hx : ∀ x i, C'.next (e x) i = e (C.next x i)) (ho : ∀ x i, C'.out (e x) i = C.out x i) : ∀ (l : List Int) (st : X × List Nat), l.foldl (stepA C') (e st.1, st.2) = (e (l.foldl (stepA C) st).1, (l.foldl (stepA C) st).2)
  | [], st => rfl
  | z :: l, st => by
    simp only [List.foldl_cons]
    rw [step_sim hn hm hx ho]
    exact folds_sim hn hm hx ho l _
theorem foldn_sim (hn : C'.n = C.n) (hm : C'.most = C.most) (hx : ∀ x i, C'.next (e x) i = e (C.next x i)) (ho : ∀ x i, C'.out (e x) i = C.out x i) : ∀ (l : List Nat) (st : X × List Nat), l.foldl (fun st i => stepA C' st (i : Nat)) (e st.1, st.2) = (e (l.foldl (fun st i => stepA C st (i : Nat)) st).1, (l.foldl (fun st i => stepA C st (i : Nat)) st).2)
  | [], st => rfl
  | z :: l, st => by
    simp only [List.foldl_cons]
    rw [step_sim hn hm hx ho]
    exact foldn_sim hn hm hx ho l _
theorem rest_sim (hn : C'.n = C.n) (hm : C'.most = C.most) (hx : ∀ x i, C'.next (e x) i = e (C.next x i)) (ho : ∀ x i, C'.out (e x) i = C.out x i) : ∀ (f : Nat) (st : X × List Nat), restA C' f (e st.1, st.2) = (e (restA C f st).1, (restA C f st).2)
  | 0, st => rfl
  | f + 1, st => by
    unfold restA
    rw [over_sim hn hm ho]
    split
    · rfl
    · unfold roundA
      rw [hn, foldn_sim hn hm hx ho]
      exact rest_sim hn hm hx ho f _
theorem borns_sim (hb : ∀ x i, C'.born (e x) i = e (C.born x i)) : ∀ (n k : Nat) (x : X), bornsA C' n k (e x) = e (bornsA C n k x)
  | 0, _, _ => rfl
  | n + 1, k, x => by
    unfold bornsA
    rw [hb]
    exact borns_sim hb n (k + 1) _
theorem run_sim (hn : C'.n = C.n) (hm : C'.most = C.most) (hb : ∀ x i, C'.born (e x) i = e (C.born x i)) (hx : ∀ x i, C'.next (e x) i = e (C.next x i)) (ho : ∀ x i, C'.out (e x) i = C.out x i) (x0 : X) (l : List Int) : runA C' (e x0) l = (e (runA C x0 l).1, (runA C x0 l).2) := by
  unfold runA followA
  rw [hn, borns_sim hb, hm]
  have h := folds_sim hn hm hx ho l (bornsA C C.n 0 x0, [])
  rw [h]
  exact rest_sim hn hm hx ho _ _
end
section
variable {L : La}
def wgt (t : Tst L) : Nat := t.ans.length + t.left.length + (if t.d.isSome then 1 else 0)
theorem wgt_settle (th : Int) : ∀ (l : List OpV) (s : L.Sg) (az : List Ans), wgt (settleO L th s l az).2 ≤ az.length + l.length
  | [], s, az => by simp [settleO, wgt]
  | o :: l, s, az => by
    rw [settleO_cons]
    cases L.enter s th o with
    | mk s' r =>
      cases r with
      | inl a =>
        have := wgt_settle th l s' (az ++ [a])
        simp only [landO, List.length_append, List.length_cons, List.length_nil] at *
        omega
      | inr d => simp [landO, wgt]; omega
theorem wgt_land (th : Int) (r : L.Sg × (Ans ⊕ L.D)) (left : List OpV) (az : List Ans) : wgt (landO L th r left az).2 ≤ az.length + left.length + 1 := by
  cases r with
  | mk s' r =>
    cases r with
    | inl a =>
      have := wgt_settle (L := L) th left s' (az ++ [a])
      simp only [landO, List.length_append, List.length_cons, List.length_nil] at *
      omega
    | inr d => simp [landO, wgt]
theorem play_len (s0 : L.Sg) (ops : Nat → List OpV) (n : Nat) (most : Int) (sl : List Int) : (∀ i, ((playO L s0 ops n most sl).1.th i).ans.length ≤ (ops i).length) ∧ (playO L s0 ops n most sl).2.length ≤ 1048576 := by
  let A := absO L n (min (max most 0) 1048576) ops
  let Q : OX L × List Nat → Prop := fun st => (∀ i, wgt (st.1.th i) ≤ (ops i).length) ∧ (st.2.length : Int) ≤ min (max most 0) 1048576
  have hput : ∀ (x : OX L) (i : Nat) (r : L.Sg × Tst L) (c : Nat), (∀ j, wgt (x.th j) ≤ (ops j).length) → wgt r.2 ≤ (ops i).length → ∀ j, wgt ((putO x i r c).th j) ≤ (ops j).length := fun x i r c h hr j => by
    by_cases e : j = i
    · subst e
      simp only [putO, upd_same]
      exact hr
    · simp only [putO, upd_ne _ _ e]
      exact h j
  have hstep : ∀ st z, Q st → Q (stepA A st z) := fun st z ⟨h1, h2⟩ => by
    unfold stepA
    split
    · rename_i hc
      refine ⟨?_, ?_⟩
      · show ∀ i, wgt ((nextO st.1 z.toNat).th i) ≤ (ops i).length
        unfold nextO
        split
        · exact h1
        · rename_i d hd
          refine hput _ _ _ _ h1 ?_
          refine Nat.le_trans (wgt_land _ _ _ _) ?_
          have := h1 z.toNat
          unfold wgt at this
          rw [hd] at this
          simpa using this
      · have ho := hc.1
        unfold overA at ho
        simp only [Bool.or_eq_false_iff, decide_eq_false_iff_not] at ho
        have hlt : ¬ min (max most 0) 1048576 ≤ (st.2.length : Int) := ho.2
        show ((st.2 ++ [z.toNat]).length : Int) ≤ min (max most 0) 1048576
        simp only [List.length_append, List.length_cons, List.length_nil]
        omega
    · exact ⟨h1, h2⟩
  have hb : ∀ (m k : Nat) (x : OX L), (∀ i, wgt (x.th i) ≤ (ops i).length) → ∀ i, wgt ((bornsA A m k x).th i) ≤ (ops i).length := fun m => by
    induction m with
    | zero => intro k x h; exact h
    | succ m ih =>
      intro k x h
      unfold bornsA
      refine ih (k + 1) _ ?_
      show ∀ i, wgt ((bornO ops x k).th i) ≤ (ops i).length
      unfold bornO
      refine hput _ _ _ _ h ?_
      have := wgt_settle (L := L) (k : Nat) (ops k) x.s []
      simpa using this
  have h := follow_keep (Q := Q) hstep sl (bornsA A A.n 0 (x0O L s0), []) ⟨hb A.n 0 _ fun i => by simp [x0O, t0, wgt], by show ((0 : Nat) : Int) ≤ _; omega⟩
  have h' : Q (playO L s0 ops n most sl) := h
  refine ⟨fun i => ?_, ?_⟩
  · have := h'.1 i
    unfold wgt at this
    omega
  · have := h'.2
    omega
end
end
section
def mvT {lb : Nat} (lb' : Nat) (t : Tst (gtLa lb)) : Tst (gtLa lb') := ⟨t.left, t.d, t.ans⟩
def mvX {lb : Nat} (lb' : Nat) (x : OX (gtLa lb)) : OX (gtLa lb') := ⟨x.s, fun i => mvT lb' (x.th i), x.out, x.cnt⟩
section
variable {lb : Nat} (lb' : Nat)
theorem mv_settle (th : Int) : ∀ (l : List OpV) (s : Gt) (az : List Ans), settleO (gtLa lb') th s l az = ((settleO (gtLa lb) th s l az).1, mvT lb' (settleO (gtLa lb) th s l az).2)
  | [], s, az => rfl
  | o :: l, s, az => by
    have e1 : settleO (gtLa lb') th s (o :: l) az = landO (gtLa lb') th (gtEnter s th o) l az := rfl
    have e2 : settleO (gtLa lb) th s (o :: l) az = landO (gtLa lb) th (gtEnter s th o) l az := rfl
    rw [e1, e2]
    cases gtEnter s th o with
    | mk s' r =>
      cases r with
      | inl a => exact mv_settle th l s' (az ++ [a])
      | inr d => rfl
theorem mv_land (th : Int) (r : Gt × (Ans ⊕ GD)) (left : List OpV) (az : List Ans) : landO (gtLa lb') th r left az = ((landO (gtLa lb) th r left az).1, mvT lb' (landO (gtLa lb) th r left az).2) := by
  cases r with
  | mk s' r =>
    cases r with
    | inl a => exact mv_settle lb' th left s' (az ++ [a])
    | inr d => rfl
theorem mv_put (x : OX (gtLa lb)) (i : Nat) (r : Gt × Tst (gtLa lb)) (c : Nat) : putO (mvX lb' x) i (r.1, mvT lb' r.2) c = mvX lb' (putO x i r c) := by
  unfold putO mvX
  congr 1
  · funext j
    simp only [upd]
    split <;> rfl
  · obtain ⟨rs, rl, rd, ra⟩ := r
    cases rd <;> rfl
theorem mv_born (ops : Nat → List OpV) (x : OX (gtLa lb)) (i : Nat) : bornO ops (mvX lb' x) i = mvX lb' (bornO ops x i) := by
  unfold bornO
  rw [show settleO (gtLa lb') (i : Nat) (mvX lb' x).s (ops i) [] = ((settleO (gtLa lb) (i : Nat) x.s (ops i) []).1, mvT lb' (settleO (gtLa lb) (i : Nat) x.s (ops i) []).2) from mv_settle lb' _ _ _ _]
  exact mv_put lb' x i _ _
theorem mv_next (x : OX (gtLa lb)) (i : Nat) : nextO (mvX lb' x) i = mvX lb' (nextO x i) := by
  unfold nextO
  have e : ((mvX lb' x).th i).d = (x.th i).d := rfl
  rw [e]
  cases (x.th i).d with
  | none => rfl
  | some d =>
    show putO (mvX lb' x) i (landO (gtLa lb') (i : Nat) (gtAct x.s d) (x.th i).left (x.th i).ans) (x.cnt + 1) = mvX lb' (putO x i (landO (gtLa lb) (i : Nat) (gtAct x.s d) (x.th i).left (x.th i).ans) (x.cnt + 1))
    rw [mv_land lb']
    exact mv_put lb' x i _ _
theorem play_mv (s0 : Gt) (ops : Nat → List OpV) (n : Nat) (most : Int) (sl : List Int) : playO (gtLa lb') s0 ops n most sl = (mvX lb' (playO (gtLa lb) s0 ops n most sl).1, (playO (gtLa lb) s0 ops n most sl).2) :=
  run_sim (C := absO (gtLa lb) n (min (max most 0) 1048576) ops) (C' := absO (gtLa lb') n (min (max most 0) 1048576) ops) (e := mvX lb') rfl rfl (mv_born lb' ops) (mv_next lb') (fun _ _ => rfl) (x0O (gtLa lb) s0) sl
end
structure PKr where
  an : Nat → List Ans
  ord : List Nat
  st : List Int
  stuck : Bool
def PL (xs : List Int) (ops : Nat → List OpV) (n : Nat) (most : Int) (sl : List Int) : OX (gtLa 0) × List Nat := playO (gtLa 0) (gtN xs (min xs.length 64)) ops n most sl
def PK (xs : List Int) (ops : Nat → List OpV) (n : Nat) (most : Int) (sl : List Int) : PKr := ⟨fun i => ((PL xs ops n most sl).1.th i).ans, (PL xs ops n most sl).2, if (stG (PL xs ops n most sl).1.s).length ≤ 1048576 then stG (PL xs ops n most sl).1.s else [], stuckO n (PL xs ops n most sl).1⟩
def TrK (T : Nat) (xs : List Int) (ops : Nat → List OpV) (n : Nat) (most : Int) (sl : List Int) (cells : Array Value) (w : World) : Prop := TrO T cells n (PK xs ops n most sl).an (PK xs ops n most sl).ord (PK xs ops n most sl).st (PK xs ops n most sl).stuck w
theorem play_k (xa : Option Addr) (xs : List Int) (xc : Nat) (hxn : xs.length ≤ 17592186044416) (ta : Option Addr) (n0 tc tb toff : Nat) (most : Int) (hta : 0 < n0 → ta = some ⟨tb, toff, none⟩) (had : ta = none ∧ tc = 0 ∨ ∃ p, ta = some p) (hcap : n0 ≤ tc) (oa : Nat → Option Addr) (ln oc : Nat → Nat) (ops : Nat → List OpV) (sa : Option Addr) (sc : Nat) (sl : List Int) (hsl : sl.length ≤ 17592186044416) (w : World) (hx : LsR (.slice xa xs.length xc) xs w)
    (I : OpsIn tb toff (min n0 64) oa ln oc ops w) (hsc : ∀ (j : Nat) (z : Int), sl[j]? = some z → ∃ s so, sa = some ⟨s, so, none⟩ ∧ w.cell? ⟨s, so + j, none⟩ = some (.int .i64 z)) (fr : Frame) :
    Runs (fun g w' => ∃ cells, g = G (fr.finish (.agg cells)) [] ∧ TrK w.heap.size xs ops (min n0 64) most sl cells w' ∧ OldK w w') (G (Frame.enter Try.prog 27 #[.slice xa xs.length xc, .slice ta n0 tc, .slice sa sl.length sc, .int .i64 most] .normal) [fr]) w := by
  refine Runs.then (splay_any (.slice xa xs.length xc) xs (.slice ta n0 tc) most ta tb toff tc (min n0 64) (fun h => hta (by omega)) (by omega) oa ln oc ops sa sc sl hsl fr [] w hx I hsc fun w' _ => firstOps_some ta n0 tc w' hcap had) ?_
  rintro _ w' ⟨cells, H, rfl⟩
  refine .now ⟨cells, rfl, ?_, H.size, H.old⟩
  have h := H.tr
  have hf := H.few
  rw [play_mv (lb := 0)] at h hf
  have hf : (stG (PL xs ops (min n0 64) most sl).1.s).length ≤ 1048576 := hf
  unfold TrK PK
  rw [if_pos hf]
  exact h
theorem PK_len (xs : List Int) (ops : Nat → List OpV) (n : Nat) (most : Int) (sl : List Int) : (∀ i, ((PK xs ops n most sl).an i).length ≤ (ops i).length) ∧ (PK xs ops n most sl).ord.length ≤ 1048576 := play_len _ _ _ _ _
theorem PK_st (xs : List Int) (hxn : xs.length ≤ 17592186044416) (ops : Nat → List OpV) (n : Nat) (most : Int) (sl : List Int) : (PK xs ops n most sl).st.length ≤ 1048576 := by
  unfold PK
  show (if (stG (PL xs ops n most sl).1.s).length ≤ 1048576 then stG (PL xs ops n most sl).1.s else []).length ≤ 1048576
  split
  · assumption
  · exact Nat.zero_le _
end
section
open Go.ChangeShapes Go.WideShapes Go.ChangeAt Go.Joins Go.Deep
theorem prog_own : ownKnob Try.prog.godebug = none := by kernel_rfl
def Left (W : World) (v : Value) (w' : World) : Prop := v = .bool true ∧ w'.os = W.os ∧ w'.output = W.output ∧ ∀ b, b < W.heap.size → w'.heap[b]? = W.heap[b]?
theorem Left.kept {W w' : World} {v : Value} (h : Left W v w') (may : MemPlace → Prop) : W.keptBut w' may := by
  refine ⟨h.2.1, h.2.2.1, fun i hi => ?_⟩
  rw [h.2.2.2 i hi]
  split <;> simp_all
theorem und4_is : Try.prog.underlying 4 = some .bool := by kernel_rfl
theorem stepG_done {P : Program} {fr : Frame} {w : World} {fn : Func} {v : Value} (hm : fr.mode = .returning) (hn : fr.kind = .normal) (hd : fr.defers = []) (hf : P.funcs[fr.fn]? = some fn) (hr : (results fn fr.tmps).run P w = .ok v w) (he : (results fn fr.tmps).events P w #[] = #[]) (hi : P.inits.idxOf? fr.fn = none) :
    stepG P true (G fr []) w = .ended (.done v) w #[] := by
  simp [G, stepG, unwind, doReturn, hm, hd, hn, hf, hr, he, hi, GStep.after, seen_none]
theorem run_claim {f : FuncId} {fn : Func} {args : Array Value} {W : World} {Post : Value → World → Prop} {v : Value} {t : Tmp} (hf : Try.prog.funcs[f]? = some fn) (hres : fn.results = #[.tmp t]) (hi : Try.prog.inits.idxOf? f = none)
    (h : Runs (fun g w' => Closing f t v g ∧ (OsSame W w' → ∀ d, Post v (w'.at d))) (G (Frame.enter Try.prog f args .normal) []) W) :
    ∃ M last o w' t', runNT Try.prog (M + 1) (solo (G (Frame.enter Try.prog f args .normal) []) W) #[] = (.ended o w', t') ∧ Go.runN Try.prog M (solo (G (Frame.enter Try.prog f args .normal) []) W) = .next last ∧ step Try.prog last = .ended o w' ∧ Go.Conc.Good Try.prog Post last o w' t' := by
  rw [solo_eq_crowd]
  have A0 := at_begin (P := Try.prog) (gs := #[G (Frame.enter Try.prog f args .normal) []]) (a := G (Frame.enter Try.prog f args .normal) []) (sl := none) (w := W) rfl (leavers_one Try.prog _) past_nil
  obtain ⟨N1, m1, T1, r1, ⟨nG, g1, w1, _, ⟨⟨fr, rfl, hm, hn, hd, hfn, hv⟩, hP⟩, A1⟩, ho⟩ := h 1 _ _ (Nat.le_refl _) A0
  obtain ⟨gs, sl, q, B, rfl, _, hg0, hL, hPast⟩ := A1.ends (fun _ => rfl)
  have hP := hP ho
  have hs : ∀ d, stepG Try.prog true (G fr []) (w1.at d) = .ended (.done v) (w1.at d) #[] := fun d =>
    stepG_done hm hn hd (by rw [hfn]; exact hf) (by rw [results_tmp hres, hv]) (events_results_tmp hres _ _) (by rw [hfn]; exact hi)
  have hG : Goes Try.prog true AtRel (fun _ _ es => ∀ e ∈ es, EvL (fun _ => False) B e) (AtEnd Try.prog (fun _ => False) B Post) 0 (G fr []) w1 := by
    rintro _ ⟨d, rfl⟩
    exact ⟨rfl, v, #[], hs d, by simp, hP d⟩
  obtain ⟨M8, last, o, w', t', e1, e2, e3, e4⟩ := beside_ends (P := Try.prog) (Post := Post) (sl := sl) (fun _ _ _ h => h) hg0 hL hPast hG
  refine ⟨N1 + M8, last, o, w', t', ?_, ?_, e3, e4⟩
  · rw [Nat.add_assoc, runNT_add, r1]; exact e1
  · rw [Go.runN_add, ← runNT_fst Try.prog _ _ #[], r1]; exact e2
end
section
open Go.Conc Go.RowKit Go.Relay Go.ChangeShapes Go.WideShapes Go.ChangeAt Go.Joins Go.Deep
theorem und3_is : Try.prog.underlying 3 = some (.int .i64) := by kernel_rfl
theorem und2_is : Try.prog.underlying 2 = some (.int .i64) := by kernel_rfl
theorem laid_out : laidOutB Try.prog = true := by kernel_rfl
section
variable {H : Type} {enc : TypeId × Value → H} {W w' : World}
theorem Left.stays {r : Value} {t : TypeId} {v : Value} {d : DataW H} {ps : List MemPlace} (K : Left W r w') (hr : Try.prog.readableRec t = true) (hrow : t < Try.prog.types.size) (h : DataW.Trod enc Try.prog W 0 (fun _ => true) true t v d ps) (hlt : ∀ x ∈ ps, x.block < W.heap.size) :
    DataW.Trod enc Try.prog w' 0 (fun b => decide (b < W.heap.size)) true t v d ps :=
  WideElems.Trod_stays laid_out hr hrow h (fun x hx => by
    have hb := K.2.2.2 x.block (hlt x hx)
    cases x with
    | cell b o => exact World.cell?_of_block (w := W) (a := ⟨b, o, none⟩) hb
    | map b => exact hb) (fun x hx => by simpa using hlt x hx)
theorem addr_form {w : World} {a : Addr} {v : Value} (h : w.cell? a = some v) : a = ⟨a.block, a.off, none⟩ := by
  obtain ⟨b, o, s⟩ := a
  cases s with
  | none => rfl
  | some s =>
    unfold World.cell? at h
    split at h
    · simp at h
    · cases h
end
section
variable {H : Type} {enc : TypeId × Value → H} {W : World}
theorem lit_wraps {z : Int} (h : (Lit.int .i64 z).wf = true) : IntKind.i64.wrap z = z := by
  simp [Lit.wf, IntKind.min, IntKind.max, IntKind.signed, IntKind.bits] at h
  rw [IntKind.wrap_i64]
  omega
theorem numsT_lsR {a : Option Addr} {cap : Nat} {zs : List Int} (h1 : ∀ (i : Nat) (z : Int), zs[i]? = some z → IntKind.i64.wrap z = z ∧ ∃ s so, a = some ⟨s, so, none⟩ ∧ W.cell? ⟨s, so + i, none⟩ = some (.int .i64 z)) (h2 : zs.length ≤ cap) (h3 : a = none ∧ cap = 0 ∨ ∃ p, a = some p) : LsR (.slice a zs.length cap) zs W :=
  have hn : a = none → cap = 0 := fun e => by
    rcases h3 with h | ⟨p, h⟩
    · exact h.2
    · rw [h] at e; cases e
  ⟨a, cap, rfl, h2, hn, fun j z hz => (h1 j z hz).2⟩
variable {base : Nat} {spare : Nat → Bool} {held : Bool}
end
end
section
open Go.Conc Go.RowKit Go.Relay Go.ChangeShapes Go.WideShapes Go.ChangeAt Go.Joins Go.Deep
noncomputable def fldsOp : Array Field := match Try.prog.underlying 84 with | some (.struct fs) => fs | _ => #[]
theorem undOp_is : Try.prog.underlying 84 = some (.struct fldsOp) := by kernel_rfl
theorem fldsOp_four : ∃ f0 f1 f2 f3, fldsOp = #[f0, f1, f2, f3] ∧ f0.type = 3 ∧ f1.type = 2 ∧ f2.type = 2 ∧ f3.type = 2 := by
  have hs : fldsOp.size = 4 := by kernel_rfl
  have h0 : (fldsOp[0]?).map (·.type) = some 3 := by kernel_rfl
  have h1 : (fldsOp[1]?).map (·.type) = some 2 := by kernel_rfl
  have h2 : (fldsOp[2]?).map (·.type) = some 2 := by kernel_rfl
  have h3 : (fldsOp[3]?).map (·.type) = some 2 := by kernel_rfl
  generalize fldsOp = F at *
  obtain ⟨l⟩ := F
  match l, hs with
  | [f0, f1, f2, f3], _ => exact ⟨f0, f1, f2, f3, rfl, by simpa using h0, by simpa using h1, by simpa using h2, by simpa using h3⟩
section
variable {H : Type} {enc : TypeId × Value → H} {W : World} {base : Nat} {spare : Nat → Bool} {held : Bool}
theorem trod_struct4 {P : Program} {t : TypeId} {f0 f1 f2 f3 : Field} {fuel : Nat} {cs : List Value} {x : DataW H × List MemPlace} (ht : P.underlying t = some (.struct #[f0, f1, f2, f3])) (h : DataW.trod enc P W base spare held fuel t cs = some x) :
    ∃ y0 y1 y2 y3 n, cs.length = P.cellsOf t ∧ DataW.trod enc P W base spare held n f0.type ((cs.drop f0.offset).take (P.cellsOf f0.type)) = some y0 ∧
      DataW.trod enc P W base spare held n f1.type ((cs.drop f1.offset).take (P.cellsOf f1.type)) = some y1 ∧ DataW.trod enc P W base spare held n f2.type ((cs.drop f2.offset).take (P.cellsOf f2.type)) = some y2 ∧
      DataW.trod enc P W base spare held n f3.type ((cs.drop f3.offset).take (P.cellsOf f3.type)) = some y3 := by
  obtain ⟨xs, n, _, rfl, hl, hlen, hf⟩ := DataW.trod_struct ht h
  match xs, hlen with
  | [y0, y1, y2, y3], _ => exact ⟨y0, y1, y2, y3, n, hl, by simpa using hf 0 f0 rfl, by simpa using hf 1 f1 rfl, by simpa using hf 2 f2 rfl, by simpa using hf 3 f3 rfl⟩
structure ThIn (W : World) (v : Value) (a : Option Addr) (ln oc : Nat) (l : List OpV) : Prop where
  is : v = .slice a ln oc
  len : l.length = ln
  cap : ln ≤ oc
  ad : (a = none ∧ oc = 0) ∨ ∃ p, a = some p
  ops : ∀ (k : Nat) (o : OpV), l[k]? = some o → ∃ b off, a = some ⟨b, off, none⟩ ∧ W.cell? ⟨b, off + k * 4, none⟩ = some (.int .i64 o.k) ∧ W.cell? ⟨b, off + k * 4 + 1, none⟩ = some (.int .i64 o.a) ∧ W.cell? ⟨b, off + k * 4 + 2, none⟩ = some (.int .i64 o.b) ∧ W.cell? ⟨b, off + k * 4 + 3, none⟩ = some (.int .i64 o.c)
  wr : ∀ (k : Nat) (o : OpV), l[k]? = some o → IntKind.i64.wrap o.k = o.k ∧ IntKind.i64.wrap o.a = o.a ∧ IntKind.i64.wrap o.b = o.b ∧ IntKind.i64.wrap o.c = o.c
theorem open_ops {n : Nat} {v : Value} {x : DataW H × List MemPlace} (hu : Try.prog.underlying 73 = some (.slice 84)) (h : DataW.trod enc Try.prog W base (fun _ => true) held n 73 [v] = some x) :
    ∃ (q : (Option Addr × Nat × Nat) × List OpV), ThIn W v q.1.1 q.1.2.1 q.1.2.2 q.2 := by
  have hC : Try.prog.cellsOf 84 = 4 := by kernel_rfl
  obtain ⟨f0, f1, f2, f3, ef, t0, t1, t2, t3⟩ := fldsOp_four
  have hst : Try.prog.underlying 84 = some (.struct #[f0, f1, f2, f3]) := by rw [undOp_is, ef]
  have hone : oneCellFields Try.prog #[f0, f1, f2, f3] = true := by rw [← ef]; kernel_rfl
  rcases open_slice hu h with ⟨e, _⟩ | ⟨a', len', cap', m, n', D, Pl, e, _, hl, _, hm, hx, hel⟩
  · injection e with e _
    exact ⟨((none, 0, 0), []), e, rfl, Nat.le_refl _, .inl ⟨rfl, rfl⟩, fun k o h => (by simp at h), fun k o h => (by simp at h)⟩
  · injection e with e _
    have hm : m = cap' := by simpa using hm
    have key : ∀ i, i < len' → ∃ o : OpV, (IntKind.i64.wrap o.k = o.k ∧ IntKind.i64.wrap o.a = o.a ∧ IntKind.i64.wrap o.b = o.b ∧ IntKind.i64.wrap o.c = o.c) ∧ ∀ k v, ([.int .i64 o.k, .int .i64 o.a, .int .i64 o.b, .int .i64 o.c] : List Value)[k]? = some v → W.cell? ((a'.add (i * 4)).add k) = some v := fun i hi => by
      obtain ⟨cs', h1, h2⟩ := hel i (by omega)
      rw [hC] at h1
      obtain ⟨_, hlen, hcell⟩ := World.cells?_some h1
      obtain ⟨y0, y1, y2, y3, k, _, u0, u1, u2, u3⟩ := trod_struct4 hst h2
      obtain ⟨o0, k0⟩ := hone_of hone 0 f0 rfl
      obtain ⟨o1, k1⟩ := hone_of hone 1 f1 rfl
      obtain ⟨o2, k2⟩ := hone_of hone 2 f2 rfl
      obtain ⟨o3, k3⟩ := hone_of hone 3 f3 rfl
      match cs', hlen with
      | [c0, c1, c2, c3], _ =>
        rw [o0, k0, t0] at u0
        rw [o1, k1, t1] at u1
        rw [o2, k2, t2] at u2
        rw [o3, k3, t3] at u3
        obtain ⟨z0, e0, _, q0⟩ := DataW.trod_int und3_is u0
        obtain ⟨z1, e1, _, q1⟩ := DataW.trod_int und2_is u1
        obtain ⟨z2, e2, _, q2⟩ := DataW.trod_int und2_is u2
        obtain ⟨z3, e3, _, q3⟩ := DataW.trod_int und2_is u3
        simp at e0 e1 e2 e3
        subst e0 e1 e2 e3
        refine ⟨⟨z0, z1, z2, z3⟩, ⟨lit_wraps q0, lit_wraps q1, lit_wraps q2, lit_wraps q3⟩, fun k v hv => ?_⟩
        have hk4 : k < 4 := (List.getElem?_eq_some_iff.1 hv).1
        have hc := hcell k (by simpa using hk4)
        rw [hc]
        exact hv
    have hI : Inhabited OpV := ⟨⟨0, 0, 0, 0⟩⟩
    obtain ⟨f, hf'⟩ := choose_lt (α := OpV) key
    refine ⟨((some a', len', cap'), (List.range len').map f), e, by simp, hl, .inr ⟨_, rfl⟩, fun k o hd => ?_, fun k o hd => ?_⟩
    rotate_left
    · have hk : k < len' := by simpa using (List.getElem?_eq_some_iff.1 hd).1
      have hd : f k = o := by simpa [hk] using hd
      have hf := (hf' k hk).1
      rwa [hd] at hf
    have hk : k < len' := by simpa using (List.getElem?_eq_some_iff.1 hd).1
    have hd : f k = o := by simpa [hk] using hd
    have hf := (hf' k hk).2
    rw [hd] at hf
    have h0 := (hf' 0 (by omega)).2 0 _ rfl
    have ha : (a'.add (0 * 4)).add 0 = a' := by simp [Addr.add]
    rw [ha] at h0
    have hform := addr_form h0
    have hc : ∀ (m : Nat) (v : Value), ([.int .i64 o.k, .int .i64 o.a, .int .i64 o.b, .int .i64 o.c] : List Value)[m]? = some v → W.cell? ⟨a'.block, a'.off + k * 4 + m, none⟩ = some v := fun m v hv => by
      have := hf m v hv
      rw [hform, add_none, add_none] at this
      exact this
    exact ⟨a'.block, a'.off, congrArg some hform, hc 0 _ rfl, hc 1 _ rfl, hc 2 _ rfl, hc 3 _ rfl⟩
end
end
section
open Go.Joins Go.Deep
section
variable {base base' n : Nat} {cells : Array Value} {F : Nat → List Ans} {ord : List Nat} {sts : List Int} {k : Bool} {w w' : World}
theorem row_far {e : TypeId} {size m : Nat} {v : Value} {xs : List Value} (h : w.ownsRow base e size v m xs) (he : e ≠ 63) (hb : ∀ (b : Nat) (cur : Array Value) (t : TypeId), base ≤ b → w.heap[b]? = some (.cells cur t (0, 0)) → t ≠ 63 → w'.heap[b]? = w.heap[b]?) : w'.ownsRow base e size v m xs := by
  refine row_same h fun g hg => ?_
  rcases h.2 with ⟨e1, _⟩ | ⟨g', cap, cur, e1, h1, h2, _⟩
  · rw [e1] at hg; cases hg
  · rw [e1] at hg
    cases hg
    exact hb _ _ _ h1 h2 he
theorem TrO.far (h : TrO base cells n F ord sts k w) (hb : ∀ (b : Nat) (cur : Array Value) (t : TypeId), base ≤ b → w.heap[b]? = some (.cells cur t (0, 0)) → t ≠ 63 → w'.heap[b]? = w.heap[b]?) : TrO base cells n F ord sts k w' := by
  obtain ⟨A, oo, ok, sv, hd, own, e, hA, hord, hst, ⟨arr, h1, h2, h3⟩, hrows, h5⟩ := h.all
  refine ⟨⟨A, oo, ok, sv, hd, own, e, hA, row_far hord (by decide) hb, row_far hst (by decide) hb, ⟨arr, (hb _ _ _ hA h1 (by decide)).trans h1, h2, h3⟩, fun i hi => ?_, h5⟩⟩
  obtain ⟨ta, tc, z, r1, r2, r3, r4, r5⟩ := hrows i hi
  refine ⟨ta, tc, z, r1, r2, row_far r3 (by decide) hb, r4, fun p hp => ?_⟩
  obtain ⟨a, c, l1, l2, l3⟩ := r5 p hp
  exact ⟨a, c, l1, l2, fun hl => ⟨row_far (l3 hl).1 (by decide) hb, (l3 hl).2⟩⟩
theorem TrO.low (h : TrO base cells n F ord sts k w) (hb : base' ≤ base) : TrO base' cells n F ord sts k w := by
  obtain ⟨A, oo, ok, sv, hd, own, e, hA, hord, hst, ⟨arr, h1, h2, h3⟩, hrows, h5⟩ := h.all
  exact ⟨⟨A, oo, ok, sv, hd, own, e, Nat.le_trans hb hA, row_low hord hb, row_low hst hb, ⟨arr, h1, h2, h3⟩, fun i hi => (hrows i hi).low hb, h5⟩⟩
theorem TrO.four (h : TrO base cells n F ord sts k w) : cells.size = 4 ∧ cells.all (·.oneCell') = true := by
  obtain ⟨A, oo, ok, sv, hd, own, e, hA, hord, hst, _⟩ := h.all
  have hs : sv.oneCell' = true := by
    rcases hst.2 with ⟨e1, _⟩ | ⟨g, cap, cur, e1, _⟩ <;> rw [e1] <;> rfl
  subst e
  constructor
  · rfl
  · simp [trC, Value.oneCell', hs]
    simpa [Value.oneCell'] using hs
theorem ansRow_get2 : ∀ (z : List (Ans × Value)) (k : Nat), (ansRow z)[k * 3 + 2]? = (z[k]?).map Prod.snd
  | [], k => by simp [ansRow]
  | p :: z, 0 => by simp [ansRow]
  | p :: z, k + 1 => by
    have e : (k + 1) * 3 + 2 = (k * 3 + 2) + 3 := by omega
    have h := ansRow_get2 z k
    rw [e]
    simp only [ansRow, List.flatMap_cons, List.cons_append, List.nil_append, List.getElem?_cons_succ] at h ⊢
    exact h
theorem kz_of {A1 A : Nat} {wz : World} (h : TrO base cells n F ord sts k w) (hF : ∀ i, i < n → (F i).length ≤ 65536) (hn : n ≤ 64) (hs : w.heap.size = A1) (hb : base ≤ A1) (hz : ∀ b, b < A1 → wz.heap[b]? = w.heap[b]?) (hzs : A1 ≤ wz.heap.size) (hA : wz.heap[A]? = some (.cells cells 63)) :
    ∃ ab hdrs ra rn rc sl oo ok sa sc, cells = #[.slice (some ⟨ab, 0, none⟩) n n, .slice oo ord.length ok, .slice sa sts.length sc, .bool k] ∧ KZ base A1 A n ab cells hdrs ra rn rc sl wz ∧ OwnR base A1 3 1 (.slice oo ord.length ok) ord.length wz ∧ OwnR base A1 2 1 (.slice sa sts.length sc) sts.length wz := by
  obtain ⟨ab, oo, ok, sv, hd, own, e, hA0, hord, hst, ⟨arr, h1, h2, h3⟩, hrows, hone, _⟩ := h.all
  obtain ⟨sa, sc, rfl⟩ : ∃ sa sc, sv = .slice sa sts.length sc := by
    rcases hst.2 with ⟨e, e0⟩ | ⟨g, cap, cur, e, _⟩
    · exact ⟨none, 0, by rw [e, e0]⟩
    · exact ⟨_, _, e⟩
  have own_of : ∀ {e : TypeId} {size m : Nat} {v : Value} {xs : List Value}, w.ownsRow base e size v m xs → wz.ownsRow base e size v m xs ∧ ∀ b, v.ownBlock = some b → b < A1 := fun {e size m v xs} hr => ⟨row_same hr fun b hb => hz b (by rw [← hs]; exact (hr.lt b hb).2), fun b hb => by rw [← hs]; exact (hr.lt b hb).2⟩
  have key : ∀ i, i < n → ∃ q : (Option Addr × Nat) × List (Ans × Value), q.2.map Prod.fst = F i ∧ hd i = .slice q.1.1 (F i).length q.1.2 ∧ w.ownsRow base 81 3 (hd i) (F i).length (ansRow q.2) ∧ (∀ b, (hd i).ownBlock = some b → own i b) ∧ ∀ p ∈ q.2, LsAt base (own i) p.2 p.1.l w := fun i hi => by
    obtain ⟨ta, tc, z, r⟩ := hrows i hi
    exact ⟨((ta, tc), z), r⟩
  have hI : Inhabited ((Option Addr × Nat) × List (Ans × Value)) := ⟨((none, 0), [])⟩
  obtain ⟨f, hf⟩ := choose_lt (α := (Option Addr × Nat) × List (Ans × Value)) key
  have hlen : ∀ i, i < n → (f i).2.length = (F i).length := fun i hi => by
    rw [← (hf i hi).1, List.length_map]
  have hget : ∀ i k, i < n → k < (F i).length → ∃ p, (f i).2[k]? = some p ∧ p ∈ (f i).2 := fun i k hi hk => by
    have hk' : k < (f i).2.length := by rw [hlen i hi]; exact hk
    exact ⟨_, List.getElem?_eq_getElem hk', List.getElem_mem hk'⟩
  have hor := own_of hord
  have hsr := own_of hst
  have labl : ab < A1 := by rw [← hs]; exact (Array.getElem?_eq_some_iff.1 h1).1
  refine ⟨ab, arr, fun i => (f i).1.1, fun i => (F i).length, fun i => (f i).1.2, fun i k => (((f i).2[k]?).map Prod.snd).getD undef, oo, ok, sa, sc, e, ⟨hn, by omega, hA, by rw [e]; rfl, (hz ab labl).trans h1, fun i hi => ?_, hF, fun i hi => ?_, fun i j b hi hj e1 e2 => ?_, fun i k hi hk => ?_, fun i k g hi hk hg => ?_⟩, ⟨_, hor⟩, ⟨_, hsr⟩⟩
  · rw [h3 i hi, (hf i hi).2.1]
  · have := own_of (hf i hi).2.2.1
    rw [(hf i hi).2.1] at this
    exact ⟨_, this⟩
  · refine hone i j b ((hf i hi).2.2.2.1 b ?_) ((hf j hj).2.2.2.1 b ?_)
    · rw [(hf i hi).2.1]
      show (Value.slice (f i).1.1 _ _).ownBlock = some b
      rw [e1]
      rfl
    · rw [(hf j hj).2.1]
      show (Value.slice (f j).1.1 _ _).ownBlock = some b
      rw [e2]
      rfl
  · obtain ⟨p, hp, hm⟩ := hget i k hi hk
    obtain ⟨a, c, l1, l2, l3⟩ := (hf i hi).2.2.2.2 p hm
    have hl := own_of (l3 trivial).1
    refine ⟨a, p.1.l.length, c, by rw [hp]; exact l1, l2, ?_⟩
    rw [← l1]
    exact ⟨_, hl⟩
  · obtain ⟨p, hp, hm⟩ := hget i k hi hk
    have hr := (own_of (hf i hi).2.2.1).1
    rw [(hf i hi).2.1] at hr
    obtain ⟨g', e', _, _, hc⟩ := row_at hr (j := k * 3 + 2) (x := p.2) (by rw [ansRow_get2, hp]; rfl)
    have hg : (f i).1.1 = some ⟨g, 0, none⟩ := hg
    rw [hg] at e'
    cases e'
    rw [hc, hp]
    rfl
end
end
section
variable {main : Bool}
noncomputable def kx10 : List Item := [.code (.seq (.region 11 reg11_11 false) (.seq (.seq (.region 12 reg11_12 false) (.block 2 (.loop (.seq (.seq (.region 13 reg11_13 false) (.cond (.tmp 81 ) (.skip) (.exit 2))) (.seq (.block 3 (.seq (.region 15 reg11_15 false) (.block 4 (.loop (.seq (.seq (.region 16 reg11_16 false) (.cond (.tmp 90 ) (.skip) (.exit 4))) (.seq (.block 5 (.seq (.seq (.region 18 reg11_18 true) (.cond (.tmp 108 ) (.seq (.region 19 reg11_19 false) (.ret)) (.skip))) (.region 20 reg11_20 false))) (.region 17 reg11_17 false))))))) (.region 14 reg11_14 false)))))) (.seq (.seq (.region 21 reg11_21 false) (.block 6 (.loop (.seq (.seq (.region 22 reg11_22 false) (.cond (.tmp 120 ) (.skip) (.exit 6))) (.seq (.block 7 (.region 24 reg11_24 false)) (.region 23 reg11_23 false)))))) (.seq (.seq (.region 25 reg11_25 false) (.block 8 (.loop (.seq (.seq (.region 26 reg11_26 false) (.cond (.tmp 131 ) (.skip) (.exit 8))) (.seq (.block 9 (.region 28 reg11_28 false)) (.region 27 reg11_27 false)))))) (.seq (.seq (.region 29 reg11_29 false) (.block 10 (.loop (.seq (.seq (.region 30 reg11_30 false) (.cond (.tmp 142 ) (.skip) (.exit 10))) (.seq (.block 11 (.seq (.seq (.region 32 reg11_32 false) (.block 12 (.loop (.seq (.seq (.region 33 reg11_33 false) (.cond (.tmp 152 ) (.skip) (.exit 12))) (.seq (.block 13 (.seq (.seq (.region 35 reg11_35 false) (.block 14 (.loop (.seq (.seq (.region 36 reg11_36 false) (.cond (.tmp 166 ) (.skip) (.exit 14))) (.seq (.block 15 (.region 38 reg11_38 false)) (.region 37 reg11_37 false)))))) (.seq (.region 39 reg11_39 false) (.seq (.region 40 reg11_40 false) (.region 41 reg11_41 false))))) (.region 34 reg11_34 false)))))) (.seq (.region 42 reg11_42 false) (.seq (.region 43 reg11_43 false) (.block 16 (.loop (.seq (.seq (.region 44 reg11_44 false) (.cond (.tmp 208 ) (.skip) (.exit 16))) (.seq (.block 17 (.region 46 reg11_46 false)) (.region 45 reg11_45 false))))))))) (.region 31 reg11_31 false)))))) (.seq (.seq (.region 47 reg11_47 false) (.block 18 (.loop (.seq (.seq (.region 48 reg11_48 false) (.cond (.tmp 219 ) (.skip) (.exit 18))) (.seq (.block 19 (.seq (.region 50 reg11_50 false) (.block 20 (.loop (.seq (.seq (.region 51 reg11_51 false) (.cond (.tmp 229 ) (.skip) (.exit 20))) (.seq (.block 21 (.seq (.region 53 reg11_53 false) (.cond (.tmp 241 ) (.seq (.region 54 reg11_54 false) (.ret)) (.skip)))) (.region 52 reg11_52 false))))))) (.region 49 reg11_49 false)))))) (.seq (.region 55 reg11_55 false) (.seq (.region 56 reg11_56 false) (.seq (.region 57 reg11_57 true) (.ret))))))))))]
theorem k10_in (k1 k2 xl sl c1 c2 X Y n : Nat) (tc : Nat) (ta : Option Addr) (lc sb so : Nat) (sa0 : Option Addr) (u : Nat → Value) (w : World) (hX : w.cell? ⟨X, 1, none⟩ = some (.slice sa0 n lc)) :
    Walk Try.prog true (DR (fun _ => none)) (fun g w' => (∃ u', g = G ((base 11).at ⟨tmK k1 k2 xl sl c1 c2 X Y (.slice ta n tc) u', []⟩ (.code (.region 10 reg11_10 true) :: kx10)) []) ∧ ∃ d, w' = w.at d) (G (hk0 (.slice (some ⟨k1, 0, none⟩) (xl + 1) c1) (.slice (some ⟨k2, 0, none⟩) (sl + 1) c2) (.slice ta n tc) X Y n u) []) w := by
  conv => arg 5; unfold hk0
  repeat (first | refine Walk.cx ?_ | (refine Walk.cReg ?_; simp only [z11]) | (refine Walk.oq ?_; try walk_nrm) | (refine Walk.un ?_; walk_nrm))
  refine .stop fun d => ⟨at_slots ?_, d, rfl⟩
  simp only [tmK, kx10]
  rfl
theorem k11 (k1 k2 xl sl c1 c2 X Y A : Nat) (tv : Value) (p0 p1 p2 p3 : Value) (u : Nat → Value) (w : World) (h9 : u 9 = .pointer (some ⟨A, 0, none⟩)) (hX : w.heap[X]? = some (.cells #[p0, p1, p2, p3] 71)) :
    Walk Try.prog true (DR (fun _ => none)) (fun g w' => ∃ fr, g = G (Frame.enter Try.prog 27 #[p0, p1, p2, p3] .normal) [fr] ∧ (∃ d, w' = w.at d) ∧ ∀ (cells : Array Value) (w2 : World), cells.size = 4 → cells.all (·.oneCell') = true →
        Walk Try.prog true (DR (fun _ => none)) (fun g w' => (∃ u', g = G (hk1 (.slice (some ⟨k1, 0, none⟩) (xl + 1) c1) (.slice (some ⟨k2, 0, none⟩) (sl + 1) c2) tv X Y A w2.heap.size 0 u') []) ∧ ∃ d, w' = ((w2.alloc zTk).setRow w2.heap.size cells).at d) (G (fr.finish (.agg cells)) []) w2)
      (G ((base 11).at ⟨tmK k1 k2 xl sl c1 c2 X Y tv u, []⟩ (.inRegion reg11_10 [] :: kx10)) []) w := by
  have c0 : w.cell? ⟨X, 0, none⟩ = some p0 := (cell_of hX 0).trans rfl
  have c1x : w.cell? ⟨X, 1, none⟩ = some p1 := (cell_of hX 1).trans rfl
  have c2x : w.cell? ⟨X, 2, none⟩ = some p2 := (cell_of hX 2).trans rfl
  have c3 : w.cell? ⟨X, 3, none⟩ = some p3 := (cell_of hX 3).trans rfl
  simp only [tmK, kx10, h9]
  repeat (first | refine Walk.cx ?_ | (refine Walk.cReg ?_; simp only [z11]) | (refine Walk.oq ?_; try walk_nrm) | (refine Walk.un ?_; walk_nrm))
  refine Walk.callE (ho_of (by conv => lhs; whnf) (by kernel_rfl)) (by rfl) (by decide) rfl Try.func27 (by kernel_rfl) (by rfl) ?_
  walk_nrm
  refine .stop fun d => ⟨_, rfl, ⟨d, rfl⟩, ?_⟩
  intro cells w2 h4 h41
  clear c0 c1x c2x c3 hX
  refine Walk.finish (ho_of (by conv => lhs; whnf) (by kernel_rfl)) ?_
  walk_nrm
  repeat (first | refine Walk.cx ?_ | (refine Walk.cReg ?_; simp only [z11]) | (refine Walk.oq ?_; try walk_nrm) | (refine Walk.un ?_; walk_nrm))
  (refine Walk.oa ?_; try walk_nrm)
  have ez : w2.alloc (.cells #[.slice none 0 0, .slice none 0 0, .slice none 0 0, .bool false] 63) = w2.alloc zTk := rfl
  try rw [ez]
  clear ez
  have dz := heap_alloc_new w2 zTk
  generalize hB : w2.heap.size = B at *
  generalize w2.alloc zTk = w3 at *
  unfold zTk at dz
  repeat (first | (refine Walk.oq ?_; try walk_nrm) | (refine Walk.un ?_; walk_nrm))
  refine Walk.storeS 63 (.tmp 10) (.tmp 77) (ho_of (by conv => lhs; whnf) (by kernel_rfl)) (by rfl) (by decide) rfl B cells _ 63 rfl rfl dz (by rw [h4]; kernel_rfl) (by rw [h4]; rfl) h41 (ap0 _) ?_
  generalize hw4 : w3.setRow B cells = w4 at *
  clear dz
  walk_nrm
  repeat (first | refine Walk.cx ?_ | (refine Walk.cReg ?_; simp only [z11]) | (refine Walk.oq ?_; try walk_nrm) | (refine Walk.un ?_; walk_nrm))
  refine Walk.ctl rfl (fun w => stepG_loop) ?_
  refine .stop fun d => ⟨at_slots ?_, d, rfl⟩
  simp only [hk1]
  rfl
noncomputable def tm57 (st sc : Value) (X B C : Nat) (u : Nat → Value) : Array Value := #[u 0, u 1, .pointer (some ⟨X, 0, none⟩), u 3, u 4, st, sc, u 7, u 8, u 9, .pointer (some ⟨B, 0, none⟩), u 11, u 12, u 13, u 14, u 15, u 16, u 17, u 18, u 19, u 20, u 21, u 22, .pointer (some ⟨C, 0, none⟩), u 24, u 25, u 26, u 27, u 28, u 29, u 30, u 31, u 32, u 33, u 34, u 35, u 36, u 37, u 38, u 39, u 40, u 41, u 42, u 43, u 44, u 45, u 46, u 47, u 48, u 49, u 50, u 51, u 52, u 53, u 54, u 55, u 56, u 57, u 58, u 59, u 60, u 61, u 62, u 63, u 64, u 65, u 66, u 67, u 68, u 69, u 70, u 71, u 72, u 73, u 74, u 75, u 76, u 77, u 78, u 79, u 80, u 81, u 82, u 83, u 84, u 85, u 86, u 87, u 88, u 89, u 90, u 91, u 92, u 93, u 94, u 95, u 96, u 97, u 98, u 99, u 100, u 101, u 102, u 103, u 104, u 105, u 106, u 107, u 108, u 109, u 110, u 111, u 112, u 113, u 114, u 115, u 116, u 117, u 118, u 119, u 120, u 121, u 122, u 123, u 124, u 125, u 126, u 127, u 128, u 129, u 130, u 131, u 132, u 133, u 134, u 135, u 136, u 137, u 138, u 139, u 140, u 141, u 142, u 143, u 144, u 145, u 146, u 147, u 148, u 149, u 150, u 151, u 152, u 153, u 154, u 155, u 156, u 157, u 158, u 159, u 160, u 161, u 162, u 163, u 164, u 165, u 166, u 167, u 168, u 169, u 170, u 171, u 172, u 173, u 174, u 175, u 176, u 177, u 178, u 179, u 180, u 181, u 182, u 183, u 184, u 185, u 186, u 187, u 188, u 189, u 190, u 191, u 192, u 193, u 194, u 195, u 196, u 197, u 198, u 199, u 200, u 201, u 202, u 203, u 204, u 205, u 206, u 207, u 208, u 209, u 210, u 211, u 212, u 213, u 214, u 215, u 216, u 217, u 218, u 219, u 220, u 221, u 222, u 223, u 224, u 225, u 226, u 227, u 228, u 229, u 230, u 231, u 232, u 233, u 234, u 235, u 236, u 237, u 238, u 239, u 240, u 241, u 242, u 243, u 244, u 245, u 246, u 247, u 248, u 249, u 250, u 251, u 252, u 253, u 254, u 255, u 256, u 257, u 258, u 259, u 260, u 261, u 262, u 263, u 264, u 265, u 266, u 267, u 268, u 269, u 270, u 271, u 272, u 273, u 274, u 275, u 276, u 277, u 278, u 279, u 280, u 281, u 282, u 283, u 284, u 285, u 286, u 287, u 288, u 289, u 290, u 291, u 292, u 293, u 294, u 295, u 296, u 297, u 298, u 299, u 300]
theorem k55 (st sc tv : Value) (X Y A B : Nat) (n ab : Nat) (q0 q1 q2 q3 p0 p1 p2 p3 : Value) (u : Nat → Value) (w : World) (h0 : w.cell? ⟨A, 0, none⟩ = some (.slice (some ⟨ab, 0, none⟩) n n)) (hY : w.heap[Y]? = some (.cells #[q0, q1, q2, q3] 71)) :
    Walk Try.prog true (DR (fun _ => none)) (fun g w' => ∃ fr, g = G (Frame.enter Try.prog 27 #[q0, q1, q2, q3] .normal) [fr] ∧ (∃ d, w' = w.at d) ∧ ∀ (v : Value) (w1 : World), w1.heap[X]? = some (.cells #[p0, p1, p2, p3] 71) →
      Walk Try.prog true (DR (fun _ => none)) (fun g w' => ∃ fr2, g = G (Frame.enter Try.prog 27 #[p0, p1, p2, p3] .normal) [fr2] ∧ (∃ d, w' = w1.at d) ∧ ∀ (cells : Array Value) (w2 : World), cells.size = 4 → cells.all (·.oneCell') = true →
        Walk Try.prog true (DR (fun _ => none)) (fun g w' => (∃ u', g = G ((base 11).at ⟨tm57 st sc X B w2.heap.size u', []⟩ (.code (.region 57 reg11_57 true) :: [.code .ret])) []) ∧ ∃ d, w' = ((w2.alloc zTk).setRow w2.heap.size cells).at d) (G (fr2.finish (.agg cells)) []) w2) (G (fr.finish v) []) w1)
      (G (hk9 st sc tv X Y A B n u) []) w := by
  have c0 : w.cell? ⟨Y, 0, none⟩ = some q0 := (cell_of hY 0).trans rfl
  have c1x : w.cell? ⟨Y, 1, none⟩ = some q1 := (cell_of hY 1).trans rfl
  have c2x : w.cell? ⟨Y, 2, none⟩ = some q2 := (cell_of hY 2).trans rfl
  have c3 : w.cell? ⟨Y, 3, none⟩ = some q3 := (cell_of hY 3).trans rfl
  conv => arg 5; unfold hk9
  repeat (first | refine Walk.cx ?_ | (refine Walk.cReg ?_; simp only [z11]) | (refine Walk.oq ?_; try walk_nrm) | (refine Walk.un ?_; walk_nrm))
  refine Walk.callE (ho_of (by conv => lhs; whnf) (by kernel_rfl)) (by rfl) (by decide) rfl Try.func27 (by kernel_rfl) (by rfl) ?_
  walk_nrm
  refine .stop fun d => ⟨_, rfl, ⟨d, rfl⟩, ?_⟩
  clear c0 c1x c2x c3 hY h0
  intro v w1 hX
  have c0 : w1.cell? ⟨X, 0, none⟩ = some p0 := (cell_of hX 0).trans rfl
  have c1x : w1.cell? ⟨X, 1, none⟩ = some p1 := (cell_of hX 1).trans rfl
  have c2x : w1.cell? ⟨X, 2, none⟩ = some p2 := (cell_of hX 2).trans rfl
  have c3 : w1.cell? ⟨X, 3, none⟩ = some p3 := (cell_of hX 3).trans rfl
  refine Walk.finish (ho_of (by conv => lhs; whnf) (by kernel_rfl)) ?_
  walk_nrm
  repeat (first | refine Walk.cx ?_ | (refine Walk.cReg ?_; simp only [z11]) | (refine Walk.oq ?_; try walk_nrm) | (refine Walk.un ?_; walk_nrm))
  refine Walk.callE (ho_of (by conv => lhs; whnf) (by kernel_rfl)) (by rfl) (by decide) rfl Try.func27 (by kernel_rfl) (by rfl) ?_
  walk_nrm
  refine .stop fun d => ⟨_, rfl, ⟨d, rfl⟩, ?_⟩
  clear c0 c1x c2x c3 hX
  intro cells w2 h4 h41
  refine Walk.finish (ho_of (by conv => lhs; whnf) (by kernel_rfl)) ?_
  walk_nrm
  repeat (first | refine Walk.cx ?_ | (refine Walk.cReg ?_; simp only [z11]) | (refine Walk.oq ?_; try walk_nrm) | (refine Walk.un ?_; walk_nrm))
  (refine Walk.oa ?_; try walk_nrm)
  have ez : w2.alloc (.cells #[.slice none 0 0, .slice none 0 0, .slice none 0 0, .bool false] 63) = w2.alloc zTk := rfl
  try rw [ez]
  clear ez
  have dz := heap_alloc_new w2 zTk
  generalize hB : w2.heap.size = C at *
  generalize w2.alloc zTk = w3 at *
  unfold zTk at dz
  repeat (first | (refine Walk.oq ?_; try walk_nrm) | (refine Walk.un ?_; walk_nrm))
  refine Walk.storeS 63 (.tmp 23) (.tmp 259) (ho_of (by conv => lhs; whnf) (by kernel_rfl)) (by rfl) (by decide) rfl C cells _ 63 rfl rfl dz (by rw [h4]; kernel_rfl) (by rw [h4]; rfl) h41 (ap0 _) ?_
  generalize hw4 : w3.setRow C cells = w4 at *
  clear dz
  walk_nrm
  repeat (first | refine Walk.cx ?_ | (refine Walk.cReg ?_; simp only [z11]) | (refine Walk.oq ?_; try walk_nrm) | (refine Walk.un ?_; walk_nrm))
  refine .stop fun d => ⟨at_slots ?_, d, rfl⟩
  simp only [tm57]
  rfl
end
end Go.Proofs.Ytgfajibjedfkdaa
