/- Part 14. -/
import Derived.Test.YtdcjgmlgmjjogaaJ3
import Derived.Test.YtdcjgmlgmjjogaaJ4
import Derived.Test.YtdcjgmlgmjjogaaJ13
import Derived.Laws.OwnMore
set_option linter.unusedSimpArgs false
set_option linter.unusedVariables false
set_option maxHeartbeats 8000000
set_option maxRecDepth 100000
namespace Go.Relay
section
open Go.Conc Go.RowKit
open Go.ConcN (upd upd_ne upd_same)
section
variable {P : Program} {main : Bool} {V : Nat → Option Wait} {ops : Array Oper} {Z : World → Prop} {w : World} {K : Act → Prop} {i : Nat} {rest : List Nat} {a : Act} {o : Oper}
theorem Cm.opqZ (ho : ops[i]? = some o) (hw : Region.wanted o (yielded ops a.tmps) = true) (he : ∀ w, Z w → ∀ d, ∀ e ∈ (execOp a.eval o).events P (w.at d) #[], EvR V e)
    (h : ∃ a', (∀ w, Z w → ∀ d, ∀ K' : Act → World → Prop, K' a' (w.at d) → uponK o a K' ((execOp a.eval o).run P (w.at d))) ∧ Cm P main V ops Z K rest a') : Cm P main V ops Z K (i :: rest) a := by
  obtain ⟨a', h1, h2⟩ := h
  exact Cm.opq ho hw he h1 h2
theorem pre_skip {q : Nat → Bool} {i : Nat} (h : q i = false) (vals : Nat → Value) (a : Act) : puts ops vals (fun j => decide (j < i + 1) && q j) a = puts ops vals (fun j => decide (j < i) && q j) a :=
  puts_congr (fun j _ => ⟨by
    by_cases e : j = i
    · subst e; simp [h]
    · have : (decide (j < i + 1) : Bool) = decide (j < i) := by by_cases hl : j < i <;> simp [hl] <;> omega
      rw [this], fun _ => rfl⟩) a
theorem pre_take {m : Nat} {q : Nat → Bool} (hc : calmB ops m = true) (hi : i < m) (h : q i = true) (vals : Nat → Value) (ho : ops[i]? = some o) (a : Act) : puts ops vals (fun j => decide (j < i + 1) && q j) a = (puts ops vals (fun j => decide (j < i) && q j) a).put o.dst (vals i) := by
  rw [← puts_upd hc hi vals (f := fun j => decide (j < i) && q j) (by simp) ho a]
  refine puts_congr (fun j _ => ⟨?_, fun _ => rfl⟩) a
  by_cases e : j = i
  · subst e; simp [h, upd_same]
  · rw [upd_ne _ _ e]
    have : (decide (j < i + 1) : Bool) = decide (j < i) := by by_cases hl : j < i <;> simp [hl] <;> omega
    rw [this]
theorem cm_valsQ {m : Nat} {q : Nat → Bool} (hz : Z w) (hc : calmB ops m = true) : ∀ (r i : Nat) (vals : Nat → Value) (a0 : Act), i + r = m → Cm P main V ops Z K ((List.range' i r).filter q) (puts ops vals (fun j => decide (j < i) && q j) a0) →
    ∃ vals', (∀ j, j < i → vals' j = vals j) ∧ (∀ j o, i ≤ j → j < m → q j = true → ops[j]? = some o → CondU P main V ops Z o (puts ops vals' (fun x => decide (x < j) && q x) a0) (vals' j)) ∧ K (puts ops vals' (fun j => decide (j < m) && q j) a0)
  | 0, i, vals, a0, hi, h => by
    have hi : i = m := hi
    refine ⟨vals, fun _ _ => rfl, fun j o hj hjm _ ho => ?_, ?_⟩
    · omega
    · rw [← hi]; exact h
  | r + 1, i, vals, a0, hi, h => by
    rw [List.range'_succ] at h
    cases hq : q i with
    | false =>
      rw [List.filter_cons_of_neg (by simp [hq]), ← pre_skip hq] at h
      obtain ⟨vals', k1, k2, k3⟩ := cm_valsQ hz hc r (i + 1) vals a0 (by omega) h
      refine ⟨vals', fun j hj => k1 j (by omega), fun j o hj hjm hqj ho => ?_, k3⟩
      by_cases e : j = i
      · rw [e, hq] at hqj; cases hqj
      · exact k2 j o (by omega) hjm hqj ho
    | true =>
      rw [List.filter_cons_of_pos hq] at h
      obtain ⟨o, a', ho, hn, hcond⟩ := h
      generalize hX : puts ops vals (fun j => decide (j < i) && q j) a0 = X at *
      obtain ⟨v, hv, hcond⟩ : ∃ v, a' = X.put o.dst v ∧ CondU P main V ops Z o X v := by
        rcases hcond with ⟨h1, h2⟩ | ⟨h1, h2, h3⟩ | ⟨h1, f, fn, args, ats, x, e1, e2, e3, e4, e5, e6⟩
        · exact ⟨undef, h2, .inl ⟨h1, rfl⟩⟩
        · have h0 := h3 w hz 0
          obtain ⟨v, hv⟩ : ∃ v, a' = X.put o.dst v := by
            revert h0
            generalize (execOp _ o).run P (w.at 0) = rr
            intro h0
            unfold uponK at h0
            split at h0
            · exact ⟨_, h0.1.symm⟩
            · exact ⟨_, h0.1.symm⟩
            · exact h0.elim
          exact ⟨v, hv, .inr (.inl ⟨h1, h2, hv ▸ h3⟩)⟩
        · exact ⟨x, e6, .inr (.inr ⟨h1, f, fn, args, ats, e1, e2, e3, e4, e5⟩)⟩
      have hpre : puts ops (upd vals i v) (fun j => decide (j < i) && q j) a0 = X := by
        rw [← hX]
        exact puts_congr (fun j _ => ⟨rfl, fun hd => upd_ne _ _ (by have := of_decide_eq_true (Bool.and_eq_true _ _ ▸ hd : _ ∧ _).1; omega)⟩) a0
      have hs := pre_take hc (by omega) hq (upd vals i v) ho a0
      rw [hpre, upd_same, ← hv] at hs
      rw [← hs] at hn
      obtain ⟨vals', k1, k2, k3⟩ := cm_valsQ hz hc r (i + 1) (upd vals i v) a0 (by omega) hn
      refine ⟨vals', fun j hj => (k1 j (by omega)).trans (upd_ne _ _ (by omega)), fun j o' hj hjm hqj ho' => ?_, k3⟩
      by_cases e : j = i
      · subst e
        rw [ho] at ho'
        cases ho'
        have e1 : puts ops vals' (fun x => decide (x < j) && q x) a0 = X := by
          rw [← hpre]
          exact puts_congr (fun x _ => ⟨rfl, fun hd => k1 x (by have := of_decide_eq_true (Bool.and_eq_true _ _ ▸ hd : _ ∧ _).1; omega)⟩) a0
        have e2 : vals' j = v := (k1 j (by omega)).trans (upd_same _ _ _)
        rw [e1, e2]
        exact hcond
      · exact k2 j o' (by omega) hjm hqj ho'
end
section
variable {P : Program} {main : Bool} {V : Nat → Option Wait} {Stop : Goroutine → World → Prop} {b : Frame} {k : List Item} {cs : List Frame} {ops : Array Oper} {w : World} {a : Act}
theorem Walk.calmOpG {Z : World → Prop} {m i : Nat} (hz : Z w) {o : Oper} {vals : Nat → Value} {f g : Nat → Bool} {rest : List Nat} (hc : calmB ops m = true) (hk : b.kind ≠ .early) (hi : i < m) (ho : ops[i]? = some o) (hd : ∀ e ∈ o.after, Region.binds .any e = true → f e.on = true)
    (hg : ∀ (j : Nat) (p : Oper) (t : Nat), ops[j]? = some p → p.dst = some t → t ∈ o.looksAt ops → j < i → g j = true)
    (hcond : CondU P main V ops Z o (puts ops vals g a) (vals i)) (hr' : Walk P main (DR V) Stop (G (b.at ((puts ops vals f a).put o.dst (vals i)) (.inRegion ops rest :: k)) cs) w) :
    Walk P main (DR V) Stop (G (b.at (puts ops vals f a) (.inRegion ops (i :: rest) :: k)) cs) w := by
  obtain ⟨hsel, ⟨t0, ht0, hself⟩, hdist⟩ := calm_at hc hi ho
  have hlook : ∀ t ∈ o.looksAt ops, (puts ops vals f a).tmps[t]? = (puts ops vals g a).tmps[t]? := fun t ht => slot_congr _ a a rfl fun j hj hjd => by
    have hjl := List.mem_range.1 hj
    have hoj := Array.getElem?_eq_getElem hjl
    have hne : j ≠ i := fun e => by
      subst e
      rw [dst_of ho, ht0] at hjd
      cases hjd
      exact hself ht
    rw [hoj] at hjd
    obtain ⟨h1, h2⟩ := (hdist j _ hoj hne).2 t hjd ht
    exact ⟨(waits_at h2 ho hd).trans (hg j _ t hoj hjd ht h1).symm, rfl⟩
  obtain ⟨s1, s2, s3⟩ := same_look hlook hsel
  have hsz : (puts ops vals f a).tmps.size = (puts ops vals g a).tmps.size := by
    unfold puts
    rw [putsL_size, putsL_size]
  have hput : ∀ v, (puts ops vals g a).put o.dst v = (puts ops vals g a).put o.dst (vals i) → (puts ops vals f a).put o.dst v = (puts ops vals f a).put o.dst (vals i) := fun v e => by
    refine act_ext (fun t => ?_) (by rw [put_defers, put_defers])
    rw [put_slot, put_slot]
    split
    · next e' =>
      have h1 : ((puts ops vals g a).put o.dst v).tmps[t]? = ((puts ops vals g a).put o.dst (vals i)).tmps[t]? := by rw [e]
      rw [put_slot, put_slot, if_pos e', if_pos e'] at h1
      by_cases hl : t < (puts ops vals f a).tmps.size
      · rw [Array.getElem?_eq_getElem (hsz ▸ hl)] at h1
        simp only [Option.map_some] at h1
        rw [Array.getElem?_eq_getElem hl]
        exact h1
      · rw [Array.getElem?_eq_none (by omega)]; rfl
    · rfl
  rcases hcond with ⟨c1, c2⟩ | ⟨c1, c2, c3⟩ | ⟨c1, f', fn, args, ats, e1, e2, e3, e4, e5⟩
  · rw [← s2] at c1
    rw [c2] at hr'
    exact Walk.ctl rfl (fun w => stepG_unwanted ho c1) hr'
  · rw [← s2] at c1
    rw [← s1] at c2 c3
    refine Walk.opq ho c1 hk (c2 w hz) fun d' K hK => ?_
    have h3 := c3 w hz d'
    revert h3
    generalize (execOp (puts ops vals f a).eval o).run P (w.at d') = rr
    intro h3
    unfold uponK at h3 ⊢
    split at h3
    · obtain ⟨x1, rfl⟩ := h3
      refine hK _ ?_
      rw [hput _ x1]; exact hr'
    · obtain ⟨x1, rfl⟩ := h3
      refine hK _ ?_
      rw [hput _ x1]; exact hr'
    · exact h3.elim
  · rw [← s2] at c1
    have hargs : args.map (puts ops vals f a).eval = args.map (puts ops vals g a).eval := Array.map_congr_left fun x hx => s3 x (by rw [e1]; simp [Op.operands, Call.operands, hx])
    rw [← hargs] at e5
    exact Walk.callV (e5 w hz) ho c1 hk e1 e2 e3 e4 hr'
def apartB (ops : Array Oper) (iA iB m : Nat) : Bool := decide (iA < iB) && decide (iB < m) && waitsB ops iB iA && (List.range m).all fun i => decide (i = iA) || decide (i = iB) || (ops[i]?).any fun o =>
  !(o.looksAt ops).any (fun t => (ops[iA]?).bind (·.dst) == some t) && !(o.looksAt ops).any (fun t => (ops[iB]?).bind (·.dst) == some t)
def quietQ (iA iB : Nat) (j : Nat) : Bool := !decide (j = iA) && !decide (j = iB)
theorem look_full {m i : Nat} {o : Oper} {vals vals' : Nat → Value} {f g : Nat → Bool} (hc : calmB ops m = true) (hi : i < m) (ho : ops[i]? = some o) (hd : ∀ e ∈ o.after, Region.binds .any e = true → f e.on = true) (hg : ∀ j, j < i → g j = true ∧ vals j = vals' j) (a : Act) :
    ∀ y ∈ o.op.operands, (puts ops vals f a).eval y = (puts ops vals' g a).eval y := by
  obtain ⟨hsel, ⟨t0, ht0, hself⟩, hdist⟩ := calm_at hc hi ho
  have hlook : ∀ t ∈ o.looksAt ops, (puts ops vals f a).tmps[t]? = (puts ops vals' g a).tmps[t]? := fun t ht => slot_congr _ a a rfl fun j hj hjd => by
    have hjl := List.mem_range.1 hj
    have hoj := Array.getElem?_eq_getElem hjl
    have hne : j ≠ i := fun e => by
      subst e
      rw [dst_of ho, ht0] at hjd
      cases hjd
      exact hself ht
    rw [hoj] at hjd
    obtain ⟨h1, h2⟩ := (hdist j _ hoj hne).2 t hjd ht
    obtain ⟨g1, g2⟩ := hg j h1
    exact ⟨(waits_at h2 ho hd).trans g1.symm, g2⟩
  exact (same_look hlook hsel).2.2
theorem Walk.drawnT {id m iA iB : Nat} {Z : World → Prop} {w1 : World} {oA oB : Oper} {vA : Value} (PB : Value → World → Prop) (hm : P.follows .mixedOrders = true) (hsz : ops.size = m + 1) (hlow : lowB ops = true) (hc : calmB ops m = true) (hl : lastB ops m = true) (hap : apartB ops iA iB m = true) (hk : b.kind ≠ .early)
    (hoA : ops[iA]? = some oA) (hoB : ops[iB]? = some oB) (hz : Z w) (hz1 : Z w1) (hz2 : ∀ v w', PB v w' → Z w')
    (h : Cm P main V ops Z (fun aF => (∀ x, (∀ y ∈ oA.op.operands, x.eval y = aF.eval y) → OpW P main V Stop b k cs ops iA (fun x' w' => x' = x.put oA.dst vA ∧ ∃ d, w' = w1.at d) x w) ∧
      (∀ x, (∀ y ∈ oB.op.operands, x.eval y = (aF.put oA.dst vA).eval y) → OpW P main V Stop b k cs ops iB (fun x' w' => ∃ v w2, PB v w2 ∧ x' = x.put oB.dst v ∧ ∃ d, w' = w2.at d) x w1) ∧
      ∀ v w2, PB v w2 → OpW P main V Stop b k cs ops m (fun a' w' => Walk P main (DR V) Stop (G (b.at a' (.inRegion ops [] :: k)) cs) w') ((aF.put oA.dst vA).put oB.dst v) w2) ((List.range m).filter (quietQ iA iB)) a) :
    Walk P main (DR V) Stop (G (b.at a (.code (.region id ops true) :: k)) cs) w := by
  unfold apartB at hap
  simp only [Bool.and_eq_true, decide_eq_true_eq] at hap
  obtain ⟨⟨⟨hAB, hBm⟩, hBA⟩, hq⟩ := hap
  rw [List.range_eq_range'] at h
  have hzero : puts ops (fun _ => undef) (fun j => decide (j < 0) && quietQ iA iB j) a = a := putsL_none _ a fun j _ => by simp
  rw [← hzero] at h
  obtain ⟨vals, _, hcond, hA, hB, hC⟩ := cm_valsQ (q := quietQ iA iB) hz hc m 0 (fun _ => undef) a (by omega) h
  clear h hzero
  generalize hvA : upd vals iA vA = va
  have hva : ∀ j, j ≠ iA → va j = vals j := fun j hj => by rw [← hvA]; exact upd_ne _ _ hj
  have hvaA : va iA = vA := by rw [← hvA]; exact upd_same _ _ _
  have qA : ∀ j, quietQ iA iB j = true ↔ j ≠ iA ∧ j ≠ iB := fun j => by simp [quietQ]
  have quiet : ∀ (vs : Nat → Value) (f : Nat → Bool) (i : Nat) (o : Oper) (rest : List Nat) (ww : World), (∀ j, j ≠ iA → j ≠ iB → vs j = vals j) → Z ww → i < m → i ≠ iA → i ≠ iB → f i = false → ops[i]? = some o → (∀ e ∈ o.after, Region.binds .any e = true → f e.on = true) →
      Walk P main (DR V) Stop (G (b.at (puts ops vs (upd f i true) a) (.inRegion ops rest :: k)) cs) ww → Walk P main (DR V) Stop (G (b.at (puts ops vs f a) (.inRegion ops (i :: rest) :: k)) cs) ww := by
    intro vs f i o rest ww hvs hzw him h1 h2 hf ho hd hr
    rw [puts_upd hc him vs hf ho a] at hr
    have hcd := hcond i o (Nat.zero_le _) him ((qA i).2 ⟨h1, h2⟩) ho
    have e : puts ops vals (fun x => decide (x < i) && quietQ iA iB x) a = puts ops vs (fun x => decide (x < i) && quietQ iA iB x) a := puts_congr (fun j _ => ⟨rfl, fun hd => by
      have := (qA j).1 (Bool.and_eq_true _ _ ▸ hd : _ ∧ _).2
      exact (hvs j this.1 this.2).symm⟩) a
    rw [e, ← hvs i h1 h2] at hcd
    refine Walk.calmOpG hzw hc hk him ho hd (fun j p t hj ht hm hji => ?_) hcd hr
    have hh := List.all_eq_true.1 hq i (List.mem_range.2 him)
    rw [ho] at hh
    simp only [decide_eq_false h1, decide_eq_false h2, Bool.false_or, Option.any_some, Bool.and_eq_true, Bool.not_eq_true'] at hh
    have hjA : j ≠ iA := fun e' => by
      subst e'
      rw [hj] at hh
      have : (o.looksAt ops).any (fun t => (some p).bind (·.dst) == some t) = true := List.any_eq_true.2 ⟨t, hm, by simp [ht]⟩
      rw [this] at hh
      exact absurd hh.1 (by simp)
    have hjB : j ≠ iB := fun e' => by
      subst e'
      rw [hj] at hh
      have : (o.looksAt ops).any (fun t => (some p).bind (·.dst) == some t) = true := List.any_eq_true.2 ⟨t, hm, by simp [ht]⟩
      rw [this] at hh
      exact absurd hh.2 (by simp)
    simp [hji, (qA j).2 ⟨hjA, hjB⟩]
  have eA : puts ops va (upd (fun j => decide (j < m) && quietQ iA iB j) iA true) a = (puts ops vals (fun j => decide (j < m) && quietQ iA iB j) a).put oA.dst vA := by
    rw [puts_upd hc (by omega) va (by simp [quietQ]) hoA a, hvaA]
    congr 1
    exact puts_congr (fun j _ => ⟨rfl, fun hd => hva j ((qA j).1 (Bool.and_eq_true _ _ ▸ hd : _ ∧ _).2).1⟩) a
  refine Walk.drawnJ (Inv := fun f x w' => (f m = true ∧ (∀ j, j < m → f j = true) ∧ Walk P main (DR V) Stop (G (b.at x (.inRegion ops [] :: k)) cs) w') ∨ (f m = false ∧ f iB = false ∧ x = puts ops va f a ∧ ∃ d, w' = (if f iA then w1 else w).at d) ∨
    (f m = false ∧ f iB = true ∧ f iA = true ∧ ∃ v w2, PB v w2 ∧ x = puts ops (upd va iB v) f a ∧ ∃ d, w' = w2.at d)) hm hlow (fun d => .inr (.inl ⟨rfl, rfl, (puts_zero va a).symm, d, rfl⟩)) ?_ ?_
  · rintro f i o x w' hI hC' hf ho hd rest hr
    have hi : i < m + 1 := by have := (Array.getElem?_eq_some_iff.1 ho).1; omega
    rcases hI with ⟨h1, h2, _⟩ | ⟨h1, h2, rfl, d, rfl⟩ | ⟨h1, h2, h3, v, w2, hPB, rfl, d, rfl⟩
    · exfalso
      by_cases e : i = m
      · rw [e, h1] at hf; cases hf
      · rw [h2 i (by omega)] at hf; cases hf
    · refine Walk.back ?_ d
      by_cases e : i = m
      · subst e
        have := last_all hl hC' ho hd (i - iB) iB (by omega) (by omega)
        rw [h2] at this; cases this
      by_cases eiA : i = iA
      · subst eiA
        rw [hoA] at ho
        cases ho
        rw [hf, if_neg (by simp)]
        refine hA _ (look_full hc (by omega) hoA hd (fun j hj => ⟨by simp [quietQ]; omega, hva j (by omega)⟩) a) rest ?_
        rintro x' w' ⟨rfl, d', rfl⟩
        refine hr _ _ (.inr (.inl ⟨by rw [upd_ne _ _ (by omega)]; exact h1, by rw [upd_ne _ _ (by omega)]; exact h2, ?_, d', by rw [upd_same]; rfl⟩))
        rw [puts_upd hc (by omega) va hf hoA a, hvaA]
      by_cases eiB : i = iB
      · subst eiB
        rw [hoB] at ho
        cases ho
        have hfA : f iA = true := waits_at hBA hoB hd
        rw [hfA, if_pos rfl]
        refine hB _ ?_ rest ?_
        · rw [← eA]
          exact look_full hc hBm hoB hd (fun j hj => ⟨by
            by_cases ej : j = iA
            · rw [ej, upd_same]
            · rw [upd_ne _ _ ej]
              simp [quietQ, ej]; omega, rfl⟩) a
        · rintro x' w' ⟨v, w2, hPB, rfl, d', rfl⟩
          refine hr _ _ (.inr (.inr ⟨by rw [upd_ne _ _ (by omega)]; exact h1, upd_same _ _ _, by rw [upd_ne _ _ (by omega)]; exact hfA, v, w2, hPB, ?_, d', rfl⟩))
          rw [puts_upd hc hBm (upd va i v) hf hoB a, upd_same]
          congr 1
          exact puts_congr (fun j _ => ⟨rfl, fun hj => (upd_ne _ _ (fun e' => by rw [e', hf] at hj; cases hj)).symm⟩) a
      · refine quiet va f i o rest _ (fun j h _ => hva j h) ?_ (by omega) eiA eiB hf ho hd ?_
        · split
          · exact hz1
          · exact hz
        · refine (hr _ (((if f iA then w1 else w)).at ((if f iA then w1 else w)).drawn) (.inr (.inl ⟨by rw [upd_ne _ _ (by omega)]; exact h1, by rw [upd_ne _ _ (Ne.symm eiB)]; exact h2, rfl, _, by rw [upd_ne _ _ (Ne.symm eiA)]⟩)))
    · refine Walk.back ?_ d
      by_cases e : i = m
      · subst e
        have hall := last_all hl hC' ho hd
        have ef : puts ops (upd va iB v) f a = ((puts ops vals (fun j => decide (j < i) && quietQ iA iB j) a).put oA.dst vA).put oB.dst v := by
          have e1 : puts ops va (upd (fun j => decide (j < i) && quietQ iA iB j) iA true) a = puts ops (upd va iB v) (upd (fun j => decide (j < i) && quietQ iA iB j) iA true) a := puts_congr (fun j _ => ⟨rfl, fun hj => (upd_ne _ _ (fun e' => by
            rw [e', upd_ne _ _ (by omega)] at hj
            simp [quietQ] at hj)).symm⟩) a
          have e2 := puts_upd hc hBm (upd va iB v) (f := upd (fun j => decide (j < i) && quietQ iA iB j) iA true) (by rw [upd_ne _ _ (by omega)]; simp [quietQ]) hoB a
          rw [upd_same, ← e1, eA] at e2
          rw [← e2]
          refine puts_congr (fun j hj => ⟨?_, fun _ => rfl⟩) a
          by_cases ej : j = iB
          · rw [ej, upd_same, h2]
          · rw [upd_ne _ _ ej]
            by_cases ej2 : j = iA
            · rw [ej2, upd_same, h3]
            · rw [upd_ne _ _ ej2]
              by_cases hji : j < i
              · rw [hall (i - j) j (by omega) (by omega)]
                simp [hji, quietQ, ej, ej2]
              · have : j = i := by omega
                rw [this, hf]; simp
        rw [ef]
        refine hC v w2 hPB rest fun a' w' hw' => hr a' w' (.inl ⟨upd_same _ _ _, fun j hj => ?_, hw'⟩)
        rw [upd_ne _ _ (by omega)]
        exact hall (i - j) j (by omega) (by omega)
      · have n1 : i ≠ iA := fun e' => by rw [e', h3] at hf; cases hf
        have n2 : i ≠ iB := fun e' => by rw [e', h2] at hf; cases hf
        refine quiet (upd va iB v) f i o rest _ (fun j h h' => (upd_ne _ _ h').trans (hva j h)) (hz2 v w2 hPB) (by omega) n1 n2 hf ho hd ?_
        exact hr _ (w2.at w2.drawn) (.inr (.inr ⟨by rw [upd_ne _ _ (by omega)]; exact h1, by rw [upd_ne _ _ (Ne.symm n2)]; exact h2, by rw [upd_ne _ _ (Ne.symm n1)]; exact h3, v, w2, hPB, rfl, _, rfl⟩))
  · rintro f x w' hI hall
    rcases hI with ⟨_, _, h3⟩ | ⟨h1, _⟩ | ⟨h1, _⟩
    · exact h3
    · rw [hall m (by omega)] at h1; cases h1
    · rw [hall m (by omega)] at h1; cases h1
end
end
section
open Go.Conc Go.RowKit
section
variable {P : Program} {main : Bool} {V : Nat → Option Wait} {Stop : Goroutine → World → Prop} {w : World} {b : Frame} {a : Act} {k : List Item} {cs : List Frame} {ops : Array Oper} {i : Nat} {rest : List Nat} {o : Oper}
theorem Walk.appendAny (s x : Operand) (t : TypeId) (ho : ops[i]? = some o) (hw : Region.wanted o (yielded ops a.tmps) = true) (hk : b.kind ≠ .early) (hop : o.op = .call { callee := .builtin .append, args := #[s, x], argTypes := #[t, t] })
    (base : Nat) (e : TypeId) (ti : TypeInfo) (z : Value) (size bytes : Nat) (ht : P.underlying t = some (.slice e)) (hi : P.info? e = some ti) (hz : ti.zero = some z) (hsize : ti.size = size) (hby : ti.bytes = bytes) (hzs : z.cells.size = size) (hsz : 0 < size)
    (v : Value) (n : Nat) (xs : List Value) (hs : a.eval s = v) (hown : w.ownsRow base e size v n xs)
    (ad : Addr) (m c : Nat) (news : List Value) (hx : a.eval x = .slice (some ad) m c) (hl : news.length = m * size) (hnews : ∀ j u, news[j]? = some u → w.cell? (ad.add j) = some u) (h1 : ∀ u ∈ news, u.oneCell' = true)
    (h63 : n + m ≤ maxLen) (hbytes : (n + m) * bytes ≤ 140737488355328) (hbase : base ≤ w.heap.size) (hap : ∀ g, v.ownBlock = some g → Apart V g)
    (h : ∀ v' w', w'.ownsRow base e size v' (n + m) (xs ++ news) → w.grownBy w' v.ownBlock → (v'.ownBlock = v.ownBlock ∨ v'.ownBlock = some w.heap.size) → Walk P main (DR V) Stop (G (b.at (a.put o.dst v') (.inRegion ops rest :: k)) cs) w') :
    Walk P main (DR V) Stop (G (b.at a (.inRegion ops (i :: rest) :: k)) cs) w := by
  refine Walk.go rfl fun d => goes_oper_k ho hw hk fun K hK => ?_
  obtain ⟨v', w', hr, hown', hg, _, hat⟩ := run_append_own_at (P := P) (w.at d) base t o.type e ti z size bytes ht hi hz hsize hby hzs hsz v n xs hown ad m c news hl hnews h1 h63 hbytes hbase
  refine uponK_append s x t hop hs hx hr (hK _ _ ⟨DR.grown hg hap fun ev hev => ?_, h v' w' hown' ⟨hg.os, hg.tape, hg.output, hg.size, hg.block⟩ hat⟩)
  have hm' := mem_listed hev
  rw [events_append_op s x t hop hs hx] at hm'
  rcases events_append_own (w.at d) base t o.type e ti z size bytes ht hi hz hsize hby v n xs hown ad m c news hl hnews h1 h63 hbytes ev hm' with h' | ⟨ad', h', hb⟩ | ⟨mk, h', hn⟩
  · exact evR_isRead h'
  · exact evR_cell h' ((hap _ hb.symm).1 ad' rfl)
  · rw [h', show mk = .noRoom from hn]; exact evR_noRoom
theorem events_append_owned_none (w : World) (base : Nat) (t ty e : TypeId) (ti : TypeInfo) (size : Nat) (ht : P.underlying t = some (.slice e)) (hi : P.info? e = some ti) (v : Value) (n : Nat) (xs : List Value) (hown : w.ownsRow base e size v n xs) (es : Array Event) :
    (Builtin.append_ #[t, t] ty #[v, .slice none 0 0]).events P w es = es := by
  rcases hown.2 with ⟨rfl, rfl⟩ | ⟨g, cap, cur, rfl, _, _, hnc, _⟩
  · simp [Builtin.append_, run_underlying ht, sizeOf, typeInfo, hi, Builtin.lenOf, Builtin.firstCells]
  · simp [Builtin.append_, run_underlying ht, sizeOf, typeInfo, hi, Builtin.lenOf, Builtin.firstCells, hnc, storeCells]
theorem Walk.appendNone (s x : Operand) (t : TypeId) (ho : ops[i]? = some o) (hw : Region.wanted o (yielded ops a.tmps) = true) (hk : b.kind ≠ .early) (hop : o.op = .call { callee := .builtin .append, args := #[s, x], argTypes := #[t, t] })
    (base : Nat) (e : TypeId) (ti : TypeInfo) (size : Nat) (ht : P.underlying t = some (.slice e)) (hi : P.info? e = some ti)
    (v : Value) (n : Nat) (xs : List Value) (hs : a.eval s = v) (hown : w.ownsRow base e size v n xs) (hx : a.eval x = .slice none 0 0)
    (h : Walk P main (DR V) Stop (G (b.at (a.put o.dst v) (.inRegion ops rest :: k)) cs) w) :
    Walk P main (DR V) Stop (G (b.at a (.inRegion ops (i :: rest) :: k)) cs) w := by
  refine Walk.go rfl fun d => goes_oper_k ho hw hk fun K hK => ?_
  have hr := run_append_owned_none (P := P) (w := w.at d) base t o.type e ti size ht hi v n xs hown
  refine uponK_append s x t hop hs hx hr (hK _ _ ⟨⟨fun i v e hK => hK, fun i v o e ho _ => ho, fun ev hev => ?_, OsSame.refl _⟩, h.back d⟩)
  have hm' := mem_listed hev
  rw [events_append_op s x t hop hs hx, events_append_owned_none (w.at d) base t o.type e ti size ht hi v n xs hown] at hm'
  simp at hm'
theorem Walk.appendSl (s x : Operand) (t : TypeId) (ho : ops[i]? = some o) (hw : Region.wanted o (yielded ops a.tmps) = true) (hk : b.kind ≠ .early) (hop : o.op = .call { callee := .builtin .append, args := #[s, x], argTypes := #[t, t] })
    (base : Nat) (e : TypeId) (ti : TypeInfo) (z : Value) (size bytes : Nat) (ht : P.underlying t = some (.slice e)) (hi : P.info? e = some ti) (hz : ti.zero = some z) (hsize : ti.size = size) (hby : ti.bytes = bytes) (hzs : z.cells.size = size) (hsz : 0 < size)
    (v : Value) (n : Nat) (xs : List Value) (hs : a.eval s = v) (hown : w.ownsRow base e size v n xs)
    (xa : Option Addr) (m c : Nat) (news : List Value) (hx : a.eval x = .slice xa m c) (hnil : xa = none → m = 0 ∧ c = 0) (hl : news.length = m * size) (hnews : ∀ ad, xa = some ad → ∀ j u, news[j]? = some u → w.cell? (ad.add j) = some u) (h1 : ∀ u ∈ news, u.oneCell' = true)
    (h63 : n + m ≤ maxLen) (hbytes : (n + m) * bytes ≤ 140737488355328) (hbase : base ≤ w.heap.size) (hap : ∀ g, v.ownBlock = some g → Apart V g)
    (h : ∀ v' w', w'.ownsRow base e size v' (n + m) (xs ++ news) → w.grownBy w' v.ownBlock → (v'.ownBlock = v.ownBlock ∨ v'.ownBlock = some w.heap.size) → Walk P main (DR V) Stop (G (b.at (a.put o.dst v') (.inRegion ops rest :: k)) cs) w') :
    Walk P main (DR V) Stop (G (b.at a (.inRegion ops (i :: rest) :: k)) cs) w := by
  cases xa with
  | none =>
    obtain ⟨rfl, rfl⟩ := hnil rfl
    have hn : news = [] := List.eq_nil_of_length_eq_zero (by simpa using hl)
    subst hn
    refine Walk.appendNone s x t ho hw hk hop base e ti size ht hi v n xs hs hown hx (h v w ?_ ⟨rfl, rfl, rfl, Nat.le_refl _, fun _ _ _ => rfl⟩ (.inl rfl))
    rw [Nat.add_zero, List.append_nil]; exact hown
  | some ad => exact Walk.appendAny s x t ho hw hk hop base e ti z size bytes ht hi hz hsize hby hzs hsz v n xs hs hown ad m c news hx hl (hnews ad rfl) h1 h63 hbytes hbase hap h
theorem row_shape {w : World} {base : Nat} {e : TypeId} {size : Nat} {v : Value} {n : Nat} {xs : List Value} (h : w.ownsRow base e size v n xs) : ∃ a cap, v = .slice a n cap := by
  rcases h.2 with ⟨rfl, rfl⟩ | ⟨g, cap, cur, rfl, _⟩
  · exact ⟨none, 0, rfl⟩
  · exact ⟨_, _, rfl⟩
end
end
end Go.Relay
namespace Go.Proofs.Ytdcjgmlgmjjogaa
open Go.Conc Go.RowKit Go.Relay
open Go.ConcN (upd upd_ne upd_same)
section
theorem ap0 (b : Nat) : Apart (fun _ => none) b := ⟨fun _ _ _ _ h => (by cases h), fun _ _ h => (by cases h)⟩
theorem fr0 (b i : Nat) : Free (fun _ => none) ⟨b, i, none⟩ := (ap0 b).1 _ rfl
structure Chg (S : Nat → Prop) (w w' : World) : Prop where
  size : w.heap.size ≤ w'.heap.size
  same : ∀ b, b < w.heap.size → ¬ S b → w'.heap[b]? = w.heap[b]?
section
variable {S S' : Nat → Prop} {w w' w1 w2 : World}
theorem Chg.refl : Chg S w w := ⟨Nat.le_refl _, fun _ _ _ => rfl⟩
theorem Chg.at (h : Chg S w w') (d : Nat) : Chg S w (w'.at d) := ⟨h.size, h.same⟩
theorem Chg.mono (h : Chg S w w') (hS : ∀ b, b < w.heap.size → S b → S' b) : Chg S' w w' := ⟨h.size, fun b hb hn => h.same b hb fun e => hn (hS b hb e)⟩
theorem Chg.trans (h1 : Chg S w w1) (h2 : Chg S' w1 w2) (hS : ∀ b, b < w.heap.size → S' b → S b) : Chg S w w2 :=
  ⟨Nat.le_trans h1.size h2.size, fun b hb hn => (h2.same b (Nat.lt_of_lt_of_le hb h1.size) fun e => hn (hS b hb e)).trans (h1.same b hb hn)⟩
theorem Chg.set {b i : Nat} {v : Value} (hb : S b) : Chg S w (w.setCell ⟨b, i, none⟩ v) := ⟨Nat.le_of_eq (size_set ..).symm, fun c _ hn => heap_set_other _ _ _ _ (fun e => hn (by rw [e]; exact hb))⟩
theorem Chg.alloc {o : Obj} : Chg S w (w.alloc o) := ⟨by simp, fun b hb _ => heap_new_lt _ _ hb⟩
end
theorem row_at {w : World} {base : Nat} {e : TypeId} {size m tc n : Nat} {ta : Option Addr} {xs : List Value} (h : w.ownsRow base e size (.slice ta m tc) n xs) {j : Nat} {x : Value} (hx : xs[j]? = some x) : ∃ g, ta = some ⟨g, 0, none⟩ ∧ base ≤ g ∧ g < w.heap.size ∧ w.cell? ⟨g, j, none⟩ = some x := by
  obtain ⟨hl, h⟩ := h
  have hj := (List.getElem?_eq_some_iff.1 hx).1
  rcases h with ⟨_, rfl⟩ | ⟨g, cap, cur, e, h1, h2, h3, _, h5, h6⟩
  · omega
  · injection e with e1 e2 e3
    refine ⟨g, e1, h1, (Array.getElem?_eq_some_iff.1 h2).1, (cell_of h2 j).trans ?_⟩
    rw [← h6, List.getElem?_take, if_pos (by omega)] at hx
    simpa using hx
def thA (o : Value) (I PC : Int) (N : Nat → Int) (l a : Value) (e : Bool) : Array Value := #[o, .int .i64 I, .int .i64 PC, .int .i64 (N 0), .int .i64 (N 1), .int .i64 (N 2), .int .i64 (N 3), .int .i64 (N 4), .int .i64 (N 5), .int .i64 (N 6), .int .i64 (N 7), l, a, .bool e]
section
variable {o l a : Value} {I PC : Int} {N : Nat → Int} {e : Bool}
theorem thA_I (x : Int) : (thA o I PC N l a e).setIfInBounds 1 (.int .i64 x) = thA o x PC N l a e := by simp [thA]
theorem thA_PC (x : Int) : (thA o I PC N l a e).setIfInBounds 2 (.int .i64 x) = thA o I x N l a e := by simp [thA]
theorem thA_0 (x : Int) : (thA o I PC N l a e).setIfInBounds 3 (.int .i64 x) = thA o I PC (upd N 0 x) l a e := by simp [thA, upd]
theorem thA_1 (x : Int) : (thA o I PC N l a e).setIfInBounds 4 (.int .i64 x) = thA o I PC (upd N 1 x) l a e := by simp [thA, upd]
theorem thA_L (x : Value) : (thA o I PC N l a e).setIfInBounds 11 x = thA o I PC N x a e := by simp [thA]
theorem thA_A (x : Value) : (thA o I PC N l a e).setIfInBounds 12 x = thA o I PC N l x e := by simp [thA]
theorem thA_E (x : Bool) : (thA o I PC N l a e).setIfInBounds 13 (.bool x) = thA o I PC N l a x := by simp [thA]
theorem thA_O (x : Value) : (thA o I PC N l a e).setIfInBounds 0 x = thA x I PC N l a e := by simp [thA]
end
section
variable {o l a : Value} {I PC : Int} {N : Nat → Int} {e : Bool} {w : World} {b : Nat} {ty : TypeId}
theorem tcO (h : w.heap[b]? = some (.cells (thA o I PC N l a e) ty)) : w.cell? ⟨b, 0, none⟩ = some (o) := (cell_of h 0).trans rfl
theorem tcI (h : w.heap[b]? = some (.cells (thA o I PC N l a e) ty)) : w.cell? ⟨b, 1, none⟩ = some (.int .i64 I) := (cell_of h 1).trans rfl
theorem tcP (h : w.heap[b]? = some (.cells (thA o I PC N l a e) ty)) : w.cell? ⟨b, 2, none⟩ = some (.int .i64 PC) := (cell_of h 2).trans rfl
theorem tc0 (h : w.heap[b]? = some (.cells (thA o I PC N l a e) ty)) : w.cell? ⟨b, 3, none⟩ = some (.int .i64 (N 0)) := (cell_of h 3).trans rfl
theorem tc1 (h : w.heap[b]? = some (.cells (thA o I PC N l a e) ty)) : w.cell? ⟨b, 4, none⟩ = some (.int .i64 (N 1)) := (cell_of h 4).trans rfl
theorem tcL (h : w.heap[b]? = some (.cells (thA o I PC N l a e) ty)) : w.cell? ⟨b, 11, none⟩ = some (l) := (cell_of h 11).trans rfl
theorem tcA (h : w.heap[b]? = some (.cells (thA o I PC N l a e) ty)) : w.cell? ⟨b, 12, none⟩ = some (a) := (cell_of h 12).trans rfl
theorem tcE (h : w.heap[b]? = some (.cells (thA o I PC N l a e) ty)) : w.cell? ⟨b, 13, none⟩ = some (.bool e) := (cell_of h 13).trans rfl
end
def opRow (l : List OpV) : List Value := l.flatMap fun o => [.int .i64 o.k, .int .i64 o.a, .int .i64 o.b, .int .i64 o.c]
theorem opRow_snoc (l : List OpV) (o : OpV) : opRow (l ++ [o]) = opRow l ++ [.int .i64 o.k, .int .i64 o.a, .int .i64 o.b, .int .i64 o.c] := by simp [opRow]
theorem opRow_get : ∀ (l : List OpV) (k j : Nat) (o : OpV) (v : Value), l[k]? = some o → ([.int .i64 o.k, .int .i64 o.a, .int .i64 o.b, .int .i64 o.c] : List Value)[j]? = some v → (opRow l)[k * 4 + j]? = some v
  | o' :: l, 0, j, o, v, hk, hv => by
    simp only [List.getElem?_cons_zero, Option.some.injEq] at hk
    subst hk
    have hj := (List.getElem?_eq_some_iff.1 hv).1
    have : opRow (o' :: l) = [.int .i64 o'.k, .int .i64 o'.a, .int .i64 o'.b, .int .i64 o'.c] ++ opRow l := by simp [opRow]
    rw [this, Nat.zero_mul, Nat.zero_add, List.getElem?_append_left hj]
    exact hv
  | o' :: l, k + 1, j, o, v, hk, hv => by
    have : opRow (o' :: l) = [.int .i64 o'.k, .int .i64 o'.a, .int .i64 o'.b, .int .i64 o'.c] ++ opRow l := by simp [opRow]
    rw [this, List.getElem?_append_right (by simp; omega)]
    have h := opRow_get l k j o v (by simpa using hk) hv
    rw [← h]
    congr 1
    simp
    omega
structure ThX (S : Nat → Prop) (b : Nat) (ops : List OpV) (oa : Option Addr) (oc : Nat) (I PC : Int) (N : Nat → Int) (ans : List Ans) (aa : Option Addr) (ac : Nat) (e : Bool) (w : World) : Prop where
  blk : w.heap[b]? = some (.cells (thA (.slice oa ops.length oc) I PC N (.slice none 0 0) (.slice aa ans.length ac) e) 158)
  rO : w.ownsRow 0 34 4 (.slice oa ops.length oc) ops.length (opRow ops)
  rA : w.ownsRow 0 51 3 (.slice aa ans.length ac) ans.length (ansRow ans)
  sb : S b
  so : ∀ g, (Value.slice oa ops.length oc).ownBlock = some g → S g ∧ g ≠ b
  sa : ∀ g, (Value.slice aa ans.length ac).ownBlock = some g → S g ∧ g ≠ b ∧ (Value.slice oa ops.length oc).ownBlock ≠ some g
section
variable {S S' : Nat → Prop} {b : Nat} {ops : List OpV} {oa : Option Addr} {oc : Nat} {I PC : Int} {N : Nat → Int} {ans : List Ans} {aa : Option Addr} {ac : Nat} {e : Bool} {w w' : World}
theorem ThX.lt (X : ThX S b ops oa oc I PC N ans aa ac e w) : b < w.heap.size := (Array.getElem?_eq_some_iff.1 X.blk).1
theorem ThX.same (X : ThX S b ops oa oc I PC N ans aa ac e w) (h : ∀ g, g < w.heap.size → S g → w'.heap[g]? = w.heap[g]?) : ThX S b ops oa oc I PC N ans aa ac e w' :=
  ⟨(h b X.lt X.sb).trans X.blk, row_same X.rO fun g hg => h g (X.rO.lt g hg).2 (X.so g hg).1, row_same X.rA fun g hg => h g (X.rA.lt g hg).2 (X.sa g hg).1, X.sb, X.so, X.sa⟩
theorem ThX.at (X : ThX S b ops oa oc I PC N ans aa ac e w) (d : Nat) : ThX S b ops oa oc I PC N ans aa ac e (w.at d) := X.same fun _ _ _ => rfl
theorem ThX.mono (X : ThX S b ops oa oc I PC N ans aa ac e w) (h : ∀ g, S g → S' g) : ThX S' b ops oa oc I PC N ans aa ac e w := ⟨X.blk, X.rO, X.rA, h _ X.sb, fun g hg => ⟨h _ (X.so g hg).1, (X.so g hg).2⟩, fun g hg => ⟨h _ (X.sa g hg).1, (X.sa g hg).2⟩⟩
theorem ThX.put {I' PC' : Int} {N' : Nat → Int} {e' : Bool} (X : ThX S b ops oa oc I PC N ans aa ac e w) (hb : w'.heap[b]? = some (.cells (thA (.slice oa ops.length oc) I' PC' N' (.slice none 0 0) (.slice aa ans.length ac) e') 158)) (h : ∀ g, g ≠ b → g < w.heap.size → S g → w'.heap[g]? = w.heap[g]?) : ThX S b ops oa oc I' PC' N' ans aa ac e' w' :=
  ⟨hb, row_same X.rO fun g hg => h g (X.so g hg).2 (X.rO.lt g hg).2 (X.so g hg).1, row_same X.rA fun g hg => h g (X.sa g hg).2.1 (X.rA.lt g hg).2 (X.sa g hg).1, X.sb, X.so, X.sa⟩
end
noncomputable def reg60_0 := rg Try.f60.body [0]
noncomputable def reg60_1 := rg Try.f60.body [1, 0]
theorem size60_1 : reg60_1.size = 11 := by kernel_rfl
theorem z60 : List.range reg60_0.size = [0] ∧ List.range reg60_1.size = [0, 1, 2, 3, 4, 5, 6, 7, 8, 9, 10] := by refine ⟨?_, ?_⟩ <;> kernel_rfl
theorem code60_is : Try.f60.body = some (.seq (.region 0 reg60_0 false) (.seq (.region 1 reg60_1 true) (.ret))) := by kernel_rfl
section
variable {main : Bool} {S : Nat → Prop} {b : Nat} {ops : List OpV} {oa : Option Addr} {oc k : Nat} {I PC : Int} {N : Nat → Int} {ans : List Ans} {aa : Option Addr} {ac : Nat} {e : Bool}
theorem huOp45 : ∃ fs, Try.prog.underlying 34 = some (.struct fs) := structT 34 (by kernel_rfl)
noncomputable def opW (w : World) (o : OpV) : World := (w.alloc (.cells #[.int .i64 0, .int .i64 0, .int .i64 0, .int .i64 0] 34)).setRow w.heap.size #[.int .i64 o.k, .int .i64 o.a, .int .i64 o.b, .int .i64 o.c]
theorem opW_chg (w : World) (o : OpV) : Chg (fun _ => False) w (opW w o) := ⟨by unfold opW; rw [setRow_size]; simp, fun x hx _ => by unfold opW; rw [setRow_other _ _ (by omega)]; exact heap_new_lt _ _ hx⟩
theorem op_v (o : OpV) (w : World) (X : ThX S b ops oa oc (k : Nat) PC N ans aa ac e w) (hk : ops[k]? = some o) (hl : ops.length ≤ 65536) :
    CallW Try.prog main (fun _ => none) 60 #[.pointer (some ⟨b, 0, none⟩)] w (fun v w' => v = opVal o ∧ ∃ d, w' = (opW w o).at d) := by
  intro c cs
  obtain ⟨fsO, huO⟩ := huOp45
  have hkl := (List.getElem?_eq_some_iff.1 hk).1
  obtain ⟨g, rfl, _, hgl, hg0⟩ := row_at X.rO (opRow_get ops k 0 o _ hk rfl)
  have hcell : ∀ (j : Nat) (v : Value), ([.int .i64 o.k, .int .i64 o.a, .int .i64 o.b, .int .i64 o.c] : List Value)[j]? = some v → w.cell? ⟨g, k * 4 + j, none⟩ = some v := fun j v hv => by
    obtain ⟨g', e', _, _, h⟩ := row_at X.rO (opRow_get ops k j o v hk hv)
    injection e' with e'
    injection e' with e' _
    subst e'
    exact h
  have hb0 : w.heap[b]? = some (.cells (thA (.slice (some ⟨g, 0, none⟩) ops.length oc) k PC N (.slice none 0 0) (.slice aa ans.length ac) e) 158) := X.blk
  have hbl := X.lt
  rw [enter_at _ Try.func60 code60_is]
  simp only [Try.ntmps60, ez, Nat.reduceAdd, Nat.reduceSub]
  repeat (first | refine Walk.cx ?_ | (refine Walk.cReg ?_; simp only [z60]) | (refine Walk.oq ?_; try walk_nrm) | (refine Walk.un ?_; walk_nrm))
  (refine Walk.oa ?_; try walk_nrm)
  have s1 : (w.alloc (.cells #[.int .i64 0, .int .i64 0, .int .i64 0, .int .i64 0] 34)).heap.size = w.heap.size + 1 := by simp
  have o1 : ∀ b, b < w.heap.size → (w.alloc (.cells #[.int .i64 0, .int .i64 0, .int .i64 0, .int .i64 0] 34)).heap[b]? = w.heap[b]? := fun b hb => heap_new_lt _ _ hb
  have d1 := heap_alloc_new w (.cells #[.int .i64 0, .int .i64 0, .int .i64 0, .int .i64 0] 34)
  have hcell1 : ∀ (j : Nat) (v : Value), ([.int .i64 o.k, .int .i64 o.a, .int .i64 o.b, .int .i64 o.c] : List Value)[j]? = some v → (w.alloc (.cells #[.int .i64 0, .int .i64 0, .int .i64 0, .int .i64 0] 34)).cell? ⟨g, k * 4 + j, none⟩ = some v := fun j v hv => by
    exact cell_alloc w _ (hcell j v hv)
  have hb1 := (o1 b hbl).trans hb0
  generalize hN : w.heap.size = T at *
  generalize hw1 : w.alloc (.cells #[.int .i64 0, .int .i64 0, .int .i64 0, .int .i64 0] 34) = w1 at *
  have c0 := tcO hb1
  have c1 := tcI hb1
  have hk0 : (0 : Int) ≤ (k : Int) := by omega
  have hk1 : (k : Int) < (ops.length : Int) := by omega
  repeat (first | refine Walk.cx ?_ | (refine Walk.cReg ?_; simp only [z60]) | (refine Walk.oq ?_; try walk_nrm) | (refine Walk.un ?_; walk_nrm))
  (refine Walk.drawnL (by kernel_rfl) size60_1 (by kernel_rfl) (by kernel_rfl) (by kernel_rfl) (by decide) ?_; simp only [List.range, List.range.loop]; repeat (first | (refine Cm.oq ?_) | (refine Cm.unw (ho_of (by conv => lhs; whnf) (by kernel_rfl)) (by rfl) ?_; walk_nrm)))
  refine Cm.loadS 34 (.tmp 11) (ho_of (by conv => lhs; whnf) (by kernel_rfl)) (by rfl) rfl g (k * 4) [.int .i64 o.k, .int .i64 o.a, .int .i64 o.b, .int .i64 o.c] (.struct fsO) rfl (fun x hx => hx ▸ hcell1) huO rfl (by kernel_rfl) ?_
  walk_nrm
  refine Cm.done ?_
  intro rest hr
  refine Walk.storeS 34 (.tmp 2) (.tmp 12) (ho_of (by conv => lhs; whnf) (by kernel_rfl)) (by rfl) (by decide) rfl T #[.int .i64 o.k, .int .i64 o.a, .int .i64 o.b, .int .i64 o.c] _ 34 rfl rfl d1 (by kernel_rfl) (by rfl) (by simp [Value.oneCell']) (ap0 _) ?_
  have d2 := setRow_self (cells := #[.int .i64 o.k, .int .i64 o.a, .int .i64 o.b, .int .i64 o.c]) d1
  have o2 : ∀ x, x < T → (w1.setRow T #[.int .i64 o.k, .int .i64 o.a, .int .i64 o.b, .int .i64 o.c]).heap[x]? = w.heap[x]? := fun x hx => (setRow_other _ _ (by omega)).trans (o1 x hx)
  have s2 := setRow_size w1 T #[.int .i64 o.k, .int .i64 o.a, .int .i64 o.b, .int .i64 o.c]
  refine hr _ _ ?_
  generalize hw2 : w1.setRow T #[.int .i64 o.k, .int .i64 o.a, .int .i64 o.b, .int .i64 o.c] = w2 at *
  walk_nrm
  repeat (first | refine Walk.cx ?_ | (refine Walk.cReg ?_; simp only [z60]) | (refine Walk.oq ?_; try walk_nrm) | (refine Walk.un ?_; walk_nrm))
  refine Walk.onCell (T := T) rfl rfl rfl Try.func60 rfl (by rfl) d2 (by kernel_rfl) (by kernel_rfl) (.stop fun d => ⟨_, ⟨rfl, d, by rw [← hw2, ← hw1, ← hN]; rfl⟩, rfl⟩)
theorem op_w (o : OpV) (w : World) (X : ThX S b ops oa oc (k : Nat) PC N ans aa ac e w) (hk : ops[k]? = some o) (hl : ops.length ≤ 65536) :
    CallW Try.prog main (fun _ => none) 60 #[.pointer (some ⟨b, 0, none⟩)] w (fun v w' => v = opVal o ∧ Chg (fun _ => False) w w') := fun c cs => (op_v o w X hk hl c cs).mono fun g w' ⟨v, ⟨h1, d, h2⟩, h3⟩ => ⟨v, ⟨h1, by rw [h2]; exact (opW_chg w o).at d⟩, h3⟩
end
end
end Go.Proofs.Ytdcjgmlgmjjogaa
