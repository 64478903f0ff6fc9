/- Part 12. -/
import Derived.Test.YtjenoiekfkhafaaJ3
import Derived.Test.YtjenoiekfkhafaaJ4
import Derived.Test.YtjenoiekfkhafaaJ5
import Derived.Test.YtjenoiekfkhafaaJ11
import Derived.Conc.AtomicLaws2
import Derived.Laws.CopyRow
set_option linter.unusedSimpArgs false
set_option linter.unusedVariables false
set_option maxHeartbeats 8000000
set_option maxRecDepth 100000
namespace Go.Proofs.Ytjenoiekfkhafaa
open Go.Conc Go.RowKit Go.Relay
open Go.ConcN (upd upd_ne upd_same)
section
section
variable {main : Bool} {V : Nat → Option Wait}
theorem Walk.turn {P : Program} {Stop : Goroutine → World → Prop} {g g' : Goroutine} {w W : World} {es : Array Event} (hr : g.status = .running) (hs : ∀ d, stepG P main g (w.at d) = .go g' (W.at d) es) (hd : ∀ d, DR V (w.at d) (W.at d) es) (h : Walk P main (DR V) Stop g' W) : Walk P main (DR V) Stop g w :=
  Walk.step hr (fun _ => g') (fun d => W.at d) (fun _ => es) hs hd (fun d => h.back d)
theorem evR_rw {ad : Addr} (hf : Free V ad) : ∀ e ∈ (#[⟨.cell ad, false, true⟩, ⟨.cell ad, true, true⟩] : Array Event), EvR V e := by
  intro e he
  simp only [List.mem_toArray, List.mem_cons, List.not_mem_nil, or_false] at he
  rcases he with rfl | rfl
  · exact evR_read _ _
  · exact evR_write _ _ hf
theorem atLoad (b q : Nat) (v : Int) (w : World) (hc : w.cell? ⟨b, q, none⟩ = some (.int .i64 v)) : CallV Try.prog main V 137 #[.pointer (some ⟨b, q, none⟩)] w (.int .i64 v) w := by
  refine callW_in Try.func137 rfl fun fr cs => ?_
  simp only [Try.ntmps137, ez, Nat.reduceAdd, Nat.reduceSub]
  repeat (first | refine Walk.cx ?_ | refine Walk.cR ?_ | (refine Walk.oq ?_; try walk_nrm) | (refine Walk.un ?_; walk_nrm))
  refine Walk.evs (fun _ => #[⟨.cell ⟨b, q, none⟩, false, true⟩]) rfl (fun d => stepG_load_atomic (w := w.at d) rfl (by rfl) (by decide) rfl Try.func138 (by kernel_rfl) (by rfl) (by kernel_rfl) .i64 (by kernel_rfl) rfl hc) (fun d e he => by simp at he; subst he; exact evR_read _ _) ?_
  walk_nrm
  repeat (first | refine Walk.cx ?_ | refine Walk.cR ?_ | (refine Walk.oq ?_; try walk_nrm) | (refine Walk.un ?_; walk_nrm))
  exact Walk.ret1 rfl rfl Try.func137 rfl fun d => ⟨rfl, d, rfl⟩
theorem atStore (b q : Nat) (u : Value) (v : Int) (w : World) (hc : w.cell? ⟨b, q, none⟩ = some u) (hz : w.frozen? ⟨b, q, none⟩ = false) (hf : Free V ⟨b, q, none⟩) : CallV Try.prog main V 57 #[.pointer (some ⟨b, q, none⟩), .int .i64 v] w (.tuple #[]) (w.setCell ⟨b, q, none⟩ (.int .i64 v)) := by
  refine callW_in Try.func57 rfl fun fr cs => ?_
  simp only [Try.ntmps57, ez, Nat.reduceAdd, Nat.reduceSub]
  repeat (first | refine Walk.cx ?_ | refine Walk.cR ?_ | (refine Walk.oq ?_; try walk_nrm) | (refine Walk.un ?_; walk_nrm))
  refine Walk.turn (W := w.setCell ⟨b, q, none⟩ (.int .i64 v)) rfl (fun d => stepG_store_atomic (w := w.at d) rfl (by rfl) (by decide) rfl Try.func74 (by kernel_rfl) (by rfl) (by kernel_rfl) (by kernel_rfl) rfl rfl hc hz) (fun d => DR.set' hf hc d _ (fun e he => by simp at he; subst he; exact evR_write _ _ hf)) ?_
  walk_nrm
  repeat (first | refine Walk.cx ?_ | refine Walk.cR ?_ | (refine Walk.oq ?_; try walk_nrm) | (refine Walk.un ?_; walk_nrm))
  exact Walk.ret0 rfl rfl Try.func57 rfl fun d => ⟨rfl, d, rfl⟩
theorem atCas_hit (b q : Nat) (v x : Int) (w : World) (hc : w.cell? ⟨b, q, none⟩ = some (.int .i64 v)) (hz : w.frozen? ⟨b, q, none⟩ = false) (hf : Free V ⟨b, q, none⟩) : CallV Try.prog main V 75 #[.pointer (some ⟨b, q, none⟩), .int .i64 v, .int .i64 x] w (.bool true) (w.setCell ⟨b, q, none⟩ (.int .i64 x)) := by
  refine callW_in Try.func75 rfl fun fr cs => ?_
  simp only [Try.ntmps75, ez, Nat.reduceAdd, Nat.reduceSub]
  repeat (first | refine Walk.cx ?_ | refine Walk.cR ?_ | (refine Walk.oq ?_; try walk_nrm) | (refine Walk.un ?_; walk_nrm))
  refine Walk.turn (W := w.setCell ⟨b, q, none⟩ (.int .i64 x)) rfl (fun d => stepG_cas_hit (w := w.at d) rfl (by rfl) (by decide) rfl Try.func90 (by kernel_rfl) (by rfl) (by kernel_rfl) .i64 (by kernel_rfl) rfl rfl rfl hc hz) (fun d => DR.set' hf hc d _ (evR_rw hf)) ?_
  walk_nrm
  repeat (first | refine Walk.cx ?_ | refine Walk.cR ?_ | (refine Walk.oq ?_; try walk_nrm) | (refine Walk.un ?_; walk_nrm))
  exact Walk.ret1 rfl rfl Try.func75 rfl fun d => ⟨rfl, d, rfl⟩
theorem atCas_miss (b q : Nat) (v old x : Int) (w : World) (hc : w.cell? ⟨b, q, none⟩ = some (.int .i64 v)) (hz : w.frozen? ⟨b, q, none⟩ = false) (hne : ¬ v = old) : CallV Try.prog main V 75 #[.pointer (some ⟨b, q, none⟩), .int .i64 old, .int .i64 x] w (.bool false) w := by
  refine callW_in Try.func75 rfl fun fr cs => ?_
  simp only [Try.ntmps75, ez, Nat.reduceAdd, Nat.reduceSub]
  repeat (first | refine Walk.cx ?_ | refine Walk.cR ?_ | (refine Walk.oq ?_; try walk_nrm) | (refine Walk.un ?_; walk_nrm))
  refine Walk.evs (fun _ => #[⟨.cell ⟨b, q, none⟩, false, true⟩]) rfl (fun d => stepG_cas_miss (w := w.at d) rfl (by rfl) (by decide) rfl Try.func90 (by kernel_rfl) (by rfl) (by kernel_rfl) .i64 (by kernel_rfl) rfl rfl rfl hc hz hne) (fun d e he => by simp at he; subst he; exact evR_read _ _) ?_
  walk_nrm
  repeat (first | refine Walk.cx ?_ | refine Walk.cR ?_ | (refine Walk.oq ?_; try walk_nrm) | (refine Walk.un ?_; walk_nrm))
  exact Walk.ret1 rfl rfl Try.func75 rfl fun d => ⟨rfl, d, rfl⟩
end
structure Wd (L : La) where
  on : L.Gh → Prop
  up : ∀ {y y' : L.Gh}, L.le y y' → on y → on y'
  b : Nat
  q : Nat
  get : L.Sg → Int
  put : L.Sg → Int → L.Sg
  ok : Int → Prop
  sh : ∀ y, on y → L.sh y b
  rd : ∀ y s w, on y → L.I y s w → w.cell? ⟨b, q, none⟩ = some (.int .i64 (get s)) ∧ w.frozen? ⟨b, q, none⟩ = false
  wr : ∀ y s w v, on y → ok v → L.I y s w → L.I y (put s v) (w.setCell ⟨b, q, none⟩ (.int .i64 v))
def Wd.p {L : La} (W : Wd L) : Value := .pointer (some ⟨W.b, W.q, none⟩)
noncomputable def reg60_0 := rg Try.f60.body [0]
noncomputable def reg60_1 := rg Try.f60.body [1, 0]
noncomputable def reg60_2 := rg Try.f60.body [1, 1, 0]
theorem z60 : List.range reg60_0.size = [0] ∧ List.range reg60_1.size = [0, 1] ∧ List.range reg60_2.size = [0, 1, 2, 3] := by refine ⟨?_, ?_, ?_⟩ <;> kernel_rfl
theorem code60_is : Try.f60.body = some (.seq (.region 0 reg60_0 false) (.seq (.region 1 reg60_1 false) (.seq (.region 2 reg60_2 false) (.ret)))) := by kernel_rfl
noncomputable def reg46_0 := rg Try.f46.body [0]
noncomputable def reg46_1 := rg Try.f46.body [1, 0, 0]
noncomputable def reg46_2 := rg Try.f46.body [1, 0, 1, 0, 0]
noncomputable def reg46_3 := rg Try.f46.body [1, 1, 0]
theorem z46 : List.range reg46_0.size = [0] ∧ List.range reg46_1.size = [0, 1] ∧ List.range reg46_2.size = [0] ∧ List.range reg46_3.size = [0, 1, 2, 3, 4, 5] := by refine ⟨?_, ?_, ?_, ?_⟩ <;> kernel_rfl
theorem code46_is : Try.f46.body = some (.seq (.region 0 reg46_0 false) (.seq (.seq (.region 1 reg46_1 false) (.cond (.tmp 6 ) (.seq (.region 2 reg46_2 false) (.ret)) (.skip))) (.seq (.region 3 reg46_3 false) (.ret)))) := by kernel_rfl
noncomputable def reg39_0 := rg Try.f39.body [0, 0]
noncomputable def reg39_1 := rg Try.f39.body [1, 0]
noncomputable def reg39_2 := rg Try.f39.body [1, 1]
theorem z39 : List.range reg39_0.size = [0, 1] ∧ List.range reg39_1.size = [0, 1] ∧ List.range reg39_2.size = [0, 1, 2, 3, 4] := by refine ⟨?_, ?_, ?_⟩ <;> kernel_rfl
theorem code39_is : Try.f39.body = some (.seq (.seq (.region 0 reg39_0 false) (.cond (.tmp 7 ) (.ret) (.skip))) (.seq (.region 1 reg39_1 false) (.region 2 reg39_2 false))) := by kernel_rfl
noncomputable def reg58_0 := rg Try.f58.body [0]
noncomputable def reg58_1 := rg Try.f58.body [1, 0, 0]
noncomputable def reg58_2 := rg Try.f58.body [1, 0, 1, 0, 0]
noncomputable def reg58_3 := rg Try.f58.body [1, 1, 0]
noncomputable def reg58_4 := rg Try.f58.body [1, 1, 1, 0]
theorem z58 : List.range reg58_0.size = [0] ∧ List.range reg58_1.size = [0, 1] ∧ List.range reg58_2.size = [0] ∧ List.range reg58_3.size = [0, 1] ∧ List.range reg58_4.size = [0, 1, 2, 3, 4, 5, 6] := by refine ⟨?_, ?_, ?_, ?_, ?_⟩ <;> kernel_rfl
theorem code58_is : Try.f58.body = some (.seq (.region 0 reg58_0 false) (.seq (.seq (.region 1 reg58_1 false) (.cond (.tmp 10 ) (.seq (.region 2 reg58_2 false) (.ret)) (.skip))) (.seq (.region 3 reg58_3 false) (.seq (.region 4 reg58_4 false) (.ret))))) := by kernel_rfl
section
variable {L : La} {sv : Value}
theorem step_s (K : Lg L sv) (e : K.E) (d : L.D) (ht : K.tgt e = (K.s e, .inr d)) : SCall K.toLb 56 #[sv] e (fun _ e' => Aft K.toLb e d e') := fun fr l hp hl hk => K.step e d ht fr l hp hl fun e' ha => hk _ e' ha
theorem plain_cons {fr : Frame} {l : List Frame} (hp : Plain fr) (hl : ∀ f ∈ l, Plain f) : ∀ f ∈ fr :: l, Plain f := fun x hx => by
  rcases List.mem_cons.1 hx with rfl | hx
  · exact hp
  · exact hl x hx
theorem Wd.put_mv (W : Wd L) (K : Lg L sv) (e : K.E) (v : Int) (hon : W.on (K.gh e)) (hv : W.ok v) : ∃ e', Mv K.toLb e e' (W.put (K.s e) v) ((K.w e).setCell ⟨W.b, W.q, none⟩ (.int .i64 v)) :=
  K.mv e _ _ (Nat.le_of_eq (size_set ..).symm) (fun b _ _ hs => heap_set_other _ _ _ _ fun he : b = W.b => hs (by rw [he]; exact W.sh _ hon)) (W.wr _ _ _ v hon hv (K.inv e))
theorem holds_s (K : Lg L sv) (W : Wd L) (e : K.E) (d : L.D) (hon : W.on (K.gh e)) (ht : K.tgt e = (K.s e, .inr d)) : SCall K.toLb 60 #[sv, W.p] e (fun v e' => Aft K.toLb e d e' ∧ v = .int .i64 (W.get (K.s e'))) := by
  intro fr l hp hl hk
  unfold LW Wd.p
  rw [enter_at _ Try.func60 code60_is]
  simp only [Try.ntmps60, ez, Nat.reduceAdd, Nat.reduceSub]
  repeat (first | refine Walk.cx ?_ | (refine Walk.cReg ?_; simp only [z60]) | (refine Walk.oq ?_; try walk_nrm) | (refine Walk.un ?_; walk_nrm))
  refine LW.callS (K := K.toLb) (e := e) (l := fr :: l) (f := 56) (Q := fun _ e' => Aft K.toLb e d e') ?_ (ho_of (by conv => lhs; whnf) (by kernel_rfl)) (by rfl) (by decide) rfl Try.func56 (by kernel_rfl) (by rfl) ⟨rfl, rfl, _, Try.func60⟩ (plain_cons hp hl) ?_
  · walk_nrm
    exact step_s K e d ht
  intro v e' ha
  have hc := (W.rd _ _ _ (W.up ha.le hon) (K.inv e')).1
  have hi1 := run_ifaceAtomic
  have hi2 := ev_ifaceAtomic
  unfold LW
  walk_nrm
  repeat (first | refine Walk.cx ?_ | (refine Walk.cReg ?_; simp only [z60]) | (refine Walk.oq ?_; try walk_nrm) | (refine Walk.un ?_; walk_nrm))
  refine Walk.invokeLoad W.b W.q (ho_of (by conv => lhs; whnf) (by kernel_rfl)) (by rfl) (by decide) rfl rfl ?_
  refine (atLoad W.b W.q _ (K.w e') hc _ _).then ?_
  rintro g' w' ⟨v', ⟨rfl, dd, rfl⟩, rfl⟩
  refine Walk.back ?_ dd
  refine Walk.finish (ho_of (by conv => lhs; whnf) (by kernel_rfl)) ?_
  walk_nrm
  repeat (first | refine Walk.cx ?_ | (refine Walk.cReg ?_; simp only [z60]) | (refine Walk.oq ?_; try walk_nrm) | (refine Walk.un ?_; walk_nrm))
  exact Walk.on1 rfl rfl Try.func60 rfl (hk _ e' ⟨ha, rfl⟩)
theorem word_load (K : Lg L sv) (W : Wd L) (e : K.E) (d : L.D) (hon : W.on (K.gh e)) (ht : K.tgt e = (K.s e, .inr d)) : SCall K.toLb 46 #[W.p, sv] e (fun v e' => Aft K.toLb e d e' ∧ v = .int .i64 (W.get (K.s e'))) := by
  intro fr l hp hl hk
  have hh := holds_s K W e d hon ht
  unfold Wd.p at *
  unfold LW
  have hp1 := fun w => run_eql_ptr (P := Try.prog) 93 undWord (some ⟨W.b, W.q, none⟩) w
  have hp2 := fun w es => ev_eql_ptr (P := Try.prog) 93 undWord (some ⟨W.b, W.q, none⟩) w es
  simp only [Option.isNone_some] at hp1
  rw [enter_at _ Try.func46 code46_is]
  simp only [Try.ntmps46, ez, Nat.reduceAdd, Nat.reduceSub]
  repeat (first | refine Walk.cx ?_ | (refine Walk.cReg ?_; simp only [z46]) | (refine Walk.oq ?_; try walk_nrm) | (refine Walk.un ?_; walk_nrm))
  refine LW.callS (K := K.toLb) (e := e) (l := fr :: l) (f := 60) (Q := fun v e' => Aft K.toLb e d e' ∧ v = .int .i64 (W.get (K.s e'))) ?_ (ho_of (by conv => lhs; whnf) (by kernel_rfl)) (by rfl) (by decide) rfl Try.func60 (by kernel_rfl) (by rfl) ⟨rfl, rfl, _, Try.func46⟩ (plain_cons hp hl) ?_
  · walk_nrm
    exact hh
  rintro v e' ⟨ha, rfl⟩
  unfold LW
  walk_nrm
  repeat (first | refine Walk.cx ?_ | (refine Walk.cReg ?_; simp only [z46]) | (refine Walk.oq ?_; try walk_nrm) | (refine Walk.un ?_; walk_nrm))
  exact Walk.on1 rfl rfl Try.func46 rfl (hk _ e' ⟨ha, rfl⟩)
structure Wrote (K : Lg L sv) (e : K.E) (d : L.D) (s : L.Sg) (s' : L.Sg) (e' : K.E) : Prop where
  tgt : K.tgt e' = L.act s d
  fuel : K.fuel e' < K.fuel e
  le : L.le (K.gh e) (K.gh e')
  s : K.s e' = s'
  size : (K.w e).heap.size ≤ (K.w e').heap.size
  mine : ∀ b, K.mine e b → K.mine e' b ∧ (K.w e').heap[b]? = (K.w e).heap[b]?
theorem Wrote.of {K : Lg L sv} {e e1 e' : K.E} {d : L.D} {s' : L.Sg} {W : Wd L} {v : Int} (hon : W.on (K.gh e)) (ha : Aft K.toLb e d e1) (m : Mv K.toLb e1 e' s' ((K.w e1).setCell ⟨W.b, W.q, none⟩ (.int .i64 v))) : Wrote K e d (K.s e1) s' e' :=
  ⟨m.tgt.trans ha.tgt, by rw [m.fuel]; exact ha.fuel, by rw [m.gh]; exact ha.le, m.s, by rw [m.w, size_set]; exact ha.size, fun b hb => by
    obtain ⟨h1, h2⟩ := ha.mine b hb
    have hne : b ≠ W.b := fun he => (K.mineA e1 b h1).2.1 (by rw [he]; exact W.sh _ (W.up ha.le hon))
    refine ⟨(m.mine b).2 (.inl h1), ?_⟩
    rw [m.w, heap_set_other _ _ _ _ hne]
    exact h2⟩
theorem Wrote.same {K : Lg L sv} {e e1 : K.E} {d : L.D} (ha : Aft K.toLb e d e1) : Wrote K e d (K.s e1) (K.s e1) e1 := ⟨ha.tgt, ha.fuel, ha.le, rfl, ha.size, ha.mine⟩
theorem word_store (K : Lg L sv) (W : Wd L) (e : K.E) (d : L.D) (x : Int) (hx : W.ok x) (hon : W.on (K.gh e)) (ht : K.tgt e = (K.s e, .inr d)) : SCall K.toLb 39 #[W.p, sv, .int .i64 x] e (fun _ e' => ∃ s, Wrote K e d s (W.put s x) e') := by
  intro fr l hp hl hk
  unfold Wd.p
  unfold LW
  have hp1 := fun w => run_eql_ptr (P := Try.prog) 93 undWord (some ⟨W.b, W.q, none⟩) w
  have hp2 := fun w es => ev_eql_ptr (P := Try.prog) 93 undWord (some ⟨W.b, W.q, none⟩) w es
  simp only [Option.isNone_some] at hp1
  rw [enter_at _ Try.func39 code39_is]
  simp only [Try.ntmps39, ez, Nat.reduceAdd, Nat.reduceSub]
  repeat (first | refine Walk.cx ?_ | (refine Walk.cReg ?_; simp only [z39]) | (refine Walk.oq ?_; try walk_nrm) | (refine Walk.un ?_; walk_nrm))
  refine LW.callS (K := K.toLb) (e := e) (l := fr :: l) (f := 56) (Q := fun _ e' => Aft K.toLb e d e') ?_ (ho_of (by conv => lhs; whnf) (by kernel_rfl)) (by rfl) (by decide) rfl Try.func56 (by kernel_rfl) (by rfl) ⟨rfl, rfl, _, Try.func39⟩ (plain_cons hp hl) ?_
  · walk_nrm
    exact step_s K e d ht
  intro v e1 ha
  obtain ⟨hc, hz⟩ := W.rd _ _ _ (W.up ha.le hon) (K.inv e1)
  obtain ⟨e', m⟩ := W.put_mv K e1 x (W.up ha.le hon) hx
  unfold LW
  walk_nrm
  repeat (first | refine Walk.cx ?_ | (refine Walk.cReg ?_; simp only [z39]) | (refine Walk.oq ?_; try walk_nrm) | (refine Walk.un ?_; walk_nrm))
  refine Walk.callV (x := .tuple #[]) (W := (K.w e1).setCell ⟨W.b, W.q, none⟩ (.int .i64 x)) ?_ (ho_of (by conv => lhs; whnf) (by kernel_rfl)) (by rfl) (by decide) rfl Try.func57 (by kernel_rfl) (by rfl) ?_
  · walk_nrm
    exact atStore W.b W.q _ x (K.w e1) hc hz ((K.shA e1 _ (W.sh _ (W.up ha.le hon))).1 _ rfl)
  walk_nrm
  repeat (first | refine Walk.cx ?_ | (refine Walk.cReg ?_; simp only [z39]) | (refine Walk.oq ?_; try walk_nrm) | (refine Walk.un ?_; walk_nrm))
  exact Walk.on0 rfl rfl Try.func39 rfl (LW.to m (hk _ e' ⟨K.s e1, Wrote.of hon ha m⟩))
theorem word_cas (K : Lg L sv) (W : Wd L) (e : K.E) (d : L.D) (old x : Int) (hx : W.ok x) (hon : W.on (K.gh e)) (ht : K.tgt e = (K.s e, .inr d)) : SCall K.toLb 58 #[W.p, sv, .int .i64 old, .int .i64 x] e (fun v e' => ∃ s, (W.get s = old ∧ v = .bool true ∧ Wrote K e d s (W.put s x) e') ∨ (W.get s ≠ old ∧ v = .bool false ∧ Wrote K e d s s e')) := by
  intro fr l hp hl hk
  unfold Wd.p
  unfold LW
  have hp1 := fun w => run_eql_ptr (P := Try.prog) 93 undWord (some ⟨W.b, W.q, none⟩) w
  have hp2 := fun w es => ev_eql_ptr (P := Try.prog) 93 undWord (some ⟨W.b, W.q, none⟩) w es
  simp only [Option.isNone_some] at hp1
  rw [enter_at _ Try.func58 code58_is]
  simp only [Try.ntmps58, ez, Nat.reduceAdd, Nat.reduceSub]
  repeat (first | refine Walk.cx ?_ | (refine Walk.cReg ?_; simp only [z58]) | (refine Walk.oq ?_; try walk_nrm) | (refine Walk.un ?_; walk_nrm))
  refine LW.callS (K := K.toLb) (e := e) (l := fr :: l) (f := 56) (Q := fun _ e' => Aft K.toLb e d e') ?_ (ho_of (by conv => lhs; whnf) (by kernel_rfl)) (by rfl) (by decide) rfl Try.func56 (by kernel_rfl) (by rfl) ⟨rfl, rfl, _, Try.func58⟩ (plain_cons hp hl) ?_
  · walk_nrm
    exact step_s K e d ht
  intro v e1 ha
  obtain ⟨hc, hz⟩ := W.rd _ _ _ (W.up ha.le hon) (K.inv e1)
  unfold LW
  walk_nrm
  repeat (first | refine Walk.cx ?_ | (refine Walk.cReg ?_; simp only [z58]) | (refine Walk.oq ?_; try walk_nrm) | (refine Walk.un ?_; walk_nrm))
  by_cases hv : W.get (K.s e1) = old
  · obtain ⟨e', m⟩ := W.put_mv K e1 x (W.up ha.le hon) hx
    refine Walk.callV (x := .bool true) (W := (K.w e1).setCell ⟨W.b, W.q, none⟩ (.int .i64 x)) ?_ (ho_of (by conv => lhs; whnf) (by kernel_rfl)) (by rfl) (by decide) rfl Try.func75 (by kernel_rfl) (by rfl) ?_
    · walk_nrm
      rw [hv] at hc
      exact atCas_hit W.b W.q old x (K.w e1) hc hz ((K.shA e1 _ (W.sh _ (W.up ha.le hon))).1 _ rfl)
    walk_nrm
    repeat (first | refine Walk.cx ?_ | (refine Walk.cReg ?_; simp only [z58]) | (refine Walk.oq ?_; try walk_nrm) | (refine Walk.un ?_; walk_nrm))
    exact Walk.on1 rfl rfl Try.func58 rfl (LW.to m (hk _ e' ⟨K.s e1, .inl ⟨hv, rfl, Wrote.of hon ha m⟩⟩))
  · refine Walk.callV (x := .bool false) (W := K.w e1) ?_ (ho_of (by conv => lhs; whnf) (by kernel_rfl)) (by rfl) (by decide) rfl Try.func75 (by kernel_rfl) (by rfl) ?_
    · walk_nrm
      exact atCas_miss W.b W.q _ old x (K.w e1) hc hz hv
    walk_nrm
    repeat (first | refine Walk.cx ?_ | (refine Walk.cReg ?_; simp only [z58]) | (refine Walk.oq ?_; try walk_nrm) | (refine Walk.un ?_; walk_nrm))
    exact Walk.on1 rfl rfl Try.func58 rfl (hk _ e1 ⟨K.s e1, .inr ⟨hv, rfl, Wrote.same ha⟩⟩)
end
end
section
section
variable {main : Bool} {V : Nat → Option Wait}
theorem atAdd (b q : Nat) (v x : Int) (w : World) (hc : w.cell? ⟨b, q, none⟩ = some (.int .i64 v)) (hz : w.frozen? ⟨b, q, none⟩ = false) (hf : Free V ⟨b, q, none⟩) : CallV Try.prog main V 59 #[.pointer (some ⟨b, q, none⟩), .int .i64 x] w (.int .i64 (IntKind.i64.wrap (v + x))) (w.setCell ⟨b, q, none⟩ (.int .i64 (IntKind.i64.wrap (v + x)))) := by
  refine callW_in Try.func59 rfl fun fr cs => ?_
  simp only [Try.ntmps59, ez, Nat.reduceAdd, Nat.reduceSub]
  repeat (first | refine Walk.cx ?_ | refine Walk.cR ?_ | (refine Walk.oq ?_; try walk_nrm) | (refine Walk.un ?_; walk_nrm))
  refine Walk.turn (W := w.setCell ⟨b, q, none⟩ (.int .i64 (IntKind.i64.wrap (v + x)))) rfl (fun d => stepG_add_atomic (w := w.at d) rfl (by rfl) (by decide) rfl Try.func76 (by kernel_rfl) (by rfl) (by kernel_rfl) .i64 (by kernel_rfl) rfl rfl hc hz) (fun d => DR.set' hf hc d _ (evR_rw hf)) ?_
  walk_nrm
  repeat (first | refine Walk.cx ?_ | refine Walk.cR ?_ | (refine Walk.oq ?_; try walk_nrm) | (refine Walk.un ?_; walk_nrm))
  exact Walk.ret1 rfl rfl Try.func59 rfl fun d => ⟨rfl, d, rfl⟩
end
noncomputable def reg44_0 := rg Try.f44.body [0]
noncomputable def reg44_1 := rg Try.f44.body [1, 0, 0]
noncomputable def reg44_2 := rg Try.f44.body [1, 0, 1, 0, 0]
noncomputable def reg44_3 := rg Try.f44.body [1, 1, 0]
noncomputable def reg44_4 := rg Try.f44.body [1, 1, 1, 0]
theorem z44 : List.range reg44_0.size = [0] ∧ List.range reg44_1.size = [0, 1] ∧ List.range reg44_2.size = [0] ∧ List.range reg44_3.size = [0, 1] ∧ List.range reg44_4.size = [0, 1, 2, 3, 4, 5] := by refine ⟨?_, ?_, ?_, ?_, ?_⟩ <;> kernel_rfl
theorem code44_is : Try.f44.body = some (.seq (.region 0 reg44_0 false) (.seq (.seq (.region 1 reg44_1 false) (.cond (.tmp 8 ) (.seq (.region 2 reg44_2 false) (.ret)) (.skip))) (.seq (.region 3 reg44_3 false) (.seq (.region 4 reg44_4 false) (.ret))))) := by kernel_rfl
section
variable {L : La} {sv : Value}
theorem word_add (K : Lg L sv) (W : Wd L) (e : K.E) (d : L.D) (x : Int) (hx : ∀ y, W.ok y) (hon : W.on (K.gh e)) (ht : K.tgt e = (K.s e, .inr d)) : SCall K.toLb 44 #[W.p, sv, .int .i64 x] e (fun v e' => ∃ s, v = .int .i64 (IntKind.i64.wrap (W.get s + x)) ∧ Wrote K e d s (W.put s (IntKind.i64.wrap (W.get s + x))) e') := by
  intro fr l hp hl hk
  unfold Wd.p
  unfold LW
  have hp1 := fun w => run_eql_ptr (P := Try.prog) 93 undWord (some ⟨W.b, W.q, none⟩) w
  have hp2 := fun w es => ev_eql_ptr (P := Try.prog) 93 undWord (some ⟨W.b, W.q, none⟩) w es
  simp only [Option.isNone_some] at hp1
  rw [enter_at _ Try.func44 code44_is]
  simp only [Try.ntmps44, ez, Nat.reduceAdd, Nat.reduceSub]
  repeat (first | refine Walk.cx ?_ | (refine Walk.cReg ?_; simp only [z44]) | (refine Walk.oq ?_; try walk_nrm) | (refine Walk.un ?_; walk_nrm))
  refine LW.callS (K := K.toLb) (e := e) (l := fr :: l) (f := 56) (Q := fun _ e' => Aft K.toLb e d e') ?_ (ho_of (by conv => lhs; whnf) (by kernel_rfl)) (by rfl) (by decide) rfl Try.func56 (by kernel_rfl) (by rfl) ⟨rfl, rfl, _, Try.func44⟩ (plain_cons hp hl) ?_
  · walk_nrm
    exact step_s K e d ht
  intro v e1 ha
  obtain ⟨hc, hz⟩ := W.rd _ _ _ (W.up ha.le hon) (K.inv e1)
  obtain ⟨e', m⟩ := W.put_mv K e1 (IntKind.i64.wrap (W.get (K.s e1) + x)) (W.up ha.le hon) (hx _)
  have hkk := hk (.int .i64 (IntKind.i64.wrap (W.get (K.s e1) + x))) e' ⟨K.s e1, rfl, Wrote.of hon ha m⟩
  generalize hg : W.get (K.s e1) = gv at *
  unfold LW
  walk_nrm
  repeat (first | refine Walk.cx ?_ | (refine Walk.cReg ?_; simp only [z44]) | (refine Walk.oq ?_; try walk_nrm) | (refine Walk.un ?_; walk_nrm))
  refine Walk.callV (x := .int .i64 (IntKind.i64.wrap (gv + x))) (W := (K.w e1).setCell ⟨W.b, W.q, none⟩ (.int .i64 (IntKind.i64.wrap (gv + x)))) ?_ (ho_of (by conv => lhs; whnf) (by kernel_rfl)) (by rfl) (by decide) rfl Try.func59 (by kernel_rfl) (by rfl) ?_
  · walk_nrm
    exact atAdd W.b W.q gv x (K.w e1) hc hz ((K.shA e1 _ (W.sh _ (W.up ha.le hon))).1 _ rfl)
  walk_nrm
  repeat (first | refine Walk.cx ?_ | (refine Walk.cReg ?_; simp only [z44]) | (refine Walk.oq ?_; try walk_nrm) | (refine Walk.un ?_; walk_nrm))
  exact Walk.on1 rfl rfl Try.func44 rfl (LW.to m hkk)
end
end
section
structure Sq where
  v : Int
  w : Nat → Int
inductive QD where
  | w1 (a : Bool) (t : Nat) (xs : Nat → Int) | w2 (a : Bool) (t : Nat) (xs : Nat → Int) (v : Int) | w3 (a : Bool) (xs : Nat → Int) (v : Int) (i : Nat) | w4 (v : Int)
  | r1 (t : Nat) | r2 (t : Nat) (v : Int) (i : Nat) (l : List Int) | r3 (t : Nat) (v : Int) (l : List Int) | q (i : Nat) (l : List Int) | n1 (a : Int)
def sqOdd (v : Int) : Prop := v.tmod 2 ≠ 0
instance (v : Int) : Decidable (sqOdd v) := inferInstanceAs (Decidable (_ ≠ _))
def sqTr (a : Int) : Nat := (min (max a 1) 1024).toNat
theorem sqTr_le (a : Int) : 1 ≤ sqTr a ∧ sqTr a ≤ 1024 := by unfold sqTr; omega
def sqVal (o : OpV) (i : Nat) : Int := IntKind.i64.wrap (o.b + IntKind.i64.wrap ((i : Int) * o.c))
def aNo : Ans := ⟨false, 0, []⟩
def sqFail (t : Nat) (d : Nat → QD) : Ans ⊕ QD := if t ≤ 1 then .inl aNo else .inr (d (t - 1))
def sqPutV (s : Sq) (v : Int) : Sq := ⟨v, s.w⟩
def sqPutW (s : Sq) (i : Nat) (x : Int) : Sq := ⟨s.v, upd s.w i x⟩
def sqEnter (s : Sq) (_ : Int) (o : OpV) : Sq × (Ans ⊕ QD) :=
  if o.k = 1 then (s, .inr (.w1 false (sqTr o.a) (sqVal o))) else if o.k = 2 then (s, .inr (.w1 true (sqTr o.a) (sqVal o))) else if o.k = 3 then (s, .inr (.r1 (sqTr o.a))) else if o.k = 4 then (s, .inr (.q 0 [])) else if o.k = 5 then (s, .inr (.n1 o.a)) else (s, .inl aNo)
def sqAct (k : Nat) (s : Sq) : QD → Sq × (Ans ⊕ QD)
  | .w1 a t xs => (s, if sqOdd s.v then sqFail t (.w1 a · xs) else .inr (.w2 a t xs s.v))
  | .w2 a t xs v => if s.v = v then (sqPutV s (IntKind.i64.wrap (v + 1)), .inr (.w3 a xs v 0)) else (s, sqFail t (.w1 a · xs))
  | .w3 a xs v i => (sqPutW s i (if a then IntKind.i64.wrap (s.w i + xs i) else xs i), .inr (if i = k then .w4 v else .w3 a xs v (i + 1)))
  | .w4 v => (sqPutV s (IntKind.i64.wrap (v + 2)), .inl ⟨true, 0, []⟩)
  | .r1 t => (s, if sqOdd s.v then sqFail t .r1 else .inr (.r2 t s.v 0 []))
  | .r2 t v i l => (s, .inr (if i = k then .r3 t v (l ++ [s.w i]) else .r2 t v (i + 1) (l ++ [s.w i])))
  | .r3 t v l => (s, if s.v = v then .inl ⟨true, 0, l⟩ else sqFail t .r1)
  | .q i l => (s, if i = k then .inl ⟨true, 0, l ++ [s.w i]⟩ else .inr (.q (i + 1) (l ++ [s.w i])))
  | .n1 a => (s, .inl ⟨decide (a < s.v), s.v, []⟩)
structure SqI (lb k : Nat) (s : Sq) (w : World) : Prop where
  hd : ∃ arr : Array Value, w.heap[lb]? = some (.cells arr 75) ∧ arr.size = 18 ∧ arr[0]? = some (.int .i64 s.v) ∧ (∀ i, i ≤ k → arr[1 + i]? = some (.int .i64 (s.w i))) ∧ arr[17]? = some (.int .i64 k)
  pos : k ≤ 15
theorem SqI.old {lb k : Nat} {s : Sq} {w w' : World} (h : SqI lb k s w) (hb : w'.heap[lb]? = w.heap[lb]?) : SqI lb k s w' := by
  obtain ⟨⟨arr, h1, h2⟩, h3⟩ := h
  exact ⟨⟨arr, hb.trans h1, h2⟩, h3⟩
theorem SqI.lt {lb k : Nat} {s : Sq} {w : World} (h : SqI lb k s w) : lb < w.heap.size := by
  obtain ⟨⟨arr, h1, h2⟩, h3⟩ := h
  exact (Array.getElem?_eq_some_iff.1 h1).1
def sqLa (lb k : Nat) : La where
  Sg := Sq
  D := QD
  Gh := Unit
  le := fun _ _ => True
  refl := fun _ => trivial
  trans := fun _ _ => trivial
  enter := sqEnter
  act := sqAct k
  sh := fun _ b => b = lb
  mono := fun _ h => h
  I := fun _ => SqI lb k
  stable := fun h hb => h.old (hb _ rfl)
  lt := fun h hb => hb ▸ h.lt
section
variable {lb k : Nat}
theorem SqI.rdV {s : Sq} {w : World} (h : SqI lb k s w) : w.cell? ⟨lb, 0, none⟩ = some (.int .i64 s.v) ∧ w.frozen? ⟨lb, 0, none⟩ = false := by
  obtain ⟨⟨arr, h1, h2, h3, h4, h5⟩, h6⟩ := h
  exact ⟨(cell_of h1 0).trans h3, frozen_of h1 0⟩
theorem SqI.rdW {i : Nat} (hi : i ≤ k) {s : Sq} {w : World} (h : SqI lb k s w) : w.cell? ⟨lb, 1 + i, none⟩ = some (.int .i64 (s.w i)) ∧ w.frozen? ⟨lb, 1 + i, none⟩ = false := by
  obtain ⟨⟨arr, h1, h2, h3, h4, h5⟩, h6⟩ := h
  exact ⟨(cell_of h1 _).trans (h4 i hi), frozen_of h1 _⟩
theorem SqI.rdM {s : Sq} {w : World} (h : SqI lb k s w) : w.cell? ⟨lb, 17, none⟩ = some (.int .i64 k) := by
  obtain ⟨⟨arr, h1, h2, h3, h4, h5⟩, h6⟩ := h
  exact (cell_of h1 17).trans h5
theorem SqI.wrV {s : Sq} {w : World} (v : Int) (h : SqI lb k s w) : SqI lb k (sqPutV s v) (w.setCell ⟨lb, 0, none⟩ (.int .i64 v)) := by
  obtain ⟨⟨arr, h1, h2, h3, h4, h5⟩, h6⟩ := h
  refine ⟨⟨_, heap_set_self _ _ h1, by simp [h2], by simp [h2, sqPutV], fun i hi => ?_, ?_⟩, h6⟩
  · rw [Array.getElem?_setIfInBounds_ne (by omega)]; exact h4 i hi
  · rw [Array.getElem?_setIfInBounds_ne (by omega)]; exact h5
theorem SqI.wrW {i : Nat} (hi : i ≤ k) {s : Sq} {w : World} (v : Int) (h : SqI lb k s w) : SqI lb k (sqPutW s i v) (w.setCell ⟨lb, 1 + i, none⟩ (.int .i64 v)) := by
  obtain ⟨⟨arr, h1, h2, h3, h4, h5⟩, h6⟩ := h
  refine ⟨⟨_, heap_set_self _ _ h1, by simp [h2], ?_, fun j hj => ?_, ?_⟩, h6⟩
  · rw [Array.getElem?_setIfInBounds_ne (by omega)]; exact h3
  · show _ = some (Value.int .i64 (upd s.w i v j))
    by_cases e : j = i
    · subst e
      rw [upd_same]
      exact Array.getElem?_setIfInBounds_self_of_lt (by omega)
    · rw [upd_ne _ _ e, Array.getElem?_setIfInBounds_ne (by omega)]; exact h4 j hj
  · rw [Array.getElem?_setIfInBounds_ne (by omega)]; exact h5
def verW : Wd (sqLa lb k) where
  on := fun _ => True
  up := fun _ _ => trivial
  b := lb
  q := 0
  get := fun s => (s : Sq).v
  put := fun s v => sqPutV s v
  ok := fun _ => True
  sh := fun _ _ => rfl
  rd := fun _ s w _ h => SqI.rdV h
  wr := fun _ s w v _ _ h => SqI.wrV v h
def worW (i : Nat) (hi : i ≤ k) : Wd (sqLa lb k) where
  on := fun _ => True
  up := fun _ _ => trivial
  b := lb
  q := 1 + i
  get := fun s => (s : Sq).w i
  put := fun s v => sqPutW s i v
  ok := fun _ => True
  sh := fun _ _ => rfl
  rd := fun _ s w _ h => SqI.rdW hi h
  wr := fun _ s w v _ _ h => SqI.wrW hi v h
end
end
end Go.Proofs.Ytjenoiekfkhafaa
namespace Go.Relay
section
open Go.Conc Go.RowKit
variable {P : Program} {main : Bool} {V : Nat → Option Wait} {Stop : Goroutine → World → Prop} {w : World} {b : Frame} {a : Act} {k : List Item} {cs : List Frame} {ops : Array Oper} {i : Nat} {rest : List Nat} {o : Oper}
theorem run_copy_op {v xv v' : Value} {w' : World} (s x : Operand) (t t' : TypeId) (ho : o.op = .call { callee := .builtin .copy, args := #[s, x], argTypes := #[t, t'] }) (hs : a.eval s = v) (hx : a.eval x = xv) {K : Act → World → Prop}
    (hr : (Builtin.copy_ #[t, t'] o.type #[v, xv]).run P w = .ok v' w') (h : K (a.put o.dst v') w') : uponK o a K ((execOp a.eval o).run P w) := by
  unfold execOp
  simp only [ho, resolve, invoke, builtin, Sem.run_bind, Sem.run_pure, Result.andThen_ok, List.map_toArray, List.map_cons, List.map_nil, hs, hx, hr]
  exact h
theorem events_copy_op {v xv : Value} (s x : Operand) (t t' : TypeId) (ho : o.op = .call { callee := .builtin .copy, args := #[s, x], argTypes := #[t, t'] }) (hs : a.eval s = v) (hx : a.eval x = xv) (es : Array Event) :
    (execOp a.eval o).events P w es = (Builtin.copy_ #[t, t'] o.type #[v, xv]).events P w es := by
  unfold execOp
  simp only [ho, resolve, invoke, builtin, Sem.events_bind, Sem.run_pure, Sem.events_pure, Result.evThen_ok, List.map_toArray, List.map_cons, List.map_nil, hs, hx]
  cases (Builtin.copy_ #[t, t'] o.type #[v, xv]).run P w <;> rfl
theorem run_copy_own (w : World) (dT sT ty elem : TypeId) (g dLen dCap : Nat) (sa : Option Addr) (sLen sCap : Nat) (cur : Array Value) (t : TypeId) (xs : List Value)
    (hu : P.underlying dT = some (.slice elem)) (hs : (P.info? elem).map (·.size) = some 1) (hg : w.heap[g]? = some (.cells cur t (0, 0))) (hn : xs.length = Nat.min sLen dLen) (hnil : sa = none → sLen = 0 ∧ sCap = 0)
    (hsrc : ∀ j v, xs[j]? = some v → ∃ ad, sa = some ad ∧ w.cell? (ad.add j) = some v) (hfit : xs.length ≤ cur.size) (h1 : ∀ v ∈ xs, v.oneCell' = true) :
    (Builtin.copy_ #[dT, sT] ty #[.slice (some ⟨g, 0, none⟩) dLen dCap, .slice sa sLen sCap]).run P w = .ok (goInt xs.length) (w.setRow g (xs ++ cur.toList.drop xs.length).toArray) := by
  cases sa with
  | none =>
    obtain ⟨rfl, rfl⟩ := hnil rfl
    have h0 : xs = [] := List.eq_nil_of_length_eq_zero (by simpa using hn)
    subst h0
    rw [run_copy_nil (P := P) w dT sT ty elem _ dLen dCap hu (by rw [hs]; rfl)]
    have := Go.setRow_self w g cur t (0, 0) hg
    simp [this]
  | some ad =>
    rw [run_copy_row (P := P) w dT sT ty elem g 0 dLen dCap ad sLen sCap cur t xs hu hs hg hn (fun j v hj => ?_) (by simpa using hfit) h1]
    · simp
    · obtain ⟨ad', e, h⟩ := hsrc j v hj
      cases e
      exact h
theorem events_copy_own (w : World) (dT sT ty elem : TypeId) (g dLen dCap : Nat) (sa : Option Addr) (sLen sCap : Nat) (cur : Array Value) (t : TypeId) (xs : List Value)
    (hu : P.underlying dT = some (.slice elem)) (hs : (P.info? elem).map (·.size) = some 1) (hg : w.heap[g]? = some (.cells cur t (0, 0))) (hn : xs.length = Nat.min sLen dLen) (hnil : sa = none → sLen = 0 ∧ sCap = 0)
    (hsrc : ∀ j v, xs[j]? = some v → ∃ ad, sa = some ad ∧ w.cell? (ad.add j) = some v) (hfit : xs.length ≤ cur.size) (h1 : ∀ v ∈ xs, v.oneCell' = true) :
    ∀ ev ∈ (Builtin.copy_ #[dT, sT] ty #[.slice (some ⟨g, 0, none⟩) dLen dCap, .slice sa sLen sCap]).events P w #[], ev.isRead ∨ ∃ ad, ev.loc = .cell ad ∧ ad.block = g := by
  intro ev hev
  cases hq : P.info? elem with
  | none => simp [hq] at hs
  | some i =>
    have hi : i.size = 1 := by simpa [hq] using hs
    have none0 : ∀ e ∈ (#[] : Array Event), e.isRead := by intro e he; simp at he
    cases sa with
    | none =>
      obtain ⟨rfl, rfl⟩ := hnil rfl
      simp [Builtin.copy_, run_underlying hu, Builtin.lenOf, Builtin.firstCells, sizeOf, typeInfo, hq, storeCells] at hev
    | some ad =>
      have hl := run_loadCells_list (P := P) w ad xs (fun j v hj => by
        obtain ⟨ad', e, h⟩ := hsrc j v hj
        cases e
        exact h)
      simp [Builtin.copy_, run_underlying hu, Builtin.lenOf, Builtin.firstCells, sizeOf, typeInfo, hq, hi, ← hn, hl] at hev
      rcases events_storeCells_at (P := P) g 0 t xs 0 cur w _ hg (by simpa using hfit) h1 ev hev with h | h
      · rcases events_loadCellsFrom_reads ad _ _ _ w _ ev h with h | h
        · simp at h
        · exact .inl h
      · exact .inr h
theorem Walk.copy (s x : Operand) (dT sT elem : TypeId) (ho : ops[i]? = some o) (hw : Region.wanted o (yielded ops a.tmps) = true) (hk : b.kind ≠ .early) (hop : o.op = .call { callee := .builtin .copy, args := #[s, x], argTypes := #[dT, sT] })
    (hu : P.underlying dT = some (.slice elem)) (hs : (P.info? elem).map (·.size) = some 1) (g dLen dCap : Nat) (sa : Option Addr) (sLen sCap : Nat) (cur : Array Value) (t : TypeId) (xs : List Value)
    (hd : a.eval s = .slice (some ⟨g, 0, none⟩) dLen dCap) (hx : a.eval x = .slice sa sLen sCap) (hg : w.heap[g]? = some (.cells cur t (0, 0))) (hn : xs.length = Nat.min sLen dLen) (hnil : sa = none → sLen = 0 ∧ sCap = 0)
    (hsrc : ∀ j v, xs[j]? = some v → ∃ ad, sa = some ad ∧ w.cell? (ad.add j) = some v) (hfit : xs.length ≤ cur.size) (h1 : ∀ v ∈ xs, v.oneCell' = true) (hap : Apart V g)
    (h : Walk P main (DR V) Stop (G (b.at (a.put o.dst (goInt xs.length)) (.inRegion ops rest :: k)) cs) (w.setRow g (xs ++ cur.toList.drop xs.length).toArray)) : Walk P main (DR V) Stop (G (b.at a (.inRegion ops (i :: rest) :: k)) cs) w := by
  have hgr : ∀ (cells : Array Value) d, (w.at d).grownBy ((w.setRow g cells).at d) (some g) := fun cells d => by
    refine ⟨rfl, rfl, rfl, ?_, fun k hk hne => ?_⟩
    · simp [World.setRow, World.at]
    · have : k ≠ g := fun e => hne (by rw [e])
      simp only [World.setRow, World.at]
      rw [Array.getElem?_modify, if_neg (Ne.symm this)]
  refine Walk.opw (W := w.setRow g (xs ++ cur.toList.drop xs.length).toArray) ho hw hk (fun dd e he => ?_) (fun dd es hes => DR.grown (hgr _ dd) (fun g' e => by cases e; exact hap) hes) (fun dd K hK => ?_)
  · rw [events_copy_op s x dT sT hop hd hx] at he
    rcases events_copy_own (P := P) (w.at dd) dT sT o.type elem g dLen dCap sa sLen sCap cur t xs hu hs hg hn hnil hsrc hfit h1 e he with h' | ⟨ad, h', hb⟩
    · exact evR_isRead h'
    · exact evR_cell h' (hap.1 ad hb)
  · exact run_copy_op s x dT sT hop hd hx (run_copy_own (P := P) (w.at dd) dT sT o.type elem g dLen dCap sa sLen sCap cur t xs hu hs hg hn hnil hsrc hfit h1) (hK _ h)
end
end Go.Relay
