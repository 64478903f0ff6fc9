/- Part 14. -/
import Derived.Test.YtdmpmoggacjgcaaJ4
import Derived.Test.YtdmpmoggacjgcaaJ11
import Derived.Test.YtdmpmoggacjgcaaJ12
import Derived.Test.YtdmpmoggacjgcaaJ13
import Derived.Conc.AtomicLaws2
import Derived.Laws.BitsLemmas
set_option linter.unusedSimpArgs false
set_option linter.unusedVariables false
set_option maxHeartbeats 8000000
set_option maxRecDepth 100000
namespace Go.Proofs.Ytdmpmoggacjgcaa
open Go.Conc Go.RowKit Go.Relay
open Go.ConcN (upd upd_ne upd_same)
section
section
variable {main : Bool} {V : Nat → Option Wait}
theorem Walk.turn {P : Program} {Stop : Goroutine → World → Prop} {g g' : Goroutine} {w W : World} {es : Array Event} (hr : g.status = .running) (hs : ∀ d, stepG P main g (w.at d) = .go g' (W.at d) es) (hd : ∀ d, DR V (w.at d) (W.at d) es) (h : Walk P main (DR V) Stop g' W) : Walk P main (DR V) Stop g w :=
  Walk.step hr (fun _ => g') (fun d => W.at d) (fun _ => es) hs hd (fun d => h.back d)
theorem evR_rw {ad : Addr} (hf : Free V ad) : ∀ e ∈ (#[⟨.cell ad, false, true⟩, ⟨.cell ad, true, true⟩] : Array Event), EvR V e := by
  intro e he
  simp only [List.mem_toArray, List.mem_cons, List.not_mem_nil, or_false] at he
  rcases he with rfl | rfl
  · exact evR_read _ _
  · exact evR_write _ _ hf
theorem atLoad (b q : Nat) (v : Int) (w : World) (hc : w.cell? ⟨b, q, none⟩ = some (.int .i64 v)) : CallV Try.prog main V 138 #[.pointer (some ⟨b, q, none⟩)] w (.int .i64 v) w := by
  refine callW_in Try.func138 rfl fun fr cs => ?_
  simp only [Try.ntmps138, ez, Nat.reduceAdd, Nat.reduceSub]
  repeat (first | refine Walk.cx ?_ | refine Walk.cR ?_ | (refine Walk.oq ?_; try walk_nrm) | (refine Walk.un ?_; walk_nrm))
  refine Walk.evs (fun _ => #[⟨.cell ⟨b, q, none⟩, false, true⟩]) rfl (fun d => stepG_load_atomic (w := w.at d) rfl (by rfl) (by decide) rfl Try.func139 (by kernel_rfl) (by rfl) (by kernel_rfl) .i64 (by kernel_rfl) rfl hc) (fun d e he => by simp at he; subst he; exact evR_read _ _) ?_
  walk_nrm
  repeat (first | refine Walk.cx ?_ | refine Walk.cR ?_ | (refine Walk.oq ?_; try walk_nrm) | (refine Walk.un ?_; walk_nrm))
  exact Walk.ret1 rfl rfl Try.func138 rfl fun d => ⟨rfl, d, rfl⟩
theorem atStore (b q : Nat) (u : Value) (v : Int) (w : World) (hc : w.cell? ⟨b, q, none⟩ = some u) (hz : w.frozen? ⟨b, q, none⟩ = false) (hf : Free V ⟨b, q, none⟩) : CallV Try.prog main V 63 #[.pointer (some ⟨b, q, none⟩), .int .i64 v] w (.tuple #[]) (w.setCell ⟨b, q, none⟩ (.int .i64 v)) := by
  refine callW_in Try.func63 rfl fun fr cs => ?_
  simp only [Try.ntmps63, ez, Nat.reduceAdd, Nat.reduceSub]
  repeat (first | refine Walk.cx ?_ | refine Walk.cR ?_ | (refine Walk.oq ?_; try walk_nrm) | (refine Walk.un ?_; walk_nrm))
  refine Walk.turn (W := w.setCell ⟨b, q, none⟩ (.int .i64 v)) rfl (fun d => stepG_store_atomic (w := w.at d) rfl (by rfl) (by decide) rfl Try.func76 (by kernel_rfl) (by rfl) (by kernel_rfl) (by kernel_rfl) rfl rfl hc hz) (fun d => DR.set' hf hc d _ (fun e he => by simp at he; subst he; exact evR_write _ _ hf)) ?_
  walk_nrm
  repeat (first | refine Walk.cx ?_ | refine Walk.cR ?_ | (refine Walk.oq ?_; try walk_nrm) | (refine Walk.un ?_; walk_nrm))
  exact Walk.ret0 rfl rfl Try.func63 rfl fun d => ⟨rfl, d, rfl⟩
theorem atCas_hit (b q : Nat) (v x : Int) (w : World) (hc : w.cell? ⟨b, q, none⟩ = some (.int .i64 v)) (hz : w.frozen? ⟨b, q, none⟩ = false) (hf : Free V ⟨b, q, none⟩) : CallV Try.prog main V 105 #[.pointer (some ⟨b, q, none⟩), .int .i64 v, .int .i64 x] w (.bool true) (w.setCell ⟨b, q, none⟩ (.int .i64 x)) := by
  refine callW_in Try.func105 rfl fun fr cs => ?_
  simp only [Try.ntmps105, ez, Nat.reduceAdd, Nat.reduceSub]
  repeat (first | refine Walk.cx ?_ | refine Walk.cR ?_ | (refine Walk.oq ?_; try walk_nrm) | (refine Walk.un ?_; walk_nrm))
  refine Walk.turn (W := w.setCell ⟨b, q, none⟩ (.int .i64 x)) rfl (fun d => stepG_cas_hit (w := w.at d) rfl (by rfl) (by decide) rfl Try.func117 (by kernel_rfl) (by rfl) (by kernel_rfl) .i64 (by kernel_rfl) rfl rfl rfl hc hz) (fun d => DR.set' hf hc d _ (evR_rw hf)) ?_
  walk_nrm
  repeat (first | refine Walk.cx ?_ | refine Walk.cR ?_ | (refine Walk.oq ?_; try walk_nrm) | (refine Walk.un ?_; walk_nrm))
  exact Walk.ret1 rfl rfl Try.func105 rfl fun d => ⟨rfl, d, rfl⟩
theorem atCas_miss (b q : Nat) (v old x : Int) (w : World) (hc : w.cell? ⟨b, q, none⟩ = some (.int .i64 v)) (hz : w.frozen? ⟨b, q, none⟩ = false) (hne : ¬ v = old) : CallV Try.prog main V 105 #[.pointer (some ⟨b, q, none⟩), .int .i64 old, .int .i64 x] w (.bool false) w := by
  refine callW_in Try.func105 rfl fun fr cs => ?_
  simp only [Try.ntmps105, ez, Nat.reduceAdd, Nat.reduceSub]
  repeat (first | refine Walk.cx ?_ | refine Walk.cR ?_ | (refine Walk.oq ?_; try walk_nrm) | (refine Walk.un ?_; walk_nrm))
  refine Walk.evs (fun _ => #[⟨.cell ⟨b, q, none⟩, false, true⟩]) rfl (fun d => stepG_cas_miss (w := w.at d) rfl (by rfl) (by decide) rfl Try.func117 (by kernel_rfl) (by rfl) (by kernel_rfl) .i64 (by kernel_rfl) rfl rfl rfl hc hz hne) (fun d e he => by simp at he; subst he; exact evR_read _ _) ?_
  walk_nrm
  repeat (first | refine Walk.cx ?_ | refine Walk.cR ?_ | (refine Walk.oq ?_; try walk_nrm) | (refine Walk.un ?_; walk_nrm))
  exact Walk.ret1 rfl rfl Try.func105 rfl fun d => ⟨rfl, d, rfl⟩
end
structure Wd (L : La) where
  b : Nat
  q : Nat
  get : L.Sg → Int
  put : L.Sg → Int → L.Sg
  ok : Int → Prop
  sh : L.sh b
  rd : ∀ s w, L.I s w → w.cell? ⟨b, q, none⟩ = some (.int .i64 (get s)) ∧ w.frozen? ⟨b, q, none⟩ = false
  wr : ∀ s w v, ok v → L.I s w → L.I (put s v) (w.setCell ⟨b, q, none⟩ (.int .i64 v))
def Wd.p {L : La} (W : Wd L) : Value := .pointer (some ⟨W.b, W.q, none⟩)
noncomputable def reg66_0 := rg Try.f66.body [0]
noncomputable def reg66_1 := rg Try.f66.body [1, 0]
noncomputable def reg66_2 := rg Try.f66.body [1, 1, 0]
theorem z66 : List.range reg66_0.size = [0] ∧ List.range reg66_1.size = [0, 1] ∧ List.range reg66_2.size = [0, 1, 2, 3] := by refine ⟨?_, ?_, ?_⟩ <;> kernel_rfl
theorem code66_is : Try.f66.body = some (.seq (.region 0 reg66_0 false) (.seq (.region 1 reg66_1 false) (.seq (.region 2 reg66_2 false) (.ret)))) := by kernel_rfl
noncomputable def reg52_0 := rg Try.f52.body [0]
noncomputable def reg52_1 := rg Try.f52.body [1, 0, 0]
noncomputable def reg52_2 := rg Try.f52.body [1, 0, 1, 0, 0]
noncomputable def reg52_3 := rg Try.f52.body [1, 1, 0]
theorem z52 : List.range reg52_0.size = [0] ∧ List.range reg52_1.size = [0, 1] ∧ List.range reg52_2.size = [0] ∧ List.range reg52_3.size = [0, 1, 2, 3, 4, 5] := by refine ⟨?_, ?_, ?_, ?_⟩ <;> kernel_rfl
theorem code52_is : Try.f52.body = some (.seq (.region 0 reg52_0 false) (.seq (.seq (.region 1 reg52_1 false) (.cond (.tmp 6 ) (.seq (.region 2 reg52_2 false) (.ret)) (.skip))) (.seq (.region 3 reg52_3 false) (.ret)))) := by kernel_rfl
noncomputable def reg43_0 := rg Try.f43.body [0, 0]
noncomputable def reg43_1 := rg Try.f43.body [1, 0]
noncomputable def reg43_2 := rg Try.f43.body [1, 1]
theorem z43 : List.range reg43_0.size = [0, 1] ∧ List.range reg43_1.size = [0, 1] ∧ List.range reg43_2.size = [0, 1, 2, 3, 4] := by refine ⟨?_, ?_, ?_⟩ <;> kernel_rfl
theorem code43_is : Try.f43.body = some (.seq (.seq (.region 0 reg43_0 false) (.cond (.tmp 7 ) (.ret) (.skip))) (.seq (.region 1 reg43_1 false) (.region 2 reg43_2 false))) := by kernel_rfl
noncomputable def reg81_0 := rg Try.f81.body [0]
noncomputable def reg81_1 := rg Try.f81.body [1, 0, 0]
noncomputable def reg81_2 := rg Try.f81.body [1, 0, 1, 0, 0]
noncomputable def reg81_3 := rg Try.f81.body [1, 1, 0]
noncomputable def reg81_4 := rg Try.f81.body [1, 1, 1, 0]
theorem z81 : List.range reg81_0.size = [0] ∧ List.range reg81_1.size = [0, 1] ∧ List.range reg81_2.size = [0] ∧ List.range reg81_3.size = [0, 1] ∧ List.range reg81_4.size = [0, 1, 2, 3, 4, 5, 6] := by refine ⟨?_, ?_, ?_, ?_, ?_⟩ <;> kernel_rfl
theorem code81_is : Try.f81.body = some (.seq (.region 0 reg81_0 false) (.seq (.seq (.region 1 reg81_1 false) (.cond (.tmp 10 ) (.seq (.region 2 reg81_2 false) (.ret)) (.skip))) (.seq (.region 3 reg81_3 false) (.seq (.region 4 reg81_4 false) (.ret))))) := by kernel_rfl
section
variable {L : La} {sv : Value}
theorem step_s (K : Lg L sv) (e : K.E) (d : L.D) (ht : K.tgt e = (K.s e, .inr d)) : SCall K.toLb 62 #[sv] e (fun _ e' => Aft K.toLb e d e') := fun fr l hp hl hk => K.step e d ht fr l hp hl fun e' ha => hk _ e' ha
theorem plain_cons {fr : Frame} {l : List Frame} (hp : Plain fr) (hl : ∀ f ∈ l, Plain f) : ∀ f ∈ fr :: l, Plain f := fun x hx => by
  rcases List.mem_cons.1 hx with rfl | hx
  · exact hp
  · exact hl x hx
theorem Wd.put_mv (W : Wd L) (K : Lg L sv) (e : K.E) (v : Int) (hv : W.ok v) : ∃ e', Mv K.toLb e e' (W.put (K.s e) v) ((K.w e).setCell ⟨W.b, W.q, none⟩ (.int .i64 v)) :=
  K.mv e _ _ (Nat.le_of_eq (size_set ..).symm) (fun b _ _ hs => heap_set_other _ _ _ _ fun he : b = W.b => hs (by rw [he]; exact W.sh)) (W.wr _ _ v hv (K.inv e))
theorem holds_s (K : Lg L sv) (W : Wd L) (e : K.E) (d : L.D) (ht : K.tgt e = (K.s e, .inr d)) : SCall K.toLb 66 #[sv, W.p] e (fun v e' => Aft K.toLb e d e' ∧ v = .int .i64 (W.get (K.s e'))) := by
  intro fr l hp hl hk
  unfold LW Wd.p
  rw [enter_at _ Try.func66 code66_is]
  simp only [Try.ntmps66, ez, Nat.reduceAdd, Nat.reduceSub]
  repeat (first | refine Walk.cx ?_ | (refine Walk.cReg ?_; simp only [z66]) | (refine Walk.oq ?_; try walk_nrm) | (refine Walk.un ?_; walk_nrm))
  refine LW.callS (K := K.toLb) (e := e) (l := fr :: l) (f := 62) (Q := fun _ e' => Aft K.toLb e d e') ?_ (ho_of (by conv => lhs; whnf) (by kernel_rfl)) (by rfl) (by decide) rfl Try.func62 (by kernel_rfl) (by rfl) ⟨rfl, rfl, _, Try.func66⟩ (plain_cons hp hl) ?_
  · walk_nrm
    exact step_s K e d ht
  intro v e' ha
  have hc := (W.rd _ _ (K.inv e')).1
  have hi1 := run_ifaceAtomic
  have hi2 := ev_ifaceAtomic
  unfold LW
  walk_nrm
  repeat (first | refine Walk.cx ?_ | (refine Walk.cReg ?_; simp only [z66]) | (refine Walk.oq ?_; try walk_nrm) | (refine Walk.un ?_; walk_nrm))
  refine Walk.invokeLoad W.b W.q (ho_of (by conv => lhs; whnf) (by kernel_rfl)) (by rfl) (by decide) rfl rfl ?_
  refine (atLoad W.b W.q _ (K.w e') hc _ _).then ?_
  rintro g' w' ⟨v', ⟨rfl, dd, rfl⟩, rfl⟩
  refine Walk.back ?_ dd
  refine Walk.finish (ho_of (by conv => lhs; whnf) (by kernel_rfl)) ?_
  walk_nrm
  repeat (first | refine Walk.cx ?_ | (refine Walk.cReg ?_; simp only [z66]) | (refine Walk.oq ?_; try walk_nrm) | (refine Walk.un ?_; walk_nrm))
  exact Walk.on1 rfl rfl Try.func66 rfl (hk _ e' ⟨ha, rfl⟩)
theorem word_load (K : Lg L sv) (W : Wd L) (e : K.E) (d : L.D) (ht : K.tgt e = (K.s e, .inr d)) : SCall K.toLb 52 #[W.p, sv] e (fun v e' => Aft K.toLb e d e' ∧ v = .int .i64 (W.get (K.s e'))) := by
  intro fr l hp hl hk
  have hh := holds_s K W e d ht
  unfold Wd.p at *
  unfold LW
  have hp1 := fun w => run_eql_ptr (P := Try.prog) 125 undWord (some ⟨W.b, W.q, none⟩) w
  have hp2 := fun w es => ev_eql_ptr (P := Try.prog) 125 undWord (some ⟨W.b, W.q, none⟩) w es
  simp only [Option.isNone_some] at hp1
  rw [enter_at _ Try.func52 code52_is]
  simp only [Try.ntmps52, ez, Nat.reduceAdd, Nat.reduceSub]
  repeat (first | refine Walk.cx ?_ | (refine Walk.cReg ?_; simp only [z52]) | (refine Walk.oq ?_; try walk_nrm) | (refine Walk.un ?_; walk_nrm))
  refine LW.callS (K := K.toLb) (e := e) (l := fr :: l) (f := 66) (Q := fun v e' => Aft K.toLb e d e' ∧ v = .int .i64 (W.get (K.s e'))) ?_ (ho_of (by conv => lhs; whnf) (by kernel_rfl)) (by rfl) (by decide) rfl Try.func66 (by kernel_rfl) (by rfl) ⟨rfl, rfl, _, Try.func52⟩ (plain_cons hp hl) ?_
  · walk_nrm
    exact hh
  rintro v e' ⟨ha, rfl⟩
  unfold LW
  walk_nrm
  repeat (first | refine Walk.cx ?_ | (refine Walk.cReg ?_; simp only [z52]) | (refine Walk.oq ?_; try walk_nrm) | (refine Walk.un ?_; walk_nrm))
  exact Walk.on1 rfl rfl Try.func52 rfl (hk _ e' ⟨ha, rfl⟩)
structure Wrote (K : Lg L sv) (e : K.E) (d : L.D) (s : L.Sg) (s' : L.Sg) (e' : K.E) : Prop where
  tgt : K.tgt e' = L.act s d
  fuel : K.fuel e' < K.fuel e
  s : K.s e' = s'
  size : (K.w e).heap.size ≤ (K.w e').heap.size
  mine : ∀ b, K.mine e b → K.mine e' b ∧ (K.w e').heap[b]? = (K.w e).heap[b]?
theorem Wrote.of {K : Lg L sv} {e e1 e' : K.E} {d : L.D} {s' : L.Sg} {W : Wd L} {v : Int} (ha : Aft K.toLb e d e1) (m : Mv K.toLb e1 e' s' ((K.w e1).setCell ⟨W.b, W.q, none⟩ (.int .i64 v))) : Wrote K e d (K.s e1) s' e' :=
  ⟨m.tgt.trans ha.tgt, by rw [m.fuel]; exact ha.fuel, m.s, by rw [m.w, size_set]; exact ha.size, fun b hb => by
    obtain ⟨h1, h2⟩ := ha.mine b hb
    have hne : b ≠ W.b := fun he => (K.mineA e1 b h1).2.1 (by rw [he]; exact W.sh)
    refine ⟨(m.mine b).2 (.inl h1), ?_⟩
    rw [m.w, heap_set_other _ _ _ _ hne]
    exact h2⟩
theorem Wrote.same {K : Lg L sv} {e e1 : K.E} {d : L.D} (ha : Aft K.toLb e d e1) : Wrote K e d (K.s e1) (K.s e1) e1 := ⟨ha.tgt, ha.fuel, rfl, ha.size, ha.mine⟩
theorem word_store (K : Lg L sv) (W : Wd L) (e : K.E) (d : L.D) (x : Int) (hx : W.ok x) (ht : K.tgt e = (K.s e, .inr d)) : SCall K.toLb 43 #[W.p, sv, .int .i64 x] e (fun _ e' => ∃ s, Wrote K e d s (W.put s x) e') := by
  intro fr l hp hl hk
  unfold Wd.p
  unfold LW
  have hp1 := fun w => run_eql_ptr (P := Try.prog) 125 undWord (some ⟨W.b, W.q, none⟩) w
  have hp2 := fun w es => ev_eql_ptr (P := Try.prog) 125 undWord (some ⟨W.b, W.q, none⟩) w es
  simp only [Option.isNone_some] at hp1
  rw [enter_at _ Try.func43 code43_is]
  simp only [Try.ntmps43, ez, Nat.reduceAdd, Nat.reduceSub]
  repeat (first | refine Walk.cx ?_ | (refine Walk.cReg ?_; simp only [z43]) | (refine Walk.oq ?_; try walk_nrm) | (refine Walk.un ?_; walk_nrm))
  refine LW.callS (K := K.toLb) (e := e) (l := fr :: l) (f := 62) (Q := fun _ e' => Aft K.toLb e d e') ?_ (ho_of (by conv => lhs; whnf) (by kernel_rfl)) (by rfl) (by decide) rfl Try.func62 (by kernel_rfl) (by rfl) ⟨rfl, rfl, _, Try.func43⟩ (plain_cons hp hl) ?_
  · walk_nrm
    exact step_s K e d ht
  intro v e1 ha
  obtain ⟨hc, hz⟩ := W.rd _ _ (K.inv e1)
  obtain ⟨e', m⟩ := W.put_mv K e1 x hx
  unfold LW
  walk_nrm
  repeat (first | refine Walk.cx ?_ | (refine Walk.cReg ?_; simp only [z43]) | (refine Walk.oq ?_; try walk_nrm) | (refine Walk.un ?_; walk_nrm))
  refine Walk.callV (x := .tuple #[]) (W := (K.w e1).setCell ⟨W.b, W.q, none⟩ (.int .i64 x)) ?_ (ho_of (by conv => lhs; whnf) (by kernel_rfl)) (by rfl) (by decide) rfl Try.func63 (by kernel_rfl) (by rfl) ?_
  · walk_nrm
    exact atStore W.b W.q _ x (K.w e1) hc hz ((K.shA e1 _ W.sh).1 _ rfl)
  walk_nrm
  repeat (first | refine Walk.cx ?_ | (refine Walk.cReg ?_; simp only [z43]) | (refine Walk.oq ?_; try walk_nrm) | (refine Walk.un ?_; walk_nrm))
  exact Walk.on0 rfl rfl Try.func43 rfl (LW.to m (hk _ e' ⟨K.s e1, Wrote.of ha m⟩))
theorem word_cas (K : Lg L sv) (W : Wd L) (e : K.E) (d : L.D) (old x : Int) (hx : W.ok x) (ht : K.tgt e = (K.s e, .inr d)) : SCall K.toLb 81 #[W.p, sv, .int .i64 old, .int .i64 x] e (fun v e' => ∃ s, (W.get s = old ∧ v = .bool true ∧ Wrote K e d s (W.put s x) e') ∨ (W.get s ≠ old ∧ v = .bool false ∧ Wrote K e d s s e')) := by
  intro fr l hp hl hk
  unfold Wd.p
  unfold LW
  have hp1 := fun w => run_eql_ptr (P := Try.prog) 125 undWord (some ⟨W.b, W.q, none⟩) w
  have hp2 := fun w es => ev_eql_ptr (P := Try.prog) 125 undWord (some ⟨W.b, W.q, none⟩) w es
  simp only [Option.isNone_some] at hp1
  rw [enter_at _ Try.func81 code81_is]
  simp only [Try.ntmps81, ez, Nat.reduceAdd, Nat.reduceSub]
  repeat (first | refine Walk.cx ?_ | (refine Walk.cReg ?_; simp only [z81]) | (refine Walk.oq ?_; try walk_nrm) | (refine Walk.un ?_; walk_nrm))
  refine LW.callS (K := K.toLb) (e := e) (l := fr :: l) (f := 62) (Q := fun _ e' => Aft K.toLb e d e') ?_ (ho_of (by conv => lhs; whnf) (by kernel_rfl)) (by rfl) (by decide) rfl Try.func62 (by kernel_rfl) (by rfl) ⟨rfl, rfl, _, Try.func81⟩ (plain_cons hp hl) ?_
  · walk_nrm
    exact step_s K e d ht
  intro v e1 ha
  obtain ⟨hc, hz⟩ := W.rd _ _ (K.inv e1)
  unfold LW
  walk_nrm
  repeat (first | refine Walk.cx ?_ | (refine Walk.cReg ?_; simp only [z81]) | (refine Walk.oq ?_; try walk_nrm) | (refine Walk.un ?_; walk_nrm))
  by_cases hv : W.get (K.s e1) = old
  · obtain ⟨e', m⟩ := W.put_mv K e1 x hx
    refine Walk.callV (x := .bool true) (W := (K.w e1).setCell ⟨W.b, W.q, none⟩ (.int .i64 x)) ?_ (ho_of (by conv => lhs; whnf) (by kernel_rfl)) (by rfl) (by decide) rfl Try.func105 (by kernel_rfl) (by rfl) ?_
    · walk_nrm
      rw [hv] at hc
      exact atCas_hit W.b W.q old x (K.w e1) hc hz ((K.shA e1 _ W.sh).1 _ rfl)
    walk_nrm
    repeat (first | refine Walk.cx ?_ | (refine Walk.cReg ?_; simp only [z81]) | (refine Walk.oq ?_; try walk_nrm) | (refine Walk.un ?_; walk_nrm))
    exact Walk.on1 rfl rfl Try.func81 rfl (LW.to m (hk _ e' ⟨K.s e1, .inl ⟨hv, rfl, Wrote.of ha m⟩⟩))
  · refine Walk.callV (x := .bool false) (W := K.w e1) ?_ (ho_of (by conv => lhs; whnf) (by kernel_rfl)) (by rfl) (by decide) rfl Try.func105 (by kernel_rfl) (by rfl) ?_
    · walk_nrm
      exact atCas_miss W.b W.q _ old x (K.w e1) hc hz hv
    walk_nrm
    repeat (first | refine Walk.cx ?_ | (refine Walk.cReg ?_; simp only [z81]) | (refine Walk.oq ?_; try walk_nrm) | (refine Walk.un ?_; walk_nrm))
    exact Walk.on1 rfl rfl Try.func81 rfl (hk _ e1 ⟨K.s e1, .inr ⟨hv, rfl, Wrote.same ha⟩⟩)
end
end
section
def nodeX (x : Int) : Int := IntKind.i64.wrap (bits BinOp.and IntKind.i64 x 4294967295 - 1)
def tagX (x : Int) : Int := x / 4294967296
def heldX (n t : Int) : Int := IntKind.i64.wrap (IntKind.i64.wrap (IntKind.i64.wrap (t * 4294967296) + n) + 1)
def turnTag (tg : Bool) (x : Int) : Int := if tg then bits BinOp.and IntKind.i64 (IntKind.i64.wrap (tagX x + 1)) 2147483647 else 0
theorem wraps_i64_63 (n : Int) (h₀ : 0 ≤ n) (h₁ : n < 2 ^ 63) : IntKind.i64.wrap n = n := by rw [IntKind.wrap_i64]; omega
theorem mask32 (x : Int) (h0 : 0 ≤ x) (h1 : x < 9223372036854775808) : bits BinOp.and IntKind.i64 x 4294967295 = x % 4294967296 := by
  have h := bits_mask .i64 63 (by decide) wraps_i64_63 32 (by decide) x h0 (by omega)
  have e : ((2 : Int) ^ 32 - 1) = 4294967296 - 1 := by decide
  have e2 : ((2 : Int) ^ 32) = 4294967296 := by decide
  rw [e, e2] at h
  exact h
theorem mask31 (x : Int) (h0 : 0 ≤ x) (h1 : x < 9223372036854775808) : bits BinOp.and IntKind.i64 x 2147483647 = x % 2147483648 := by
  have h := bits_mask .i64 63 (by decide) wraps_i64_63 31 (by decide) x h0 (by omega)
  have e : ((2 : Int) ^ 31 - 1) = 2147483648 - 1 := by decide
  have e2 : ((2 : Int) ^ 31) = 2147483648 := by decide
  rw [e, e2] at h
  exact h
structure OkH (n : Nat) (x : Int) : Prop where
  lo : 0 ≤ x
  hi : x < 9223372036854775808
  nlo : -1 ≤ nodeX x
  nhi : nodeX x < n
theorem nodeX_of (x : Int) (h0 : 0 ≤ x) (h1 : x < 9223372036854775808) : nodeX x = x % 4294967296 - 1 := by
  unfold nodeX
  rw [mask32 x h0 h1, IntKind.wrap_i64]
  omega
theorem turnTag_lt (tg : Bool) (x : Int) (h0 : 0 ≤ x) (h1 : x < 9223372036854775808) : 0 ≤ turnTag tg x ∧ turnTag tg x < 2147483648 := by
  unfold turnTag
  split
  · have hw : IntKind.i64.wrap (tagX x + 1) = tagX x + 1 := by rw [IntKind.wrap_i64]; unfold tagX; omega
    rw [hw, mask31 _ (by unfold tagX; omega) (by unfold tagX; omega)]
    omega
  · omega
theorem heldX_of (a t : Int) (ha : -1 ≤ a) (ha2 : a < 65536) (ht : 0 ≤ t) (ht2 : t < 2147483648) : heldX a t = t * 4294967296 + a + 1 := by
  unfold heldX
  simp only [IntKind.wrap_i64]
  omega
theorem OkH.turn {n : Nat} {x a : Int} (h : OkH n x) (tg : Bool) (ha : -1 ≤ a) (ha2 : a < n) (hn : n ≤ 65536) : OkH n (heldX a (turnTag tg x)) ∧ nodeX (heldX a (turnTag tg x)) = a := by
  obtain ⟨t1, t2⟩ := turnTag_lt tg x h.lo h.hi
  have e := heldX_of a _ ha (by omega) t1 t2
  have h1 : 0 ≤ heldX a (turnTag tg x) := by rw [e]; omega
  have h2 : heldX a (turnTag tg x) < 9223372036854775808 := by rw [e]; omega
  have e2 : nodeX (heldX a (turnTag tg x)) = a := by rw [nodeX_of _ h1 h2, e]; omega
  exact ⟨⟨h1, h2, by omega, by omega⟩, e2⟩
section
variable {main : Bool} {V : Nat → Option Wait}
noncomputable def reg46_0 := rg Try.f46.body [0]
noncomputable def reg46_1 := rg Try.f46.body [1, 0]
theorem z46 : List.range reg46_0.size = [0] ∧ List.range reg46_1.size = [0, 1, 2, 3] := by refine ⟨?_, ?_⟩ <;> kernel_rfl
theorem code46_is : Try.f46.body = some (.seq (.region 0 reg46_0 false) (.seq (.region 1 reg46_1 false) (.ret))) := by kernel_rfl
noncomputable def reg47_0 := rg Try.f47.body [0]
noncomputable def reg47_1 := rg Try.f47.body [1, 0]
theorem z47 : List.range reg47_0.size = [0] ∧ List.range reg47_1.size = [0, 1, 2] := by refine ⟨?_, ?_⟩ <;> kernel_rfl
theorem code47_is : Try.f47.body = some (.seq (.region 0 reg47_0 false) (.seq (.region 1 reg47_1 false) (.ret))) := by kernel_rfl
noncomputable def reg44_0 := rg Try.f44.body [0]
noncomputable def reg44_1 := rg Try.f44.body [1, 0]
theorem z44 : List.range reg44_0.size = [0] ∧ List.range reg44_1.size = [0, 1, 2, 3, 4, 5] := by refine ⟨?_, ?_⟩ <;> kernel_rfl
theorem code44_is : Try.f44.body = some (.seq (.region 0 reg44_0 false) (.seq (.region 1 reg44_1 false) (.ret))) := by kernel_rfl
noncomputable def reg54_0 := rg Try.f54.body [0]
noncomputable def reg54_1 := rg Try.f54.body [1, 0]
theorem z54 : List.range reg54_0.size = [0] ∧ List.range reg54_1.size = [0, 1, 2, 3] := by refine ⟨?_, ?_⟩ <;> kernel_rfl
theorem code54_is : Try.f54.body = some (.seq (.region 0 reg54_0 false) (.seq (.region 1 reg54_1 false) (.ret))) := by kernel_rfl
theorem node_w (x : Int) (w : World) : CallV Try.prog main V 46 #[.int .i64 x] w (.int .i64 (nodeX x)) w := by
  refine callW_in Try.func46 code46_is fun fr cs => ?_
  simp only [Try.ntmps46, ez, Nat.reduceAdd, Nat.reduceSub]
  repeat (first | refine Walk.cx ?_ | (refine Walk.cReg ?_; simp only [z46]) | (refine Walk.oq ?_; try walk_nrm) | (refine Walk.un ?_; walk_nrm))
  exact Walk.ret1 rfl rfl Try.func46 rfl fun d => ⟨rfl, d, rfl⟩
theorem tag_w (x : Int) (w : World) : CallV Try.prog main V 47 #[.int .i64 x] w (.int .i64 (tagX x)) w := by
  refine callW_in Try.func47 code47_is fun fr cs => ?_
  simp only [Try.ntmps47, ez, Nat.reduceAdd, Nat.reduceSub]
  repeat (first | refine Walk.cx ?_ | (refine Walk.cReg ?_; simp only [z47]) | (refine Walk.oq ?_; try walk_nrm) | (refine Walk.un ?_; walk_nrm))
  exact Walk.ret1 rfl rfl Try.func47 rfl fun d => ⟨rfl, d, rfl⟩
theorem newHeld_w (n t : Int) (w : World) : CallV Try.prog main V 44 #[.int .i64 n, .int .i64 t] w (.int .i64 (heldX n t)) w := by
  refine callW_in Try.func44 code44_is fun fr cs => ?_
  simp only [Try.ntmps44, ez, Nat.reduceAdd, Nat.reduceSub]
  repeat (first | refine Walk.cx ?_ | (refine Walk.cReg ?_; simp only [z44]) | (refine Walk.oq ?_; try walk_nrm) | (refine Walk.un ?_; walk_nrm))
  exact Walk.ret1 rfl rfl Try.func44 rfl fun d => ⟨rfl, d, rfl⟩
theorem empty_w (x : Int) (w : World) : CallV Try.prog main V 54 #[.int .i64 x] w (.bool (nodeX x == -1)) w := by
  refine callW_in Try.func54 code54_is fun fr cs => ?_
  simp only [Try.ntmps54, ez, Nat.reduceAdd, Nat.reduceSub]
  repeat (first | refine Walk.cx ?_ | (refine Walk.cReg ?_; simp only [z54]) | (refine Walk.oq ?_; try walk_nrm) | (refine Walk.un ?_; walk_nrm))
  refine Walk.callV (x := .int .i64 (nodeX x)) (W := w) ?_ (ho_of (by conv => lhs; whnf) (by kernel_rfl)) (by rfl) (by decide) rfl Try.func46 (by kernel_rfl) (by rfl) ?_
  · walk_nrm
    exact node_w x w
  walk_nrm
  repeat (first | refine Walk.cx ?_ | (refine Walk.cReg ?_; simp only [z54]) | (refine Walk.oq ?_; try walk_nrm) | (refine Walk.un ?_; walk_nrm))
  exact Walk.ret1 rfl rfl Try.func54 rfl fun d => ⟨rfl, d, rfl⟩
end
end
section
structure Sk where
  hd : Int
  fr : Int
  nx : Nat → Int
  vl : Nat → Int
inductive SD where
  | pu1 (v : Int) | pu2 (v top : Int) | pu3 (v top nx : Int) | pu4 (v i : Int) | pu5 (i : Int) | pu6 (i top : Int) | pu7 (i top : Int)
  | po1 | po2 (top : Int) | po3 (top nx : Int) | po4 (i : Int) | po5 (i v : Int) | po6 (i v top : Int) | po7 (i v top : Int)
  | pe1 | pe2 (top : Int) | pe3 (top v : Int)
  | em1
def skEnter (s : Sk) (o : OpV) : Sk × (Ans ⊕ SD) :=
  if o.k = 1 then (s, .inr (.pu1 o.a)) else if o.k = 2 then (s, .inr .po1) else if o.k = 3 then (s, .inr .pe1) else if o.k = 4 then (s, .inr .em1) else (s, .inl (false, 0))
def skAct (tg : Bool) (s : Sk) : SD → Sk × (Ans ⊕ SD)
  | .pu1 v => if nodeX s.fr = -1 then (s, .inl (false, 0)) else (s, .inr (.pu2 v s.fr))
  | .pu2 v top => (s, .inr (.pu3 v top (s.nx (nodeX top).toNat)))
  | .pu3 v top nx => if s.fr = top then ({ s with fr := heldX nx (turnTag tg top) }, .inr (.pu4 v (nodeX top))) else (s, .inr (.pu1 v))
  | .pu4 v i => ({ s with vl := upd s.vl i.toNat v }, .inr (.pu5 i))
  | .pu5 i => (s, .inr (.pu6 i s.hd))
  | .pu6 i top => ({ s with nx := upd s.nx i.toNat (nodeX top) }, .inr (.pu7 i top))
  | .pu7 i top => if s.hd = top then ({ s with hd := heldX i (turnTag tg top) }, .inl (true, 0)) else (s, .inr (.pu5 i))
  | .po1 => if nodeX s.hd = -1 then (s, .inl (false, 0)) else (s, .inr (.po2 s.hd))
  | .po2 top => (s, .inr (.po3 top (s.nx (nodeX top).toNat)))
  | .po3 top nx => if s.hd = top then ({ s with hd := heldX nx (turnTag tg top) }, .inr (.po4 (nodeX top))) else (s, .inr .po1)
  | .po4 i => (s, .inr (.po5 i (s.vl i.toNat)))
  | .po5 i v => (s, .inr (.po6 i v s.fr))
  | .po6 i v top => ({ s with nx := upd s.nx i.toNat (nodeX top) }, .inr (.po7 i v top))
  | .po7 i v top => if s.fr = top then ({ s with fr := heldX i (turnTag tg top) }, .inl (true, v)) else (s, .inr (.po5 i v))
  | .pe1 => if nodeX s.hd = -1 then (s, .inl (false, 0)) else (s, .inr (.pe2 s.hd))
  | .pe2 top => (s, .inr (.pe3 top (s.vl (nodeX top).toNat)))
  | .pe3 top v => if s.hd = top then (s, .inl (true, v)) else if nodeX s.hd = -1 then (s, .inl (false, 0)) else (s, .inr (.pe2 s.hd))
  | .em1 => (s, .inl (nodeX s.hd == -1, 0))
structure SkI (kb nb n : Nat) (tg : Bool) (s : Sk) (w : World) : Prop where
  k : w.heap[kb]? = some (.cells #[.bool tg, .int .i64 s.hd, .bool tg, .int .i64 s.fr, .slice (some ⟨nb, 0, none⟩) n n] 70)
  nd : ∃ arr : Array Value, w.heap[nb]? = some (.cells arr 95) ∧ ∀ i, i < n → arr[i * 2]? = some (.int .i64 (s.nx i)) ∧ arr[i * 2 + 1]? = some (.int .i64 (s.vl i))
  hd : OkH n s.hd
  fr : OkH n s.fr
  nx : ∀ i, i < n → -1 ≤ s.nx i ∧ s.nx i < n
def skLa (kb nb n : Nat) (tg : Bool) : La where
  Sg := Sk
  D := SD
  enter := skEnter
  act := skAct tg
  sh := fun b => b = kb ∨ b = nb
  I := SkI kb nb n tg
  stable := fun {s w w'} h hb => ⟨(hb kb (.inl rfl)).trans h.k, by
    obtain ⟨arr, h1, h2⟩ := h.nd
    exact ⟨arr, (hb nb (.inr rfl)).trans h1, h2⟩, h.hd, h.fr, h.nx⟩
  lt := fun {s w b} h hb => by
    rcases hb with rfl | rfl
    · exact (Array.getElem?_eq_some_iff.1 h.k).1
    · obtain ⟨arr, h1, _⟩ := h.nd
      exact (Array.getElem?_eq_some_iff.1 h1).1
section
variable {kb nb n : Nat} {tg : Bool}
def hdW (hne : kb ≠ nb) : Wd (skLa kb nb n tg) where
  b := kb
  q := 1
  get := Sk.hd
  put := fun s v => { s with hd := v }
  ok := OkH n
  sh := .inl rfl
  rd := fun s w h => ⟨(cell_of h.k 1).trans rfl, frozen_of h.k 1⟩
  wr := fun s w v hv h => ⟨by rw [heap_set_self _ _ h.k]; simp, by
    obtain ⟨arr, h1, h2⟩ := h.nd
    exact ⟨arr, (heap_set_other _ _ _ _ (Ne.symm hne)).trans h1, h2⟩, hv, h.fr, h.nx⟩
def frW (hne : kb ≠ nb) : Wd (skLa kb nb n tg) where
  b := kb
  q := 3
  get := Sk.fr
  put := fun s v => { s with fr := v }
  ok := OkH n
  sh := .inl rfl
  rd := fun s w h => ⟨(cell_of h.k 3).trans rfl, frozen_of h.k 3⟩
  wr := fun s w v hv h => ⟨by rw [heap_set_self _ _ h.k]; simp, by
    obtain ⟨arr, h1, h2⟩ := h.nd
    exact ⟨arr, (heap_set_other _ _ _ _ (Ne.symm hne)).trans h1, h2⟩, h.hd, hv, h.nx⟩
def nxW (hne : kb ≠ nb) (i : Nat) (hi : i < n) : Wd (skLa kb nb n tg) where
  b := nb
  q := i * 2
  get := fun s => s.nx i
  put := fun s v => { s with nx := upd s.nx i v }
  ok := fun v => -1 ≤ v ∧ v < n
  sh := .inr rfl
  rd := fun s w h => by
    obtain ⟨arr, h1, h2⟩ := h.nd
    exact ⟨(cell_of h1 _).trans (h2 i hi).1, frozen_of h1 _⟩
  wr := fun s w v hv h => ⟨(heap_set_other _ _ _ _ hne).trans h.k, by
    obtain ⟨arr, h1, h2⟩ := h.nd
    refine ⟨_, heap_set_self _ _ h1, fun j hj => ?_⟩
    have hl := (Array.getElem?_eq_some_iff.1 (h2 i hi).1).1
    by_cases e : j = i
    · subst e
      exact ⟨by rw [Array.getElem?_setIfInBounds_self_of_lt hl]; simp only [upd_same], by rw [Array.getElem?_setIfInBounds_ne (by omega)]; exact (h2 j hj).2⟩
    · exact ⟨by rw [Array.getElem?_setIfInBounds_ne (by omega)]; simp only [upd_ne _ _ e]; exact (h2 j hj).1, by rw [Array.getElem?_setIfInBounds_ne (by omega)]; exact (h2 j hj).2⟩, h.hd, h.fr, fun j hj => by
    by_cases e : j = i
    · subst e; simp only [upd_same]; exact hv
    · simp only [upd_ne _ _ e]; exact h.nx j hj⟩
def vlW (hne : kb ≠ nb) (i : Nat) (hi : i < n) : Wd (skLa kb nb n tg) where
  b := nb
  q := i * 2 + 1
  get := fun s => s.vl i
  put := fun s v => { s with vl := upd s.vl i v }
  ok := fun _ => True
  sh := .inr rfl
  rd := fun s w h => by
    obtain ⟨arr, h1, h2⟩ := h.nd
    exact ⟨(cell_of h1 _).trans (h2 i hi).2, frozen_of h1 _⟩
  wr := fun s w v hv h => ⟨(heap_set_other _ _ _ _ hne).trans h.k, by
    obtain ⟨arr, h1, h2⟩ := h.nd
    refine ⟨_, heap_set_self _ _ h1, fun j hj => ?_⟩
    have hl := (Array.getElem?_eq_some_iff.1 (h2 i hi).2).1
    by_cases e : j = i
    · subst e
      exact ⟨by rw [Array.getElem?_setIfInBounds_ne (by omega)]; exact (h2 j hj).1, by rw [Array.getElem?_setIfInBounds_self_of_lt hl]; simp only [upd_same]⟩
    · exact ⟨by rw [Array.getElem?_setIfInBounds_ne (by omega)]; exact (h2 j hj).1, by rw [Array.getElem?_setIfInBounds_ne (by omega)]; simp only [upd_ne _ _ e]; exact (h2 j hj).2⟩, h.hd, h.fr, h.nx⟩
structure Hd (kb nb n : Nat) (tg : Bool) where
  W : Wd (skLa kb nb n tg)
  h : Nat
  hb : W.b = kb
  hq : W.q = h + 1
  tag : ∀ s w, SkI kb nb n tg s w → w.cell? ⟨kb, h, none⟩ = some (.bool tg)
  okg : ∀ s w, SkI kb nb n tg s w → OkH n (W.get s)
  okw : ∀ x, OkH n x → W.ok x
def hdH (hne : kb ≠ nb) : Hd kb nb n tg := ⟨hdW hne, 0, rfl, rfl, fun s w h => (cell_of h.k 0).trans rfl, fun s w h => h.hd, fun _ h => h⟩
def frH (hne : kb ≠ nb) : Hd kb nb n tg := ⟨frW hne, 2, rfl, rfl, fun s w h => (cell_of h.k 2).trans rfl, fun s w h => h.fr, fun _ h => h⟩
theorem sk_nodes {s : Sk} {w : World} (h : SkI kb nb n tg s w) : w.cell? ⟨kb, 4, none⟩ = some (.slice (some ⟨nb, 0, none⟩) n n) := (cell_of h.k 4).trans rfl
def Hd.p (H : Hd kb nb n tg) : Value := .pointer (some ⟨kb, H.h, none⟩)
variable {sv : Value}
noncomputable def reg45_0 := rg Try.f45.body [0]
noncomputable def reg45_1 := rg Try.f45.body [1, 0]
theorem z45 : List.range reg45_0.size = [0] ∧ List.range reg45_1.size = [0, 1, 2, 3, 4, 5] := by refine ⟨?_, ?_⟩ <;> kernel_rfl
theorem code45_is : Try.f45.body = some (.seq (.region 0 reg45_0 false) (.seq (.region 1 reg45_1 false) (.ret))) := by kernel_rfl
noncomputable def reg65_0 := rg Try.f65.body [0]
noncomputable def reg65_1 := rg Try.f65.body [1, 0]
noncomputable def reg65_2 := rg Try.f65.body [1, 1, 0, 0]
noncomputable def reg65_3 := rg Try.f65.body [1, 1, 0, 1, 0]
noncomputable def reg65_4 := rg Try.f65.body [1, 1, 1, 0]
theorem size65_4 : reg65_4.size = 10 := by kernel_rfl
theorem z65 : List.range reg65_0.size = [0] ∧ List.range reg65_1.size = [0] ∧ List.range reg65_2.size = [0, 1, 2, 3] ∧ List.range reg65_3.size = [0, 1, 2, 3, 4] ∧ List.range reg65_4.size = [0, 1, 2, 3, 4, 5, 6, 7, 8, 9] := by refine ⟨?_, ?_, ?_, ?_, ?_⟩ <;> kernel_rfl
theorem code65_is : Try.f65.body = some (.seq (.region 0 reg65_0 false) (.seq (.region 1 reg65_1 false) (.seq (.seq (.region 2 reg65_2 false) (.cond (.tmp 13 ) (.region 3 reg65_3 false) (.skip))) (.seq (.region 4 reg65_4 true) (.ret))))) := by kernel_rfl
theorem hload_s (K : Lg (skLa kb nb n tg) sv) (H : Hd kb nb n tg) (e : K.E) (d : SD) (ht : K.tgt e = (K.s e, .inr d)) : SCall K.toLb 45 #[H.p, sv] e (fun v e' => Aft K.toLb e d e' ∧ v = .int .i64 (H.W.get (K.s e'))) := by
  intro fr l hp hl hk
  have hh := word_load K H.W e d ht
  unfold Wd.p at hh
  rw [H.hb, H.hq] at hh
  unfold Hd.p
  unfold LW
  rw [enter_at _ Try.func45 code45_is]
  simp only [Try.ntmps45, ez, Nat.reduceAdd, Nat.reduceSub]
  repeat (first | refine Walk.cx ?_ | (refine Walk.cReg ?_; simp only [z45]) | (refine Walk.oq ?_; try walk_nrm) | (refine Walk.un ?_; walk_nrm))
  refine LW.callS (K := K.toLb) (e := e) (l := fr :: l) (f := 52) (Q := fun v e' => Aft K.toLb e d e' ∧ v = .int .i64 (H.W.get (K.s e'))) ?_ (ho_of (by conv => lhs; whnf) (by kernel_rfl)) (by rfl) (by decide) rfl Try.func52 (by kernel_rfl) (by rfl) ⟨rfl, rfl, _, Try.func45⟩ (plain_cons hp hl) ?_
  · walk_nrm
    exact hh
  rintro v e' ⟨ha, rfl⟩
  unfold LW
  walk_nrm
  repeat (first | refine Walk.cx ?_ | (refine Walk.cReg ?_; simp only [z45]) | (refine Walk.oq ?_; try walk_nrm) | (refine Walk.un ?_; walk_nrm))
  exact Walk.on1 rfl rfl Try.func45 rfl (hk _ e' ⟨ha, rfl⟩)
end
end
section
def runN (L : La) : Nat → L.Sg × (Ans ⊕ L.D) → Option (L.Sg × Ans)
  | _, (s, .inl a) => some (s, a)
  | 0, (_, .inr _) => none
  | n + 1, (s, .inr d) => runN L n (L.act s d)
theorem runN_inl (L : La) (n : Nat) (s : L.Sg) (a : Ans) : runN L n (s, .inl a) = some (s, a) := by cases n <;> rfl
theorem undStepperN : ∃ ms, Try.prog.underlying 100 = some (.interface ms) := by
  have h : (match Try.prog.underlying 100 with | some (.interface _) => true | _ => false) = true := by kernel_rfl
  revert h
  cases Try.prog.underlying 100 with
  | none => simp
  | some d =>
    cases d with
    | interface fs => exact fun _ => ⟨fs, rfl⟩
    | _ => simp
structure NilE (L : La) (base : World) (R : L.Sg × Ans) where
  w : World
  s : L.Sg
  tgt : L.Sg × (Ans ⊕ L.D)
  fuel : Nat
  inv : L.I s w
  size : base.heap.size ≤ w.heap.size
  old : ∀ b, b < base.heap.size → ¬ L.sh b → w.heap[b]? = base.heap[b]?
  run : runN L fuel tgt = some R
section
variable {L : La} {main : Bool} {V : Nat → Option Wait} {Stop : Goroutine → World → Prop} {cs : List Frame} {base : World} {R : L.Sg × Ans}
def nilB (main : Bool) (V : Nat → Option Wait) (Stop : Goroutine → World → Prop) (cs : List Frame) (base : World) (R : L.Sg × Ans) : Lb L where
  main := main
  E := NilE L base R
  V := fun _ => V
  Stop := fun _ => Stop
  bot := fun _ => cs
  w := fun e => e.w
  s := fun e => e.s
  tgt := fun e => e.tgt
  fuel := fun e => e.fuel
  mine := fun e b => base.heap.size ≤ b ∧ b < e.w.heap.size
theorem nil_step (e : NilE L base R) (d : L.D) (ht : e.tgt = (e.s, .inr d)) (fr : Frame) (l : List Frame) (hk : ∀ e' : NilE L base R, Aft (nilB main V Stop cs base R) e d e' → LW (nilB main V Stop cs base R) e' (G (fr.finish (.tuple #[])) (l ++ cs))) :
    LW (nilB main V Stop cs base R) e (G (Frame.enter Try.prog 62 #[.nilIface] .normal) (fr :: (l ++ cs))) := by
  obtain ⟨ms, hu⟩ := undStepperN
  have hn1 := fun w => run_neq_nilIface (P := Try.prog) (w := w) 100 hu
  have hn2 := fun w es => ev_neq_nilIface (P := Try.prog) (w := w) 100 es hu
  obtain ⟨n, hn, hr⟩ : ∃ n, e.fuel = n + 1 ∧ runN L n (L.act e.s d) = some R := by
    have h := e.run
    rw [ht] at h
    cases hf : e.fuel with
    | zero => rw [hf] at h; cases h
    | succ n => rw [hf] at h; exact ⟨n, rfl, h⟩
  have hh := hk { w := e.w, s := e.s, tgt := L.act e.s d, fuel := n, inv := e.inv, size := e.size, old := e.old, run := hr } ⟨rfl, show n < e.fuel by omega, Nat.le_refl _, fun b h => ⟨h, rfl⟩⟩
  unfold LW at hh ⊢
  show Walk Try.prog main (DR V) Stop _ e.w
  replace hh : Walk Try.prog main (DR V) Stop (G (fr.finish (.tuple #[])) (l ++ cs)) e.w := hh
  rw [enter_at _ Try.func62 code62_is]
  simp only [Try.ntmps62, ez, Nat.reduceAdd, Nat.reduceSub]
  repeat (first | refine Walk.cx ?_ | (refine Walk.cReg ?_; simp only [z62]) | (refine Walk.oq ?_; try walk_nrm) | (refine Walk.un ?_; walk_nrm))
  exact Walk.on0 rfl rfl Try.func62 rfl hh
def nilL (hA : ∀ b, Apart V b) (hsh : ∀ b, L.sh b → b < base.heap.size) (main : Bool) (Stop : Goroutine → World → Prop) (cs : List Frame) (R : L.Sg × Ans) : Lg L .nilIface where
  toLb := nilB main V Stop cs base R
  inv := fun e => e.inv
  shA := fun _ b _ => hA b
  mineA := fun e b h => ⟨hA b, fun hs => by have := hsh b hs; have := h.1; omega, h.2⟩
  newA := fun _ b _ => hA b
  mv := fun e s' w' h1 h2 h3 => ⟨{ w := w', s := s', tgt := e.tgt, fuel := e.fuel, inv := h3, size := Nat.le_trans e.size h1, old := fun b hb hs => (h2 b (Nat.lt_of_lt_of_le hb e.size) (fun hm => by have := hm.1; omega) hs).trans (e.old b hb hs), run := e.run }, rfl, rfl, rfl, rfl, rfl, rfl, rfl, fun b => by
    show (base.heap.size ≤ b ∧ b < w'.heap.size) ↔ ((base.heap.size ≤ b ∧ b < e.w.heap.size) ∨ (e.w.heap.size ≤ b ∧ b < w'.heap.size))
    have := e.size
    have h1 : e.w.heap.size ≤ w'.heap.size := h1
    constructor
    · rintro ⟨a, b'⟩
      by_cases hb : b < e.w.heap.size
      · exact .inl ⟨a, hb⟩
      · exact .inr ⟨by omega, b'⟩
    · rintro (⟨a, b'⟩ | ⟨a, b'⟩)
      · exact ⟨a, by omega⟩
      · exact ⟨by omega, b'⟩⟩
  step := fun e d ht fr l _ _ hk => nil_step e d ht fr l hk
structure Lone (L : La) (w : World) (R : L.Sg × Ans) (w' : World) : Prop where
  I : L.I R.1 w'
  size : w.heap.size ≤ w'.heap.size
  old : ∀ b, b < w.heap.size → ¬ L.sh b → w'.heap[b]? = w.heap[b]?
variable {b : Frame} {a : Act} {k : List Item} {ops : Array Oper} {i : Nat} {rest : List Nat} {o : Oper} {w : World}
theorem Walk.callLone {f : FuncId} {fn : Func} {args : Array Operand} {ats : Array TypeId} {Rel : Value → Ans → Prop} (N : Nat) (s : L.Sg) (r0 : Ans ⊕ L.D) (hA : ∀ b, Apart V b) (hI : L.I s w) (hrun : runN L N (s, r0) = some R)
    (hc : ∀ (K : Lg L .nilIface) (e : K.E), K.tgt e = (K.s e, r0) → SCall K.toLb f (args.map a.eval) e (fun v e' => ∃ x, Rel v x ∧ K.tgt e' = (K.s e', .inl x)))
    (ho : ops[i]? = some o) (hw : Region.wanted o (yielded ops a.tmps) = true) (hk : b.kind ≠ .early) (hop : o.op = .call { callee := .value (.func f), args, argTypes := ats })
    (hf : Try.prog.funcs[f]? = some fn) (hname : (fn.name == "runtime.NumGoroutine") = false) (hb : fn.body.isNone = false) (hp : Plain (b.at a (.inRegion ops (i :: rest) :: k)))
    (h : ∀ v w', Rel v R.2 → Lone L w R w' → Walk Try.prog main (DR V) Stop (G (b.at (a.put o.dst v) (.inRegion ops rest :: k)) cs) w') :
    Walk Try.prog main (DR V) Stop (G (b.at a (.inRegion ops (i :: rest) :: k)) cs) w := by
  refine Walk.callE ho hw hk hop hf hname hb ?_
  have key := hc (nilL (V := V) (base := w) hA (fun b h => L.lt hI h) main Stop cs R) { w := w, s := s, tgt := (s, r0), fuel := N, inv := hI, size := Nat.le_refl _, old := fun _ _ _ => rfl, run := hrun } rfl (b.at a (.inRegion ops (i :: rest) :: k)) [] hp (fun _ h => by cases h) ?_
  · exact key
  · rintro v e' ⟨x, hr, ht⟩
    have hrn := e'.run
    have ht : e'.tgt = (e'.s, .inl x) := ht
    rw [ht, runN_inl] at hrn
    have hR := Option.some.inj hrn
    have r1 : R.1 = e'.s := (congrArg Prod.fst hR).symm
    have r2 : R.2 = x := (congrArg Prod.snd hR).symm
    have := h v e'.w (by rw [r2]; exact hr) ⟨by rw [r1]; exact e'.inv, e'.size, e'.old⟩
    rw [Frame.finish_at, ho]
    exact this
end
end
end Go.Proofs.Ytdmpmoggacjgcaa
