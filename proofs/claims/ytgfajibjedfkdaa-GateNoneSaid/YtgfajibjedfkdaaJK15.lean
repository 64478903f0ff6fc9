/- Part 15. -/
import Derived.Test.YtgfajibjedfkdaaJK2
import Derived.Test.YtgfajibjedfkdaaJK3
import Derived.Test.YtgfajibjedfkdaaJK4
import Derived.Test.YtgfajibjedfkdaaJK10
import Derived.Test.YtgfajibjedfkdaaJK11
import Derived.Conc.AtomicLaws2
import Derived.Conc.SmallLaws
import Derived.Laws.LoneSync
set_option linter.unusedSimpArgs false
set_option linter.unusedVariables false
set_option linter.unusedVariables false
set_option maxHeartbeats 8000000
set_option maxRecDepth 100000
namespace Go.Proofs.Ytgfajibjedfkdaa
open Go.Conc Go.RowKit Go.Relay
open Go.ConcN (upd upd_ne upd_same)
section
section
variable {main : Bool} {V : Nat → Option Wait}
theorem Walk.turn {P : Program} {Stop : Goroutine → World → Prop} {g g' : Goroutine} {w W : World} {es : Array Event} (hr : g.status = .running) (hs : ∀ d, stepG P main g (w.at d) = .go g' (W.at d) es) (hd : ∀ d, DR V (w.at d) (W.at d) es) (h : Walk P main (DR V) Stop g' W) : Walk P main (DR V) Stop g w :=
  Walk.step hr (fun _ => g') (fun d => W.at d) (fun _ => es) hs hd (fun d => h.back d)
theorem evR_rw {ad : Addr} (hf : Free V ad) : ∀ e ∈ (#[⟨.cell ad, false, true⟩, ⟨.cell ad, true, true⟩] : Array Event), EvR V e := by
  intro e he
  simp only [List.mem_toArray, List.mem_cons, List.not_mem_nil, or_false] at he
  rcases he with rfl | rfl
  · exact evR_read _ _
  · exact evR_write _ _ hf
theorem atLoad (b q : Nat) (v : Int) (w : World) (hc : w.cell? ⟨b, q, none⟩ = some (.int .i64 v)) : CallV Try.prog main V 179 #[.pointer (some ⟨b, q, none⟩)] w (.int .i64 v) w := by
  refine callW_in Try.func179 rfl fun fr cs => ?_
  simp only [Try.ntmps179, ez, Nat.reduceAdd, Nat.reduceSub]
  repeat (first | refine Walk.cx ?_ | refine Walk.cR ?_ | (refine Walk.oq ?_; try walk_nrm) | (refine Walk.un ?_; walk_nrm))
  refine Walk.evs (fun _ => #[⟨.cell ⟨b, q, none⟩, false, true⟩]) rfl (fun d => stepG_load_atomic (w := w.at d) rfl (by rfl) (by decide) rfl Try.func180 (by kernel_rfl) (by rfl) (by kernel_rfl) .i64 (by kernel_rfl) rfl hc) (fun d e he => by simp at he; subst he; exact evR_read _ _) ?_
  walk_nrm
  repeat (first | refine Walk.cx ?_ | refine Walk.cR ?_ | (refine Walk.oq ?_; try walk_nrm) | (refine Walk.un ?_; walk_nrm))
  exact Walk.ret1 rfl rfl Try.func179 rfl fun d => ⟨rfl, d, rfl⟩
theorem atStore (b q : Nat) (u : Value) (v : Int) (w : World) (hc : w.cell? ⟨b, q, none⟩ = some u) (hz : w.frozen? ⟨b, q, none⟩ = false) (hf : Free V ⟨b, q, none⟩) : CallV Try.prog main V 104 #[.pointer (some ⟨b, q, none⟩), .int .i64 v] w (.tuple #[]) (w.setCell ⟨b, q, none⟩ (.int .i64 v)) := by
  refine callW_in Try.func104 rfl fun fr cs => ?_
  simp only [Try.ntmps104, ez, Nat.reduceAdd, Nat.reduceSub]
  repeat (first | refine Walk.cx ?_ | refine Walk.cR ?_ | (refine Walk.oq ?_; try walk_nrm) | (refine Walk.un ?_; walk_nrm))
  refine Walk.turn (W := w.setCell ⟨b, q, none⟩ (.int .i64 v)) rfl (fun d => stepG_store_atomic (w := w.at d) rfl (by rfl) (by decide) rfl Try.func133 (by kernel_rfl) (by rfl) (by kernel_rfl) (by kernel_rfl) rfl rfl hc hz) (fun d => DR.set' hf hc d _ (fun e he => by simp at he; subst he; exact evR_write _ _ hf)) ?_
  walk_nrm
  repeat (first | refine Walk.cx ?_ | refine Walk.cR ?_ | (refine Walk.oq ?_; try walk_nrm) | (refine Walk.un ?_; walk_nrm))
  exact Walk.ret0 rfl rfl Try.func104 rfl fun d => ⟨rfl, d, rfl⟩
end
structure Wd (L : La) where
  on : L.Gh → Prop
  up : ∀ {y y' : L.Gh}, L.le y y' → on y → on y'
  b : Nat
  q : Nat
  get : L.Sg → Int
  put : L.Sg → Int → L.Sg
  ok : Int → Prop
  sh : ∀ y, on y → L.sh y b
  rd : ∀ y s w, on y → L.I y s w → w.cell? ⟨b, q, none⟩ = some (.int .i64 (get s)) ∧ w.frozen? ⟨b, q, none⟩ = false
  wr : ∀ y s w v, on y → ok v → L.I y s w → L.I y (put s v) (w.setCell ⟨b, q, none⟩ (.int .i64 v))
def Wd.p {L : La} (W : Wd L) : Value := .pointer (some ⟨W.b, W.q, none⟩)
noncomputable def reg124_0 := rg Try.f124.body [0]
noncomputable def reg124_1 := rg Try.f124.body [1, 0]
noncomputable def reg124_2 := rg Try.f124.body [1, 1, 0]
theorem z124 : List.range reg124_0.size = [0] ∧ List.range reg124_1.size = [0, 1] ∧ List.range reg124_2.size = [0, 1, 2, 3] := by refine ⟨?_, ?_, ?_⟩ <;> kernel_rfl
theorem code124_is : Try.f124.body = some (.seq (.region 0 reg124_0 false) (.seq (.region 1 reg124_1 false) (.seq (.region 2 reg124_2 false) (.ret)))) := by kernel_rfl
noncomputable def reg95_0 := rg Try.f95.body [0]
noncomputable def reg95_1 := rg Try.f95.body [1, 0, 0]
noncomputable def reg95_2 := rg Try.f95.body [1, 0, 1, 0, 0]
noncomputable def reg95_3 := rg Try.f95.body [1, 1, 0]
theorem z95 : List.range reg95_0.size = [0] ∧ List.range reg95_1.size = [0, 1] ∧ List.range reg95_2.size = [0] ∧ List.range reg95_3.size = [0, 1, 2, 3, 4, 5] := by refine ⟨?_, ?_, ?_, ?_⟩ <;> kernel_rfl
theorem code95_is : Try.f95.body = some (.seq (.region 0 reg95_0 false) (.seq (.seq (.region 1 reg95_1 false) (.cond (.tmp 6 ) (.seq (.region 2 reg95_2 false) (.ret)) (.skip))) (.seq (.region 3 reg95_3 false) (.ret)))) := by kernel_rfl
noncomputable def reg69_0 := rg Try.f69.body [0, 0]
noncomputable def reg69_1 := rg Try.f69.body [1, 0]
noncomputable def reg69_2 := rg Try.f69.body [1, 1]
theorem z69 : List.range reg69_0.size = [0, 1] ∧ List.range reg69_1.size = [0, 1] ∧ List.range reg69_2.size = [0, 1, 2, 3, 4] := by refine ⟨?_, ?_, ?_⟩ <;> kernel_rfl
theorem code69_is : Try.f69.body = some (.seq (.seq (.region 0 reg69_0 false) (.cond (.tmp 7 ) (.ret) (.skip))) (.seq (.region 1 reg69_1 false) (.region 2 reg69_2 false))) := by kernel_rfl
section
variable {L : La} {sv : Value}
theorem step_s (K : Lg L sv) (e : K.E) (d : L.D) (ht : K.tgt e = (K.s e, .inr d)) : SCall K.toLb 78 #[sv] e (fun _ e' => Aft K.toLb e d e') := fun fr l hp hl hk => K.step e d ht fr l hp hl fun e' ha => hk _ e' ha
theorem plain_cons {fr : Frame} {l : List Frame} (hp : Plain fr) (hl : ∀ f ∈ l, Plain f) : ∀ f ∈ fr :: l, Plain f := fun x hx => by
  rcases List.mem_cons.1 hx with rfl | hx
  · exact hp
  · exact hl x hx
theorem Wd.put_mv (W : Wd L) (K : Lg L sv) (e : K.E) (v : Int) (hon : W.on (K.gh e)) (hv : W.ok v) : ∃ e', Mv K.toLb e e' (W.put (K.s e) v) ((K.w e).setCell ⟨W.b, W.q, none⟩ (.int .i64 v)) :=
  K.mv e _ _ (Nat.le_of_eq (size_set ..).symm) (fun b _ _ hs => heap_set_other _ _ _ _ fun he : b = W.b => hs (by rw [he]; exact W.sh _ hon)) (W.wr _ _ _ v hon hv (K.inv e))
theorem holds_s (K : Lg L sv) (W : Wd L) (e : K.E) (d : L.D) (hon : W.on (K.gh e)) (ht : K.tgt e = (K.s e, .inr d)) : SCall K.toLb 124 #[sv, W.p] e (fun v e' => Aft K.toLb e d e' ∧ v = .int .i64 (W.get (K.s e'))) := by
  intro fr l hp hl hk
  unfold LW Wd.p
  rw [enter_at _ Try.func124 code124_is]
  simp only [Try.ntmps124, ez, Nat.reduceAdd, Nat.reduceSub]
  repeat (first | refine Walk.cx ?_ | (refine Walk.cReg ?_; simp only [z124]) | (refine Walk.oq ?_; try walk_nrm) | (refine Walk.un ?_; walk_nrm))
  refine LW.callS (K := K.toLb) (e := e) (l := fr :: l) (f := 78) (Q := fun _ e' => Aft K.toLb e d e') ?_ (ho_of (by conv => lhs; whnf) (by kernel_rfl)) (by rfl) (by decide) rfl Try.func78 (by kernel_rfl) (by rfl) ⟨rfl, rfl, _, Try.func124⟩ (plain_cons hp hl) ?_
  · walk_nrm
    exact step_s K e d ht
  intro v e' ha
  have hc := (W.rd _ _ _ (W.up ha.le hon) (K.inv e')).1
  have hi1 := run_ifaceAtomic
  have hi2 := ev_ifaceAtomic
  unfold LW
  walk_nrm
  repeat (first | refine Walk.cx ?_ | (refine Walk.cReg ?_; simp only [z124]) | (refine Walk.oq ?_; try walk_nrm) | (refine Walk.un ?_; walk_nrm))
  refine Walk.invokeLoad W.b W.q (ho_of (by conv => lhs; whnf) (by kernel_rfl)) (by rfl) (by decide) rfl rfl ?_
  refine (atLoad W.b W.q _ (K.w e') hc _ _).then ?_
  rintro g' w' ⟨v', ⟨rfl, dd, rfl⟩, rfl⟩
  refine Walk.back ?_ dd
  refine Walk.finish (ho_of (by conv => lhs; whnf) (by kernel_rfl)) ?_
  walk_nrm
  repeat (first | refine Walk.cx ?_ | (refine Walk.cReg ?_; simp only [z124]) | (refine Walk.oq ?_; try walk_nrm) | (refine Walk.un ?_; walk_nrm))
  exact Walk.on1 rfl rfl Try.func124 rfl (hk _ e' ⟨ha, rfl⟩)
theorem word_load (K : Lg L sv) (W : Wd L) (e : K.E) (d : L.D) (hon : W.on (K.gh e)) (ht : K.tgt e = (K.s e, .inr d)) : SCall K.toLb 95 #[W.p, sv] e (fun v e' => Aft K.toLb e d e' ∧ v = .int .i64 (W.get (K.s e'))) := by
  intro fr l hp hl hk
  have hh := holds_s K W e d hon ht
  unfold Wd.p at *
  unfold LW
  have hp1 := fun w => run_eql_ptr (P := Try.prog) 158 undWord (some ⟨W.b, W.q, none⟩) w
  have hp2 := fun w es => ev_eql_ptr (P := Try.prog) 158 undWord (some ⟨W.b, W.q, none⟩) w es
  simp only [Option.isNone_some] at hp1
  rw [enter_at _ Try.func95 code95_is]
  simp only [Try.ntmps95, ez, Nat.reduceAdd, Nat.reduceSub]
  repeat (first | refine Walk.cx ?_ | (refine Walk.cReg ?_; simp only [z95]) | (refine Walk.oq ?_; try walk_nrm) | (refine Walk.un ?_; walk_nrm))
  refine LW.callS (K := K.toLb) (e := e) (l := fr :: l) (f := 124) (Q := fun v e' => Aft K.toLb e d e' ∧ v = .int .i64 (W.get (K.s e'))) ?_ (ho_of (by conv => lhs; whnf) (by kernel_rfl)) (by rfl) (by decide) rfl Try.func124 (by kernel_rfl) (by rfl) ⟨rfl, rfl, _, Try.func95⟩ (plain_cons hp hl) ?_
  · walk_nrm
    exact hh
  rintro v e' ⟨ha, rfl⟩
  unfold LW
  walk_nrm
  repeat (first | refine Walk.cx ?_ | (refine Walk.cReg ?_; simp only [z95]) | (refine Walk.oq ?_; try walk_nrm) | (refine Walk.un ?_; walk_nrm))
  exact Walk.on1 rfl rfl Try.func95 rfl (hk _ e' ⟨ha, rfl⟩)
structure Wrote (K : Lg L sv) (e : K.E) (d : L.D) (s : L.Sg) (s' : L.Sg) (e' : K.E) : Prop where
  tgt : K.tgt e' = L.act s d
  fuel : K.fuel e' < K.fuel e
  le : L.le (K.gh e) (K.gh e')
  s : K.s e' = s'
  size : (K.w e).heap.size ≤ (K.w e').heap.size
  mine : ∀ b, K.mine e b → K.mine e' b ∧ (K.w e').heap[b]? = (K.w e).heap[b]?
theorem Wrote.of {K : Lg L sv} {e e1 e' : K.E} {d : L.D} {s' : L.Sg} {W : Wd L} {v : Int} (hon : W.on (K.gh e)) (ha : Aft K.toLb e d e1) (m : Mv K.toLb e1 e' s' ((K.w e1).setCell ⟨W.b, W.q, none⟩ (.int .i64 v))) : Wrote K e d (K.s e1) s' e' :=
  ⟨m.tgt.trans ha.tgt, by rw [m.fuel]; exact ha.fuel, by rw [m.gh]; exact ha.le, m.s, by rw [m.w, size_set]; exact ha.size, fun b hb => by
    obtain ⟨h1, h2⟩ := ha.mine b hb
    have hne : b ≠ W.b := fun he => (K.mineA e1 b h1).2.1 (by rw [he]; exact W.sh _ (W.up ha.le hon))
    refine ⟨(m.mine b).2 (.inl h1), ?_⟩
    rw [m.w, heap_set_other _ _ _ _ hne]
    exact h2⟩
theorem Wrote.same {K : Lg L sv} {e e1 : K.E} {d : L.D} (ha : Aft K.toLb e d e1) : Wrote K e d (K.s e1) (K.s e1) e1 := ⟨ha.tgt, ha.fuel, ha.le, rfl, ha.size, ha.mine⟩
theorem word_store (K : Lg L sv) (W : Wd L) (e : K.E) (d : L.D) (x : Int) (hx : W.ok x) (hon : W.on (K.gh e)) (ht : K.tgt e = (K.s e, .inr d)) : SCall K.toLb 69 #[W.p, sv, .int .i64 x] e (fun _ e' => ∃ s, Wrote K e d s (W.put s x) e') := by
  intro fr l hp hl hk
  unfold Wd.p
  unfold LW
  have hp1 := fun w => run_eql_ptr (P := Try.prog) 158 undWord (some ⟨W.b, W.q, none⟩) w
  have hp2 := fun w es => ev_eql_ptr (P := Try.prog) 158 undWord (some ⟨W.b, W.q, none⟩) w es
  simp only [Option.isNone_some] at hp1
  rw [enter_at _ Try.func69 code69_is]
  simp only [Try.ntmps69, ez, Nat.reduceAdd, Nat.reduceSub]
  repeat (first | refine Walk.cx ?_ | (refine Walk.cReg ?_; simp only [z69]) | (refine Walk.oq ?_; try walk_nrm) | (refine Walk.un ?_; walk_nrm))
  refine LW.callS (K := K.toLb) (e := e) (l := fr :: l) (f := 78) (Q := fun _ e' => Aft K.toLb e d e') ?_ (ho_of (by conv => lhs; whnf) (by kernel_rfl)) (by rfl) (by decide) rfl Try.func78 (by kernel_rfl) (by rfl) ⟨rfl, rfl, _, Try.func69⟩ (plain_cons hp hl) ?_
  · walk_nrm
    exact step_s K e d ht
  intro v e1 ha
  obtain ⟨hc, hz⟩ := W.rd _ _ _ (W.up ha.le hon) (K.inv e1)
  obtain ⟨e', m⟩ := W.put_mv K e1 x (W.up ha.le hon) hx
  unfold LW
  walk_nrm
  repeat (first | refine Walk.cx ?_ | (refine Walk.cReg ?_; simp only [z69]) | (refine Walk.oq ?_; try walk_nrm) | (refine Walk.un ?_; walk_nrm))
  refine Walk.callV (x := .tuple #[]) (W := (K.w e1).setCell ⟨W.b, W.q, none⟩ (.int .i64 x)) ?_ (ho_of (by conv => lhs; whnf) (by kernel_rfl)) (by rfl) (by decide) rfl Try.func104 (by kernel_rfl) (by rfl) ?_
  · walk_nrm
    exact atStore W.b W.q _ x (K.w e1) hc hz ((K.shA e1 _ (W.sh _ (W.up ha.le hon))).1 _ rfl)
  walk_nrm
  repeat (first | refine Walk.cx ?_ | (refine Walk.cReg ?_; simp only [z69]) | (refine Walk.oq ?_; try walk_nrm) | (refine Walk.un ?_; walk_nrm))
  exact Walk.on0 rfl rfl Try.func69 rfl (LW.to m (hk _ e' ⟨K.s e1, Wrote.of hon ha m⟩))
end
end
section
section
variable {main : Bool} {V : Nat → Option Wait}
theorem step_nil (w : World) : CallV Try.prog main V 78 #[.nilIface] w (.tuple #[]) w := by
  obtain ⟨ms, hu⟩ := undStepperN
  have hn1 := fun w => run_neq_nilIface (P := Try.prog) (w := w) 113 hu
  have hn2 := fun w es => ev_neq_nilIface (P := Try.prog) (w := w) 113 es hu
  refine callW_in Try.func78 code78_is fun fr cs => ?_
  simp only [Try.ntmps78, ez, Nat.reduceAdd, Nat.reduceSub]
  repeat (first | refine Walk.cx ?_ | (refine Walk.cReg ?_; simp only [z78]) | (refine Walk.oq ?_; try walk_nrm) | (refine Walk.un ?_; walk_nrm))
  exact Walk.ret0 rfl rfl Try.func78 rfl fun d => ⟨rfl, d, rfl⟩
theorem holds_nil (b q : Nat) (v : Int) (w : World) (hc : w.cell? ⟨b, q, none⟩ = some (.int .i64 v)) : CallV Try.prog main V 124 #[.nilIface, .pointer (some ⟨b, q, none⟩)] w (.int .i64 v) w := by
  have hi1 := run_ifaceAtomic
  have hi2 := ev_ifaceAtomic
  refine callW_in Try.func124 code124_is fun fr cs => ?_
  simp only [Try.ntmps124, ez, Nat.reduceAdd, Nat.reduceSub]
  repeat (first | refine Walk.cx ?_ | (refine Walk.cReg ?_; simp only [z124]) | (refine Walk.oq ?_; try walk_nrm) | (refine Walk.un ?_; walk_nrm))
  refine Walk.callV (x := .tuple #[]) (W := w) ?_ (ho_of (by conv => lhs; whnf) (by kernel_rfl)) (by rfl) (by decide) rfl Try.func78 (by kernel_rfl) (by rfl) ?_
  · walk_nrm
    exact step_nil w
  walk_nrm
  repeat (first | refine Walk.cx ?_ | (refine Walk.cReg ?_; simp only [z124]) | (refine Walk.oq ?_; try walk_nrm) | (refine Walk.un ?_; walk_nrm))
  refine Walk.invokeLoad b q (ho_of (by conv => lhs; whnf) (by kernel_rfl)) (by rfl) (by decide) rfl rfl ?_
  refine (atLoad b q _ w hc _ _).then ?_
  rintro g' w' ⟨v', ⟨rfl, dd, rfl⟩, rfl⟩
  refine Walk.back ?_ dd
  refine Walk.finish (ho_of (by conv => lhs; whnf) (by kernel_rfl)) ?_
  walk_nrm
  repeat (first | refine Walk.cx ?_ | (refine Walk.cReg ?_; simp only [z124]) | (refine Walk.oq ?_; try walk_nrm) | (refine Walk.un ?_; walk_nrm))
  exact Walk.ret1 rfl rfl Try.func124 rfl fun d => ⟨rfl, d, rfl⟩
theorem load_nil (b q : Nat) (v : Int) (w : World) (hc : w.cell? ⟨b, q, none⟩ = some (.int .i64 v)) : CallV Try.prog main V 95 #[.pointer (some ⟨b, q, none⟩), .nilIface] w (.int .i64 v) w := by
  have hp1 := fun w => run_eql_ptr (P := Try.prog) 158 undWord (some ⟨b, q, none⟩) w
  have hp2 := fun w es => ev_eql_ptr (P := Try.prog) 158 undWord (some ⟨b, q, none⟩) w es
  simp only [Option.isNone_some] at hp1
  refine callW_in Try.func95 code95_is fun fr cs => ?_
  simp only [Try.ntmps95, ez, Nat.reduceAdd, Nat.reduceSub]
  repeat (first | refine Walk.cx ?_ | (refine Walk.cReg ?_; simp only [z95]) | (refine Walk.oq ?_; try walk_nrm) | (refine Walk.un ?_; walk_nrm))
  refine Walk.callV (x := .int .i64 v) (W := w) ?_ (ho_of (by conv => lhs; whnf) (by kernel_rfl)) (by rfl) (by decide) rfl Try.func124 (by kernel_rfl) (by rfl) ?_
  · walk_nrm
    exact holds_nil b q v w hc
  walk_nrm
  repeat (first | refine Walk.cx ?_ | (refine Walk.cReg ?_; simp only [z95]) | (refine Walk.oq ?_; try walk_nrm) | (refine Walk.un ?_; walk_nrm))
  exact Walk.ret1 rfl rfl Try.func95 rfl fun d => ⟨rfl, d, rfl⟩
theorem store_nil (b q : Nat) (u : Value) (v : Int) (w : World) (hc : w.cell? ⟨b, q, none⟩ = some u) (hz : w.frozen? ⟨b, q, none⟩ = false) (hf : Free V ⟨b, q, none⟩) : CallV Try.prog main V 69 #[.pointer (some ⟨b, q, none⟩), .nilIface, .int .i64 v] w (.tuple #[]) (w.setCell ⟨b, q, none⟩ (.int .i64 v)) := by
  have hp1 := fun w => run_eql_ptr (P := Try.prog) 158 undWord (some ⟨b, q, none⟩) w
  have hp2 := fun w es => ev_eql_ptr (P := Try.prog) 158 undWord (some ⟨b, q, none⟩) w es
  simp only [Option.isNone_some] at hp1
  refine callW_in Try.func69 code69_is fun fr cs => ?_
  simp only [Try.ntmps69, ez, Nat.reduceAdd, Nat.reduceSub]
  repeat (first | refine Walk.cx ?_ | (refine Walk.cReg ?_; simp only [z69]) | (refine Walk.oq ?_; try walk_nrm) | (refine Walk.un ?_; walk_nrm))
  refine Walk.callV (x := .tuple #[]) (W := w) ?_ (ho_of (by conv => lhs; whnf) (by kernel_rfl)) (by rfl) (by decide) rfl Try.func78 (by kernel_rfl) (by rfl) ?_
  · walk_nrm
    exact step_nil w
  walk_nrm
  repeat (first | refine Walk.cx ?_ | (refine Walk.cReg ?_; simp only [z69]) | (refine Walk.oq ?_; try walk_nrm) | (refine Walk.un ?_; walk_nrm))
  refine Walk.callV (x := .tuple #[]) (W := w.setCell ⟨b, q, none⟩ (.int .i64 v)) ?_ (ho_of (by conv => lhs; whnf) (by kernel_rfl)) (by rfl) (by decide) rfl Try.func104 (by kernel_rfl) (by rfl) ?_
  · walk_nrm
    exact atStore b q u v w hc hz hf
  walk_nrm
  repeat (first | refine Walk.cx ?_ | (refine Walk.cReg ?_; simp only [z69]) | (refine Walk.oq ?_; try walk_nrm) | (refine Walk.un ?_; walk_nrm))
  exact Walk.ret0 rfl rfl Try.func69 rfl fun d => ⟨rfl, d, rfl⟩
end
end
section
noncomputable def reg73_0 := rg Try.f73.body [0]
noncomputable def reg73_1 := rg Try.f73.body [1, 0]
theorem z73 : List.range reg73_0.size = [0] ∧ List.range reg73_1.size = [0, 1, 2] := by refine ⟨?_, ?_⟩ <;> kernel_rfl
theorem code73_is : Try.f73.body = some (.seq (.region 0 reg73_0 false) (.seq (.region 1 reg73_1 false) (.ret))) := by kernel_rfl
section
variable {main : Bool} {V : Nat → Option Wait}
theorem value_nil (b q : Nat) (v : Int) (w : World) (hc : w.cell? ⟨b, q, none⟩ = some (.int .i64 v)) : CallV Try.prog main V 73 #[.pointer (some ⟨b, q, none⟩)] w (.int .i64 v) w := by
  refine callW_in Try.func73 code73_is fun fr cs => ?_
  simp only [Try.ntmps73, ez, Nat.reduceAdd, Nat.reduceSub]
  repeat (first | refine Walk.cx ?_ | (refine Walk.cReg ?_; simp only [z73]) | (refine Walk.oq ?_; try walk_nrm) | (refine Walk.un ?_; walk_nrm))
  refine Walk.callV (x := .int .i64 v) (W := w) ?_ (ho_of (by conv => lhs; whnf) (by kernel_rfl)) (by rfl) (by decide) rfl Try.func95 (by kernel_rfl) (by rfl) ?_
  · walk_nrm
    exact load_nil b q v w hc
  walk_nrm
  repeat (first | refine Walk.cx ?_ | (refine Walk.cReg ?_; simp only [z73]) | (refine Walk.oq ?_; try walk_nrm) | (refine Walk.un ?_; walk_nrm))
  exact Walk.ret1 rfl rfl Try.func73 rfl fun d => ⟨rfl, d, rfl⟩
end
end
section
section
variable {L : La} {K : Lb L} {e : K.E} {b : Frame} {k : List Item} {l : List Frame} {ops : Array Oper} {a : Act}
theorem LW.drawnG {id m : Nat} {o : Oper} {f : FuncId} {fn : Func} {args : Array Operand} {ats : Array TypeId} {Q : Value → K.E → Prop} {Inv : (Nat → Bool) → Act → World → Prop} (hm : Try.prog.follows .mixedOrders = true) (hsz : ops.size = m + 1) (hlow : lowW ops = true) (hl : lastB ops m = true) (hk : b.kind ≠ .early)
    (ho : ops[m]? = some o) (hop : o.op = .call { callee := .value (.func f), args, argTypes := ats }) (hg : o.guard = none) (hf : Try.prog.funcs[f]? = some fn) (hname : (fn.name == "runtime.NumGoroutine") = false) (hb : fn.body.isNone = false) (hpl : ∀ f ∈ l, Plain f)
    (h0 : Inv (fun _ => false) a (K.w e))
    (hcalm : ∀ f i o a w, i < m → Inv f a w → Closed ops f → f i = false → ops[i]? = some o → (∀ x ∈ o.after, Region.binds .any x = true → f x.on = true) → OpW Try.prog K.main (K.V e) (K.Stop e) b k (l ++ K.bot e) ops i (fun a' w' => Inv (upd f i true) a' w') a w)
    (hcall : ∀ f' a w, Inv f' a w → (∀ j, j < m → f' j = true) → ∃ e2, Mv K e e2 (K.s e) w ∧ (∀ rest, Plain (b.at a (.inRegion ops (m :: rest) :: k))) ∧ SCall K f (args.map a.eval) e2 Q ∧ ∀ v e3, Q v e3 → LW K e3 (G (b.at (a.put o.dst v) (.inRegion ops [] :: k)) (l ++ K.bot e3))) :
    LW K e (G (b.at a (.code (.region id ops true) :: k)) (l ++ K.bot e)) := by
  refine Walk.drawnE (E := K.E × World) (V := fun x => K.V x.1) (Stop := fun x => K.Stop x.1) (cs := fun x => l ++ K.bot x.1) (w := fun x => x.2)
    (Inv := fun f x y => (f m = false ∧ y.1 = e ∧ Inv f x y.2) ∨ (f m = true ∧ (∀ j, j < m → f j = true) ∧ LW K y.1 (G (b.at x (.inRegion ops [] :: k)) (l ++ K.bot y.1)) ∧ ∃ d, y.2 = (K.w y.1).at d)) (e, K.w e) hm hlow (.inl ⟨rfl, rfl, h0⟩) ?_ ?_
  · rintro f' i oi x ⟨e', w'⟩ hI hC hfi hoi hd rest hr
    dsimp only at hI hr ⊢
    have hi : i < m + 1 := by have := (Array.getElem?_eq_some_iff.1 hoi).1; omega
    rcases hI with ⟨f1, rfl, hI⟩ | ⟨f1, f3, _⟩
    · by_cases e1 : i = m
      · subst e1
        rw [ho] at hoi
        cases hoi
        have hall := last_all hl hC ho hd
        have hall' : ∀ j, j < i → f' j = true := fun j hj => hall (i - j) j (by omega) (by omega)
        obtain ⟨e2, mv, hp, hs, hq⟩ := hcall f' x w' hI hall'
        refine LW.to (l := l) mv ?_
        refine LW.callS (Q := Q) hs ho ?_ hk hop hf hname hb (hp _) hpl fun v e3 h3 => ?_
        · unfold Region.wanted; rw [hg]
        · exact hr _ (e3, K.w e3) (.inr ⟨upd_same _ _ _, fun j hj => by rw [upd_ne _ _ (by omega)]; exact hall' j hj, hq v e3 h3, (K.w e3).drawn, rfl⟩)
      · refine hcalm f' i oi x w' (by omega) hI hC hfi hoi hd rest fun a' w2 h2 => ?_
        exact hr _ (_, w2) (.inl ⟨by rw [upd_ne _ _ (by omega)]; exact f1, rfl, h2⟩)
    · exfalso
      by_cases e1 : i = m
      · rw [e1, f1] at hfi; cases hfi
      · rw [f3 i (by omega)] at hfi; cases hfi
  · rintro f' x ⟨e', w'⟩ hI hall
    dsimp only at hI ⊢
    rcases hI with ⟨f1, _⟩ | ⟨_, _, hq, d, rfl⟩
    · rw [hall m (by omega)] at f1; cases f1
    · exact Walk.back hq d
end
end
end Go.Proofs.Ytgfajibjedfkdaa
namespace Go.Relay
section
open Go.Conc
variable {P : Program} {main : Bool} {b : Frame} {a : Act} {kk : List Item} {cs : List Frame} {w : World}
variable {f : FuncId} {fn : Func} {ops : Array Oper} {i : Nat} {rest : List Nat} {o : Oper} {ats : Array TypeId}
section
variable {ad : Addr} {v n old : Option Addr} {u : Value}
theorem run_loadp (hc : w.cell? ad = some (.pointer v)) : (Extern.Atomic.loadT .ptr #[.pointer (some ad)]).run P w = .ok (.pointer v) w := by
  change Sem.run P (do Extern.Atomic.read .ptr (← asAddr (.pointer (some ad)))) w = _
  simp [Extern.Atomic.read, asAddr, hc]
theorem ev_loadp (hc : w.cell? ad = some (.pointer v)) (es : Array Event) : (Extern.Atomic.loadT .ptr #[.pointer (some ad)]).events P w es = es.push ⟨.cell ad, false, true⟩ := by
  change Sem.events P (do Extern.Atomic.read .ptr (← asAddr (.pointer (some ad)))) w _ = _
  simp [Extern.Atomic.read, asAddr, hc, events_load]
def caspBody (ad : Addr) (old n : Option Addr) : Sem Value := do
  let a' ← asAddr (.pointer (some ad))
  if ← Extern.Atomic.touchesFrozen a' then unsupported (.unsafePointer "a write to bytes that a string shares")
  let eq ← match Extern.Atomic.T.ptr, ← Extern.Atomic.read .ptr a', Value.pointer old with
    | _, .int _ x, .int _ y => pure (x == y)
    | .ptr, .pointer x, .pointer y => samePointer x y
    | .int _, .pointer (some _), .int _ 0 | .int _, .int _ 0, .pointer (some _) => pure false
    | .int _, .pointer (some _), _ | .int _, _, .pointer (some _) => unsupported .addressObserved
    | _, _, _ => stuck "atomic.CompareAndSwap: old is no T"
  if eq then store a' (.pointer n) .atomic
  pure (Value.bool eq)
theorem casp_eq (old n : Option Addr) : Extern.Atomic.casT .ptr #[.pointer (some ad), .pointer old, .pointer n] = caspBody ad old n := rfl
theorem run_casp_hit (hs : ∀ w' : World, (samePointer v old).run P w' = .ok true w') (hc : w.cell? ad = some (.pointer v)) (hz : w.frozen? ad = false) : (caspBody ad old n).run P w = .ok (.bool true) (w.setCell ad (.pointer n)) := by
  simp [caspBody, Extern.Atomic.touchesFrozen, Extern.Atomic.read, asAddr, viewAt, World.shape?_isSome_of_cell? hc, hc, hz, hs, run_store P w ad (.pointer n) .atomic rfl, Result.andThen]
theorem ev_casp_hit (hs : ∀ w' : World, (samePointer v old).run P w' = .ok true w') (he : ∀ (w' : World) (es : Array Event), (samePointer v old).events P w' es = es) (hc : w.cell? ad = some (.pointer v)) (hz : w.frozen? ad = false) (es : Array Event) : (caspBody ad old n).events P w es = (es.push ⟨.cell ad, false, true⟩).push ⟨.cell ad, true, true⟩ := by
  simp [caspBody, Extern.Atomic.touchesFrozen, Extern.Atomic.read, asAddr, viewAt, World.shape?_isSome_of_cell? hc, hc, hz, hs, he, events_load, events_store P w _ ad (.pointer n) .atomic rfl, Result.evThen]
theorem run_casp_miss (hs : (samePointer v old).run P w = .ok false w) (hc : w.cell? ad = some (.pointer v)) (hz : w.frozen? ad = false) : (caspBody ad old n).run P w = .ok (.bool false) w := by
  simp [caspBody, Extern.Atomic.touchesFrozen, Extern.Atomic.read, asAddr, viewAt, World.shape?_isSome_of_cell? hc, hc, hz, hs, Result.andThen]
theorem ev_casp_miss (hs : (samePointer v old).run P w = .ok false w) (he : ∀ (es : Array Event), (samePointer v old).events P w es = es) (hc : w.cell? ad = some (.pointer v)) (hz : w.frozen? ad = false) (es : Array Event) : (caspBody ad old n).events P w es = es.push ⟨.cell ad, false, true⟩ := by
  simp [caspBody, Extern.Atomic.touchesFrozen, Extern.Atomic.read, asAddr, viewAt, World.shape?_isSome_of_cell? hc, hc, hz, hs, he, events_load, Result.evThen]
end
theorem conv_to_nil {src dst t : TypeId} (hs : P.underlying src = some (.pointer t)) (hd : P.underlying dst = some .unsafePointer) (w : World) (es : Array Event) : (convert src dst (.pointer none)).run P w = .ok (.pointer none) w ∧ (convert src dst (.pointer none)).events P w es = es := by
  simp [convert, Conv.unsafePointer, run_underlying hs, run_underlying hd]
theorem conv_of_nil {src dst t : TypeId} (hs : P.underlying src = some .unsafePointer) (hd : P.underlying dst = some (.pointer t)) (w : World) (es : Array Event) : (convert src dst (.pointer none)).run P w = .ok (.pointer none) w ∧ (convert src dst (.pointer none)).events P w es = es := by
  simp [convert, Conv.unsafePointer, run_underlying hs, run_underlying hd]
theorem conv_to {src dst t : TypeId} (hs : P.underlying src = some (.pointer t)) (hd : P.underlying dst = some .unsafePointer) (hsz : (P.info? t).map (fun i => decide (i.size = 0)) = some false) {b : Nat} {arr : Array Value} {e : TypeId} (hb : w.heap[b]? = some (.cells arr e)) (h0 : 0 < arr.size) (es : Array Event) :
    (convert src dst (.pointer (some ⟨b, 0, none⟩))).run P w = .ok (.pointer (some ⟨b, 0, none⟩)) w ∧ (convert src dst (.pointer (some ⟨b, 0, none⟩))).events P w es = es := by
  obtain ⟨v, hv⟩ : ∃ v, w.cell? ⟨b, 0, none⟩ = some v := ⟨arr[0], by simp [World.cell?, hb, h0]⟩
  exact ⟨run_convert_to_unsafe hs hd hsz hv, events_convert_to_unsafe hs hd hsz hv es⟩
theorem conv_of {src dst t : TypeId} (hs : P.underlying src = some .unsafePointer) (hd : P.underlying dst = some (.pointer t)) {b : Nat} {arr : Array Value} {e : TypeId} (hb : w.heap[b]? = some (.cells arr e)) {n : Nat} (hn : arr.size = n) (hl : liesAt P P.depth e (n / P.cellsOf e) 0 t 1 = true) {ti : TypeInfo} (hi : P.info? t = some ti) (es : Array Event) :
    (convert src dst (.pointer (some ⟨b, 0, none⟩))).run P w = .ok (.pointer (some ⟨b, 0, none⟩)) w ∧ (convert src dst (.pointer (some ⟨b, 0, none⟩))).events P w es = es := by
  have hsh : w.shape? b = some (e, n) := by
    unfold World.shape?
    rw [hb]
    simp [hn]
  simp [convert, Conv.unsafePointer, Conv.seenAt, viewAt, variablesAt, sizeOf, typeInfo, hi, run_underlying hs, run_underlying hd, hsh, hl, Result.andThen, Result.evThen]
theorem stepG_loadp {x : Operand} (ho : ops[i]? = some o) (hw : Region.wanted o (yielded ops a.tmps) = true) (hk : b.kind ≠ .early) (hop : o.op = .call { callee := .value (.func f), args := #[x], argTypes := ats })
    (hf : P.funcs[f]? = some fn) (hname : (fn.name == "runtime.NumGoroutine") = false) (hb : fn.body.isNone = true) (hn : Extern.findNext fn = none)
    (he : Extern.find fn = some (Extern.Atomic.loadT .ptr)) {ad : Addr} {v : Option Addr} (hx : a.eval x = .pointer (some ad)) (hc : w.cell? ad = some (.pointer v)) :
    stepG P main (G (b.at a (.inRegion ops (i :: rest) :: kk)) cs) w = .go (G (b.at (a.put o.dst (.pointer v)) (.inRegion ops rest :: kk)) cs) w #[⟨.cell ad, false, true⟩] := by
  have hm : (#[x] : Array Operand).map a.eval = #[.pointer (some ad)] := by simp [hx]
  exact stepG_entry ho hw hk hop hf hname hb hn he (by rw [hm]; exact run_loadp hc) (by rw [hm, ev_loadp hc]; rfl) (sync_r ad)
theorem stepG_casp_hit {x y z : Operand} (ho : ops[i]? = some o) (hw : Region.wanted o (yielded ops a.tmps) = true) (hk : b.kind ≠ .early) (hop : o.op = .call { callee := .value (.func f), args := #[x, y, z], argTypes := ats })
    (hf : P.funcs[f]? = some fn) (hname : (fn.name == "runtime.NumGoroutine") = false) (hb : fn.body.isNone = true) (hn : Extern.findNext fn = none)
    (he : Extern.find fn = some (Extern.Atomic.casT .ptr)) {ad : Addr} {v old n : Option Addr} (hs : ∀ (w' : World) (es : Array Event), (samePointer v old).run P w' = .ok true w' ∧ (samePointer v old).events P w' es = es)
    (hx : a.eval x = .pointer (some ad)) (hy : a.eval y = .pointer old) (hzz : a.eval z = .pointer n) (hc : w.cell? ad = some (.pointer v)) (hz : w.frozen? ad = false) :
    stepG P main (G (b.at a (.inRegion ops (i :: rest) :: kk)) cs) w = .go (G (b.at (a.put o.dst (.bool true)) (.inRegion ops rest :: kk)) cs) (w.setCell ad (.pointer n)) #[⟨.cell ad, false, true⟩, ⟨.cell ad, true, true⟩] := by
  have hm : (#[x, y, z] : Array Operand).map a.eval = #[.pointer (some ad), .pointer old, .pointer n] := by simp [hx, hy, hzz]
  exact stepG_entry ho hw hk hop hf hname hb hn he (by rw [hm, casp_eq]; exact run_casp_hit (fun w' => (hs w' #[]).1) hc hz) (by rw [hm, casp_eq, ev_casp_hit (fun w' => (hs w' #[]).1) (fun w' es => (hs w' es).2) hc hz]; rfl) (sync_rw ad)
theorem stepG_casp_miss {x y z : Operand} (ho : ops[i]? = some o) (hw : Region.wanted o (yielded ops a.tmps) = true) (hk : b.kind ≠ .early) (hop : o.op = .call { callee := .value (.func f), args := #[x, y, z], argTypes := ats })
    (hf : P.funcs[f]? = some fn) (hname : (fn.name == "runtime.NumGoroutine") = false) (hb : fn.body.isNone = true) (hn : Extern.findNext fn = none)
    (he : Extern.find fn = some (Extern.Atomic.casT .ptr)) {ad : Addr} {v old n : Option Addr} (hs : ∀ (es : Array Event), (samePointer v old).run P w = .ok false w ∧ (samePointer v old).events P w es = es)
    (hx : a.eval x = .pointer (some ad)) (hy : a.eval y = .pointer old) (hzz : a.eval z = .pointer n) (hc : w.cell? ad = some (.pointer v)) (hz : w.frozen? ad = false) :
    stepG P main (G (b.at a (.inRegion ops (i :: rest) :: kk)) cs) w = .go (G (b.at (a.put o.dst (.bool false)) (.inRegion ops rest :: kk)) cs) w #[⟨.cell ad, false, true⟩] := by
  have hm : (#[x, y, z] : Array Operand).map a.eval = #[.pointer (some ad), .pointer old, .pointer n] := by simp [hx, hy, hzz]
  exact stepG_entry ho hw hk hop hf hname hb hn he (by rw [hm, casp_eq]; exact run_casp_miss (hs #[]).1 hc hz) (by rw [hm, casp_eq, ev_casp_miss (hs #[]).1 (fun es => (hs es).2) hc hz]; rfl) (sync_r ad)
end
end Go.Relay
namespace Go.Proofs.Ytgfajibjedfkdaa
open Go.Conc Go.RowKit Go.Relay
open Go.ConcN (upd upd_ne upd_same)
section
structure Hl where
  p : Option Nat
  sl : Value
  l : List Int
def Hl.no : Hl := ⟨none, .slice none 0 0, []⟩
def Hl.sh (h : Hl) (b : Nat) : Prop := h.p = some b ∨ h.sl.ownBlock = some b
def ptrV (x : Option Nat) : Value := .pointer (x.map fun b => ⟨b, 0, none⟩)
def Hl.v (h : Hl) : Value := ptrV h.p
def okL (l : List Int) : Prop := l.Nodup ∧ ∀ z ∈ l, 0 ≤ z ∧ z < 64
theorem okL.nil : okL [] := ⟨List.nodup_nil, fun z h => (by cases h)⟩
theorem okLen : ∀ (n : Nat) (l : List Int), l.Nodup → (∀ z ∈ l, 0 ≤ z ∧ z < n) → l.length ≤ n := by
  intro n
  induction n with
  | zero =>
    intro l _ h
    cases l with
    | nil => simp
    | cons a t => have := h a (by simp); omega
  | succ n ih =>
    intro l hn h
    by_cases hm : (n : Int) ∈ l
    · have h1 := ih (l.erase n) (hn.erase _) (fun z hz => by
        have h2 := (hn.mem_erase_iff).1 hz
        have := h z h2.2
        have := h2.1
        omega)
      have := List.length_erase_of_mem hm
      omega
    · have := ih l hn (fun z hz => by
        have := h z hz
        have : z ≠ n := fun e => hm (e ▸ hz)
        omega)
      omega
theorem okL.len {l : List Int} (h : okL l) : l.length ≤ 64 := okLen 64 l h.1 h.2
theorem okL.snoc {l : List Int} (h : okL l) {p : Int} (hp : p ∉ l) (h0 : 0 ≤ p) (h1 : p < 64) : okL (l ++ [p]) := by
  refine ⟨?_, fun z hz => ?_⟩
  · rw [List.nodup_append]
    refine ⟨h.1, by simp, fun a ha b hb e => ?_⟩
    simp at hb
    subst hb
    exact hp (e ▸ ha)
  · rcases List.mem_append.1 hz with hz | hz
    · exact h.2 z hz
    · obtain rfl := List.mem_singleton.1 hz
      exact ⟨h0, h1⟩
theorem okL.filter {l : List Int} (h : okL l) (q : Int → Bool) : okL (l.filter q) := ⟨List.Pairwise.filter q h.1, fun z hz => h.2 z (List.mem_filter.1 hz).1⟩
structure HlI (h : Hl) (w : World) : Prop where
  ok : okL h.l
  row : w.ownsRow 0 3 1 h.sl h.l.length (h.l.map fun z => .int .i64 z)
  blk : ∀ b, h.p = some b → w.heap[b]? = some (.cells #[h.sl, .int .u8 0] 213)
  no : h.p = none → h.sl = .slice none 0 0 ∧ h.l = []
theorem HlI.same {h : Hl} {w w' : World} (H : HlI h w) (hb : ∀ b, h.sh b → w'.heap[b]? = w.heap[b]?) : HlI h w' :=
  ⟨H.ok, row_same H.row fun b e => hb b (.inr e), fun b e => (hb b (.inl e)).trans (H.blk b e), H.no⟩
theorem HlI.none (w : World) : HlI Hl.no w := ⟨okL.nil, ⟨rfl, .inl ⟨rfl, rfl⟩⟩, fun b e => (by cases e), fun _ => ⟨rfl, rfl⟩⟩
theorem HlI.lt {h : Hl} {w : World} (H : HlI h w) {b : Nat} (hb : h.sh b) : b < w.heap.size := by
  rcases hb with e | e
  · exact (Array.getElem?_eq_some_iff.1 (H.blk b e)).1
  · exact (H.row.lt b e).2
structure Gt where
  k : Nat
  l : List Int
  n : Nat → Int
def Gt.put (s : Gt) (i : Nat) (v : Int) : Gt := ⟨s.k, s.l, upd s.n i v⟩
def Gt.lay (s : Gt) (l : List Int) : Gt := ⟨s.k + 1, l, s.n⟩
structure GtI (gb : Nat) (y : List Hl) (s : Gt) (w : World) : Prop where
  len : y.length = s.k + 1
  top : ∃ (arr : Array Value) (h : Hl), w.heap[gb]? = some (.cells arr 105) ∧ arr.size = 65 ∧ y[s.k]? = some h ∧ h.l = s.l ∧ arr[0]? = some h.v ∧ ∀ i, i < 64 → arr[1 + i]? = some (.int .i64 (s.n i))
  held : ∀ h : Hl, h ∈ y → HlI h w
  one : ∀ (i j : Nat) (h h' : Hl), y[i]? = some h → y[j]? = some h' → h.p = h'.p → i = j
  ne : ∀ h : Hl, h ∈ y → ¬ h.sh gb
def gtSh (gb : Nat) (y : List Hl) (b : Nat) : Prop := b = gb ∨ ∃ h ∈ y, h.sh b
theorem GtI.same {gb : Nat} {y : List Hl} {s : Gt} {w w' : World} (I : GtI gb y s w) (hb : ∀ b, gtSh gb y b → w'.heap[b]? = w.heap[b]?) : GtI gb y s w' := by
  obtain ⟨arr, h, h1, h2⟩ := I.top
  exact ⟨I.len, ⟨arr, h, (hb gb (.inl rfl)).trans h1, h2⟩, fun h hm => (I.held h hm).same fun b e => hb b (.inr ⟨h, hm, e⟩), I.one, I.ne⟩
theorem GtI.lt {gb : Nat} {y : List Hl} {s : Gt} {w : World} (I : GtI gb y s w) {b : Nat} (h : gtSh gb y b) : b < w.heap.size := by
  rcases h with rfl | ⟨h, hm, e⟩
  · obtain ⟨arr, h, h1, h2⟩ := I.top
    exact (Array.getElem?_eq_some_iff.1 h1).1
  · exact (I.held h hm).lt e
theorem GtI.rdN {gb : Nat} {y : List Hl} {s : Gt} {w : World} {i : Nat} (hi : i < 64) (I : GtI gb y s w) : w.cell? ⟨gb, 1 + i, none⟩ = some (.int .i64 (s.n i)) ∧ w.frozen? ⟨gb, 1 + i, none⟩ = false := by
  obtain ⟨arr, h, h1, h2, h3, h4, h5, h6⟩ := I.top
  exact ⟨(cell_of h1 _).trans (h6 i hi), frozen_of h1 _⟩
theorem GtI.wrN {gb : Nat} {y : List Hl} {s : Gt} {w : World} {i : Nat} (hi : i < 64) (v : Int) (I : GtI gb y s w) : GtI gb y (s.put i v) (w.setCell ⟨gb, 1 + i, none⟩ (.int .i64 v)) := by
  obtain ⟨arr, h, h1, h2, h3, h4, h5, h6⟩ := I.top
  refine ⟨I.len, ⟨_, h, heap_set_self _ _ h1, by simp [h2], h3, h4, ?_, fun j hj => ?_⟩, fun h hm => (I.held h hm).same fun b e => heap_set_other _ _ _ _ fun hb : b = gb => I.ne h hm (hb ▸ e), I.one, I.ne⟩
  · rw [Array.getElem?_setIfInBounds_ne (by omega)]; exact h5
  · show _ = some (Value.int .i64 (upd s.n i v j))
    by_cases e : j = i
    · subst e
      rw [upd_same]
      exact Array.getElem?_setIfInBounds_self_of_lt (by omega)
    · rw [upd_ne _ _ e, Array.getElem?_setIfInBounds_ne (by omega)]; exact h6 j hj
theorem GtI.wrL {gb : Nat} {y : List Hl} {s : Gt} {w : World} {h : Hl} {b : Nat} (hb : h.p = some b) (hH : HlI h w) (hsh : ∀ b, h.sh b → ¬ gtSh gb y b) (I : GtI gb y s w) : GtI gb (y ++ [h]) (s.lay h.l) (w.setCell ⟨gb, 0, none⟩ (.pointer (some ⟨b, 0, none⟩))) := by
  obtain ⟨arr, h0, h1, h2, h3, h4, h5, h6⟩ := I.top
  have hk := I.len
  have hne : ∀ x ∈ y ++ [h], ¬ x.sh gb := fun x hx => by
    rcases List.mem_append.1 hx with hx | hx
    · exact I.ne x hx
    · rw [List.mem_singleton.1 hx]
      exact fun e => hsh gb e (.inl rfl)
  have hpn : ∀ x ∈ y, x.p ≠ h.p := fun x hx e => hsh b (.inl hb) (.inr ⟨x, hx, .inl (e.trans hb)⟩)
  refine ⟨by simp [Gt.lay, hk], ⟨_, h, heap_set_self _ _ h1, by simp [h2], ?_, rfl, ?_, fun i hi => ?_⟩, fun x hx => ?_, fun i j x x' hi hj e => ?_, hne⟩
  · show (y ++ [h])[s.k + 1]? = some h
    rw [← hk]
    simp
  · rw [Array.getElem?_setIfInBounds_self_of_lt (by omega)]
    simp [Hl.v, hb, ptrV]
  · rw [Array.getElem?_setIfInBounds_ne (by omega)]
    exact h6 i hi
  · have hx' : HlI x w := by
      rcases List.mem_append.1 hx with hm | hm
      · exact I.held x hm
      · rw [List.mem_singleton.1 hm]; exact hH
    exact hx'.same fun b e => heap_set_other _ _ _ _ fun hb : b = gb => hne x hx (hb ▸ e)
  · rw [List.getElem?_append] at hi hj
    split at hi
    · split at hj
      · exact I.one i j x x' hi hj e
      · obtain rfl : h = x' := (List.mem_singleton.1 (List.mem_of_getElem? hj)).symm
        exact absurd e (hpn x (List.mem_of_getElem? hi))
    · have hxh : h = x := (List.mem_singleton.1 (List.mem_of_getElem? hi)).symm
      split at hj
      · subst hxh
        exact absurd e.symm (hpn x' (List.mem_of_getElem? hj))
      · have h7 := (List.getElem?_eq_some_iff.1 hi).1
        have h8 := (List.getElem?_eq_some_iff.1 hj).1
        simp only [List.length_singleton] at h7 h8
        omega
structure GateIn (L : La) (gb : Nat) where
  gt : L.Sg → Gt
  put : L.Sg → Nat → Int → L.Sg
  lay : L.Sg → List Int → L.Sg
  gh : L.Gh → List Hl
  ghl : L.Gh → Hl → L.Gh
  le : ∀ {y y'}, L.le y y' → gh y <+: gh y'
  lel : ∀ y h, L.le y (ghl y h)
  sh : ∀ {y b}, gtSh gb (gh y) b → L.sh y b
  shl : ∀ {y h b}, L.sh (ghl y h) b → L.sh y b ∨ h.sh b
  I : ∀ {y s w}, L.I y s w → GtI gb (gh y) (gt s) w
  gput : ∀ s i v, gt (put s i v) = (gt s).put i v
  glay : ∀ s l, gt (lay s l) = (gt s).lay l
  upN : ∀ {y s w i v}, i < 64 → L.I y s w → L.I y (put s i v) (w.setCell ⟨gb, 1 + i, none⟩ (.int .i64 v))
  upL : ∀ {y s w h b}, h.p = some b → HlI h w → (∀ b, h.sh b → ¬ L.sh y b) → L.I y s w → L.I (ghl y h) (lay s h.l) (w.setCell ⟨gb, 0, none⟩ (.pointer (some ⟨b, 0, none⟩)))
section
variable {L : La} {gb : Nat} {sv : Value}
def GateIn.nW (R : GateIn L gb) (i : Nat) (hi : i < 64) : Wd L where
  on := fun _ => True
  up := fun _ _ => trivial
  b := gb
  q := 1 + i
  get := fun s => (R.gt s).n i
  put := fun s v => R.put s i v
  ok := fun _ => True
  sh := fun y _ => R.sh (.inl rfl)
  rd := fun _ s w _ h => (R.I h).rdN hi
  wr := fun _ s w v _ _ h => R.upN hi h
theorem GateIn.load_n (R : GateIn L gb) (K : Lg L sv) (i : Nat) (hi : i < 64) (e : K.E) (d : L.D) (ht : K.tgt e = (K.s e, .inr d)) : SCall K.toLb 95 #[.pointer (some ⟨gb, 1 + i, none⟩), sv] e (fun v e' => Aft K.toLb e d e' ∧ v = .int .i64 ((R.gt (K.s e')).n i)) := word_load K (R.nW i hi) e d trivial ht
theorem GateIn.store_n (R : GateIn L gb) (K : Lg L sv) (i : Nat) (hi : i < 64) (e : K.E) (d : L.D) (x : Int) (ht : K.tgt e = (K.s e, .inr d)) : SCall K.toLb 69 #[.pointer (some ⟨gb, 1 + i, none⟩), sv, .int .i64 x] e (fun _ e' => ∃ s : L.Sg, Wrote K e d s (R.put s i x) e') := word_store K (R.nW i hi) e d x trivial trivial ht
end
end
end Go.Proofs.Ytgfajibjedfkdaa
