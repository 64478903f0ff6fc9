/- Part 19. -/
import Derived.Test.YtabpfdckgnimaaaJ4
import Derived.Test.YtabpfdckgnimaaaJ6
import Derived.Test.YtabpfdckgnimaaaJ14
import Derived.Conc.AtomicLaws2
set_option linter.unusedSimpArgs false
set_option linter.unusedVariables false
set_option linter.unusedVariables false
set_option maxHeartbeats 8000000
set_option maxRecDepth 100000
namespace Go.Proofs.Ytabpfdckgnimaaa
open Go.Conc Go.RowKit Go.Relay
open Go.ConcN (upd upd_ne upd_same)
section
section
variable {main : Bool} {V : Nat → Option Wait}
theorem Walk.turn {P : Program} {Stop : Goroutine → World → Prop} {g g' : Goroutine} {w W : World} {es : Array Event} (hr : g.status = .running) (hs : ∀ d, stepG P main g (w.at d) = .go g' (W.at d) es) (hd : ∀ d, DR V (w.at d) (W.at d) es) (h : Walk P main (DR V) Stop g' W) : Walk P main (DR V) Stop g w :=
  Walk.step hr (fun _ => g') (fun d => W.at d) (fun _ => es) hs hd (fun d => h.back d)
theorem evR_rw {ad : Addr} (hf : Free V ad) : ∀ e ∈ (#[⟨.cell ad, false, true⟩, ⟨.cell ad, true, true⟩] : Array Event), EvR V e := by
  intro e he
  simp only [List.mem_toArray, List.mem_cons, List.not_mem_nil, or_false] at he
  rcases he with rfl | rfl
  · exact evR_read _ _
  · exact evR_write _ _ hf
theorem atLoad (b q : Nat) (v : Int) (w : World) (hc : w.cell? ⟨b, q, none⟩ = some (.int .i64 v)) : CallV Try.prog main V 75 #[.pointer (some ⟨b, q, none⟩)] w (.int .i64 v) w := by
  refine callW_in Try.func75 rfl fun fr cs => ?_
  simp only [Try.ntmps75, ez, Nat.reduceAdd, Nat.reduceSub]
  repeat (first | refine Walk.cx ?_ | refine Walk.cR ?_ | (refine Walk.oq ?_; try walk_nrm) | (refine Walk.un ?_; walk_nrm))
  refine Walk.evs (fun _ => #[⟨.cell ⟨b, q, none⟩, false, true⟩]) rfl (fun d => stepG_load_atomic (w := w.at d) rfl (by rfl) (by decide) rfl Try.func76 (by kernel_rfl) (by rfl) (by kernel_rfl) .i64 (by kernel_rfl) rfl hc) (fun d e he => by simp at he; subst he; exact evR_read _ _) ?_
  walk_nrm
  repeat (first | refine Walk.cx ?_ | refine Walk.cR ?_ | (refine Walk.oq ?_; try walk_nrm) | (refine Walk.un ?_; walk_nrm))
  exact Walk.ret1 rfl rfl Try.func75 rfl fun d => ⟨rfl, d, rfl⟩
end
structure Wd (L : La) where
  on : L.Gh → Prop
  up : ∀ {y y' : L.Gh}, L.le y y' → on y → on y'
  b : Nat
  q : Nat
  get : L.Sg → Int
  put : L.Sg → Int → L.Sg
  ok : Int → Prop
  sh : ∀ y, on y → L.sh y b
  rd : ∀ y s w, on y → L.I y s w → w.cell? ⟨b, q, none⟩ = some (.int .i64 (get s)) ∧ w.frozen? ⟨b, q, none⟩ = false
  wr : ∀ y s w v, on y → ok v → L.I y s w → L.I y (put s v) (w.setCell ⟨b, q, none⟩ (.int .i64 v))
def Wd.p {L : La} (W : Wd L) : Value := .pointer (some ⟨W.b, W.q, none⟩)
noncomputable def reg55_0 := rg Try.f55.body [0]
noncomputable def reg55_1 := rg Try.f55.body [1, 0]
noncomputable def reg55_2 := rg Try.f55.body [1, 1, 0]
theorem z55 : List.range reg55_0.size = [0] ∧ List.range reg55_1.size = [0, 1] ∧ List.range reg55_2.size = [0, 1, 2, 3] := by refine ⟨?_, ?_, ?_⟩ <;> kernel_rfl
theorem code55_is : Try.f55.body = some (.seq (.region 0 reg55_0 false) (.seq (.region 1 reg55_1 false) (.seq (.region 2 reg55_2 false) (.ret)))) := by kernel_rfl
noncomputable def reg43_0 := rg Try.f43.body [0]
noncomputable def reg43_1 := rg Try.f43.body [1, 0, 0]
noncomputable def reg43_2 := rg Try.f43.body [1, 0, 1, 0, 0]
noncomputable def reg43_3 := rg Try.f43.body [1, 1, 0]
theorem z43 : List.range reg43_0.size = [0] ∧ List.range reg43_1.size = [0, 1] ∧ List.range reg43_2.size = [0] ∧ List.range reg43_3.size = [0, 1, 2, 3, 4, 5] := by refine ⟨?_, ?_, ?_, ?_⟩ <;> kernel_rfl
theorem code43_is : Try.f43.body = some (.seq (.region 0 reg43_0 false) (.seq (.seq (.region 1 reg43_1 false) (.cond (.tmp 6 ) (.seq (.region 2 reg43_2 false) (.ret)) (.skip))) (.seq (.region 3 reg43_3 false) (.ret)))) := by kernel_rfl
section
variable {L : La} {sv : Value}
theorem step_s (K : Lg L sv) (e : K.E) (d : L.D) (ht : K.tgt e = (K.s e, .inr d)) : SCall K.toLb 32 #[sv] e (fun _ e' => Aft K.toLb e d e') := fun fr l hp hl hk => K.step e d ht fr l hp hl fun e' ha => hk _ e' ha
theorem plain_cons {fr : Frame} {l : List Frame} (hp : Plain fr) (hl : ∀ f ∈ l, Plain f) : ∀ f ∈ fr :: l, Plain f := fun x hx => by
  rcases List.mem_cons.1 hx with rfl | hx
  · exact hp
  · exact hl x hx
theorem Wd.put_mv (W : Wd L) (K : Lg L sv) (e : K.E) (v : Int) (hon : W.on (K.gh e)) (hv : W.ok v) : ∃ e', Mv K.toLb e e' (W.put (K.s e) v) ((K.w e).setCell ⟨W.b, W.q, none⟩ (.int .i64 v)) :=
  K.mv e _ _ (Nat.le_of_eq (size_set ..).symm) (fun b _ _ hs => heap_set_other _ _ _ _ fun he : b = W.b => hs (by rw [he]; exact W.sh _ hon)) (W.wr _ _ _ v hon hv (K.inv e))
theorem holds_s (K : Lg L sv) (W : Wd L) (e : K.E) (d : L.D) (hon : W.on (K.gh e)) (ht : K.tgt e = (K.s e, .inr d)) : SCall K.toLb 55 #[sv, W.p] e (fun v e' => Aft K.toLb e d e' ∧ v = .int .i64 (W.get (K.s e'))) := by
  intro fr l hp hl hk
  unfold LW Wd.p
  rw [enter_at _ Try.func55 code55_is]
  simp only [Try.ntmps55, ez, Nat.reduceAdd, Nat.reduceSub]
  repeat (first | refine Walk.cx ?_ | (refine Walk.cReg ?_; simp only [z55]) | (refine Walk.oq ?_; try walk_nrm) | (refine Walk.un ?_; walk_nrm))
  refine LW.callS (K := K.toLb) (e := e) (l := fr :: l) (f := 32) (Q := fun _ e' => Aft K.toLb e d e') ?_ (ho_of (by conv => lhs; whnf) (by kernel_rfl)) (by rfl) (by decide) rfl Try.func32 (by kernel_rfl) (by rfl) ⟨rfl, rfl, _, Try.func55⟩ (plain_cons hp hl) ?_
  · walk_nrm
    exact step_s K e d ht
  intro v e' ha
  have hc := (W.rd _ _ _ (W.up ha.le hon) (K.inv e')).1
  have hi1 := run_ifaceAtomic
  have hi2 := ev_ifaceAtomic
  unfold LW
  walk_nrm
  repeat (first | refine Walk.cx ?_ | (refine Walk.cReg ?_; simp only [z55]) | (refine Walk.oq ?_; try walk_nrm) | (refine Walk.un ?_; walk_nrm))
  refine Walk.invokeLoad W.b W.q (ho_of (by conv => lhs; whnf) (by kernel_rfl)) (by rfl) (by decide) rfl rfl ?_
  refine (atLoad W.b W.q _ (K.w e') hc _ _).then ?_
  rintro g' w' ⟨v', ⟨rfl, dd, rfl⟩, rfl⟩
  refine Walk.back ?_ dd
  refine Walk.finish (ho_of (by conv => lhs; whnf) (by kernel_rfl)) ?_
  walk_nrm
  repeat (first | refine Walk.cx ?_ | (refine Walk.cReg ?_; simp only [z55]) | (refine Walk.oq ?_; try walk_nrm) | (refine Walk.un ?_; walk_nrm))
  exact Walk.on1 rfl rfl Try.func55 rfl (hk _ e' ⟨ha, rfl⟩)
theorem word_load (K : Lg L sv) (W : Wd L) (e : K.E) (d : L.D) (hon : W.on (K.gh e)) (ht : K.tgt e = (K.s e, .inr d)) : SCall K.toLb 43 #[W.p, sv] e (fun v e' => Aft K.toLb e d e' ∧ v = .int .i64 (W.get (K.s e'))) := by
  intro fr l hp hl hk
  have hh := holds_s K W e d hon ht
  unfold Wd.p at *
  unfold LW
  have hp1 := fun w => run_eql_ptr (P := Try.prog) 64 undWord (some ⟨W.b, W.q, none⟩) w
  have hp2 := fun w es => ev_eql_ptr (P := Try.prog) 64 undWord (some ⟨W.b, W.q, none⟩) w es
  simp only [Option.isNone_some] at hp1
  rw [enter_at _ Try.func43 code43_is]
  simp only [Try.ntmps43, ez, Nat.reduceAdd, Nat.reduceSub]
  repeat (first | refine Walk.cx ?_ | (refine Walk.cReg ?_; simp only [z43]) | (refine Walk.oq ?_; try walk_nrm) | (refine Walk.un ?_; walk_nrm))
  refine LW.callS (K := K.toLb) (e := e) (l := fr :: l) (f := 55) (Q := fun v e' => Aft K.toLb e d e' ∧ v = .int .i64 (W.get (K.s e'))) ?_ (ho_of (by conv => lhs; whnf) (by kernel_rfl)) (by rfl) (by decide) rfl Try.func55 (by kernel_rfl) (by rfl) ⟨rfl, rfl, _, Try.func43⟩ (plain_cons hp hl) ?_
  · walk_nrm
    exact hh
  rintro v e' ⟨ha, rfl⟩
  unfold LW
  walk_nrm
  repeat (first | refine Walk.cx ?_ | (refine Walk.cReg ?_; simp only [z43]) | (refine Walk.oq ?_; try walk_nrm) | (refine Walk.un ?_; walk_nrm))
  exact Walk.on1 rfl rfl Try.func43 rfl (hk _ e' ⟨ha, rfl⟩)
structure Wrote (K : Lg L sv) (e : K.E) (d : L.D) (s : L.Sg) (s' : L.Sg) (e' : K.E) : Prop where
  tgt : K.tgt e' = L.act s d
  fuel : K.fuel e' < K.fuel e
  le : L.le (K.gh e) (K.gh e')
  s : K.s e' = s'
  size : (K.w e).heap.size ≤ (K.w e').heap.size
  mine : ∀ b, K.mine e b → K.mine e' b ∧ (K.w e').heap[b]? = (K.w e).heap[b]?
theorem Wrote.of {K : Lg L sv} {e e1 e' : K.E} {d : L.D} {s' : L.Sg} {W : Wd L} {v : Int} (hon : W.on (K.gh e)) (ha : Aft K.toLb e d e1) (m : Mv K.toLb e1 e' s' ((K.w e1).setCell ⟨W.b, W.q, none⟩ (.int .i64 v))) : Wrote K e d (K.s e1) s' e' :=
  ⟨m.tgt.trans ha.tgt, by rw [m.fuel]; exact ha.fuel, by rw [m.gh]; exact ha.le, m.s, by rw [m.w, size_set]; exact ha.size, fun b hb => by
    obtain ⟨h1, h2⟩ := ha.mine b hb
    have hne : b ≠ W.b := fun he => (K.mineA e1 b h1).2.1 (by rw [he]; exact W.sh _ (W.up ha.le hon))
    refine ⟨(m.mine b).2 (.inl h1), ?_⟩
    rw [m.w, heap_set_other _ _ _ _ hne]
    exact h2⟩
theorem Wrote.same {K : Lg L sv} {e e1 : K.E} {d : L.D} (ha : Aft K.toLb e d e1) : Wrote K e d (K.s e1) (K.s e1) e1 := ⟨ha.tgt, ha.fuel, ha.le, rfl, ha.size, ha.mine⟩
end
end
section
section
variable {main : Bool} {V : Nat → Option Wait}
theorem atAdd (b q : Nat) (v x : Int) (w : World) (hc : w.cell? ⟨b, q, none⟩ = some (.int .i64 v)) (hz : w.frozen? ⟨b, q, none⟩ = false) (hf : Free V ⟨b, q, none⟩) : CallV Try.prog main V 33 #[.pointer (some ⟨b, q, none⟩), .int .i64 x] w (.int .i64 (IntKind.i64.wrap (v + x))) (w.setCell ⟨b, q, none⟩ (.int .i64 (IntKind.i64.wrap (v + x)))) := by
  refine callW_in Try.func33 rfl fun fr cs => ?_
  simp only [Try.ntmps33, ez, Nat.reduceAdd, Nat.reduceSub]
  repeat (first | refine Walk.cx ?_ | refine Walk.cR ?_ | (refine Walk.oq ?_; try walk_nrm) | (refine Walk.un ?_; walk_nrm))
  refine Walk.turn (W := w.setCell ⟨b, q, none⟩ (.int .i64 (IntKind.i64.wrap (v + x)))) rfl (fun d => stepG_add_atomic (w := w.at d) rfl (by rfl) (by decide) rfl Try.func45 (by kernel_rfl) (by rfl) (by kernel_rfl) .i64 (by kernel_rfl) rfl rfl hc hz) (fun d => DR.set' hf hc d _ (evR_rw hf)) ?_
  walk_nrm
  repeat (first | refine Walk.cx ?_ | refine Walk.cR ?_ | (refine Walk.oq ?_; try walk_nrm) | (refine Walk.un ?_; walk_nrm))
  exact Walk.ret1 rfl rfl Try.func33 rfl fun d => ⟨rfl, d, rfl⟩
end
noncomputable def reg19_0 := rg Try.f19.body [0]
noncomputable def reg19_1 := rg Try.f19.body [1, 0, 0]
noncomputable def reg19_2 := rg Try.f19.body [1, 0, 1, 0, 0]
noncomputable def reg19_3 := rg Try.f19.body [1, 1, 0]
noncomputable def reg19_4 := rg Try.f19.body [1, 1, 1, 0]
theorem z19 : List.range reg19_0.size = [0] ∧ List.range reg19_1.size = [0, 1] ∧ List.range reg19_2.size = [0] ∧ List.range reg19_3.size = [0, 1] ∧ List.range reg19_4.size = [0, 1, 2, 3, 4, 5] := by refine ⟨?_, ?_, ?_, ?_, ?_⟩ <;> kernel_rfl
theorem code19_is : Try.f19.body = some (.seq (.region 0 reg19_0 false) (.seq (.seq (.region 1 reg19_1 false) (.cond (.tmp 8 ) (.seq (.region 2 reg19_2 false) (.ret)) (.skip))) (.seq (.region 3 reg19_3 false) (.seq (.region 4 reg19_4 false) (.ret))))) := by kernel_rfl
section
variable {L : La} {sv : Value}
theorem word_add (K : Lg L sv) (W : Wd L) (e : K.E) (d : L.D) (x : Int) (hx : ∀ y, W.ok y) (hon : W.on (K.gh e)) (ht : K.tgt e = (K.s e, .inr d)) : SCall K.toLb 19 #[W.p, sv, .int .i64 x] e (fun v e' => ∃ s, v = .int .i64 (IntKind.i64.wrap (W.get s + x)) ∧ Wrote K e d s (W.put s (IntKind.i64.wrap (W.get s + x))) e') := by
  intro fr l hp hl hk
  unfold Wd.p
  unfold LW
  have hp1 := fun w => run_eql_ptr (P := Try.prog) 64 undWord (some ⟨W.b, W.q, none⟩) w
  have hp2 := fun w es => ev_eql_ptr (P := Try.prog) 64 undWord (some ⟨W.b, W.q, none⟩) w es
  simp only [Option.isNone_some] at hp1
  rw [enter_at _ Try.func19 code19_is]
  simp only [Try.ntmps19, ez, Nat.reduceAdd, Nat.reduceSub]
  repeat (first | refine Walk.cx ?_ | (refine Walk.cReg ?_; simp only [z19]) | (refine Walk.oq ?_; try walk_nrm) | (refine Walk.un ?_; walk_nrm))
  refine LW.callS (K := K.toLb) (e := e) (l := fr :: l) (f := 32) (Q := fun _ e' => Aft K.toLb e d e') ?_ (ho_of (by conv => lhs; whnf) (by kernel_rfl)) (by rfl) (by decide) rfl Try.func32 (by kernel_rfl) (by rfl) ⟨rfl, rfl, _, Try.func19⟩ (plain_cons hp hl) ?_
  · walk_nrm
    exact step_s K e d ht
  intro v e1 ha
  obtain ⟨hc, hz⟩ := W.rd _ _ _ (W.up ha.le hon) (K.inv e1)
  obtain ⟨e', m⟩ := W.put_mv K e1 (IntKind.i64.wrap (W.get (K.s e1) + x)) (W.up ha.le hon) (hx _)
  have hkk := hk (.int .i64 (IntKind.i64.wrap (W.get (K.s e1) + x))) e' ⟨K.s e1, rfl, Wrote.of hon ha m⟩
  generalize hg : W.get (K.s e1) = gv at *
  unfold LW
  walk_nrm
  repeat (first | refine Walk.cx ?_ | (refine Walk.cReg ?_; simp only [z19]) | (refine Walk.oq ?_; try walk_nrm) | (refine Walk.un ?_; walk_nrm))
  refine Walk.callV (x := .int .i64 (IntKind.i64.wrap (gv + x))) (W := (K.w e1).setCell ⟨W.b, W.q, none⟩ (.int .i64 (IntKind.i64.wrap (gv + x)))) ?_ (ho_of (by conv => lhs; whnf) (by kernel_rfl)) (by rfl) (by decide) rfl Try.func33 (by kernel_rfl) (by rfl) ?_
  · walk_nrm
    exact atAdd W.b W.q gv x (K.w e1) hc hz ((K.shA e1 _ (W.sh _ (W.up ha.le hon))).1 _ rfl)
  walk_nrm
  repeat (first | refine Walk.cx ?_ | (refine Walk.cReg ?_; simp only [z19]) | (refine Walk.oq ?_; try walk_nrm) | (refine Walk.un ?_; walk_nrm))
  exact Walk.on1 rfl rfl Try.func19 rfl (LW.to m hkk)
end
end
section
section
variable {P : Program} {main : Bool} {w : World} {b : Frame} {a : Act} {kk : List Item} {cs : List Frame} {ops : Array Oper} {i : Nat} {rest : List Nat} {o : Oper} {f : FuncId} {fn : Func} {ats : Array TypeId}
theorem run_swapi {ad : Addr} {v n : Int} (hc : w.cell? ad = some (.int .i64 v)) (hz : w.frozen? ad = false) : (Extern.Atomic.swapT (.int .i64) #[.pointer (some ad), .int .i64 n]).run P w = .ok (.int .i64 v) (w.setCell ad (.int .i64 n)) := by
  change Sem.run P (do
    let a ← asAddr (.pointer (some ad))
    let old ← Extern.Atomic.read (.int .i64) a
    store a (.int .i64 n) .atomic
    pure old) w = _
  simp [Extern.Atomic.read, asAddr, hc, hz, run_store P w ad (.int .i64 n) .atomic rfl, Result.andThen]
theorem ev_swapi {ad : Addr} {v n : Int} (hc : w.cell? ad = some (.int .i64 v)) (hz : w.frozen? ad = false) (es : Array Event) : (Extern.Atomic.swapT (.int .i64) #[.pointer (some ad), .int .i64 n]).events P w es = (es.push ⟨.cell ad, false, true⟩).push ⟨.cell ad, true, true⟩ := by
  change Sem.events P (do
    let a ← asAddr (.pointer (some ad))
    let old ← Extern.Atomic.read (.int .i64) a
    store a (.int .i64 n) .atomic
    pure old) w es = _
  simp [Extern.Atomic.read, asAddr, hc, hz, events_load, events_store P w _ ad (.int .i64 n) .atomic rfl, Result.evThen]
theorem stepG_swapi {x y : Operand} (ho : ops[i]? = some o) (hw : Region.wanted o (yielded ops a.tmps) = true) (hk : b.kind ≠ .early) (hop : o.op = .call { callee := .value (.func f), args := #[x, y], argTypes := ats })
    (hf : P.funcs[f]? = some fn) (hname : (fn.name == "runtime.NumGoroutine") = false) (hb : fn.body.isNone = true) (hn : Extern.findNext fn = none)
    (he : Extern.find fn = some (Extern.Atomic.swapT (.int .i64))) {ad : Addr} {v d : Int} (hx : a.eval x = .pointer (some ad)) (hy : a.eval y = .int .i64 d) (hc : w.cell? ad = some (.int .i64 v)) (hz : w.frozen? ad = false) :
    stepG P main (G (b.at a (.inRegion ops (i :: rest) :: kk)) cs) w = .go (G (b.at (a.put o.dst (.int .i64 v)) (.inRegion ops rest :: kk)) cs) (w.setCell ad (.int .i64 d)) #[⟨.cell ad, false, true⟩, ⟨.cell ad, true, true⟩] := by
  have hm : (#[x, y] : Array Operand).map a.eval = #[.pointer (some ad), .int .i64 d] := by simp [hx, hy]
  exact stepG_entry ho hw hk hop hf hname hb hn he (by rw [hm]; exact run_swapi hc hz) (by rw [hm, ev_swapi hc hz]; rfl) (sync_rw ad)
end
section
variable {main : Bool} {V : Nat → Option Wait}
theorem atSwap (b q : Nat) (v x : Int) (w : World) (hc : w.cell? ⟨b, q, none⟩ = some (.int .i64 v)) (hz : w.frozen? ⟨b, q, none⟩ = false) (hf : Free V ⟨b, q, none⟩) : CallV Try.prog main V 34 #[.pointer (some ⟨b, q, none⟩), .int .i64 x] w (.int .i64 v) (w.setCell ⟨b, q, none⟩ (.int .i64 x)) := by
  refine callW_in Try.func34 rfl fun fr cs => ?_
  simp only [Try.ntmps34, ez, Nat.reduceAdd, Nat.reduceSub]
  repeat (first | refine Walk.cx ?_ | refine Walk.cR ?_ | (refine Walk.oq ?_; try walk_nrm) | (refine Walk.un ?_; walk_nrm))
  refine Walk.turn (W := w.setCell ⟨b, q, none⟩ (.int .i64 x)) rfl (fun d => stepG_swapi (w := w.at d) rfl (by rfl) (by decide) rfl Try.func46 (by kernel_rfl) (by rfl) (by kernel_rfl) (by kernel_rfl) rfl rfl hc hz) (fun d => DR.set' hf hc d _ (evR_rw hf)) ?_
  walk_nrm
  repeat (first | refine Walk.cx ?_ | refine Walk.cR ?_ | (refine Walk.oq ?_; try walk_nrm) | (refine Walk.un ?_; walk_nrm))
  exact Walk.ret1 rfl rfl Try.func34 rfl fun d => ⟨rfl, d, rfl⟩
end
noncomputable def reg24_0 := rg Try.f24.body [0]
noncomputable def reg24_1 := rg Try.f24.body [1, 0, 0]
noncomputable def reg24_2 := rg Try.f24.body [1, 0, 1, 0, 0]
noncomputable def reg24_3 := rg Try.f24.body [1, 1, 0]
noncomputable def reg24_4 := rg Try.f24.body [1, 1, 1, 0]
theorem z24 : List.range reg24_0.size = [0] ∧ List.range reg24_1.size = [0, 1] ∧ List.range reg24_2.size = [0] ∧ List.range reg24_3.size = [0, 1] ∧ List.range reg24_4.size = [0, 1, 2, 3, 4, 5] := by refine ⟨?_, ?_, ?_, ?_, ?_⟩ <;> kernel_rfl
theorem code24_is : Try.f24.body = some (.seq (.region 0 reg24_0 false) (.seq (.seq (.region 1 reg24_1 false) (.cond (.tmp 8 ) (.seq (.region 2 reg24_2 false) (.ret)) (.skip))) (.seq (.region 3 reg24_3 false) (.seq (.region 4 reg24_4 false) (.ret))))) := by kernel_rfl
section
variable {L : La} {sv : Value}
theorem word_swap (K : Lg L sv) (W : Wd L) (e : K.E) (d : L.D) (x : Int) (hx : ∀ y, W.ok y) (hon : W.on (K.gh e)) (ht : K.tgt e = (K.s e, .inr d)) : SCall K.toLb 24 #[W.p, sv, .int .i64 x] e (fun v e' => ∃ s, v = .int .i64 (W.get s) ∧ Wrote K e d s (W.put s x) e') := by
  intro fr l hp hl hk
  unfold Wd.p
  unfold LW
  have hp1 := fun w => run_eql_ptr (P := Try.prog) 64 undWord (some ⟨W.b, W.q, none⟩) w
  have hp2 := fun w es => ev_eql_ptr (P := Try.prog) 64 undWord (some ⟨W.b, W.q, none⟩) w es
  simp only [Option.isNone_some] at hp1
  rw [enter_at _ Try.func24 code24_is]
  simp only [Try.ntmps24, ez, Nat.reduceAdd, Nat.reduceSub]
  repeat (first | refine Walk.cx ?_ | (refine Walk.cReg ?_; simp only [z24]) | (refine Walk.oq ?_; try walk_nrm) | (refine Walk.un ?_; walk_nrm))
  refine LW.callS (K := K.toLb) (e := e) (l := fr :: l) (f := 32) (Q := fun _ e' => Aft K.toLb e d e') ?_ (ho_of (by conv => lhs; whnf) (by kernel_rfl)) (by rfl) (by decide) rfl Try.func32 (by kernel_rfl) (by rfl) ⟨rfl, rfl, _, Try.func24⟩ (plain_cons hp hl) ?_
  · walk_nrm
    exact step_s K e d ht
  intro v e1 ha
  obtain ⟨hc, hz⟩ := W.rd _ _ _ (W.up ha.le hon) (K.inv e1)
  obtain ⟨e', m⟩ := W.put_mv K e1 x (W.up ha.le hon) (hx _)
  have hkk := hk (.int .i64 (W.get (K.s e1))) e' ⟨K.s e1, rfl, Wrote.of hon ha m⟩
  generalize hg : W.get (K.s e1) = gv at *
  unfold LW
  walk_nrm
  repeat (first | refine Walk.cx ?_ | (refine Walk.cReg ?_; simp only [z24]) | (refine Walk.oq ?_; try walk_nrm) | (refine Walk.un ?_; walk_nrm))
  refine Walk.callV (x := .int .i64 gv) (W := (K.w e1).setCell ⟨W.b, W.q, none⟩ (.int .i64 x)) ?_ (ho_of (by conv => lhs; whnf) (by kernel_rfl)) (by rfl) (by decide) rfl Try.func34 (by kernel_rfl) (by rfl) ?_
  · walk_nrm
    exact atSwap W.b W.q gv x (K.w e1) hc hz ((K.shA e1 _ (W.sh _ (W.up ha.le hon))).1 _ rfl)
  walk_nrm
  repeat (first | refine Walk.cx ?_ | (refine Walk.cReg ?_; simp only [z24]) | (refine Walk.oq ?_; try walk_nrm) | (refine Walk.un ?_; walk_nrm))
  exact Walk.on1 rfl rfl Try.func24 rfl (LW.to m hkk)
end
end
section
abbrev Sp := Nat → Int
inductive SD where
  | a1 (i : Nat) (v : Int) | u1 (k : Nat) (seen : List Int) | t1 (k : Nat) (seen : List Int) | m1 (i j : Nat) (v : Int) | m2 (j : Nat) (v : Int) | e1 (k : Nat) (seen : List Int) | e2 (k : Nat) (seen : List Int)
def sumZ (l : List Int) : Int := l.foldl (fun a x => IntKind.i64.wrap (a + x)) 0
theorem sumZ_snoc (l : List Int) (x : Int) : sumZ (l ++ [x]) = IntKind.i64.wrap (sumZ l + x) := by simp [sumZ]
def stAt (m : Nat) (a : Int) : Nat := (a % (m : Int)).toNat
theorem stAt_lt {m : Nat} (hm : 0 < m) (a : Int) : stAt m a < m := by
  unfold stAt
  have h1 := Int.emod_nonneg a (show (m : Int) ≠ 0 by omega)
  have h2 := Int.emod_lt_of_pos a (show (0 : Int) < m by omega)
  omega
def spPut (s : Sp) (i : Nat) (v : Int) : Sp := upd s i v
def spEnter (m : Nat) (s : Sp) (_ : Int) (o : OpV) : Sp × (Ans ⊕ SD) :=
  if o.k = 1 then (s, .inr (.a1 (stAt m o.a) o.b)) else if o.k = 2 then (s, .inr (.u1 0 [])) else if o.k = 3 then (s, .inr (.t1 0 [])) else if o.k = 4 then (s, .inr (.m1 (stAt m o.a) (stAt m o.b) o.c)) else if o.k = 5 then (s, .inr (.e1 0 [])) else (s, .inl ⟨false, 0, []⟩)
def spAct (m : Nat) (s : Sp) : SD → Sp × (Ans ⊕ SD)
  | .a1 i v => (spPut s i (IntKind.i64.wrap (s i + v)), .inl ⟨true, IntKind.i64.wrap (s i + v), []⟩)
  | .u1 k l => (s, if k + 1 = m then .inl ⟨true, sumZ (l ++ [s k]), []⟩ else .inr (.u1 (k + 1) (l ++ [s k])))
  | .t1 k l => (spPut s k 0, if k + 1 = m then .inl ⟨true, sumZ (l ++ [s k]), []⟩ else .inr (.t1 (k + 1) (l ++ [s k])))
  | .m1 i j v => (spPut s i (IntKind.i64.wrap (s i + IntKind.i64.wrap (-v))), .inr (.m2 j v))
  | .m2 j v => (spPut s j (IntKind.i64.wrap (s j + v)), .inl ⟨true, 0, []⟩)
  | .e1 k l => (s, if k + 1 = m then .inr (.e2 0 (l ++ [s k])) else .inr (.e1 (k + 1) (l ++ [s k])))
  | .e2 k l => (s, if s k ≠ l.getD k 0 then .inl ⟨false, 0, []⟩ else if k + 1 = m then .inl ⟨true, sumZ l, []⟩ else .inr (.e2 (k + 1) l))
structure SpI (cb rb m : Nat) (ra : Option Addr) (rc : Nat) (s : Sp) (w : World) : Prop where
  hd : w.heap[cb]? = some (.cells #[.int .i64 (s 0), .slice ra (m - 1) rc] 61)
  row : 1 < m → ra = some ⟨rb, 0, none⟩ ∧ ∃ arr : Array Value, w.heap[rb]? = some (.cells arr 59) ∧ ∀ i, 1 ≤ i → i < m → arr[i - 1]? = some (.int .i64 (s i))
  ne : 1 < m → cb ≠ rb
  pos : 0 < m ∧ m ≤ 64
theorem SpI.old {cb rb m : Nat} {ra : Option Addr} {rc : Nat} {s : Sp} {w w' : World} (h : SpI cb rb m ra rc s w) (hb : ∀ b, b = cb ∨ (1 < m ∧ b = rb) → w'.heap[b]? = w.heap[b]?) : SpI cb rb m ra rc s w' := by
  refine ⟨(hb cb (.inl rfl)).trans h.hd, fun hm => ?_, h.ne, h.pos⟩
  obtain ⟨e, arr, h1, h2⟩ := h.row hm
  exact ⟨e, arr, (hb rb (.inr ⟨hm, rfl⟩)).trans h1, h2⟩
theorem SpI.lt {cb rb m : Nat} {ra : Option Addr} {rc : Nat} {s : Sp} {w : World} (h : SpI cb rb m ra rc s w) : cb < w.heap.size := (Array.getElem?_eq_some_iff.1 h.hd).1
theorem SpI.ltr {cb rb m : Nat} {ra : Option Addr} {rc : Nat} {s : Sp} {w : World} (h : SpI cb rb m ra rc s w) (hm : 1 < m) : rb < w.heap.size := by
  obtain ⟨_, arr, h1, _⟩ := h.row hm
  exact (Array.getElem?_eq_some_iff.1 h1).1
def spLa (cb rb m : Nat) (ra : Option Addr) (rc : Nat) : La where
  Sg := Sp
  D := SD
  Gh := Unit
  le := fun _ _ => True
  refl := fun _ => trivial
  trans := fun _ _ => trivial
  enter := spEnter m
  act := spAct m
  sh := fun _ b => b = cb ∨ (1 < m ∧ b = rb)
  mono := fun _ h => h
  I := fun _ => SpI cb rb m ra rc
  stable := fun h hb => h.old hb
  lt := fun h hb => by
    rcases hb with rfl | ⟨hm, rfl⟩
    · exact h.lt
    · exact h.ltr hm
section
variable {cb rb m : Nat} {ra : Option Addr} {rc : Nat}
def spB (cb rb i : Nat) : Nat := if i = 0 then cb else rb
theorem SpI.rd {i : Nat} (hi : i < m) {s : Sp} {w : World} (h : SpI cb rb m ra rc s w) : w.cell? ⟨spB cb rb i, i - 1, none⟩ = some (.int .i64 (s i)) ∧ w.frozen? ⟨spB cb rb i, i - 1, none⟩ = false := by
  unfold spB
  split
  · rename_i e
    subst e
    exact ⟨(cell_of h.hd 0).trans rfl, frozen_of h.hd 0⟩
  · obtain ⟨_, arr, h1, h2⟩ := h.row (by omega)
    exact ⟨(cell_of h1 _).trans (h2 i (by omega) hi), frozen_of h1 _⟩
theorem SpI.wr {i : Nat} (hi : i < m) {s : Sp} {w : World} (v : Int) (h : SpI cb rb m ra rc s w) : SpI cb rb m ra rc (spPut s i v) (w.setCell ⟨spB cb rb i, i - 1, none⟩ (.int .i64 v)) := by
  unfold spB spPut
  split
  · rename_i e
    subst e
    refine ⟨?_, fun hm => ?_, h.ne, h.pos⟩
    · rw [heap_set_self _ _ h.hd, upd_same]
      simp
    · obtain ⟨e, arr, h1, h2⟩ := h.row hm
      refine ⟨e, arr, (heap_set_other _ _ _ _ (Ne.symm (h.ne hm))).trans h1, fun j hj hjm => ?_⟩
      rw [upd_ne _ _ (by omega)]
      exact h2 j hj hjm
  · obtain ⟨e, arr, h1, h2⟩ := h.row (by omega)
    refine ⟨?_, fun hm => ⟨e, _, heap_set_self _ _ h1, fun j hj hjm => ?_⟩, h.ne, h.pos⟩
    · rw [heap_set_other _ _ _ _ (h.ne (by omega)), h.hd, upd_ne _ _ (by omega)]
    · by_cases e : j = i
      · subst e
        rw [upd_same]
        exact Array.getElem?_setIfInBounds_self_of_lt (Array.getElem?_eq_some_iff.1 (h2 j hj hjm)).1
      · rw [upd_ne _ _ e, Array.getElem?_setIfInBounds_ne (by omega)]
        exact h2 j hj hjm
def spW (i : Nat) (hi : i < m) : Wd (spLa cb rb m ra rc) where
  on := fun _ => True
  up := fun _ _ => trivial
  b := spB cb rb i
  q := i - 1
  get := fun s => (s : Sp) i
  put := fun s v => spPut s i v
  ok := fun _ => True
  sh := fun _ _ => by
    unfold spB
    split
    · exact .inl rfl
    · exact .inr ⟨by omega, rfl⟩
  rd := fun _ s w _ h => SpI.rd hi h
  wr := fun _ s w v _ _ h => SpI.wr hi v h
end
end
section
theorem undCtr : Try.prog.underlying 42 = some (.pointer 61) := by kernel_rfl
theorem emod_pos {a m : Int} (hm : 0 < m) (h : 0 ≤ a.tmod m) : a % m = a.tmod m := by
  have h1 := Int.mul_tdiv_add_tmod a m
  have h2 := Int.tmod_lt_of_pos a hm
  generalize a.tmod m = r at *
  rw [← h1, Int.add_comm, Int.add_mul_emod_self_left]
  exact Int.emod_eq_of_lt h h2
theorem emod_neg {a m : Int} (hm : 0 < m) (h : a.tmod m < 0) : a % m = a.tmod m + m := by
  have h1 := Int.mul_tdiv_add_tmod a m
  have h2 := Int.lt_tmod_of_pos a hm
  generalize a.tmod m = r at *
  rw [← h1, Int.add_comm, Int.add_mul_emod_self_left]
  have h3 : (r + m) % m = r % m := by simp
  rw [← h3]
  exact Int.emod_eq_of_lt (by omega) (by omega)
def spP (cb rb i : Nat) : Value := .pointer (some ⟨spB cb rb i, i - 1, none⟩)
noncomputable def reg30_0 := rg Try.f30.body [0]
noncomputable def reg30_1 := rg Try.f30.body [1, 0, 0]
noncomputable def reg30_2 := rg Try.f30.body [1, 0, 1, 0, 0]
noncomputable def reg30_3 := rg Try.f30.body [1, 1, 0]
theorem z30 : List.range reg30_0.size = [0] ∧ List.range reg30_1.size = [0, 1] ∧ List.range reg30_2.size = [0] ∧ List.range reg30_3.size = [0, 1, 2, 3, 4, 5, 6] := by refine ⟨?_, ?_, ?_, ?_⟩ <;> kernel_rfl
theorem code30_is : Try.f30.body = some (.seq (.region 0 reg30_0 false) (.seq (.seq (.region 1 reg30_1 false) (.cond (.tmp 4 ) (.seq (.region 2 reg30_2 false) (.ret)) (.skip))) (.seq (.region 3 reg30_3 false) (.ret)))) := by kernel_rfl
noncomputable def reg31_0 := rg Try.f31.body [0]
noncomputable def reg31_1 := rg Try.f31.body [1, 0, 0]
noncomputable def reg31_2 := rg Try.f31.body [1, 0, 1, 0, 0]
noncomputable def reg31_3 := rg Try.f31.body [1, 1, 0]
theorem z31 : List.range reg31_0.size = [0] ∧ List.range reg31_1.size = [0, 1] ∧ List.range reg31_2.size = [0, 1, 2, 3] ∧ List.range reg31_3.size = [0, 1, 2, 3, 4, 5, 6, 7] := by refine ⟨?_, ?_, ?_, ?_⟩ <;> kernel_rfl
theorem code31_is : Try.f31.body = some (.seq (.region 0 reg31_0 false) (.seq (.seq (.region 1 reg31_1 false) (.cond (.tmp 6 ) (.seq (.region 2 reg31_2 false) (.ret)) (.skip))) (.seq (.region 3 reg31_3 false) (.ret)))) := by kernel_rfl
noncomputable def reg18_0 := rg Try.f18.body [0]
noncomputable def reg18_1 := rg Try.f18.body [1, 0]
noncomputable def reg18_2 := rg Try.f18.body [1, 1, 0, 0]
noncomputable def reg18_3 := rg Try.f18.body [1, 1, 0, 1, 0, 0]
noncomputable def reg18_4 := rg Try.f18.body [1, 1, 1, 0]
noncomputable def reg18_5 := rg Try.f18.body [1, 1, 1, 1, 0, 0]
noncomputable def reg18_6 := rg Try.f18.body [1, 1, 1, 1, 0, 1, 0]
noncomputable def reg18_7 := rg Try.f18.body [1, 1, 1, 1, 1, 0]
theorem z18 : List.range reg18_0.size = [0] ∧ List.range reg18_1.size = [0, 1, 2] ∧ List.range reg18_2.size = [0, 1] ∧ List.range reg18_3.size = [0] ∧ List.range reg18_4.size = [0, 1, 2, 3] ∧ List.range reg18_5.size = [0, 1] ∧ List.range reg18_6.size = [0, 1, 2, 3] ∧ List.range reg18_7.size = [0, 1, 2, 3] := by refine ⟨?_, ?_, ?_, ?_, ?_, ?_, ?_, ?_⟩ <;> kernel_rfl
theorem code18_is : Try.f18.body = some (.seq (.region 0 reg18_0 false) (.seq (.region 1 reg18_1 false) (.seq (.seq (.region 2 reg18_2 false) (.cond (.tmp 10 ) (.seq (.region 3 reg18_3 false) (.ret)) (.skip))) (.seq (.region 4 reg18_4 false) (.seq (.seq (.region 5 reg18_5 false) (.cond (.tmp 15 ) (.region 6 reg18_6 false) (.skip))) (.seq (.region 7 reg18_7 false) (.ret))))))) := by kernel_rfl
noncomputable def reg21_0 := rg Try.f21.body [0]
noncomputable def reg21_1 := rg Try.f21.body [1, 0]
noncomputable def reg21_2 := rg Try.f21.body [1, 1, 0, 0]
noncomputable def reg21_3 := rg Try.f21.body [1, 1, 0, 1, 0, 0, 0]
noncomputable def reg21_4 := rg Try.f21.body [1, 1, 0, 1, 0, 0, 1, 1, 0, 0, 0]
noncomputable def reg21_5 := rg Try.f21.body [1, 1, 0, 1, 0, 0, 1, 1, 0, 0, 1]
noncomputable def reg21_6 := rg Try.f21.body [1, 1, 0, 1, 0, 0, 1, 1, 1]
noncomputable def reg21_7 := rg Try.f21.body [1, 1, 1, 0]
theorem z21 : List.range reg21_0.size = [0] ∧ List.range reg21_1.size = [0] ∧ List.range reg21_2.size = [0, 1, 2] ∧ List.range reg21_3.size = [0] ∧ List.range reg21_4.size = [0, 1, 2] ∧ List.range reg21_5.size = [0, 1, 2, 3] ∧ List.range reg21_6.size = [0, 1] ∧ List.range reg21_7.size = [0, 1] := by refine ⟨?_, ?_, ?_, ?_, ?_, ?_, ?_, ?_⟩ <;> kernel_rfl
theorem code21_is : Try.f21.body = some (.seq (.region 0 reg21_0 false) (.seq (.region 1 reg21_1 false) (.seq (.seq (.region 2 reg21_2 false) (.block 0 (.loop (.seq (.region 3 reg21_3 false) (.seq (.cond (.tmp 9 ) (.skip) (.exit 0)) (.seq (.block 1 (.seq (.region 4 reg21_4 false) (.region 5 reg21_5 false))) (.region 6 reg21_6 false))))))) (.seq (.region 7 reg21_7 false) (.ret))))) := by kernel_rfl
noncomputable def hdSum (b n c : Nat) (t : Int) (j : Nat) (u : Nat → Value) : Frame :=
  (base 21).at { tmps := #[u 0, u 1, .int .i64 0, .int .i64 t, u 4, u 5, .slice (some ⟨b, 0, none⟩) n c, .int .i64 n, .int .i64 j, u 9, u 10, u 11, u 12, u 13, u 14, u 15, u 16], defers := [] } [.code (.seq (.region 3 reg21_3 false) (.seq (.cond (.tmp 9 ) (.skip) (.exit 0)) (.seq (.block 1 (.seq (.region 4 reg21_4 false) (.region 5 reg21_5 false))) (.region 6 reg21_6 false)))), .inLoop (.seq (.region 3 reg21_3 false) (.seq (.cond (.tmp 9 ) (.skip) (.exit 0)) (.seq (.block 1 (.seq (.region 4 reg21_4 false) (.region 5 reg21_5 false))) (.region 6 reg21_6 false)))), .inBlock 0, .code (.seq (.region 7 reg21_7 false) (.ret))]
section
variable {main : Bool} {V : Nat → Option Wait} {cb rb m : Nat} {ra : Option Addr} {rc : Nat} {s : Sp}
theorem stripes_w (w : World) (I : SpI cb rb m ra rc s w) : CallV Try.prog main V 30 #[.pointer (some ⟨cb, 0, none⟩)] w (.int .i64 m) w := by
  obtain ⟨k, rfl⟩ : ∃ k, m = k + 1 := ⟨m - 1, by have := I.pos; omega⟩
  have hm := I.pos.2
  have c1 : w.cell? ⟨cb, 1, none⟩ = some (.slice ra k rc) := (cell_of I.hd 1).trans rfl
  have hp1 := fun w => run_eql_ptr (P := Try.prog) 42 undCtr (some ⟨cb, 0, none⟩) w
  have hp2 := fun w es => ev_eql_ptr (P := Try.prog) 42 undCtr (some ⟨cb, 0, none⟩) w es
  have hw : IntKind.i64.wrap (1 + (k : Int)) = ((k + 1 : Nat) : Int) := by rw [IntKind.wrap_i64]; omega
  simp only [Option.isNone_some] at hp1
  clear I
  refine callW_in Try.func30 code30_is fun fr cs => ?_
  simp only [Try.ntmps30, ez, Nat.reduceAdd, Nat.reduceSub]
  repeat (first | refine Walk.cx ?_ | (refine Walk.cReg ?_; simp only [z30]) | (refine Walk.oq ?_; try walk_nrm) | (refine Walk.un ?_; walk_nrm))
  exact Walk.ret1 rfl rfl Try.func30 rfl fun d => ⟨rfl, d, rfl⟩
theorem stripe_wz (w : World) : CallV Try.prog main V 31 #[.pointer (some ⟨cb, 0, none⟩), .int .i64 0] w (.pointer (some ⟨cb, 0, none⟩)) w := by
  refine callW_in Try.func31 code31_is fun fr cs => ?_
  simp only [Try.ntmps31, ez, Nat.reduceAdd, Nat.reduceSub]
  repeat (first | refine Walk.cx ?_ | (refine Walk.cReg ?_; simp only [z31]) | (refine Walk.oq ?_; try walk_nrm) | (refine Walk.un ?_; walk_nrm))
  exact Walk.ret1 rfl rfl Try.func31 rfl fun d => ⟨rfl, d, rfl⟩
theorem stripe_ws (j : Nat) (hi : j + 1 < m) (w : World) (I : SpI cb rb m ra rc s w) : CallV Try.prog main V 31 #[.pointer (some ⟨cb, 0, none⟩), .int .i64 ((j : Int) + 1)] w (.pointer (some ⟨rb, j, none⟩)) w := by
  have hm := I.pos.2
  obtain ⟨rfl, _⟩ := I.row (by omega)
  have c1 : w.cell? ⟨cb, 1, none⟩ = some (.slice (some ⟨rb, 0, none⟩) (m - 1) rc) := (cell_of I.hd 1).trans rfl
  have hb0 : ((j : Int) + 1 == 0) = false := by simp; omega
  have hw : IntKind.i64.wrap ((j : Int) + 1 - 1) = (j : Int) := by rw [IntKind.wrap_i64]; omega
  have hw2 : IntKind.i64.wrap (j : Int) = (j : Int) := by rw [IntKind.wrap_i64]; omega
  have hj0 : (0 : Int) ≤ j := by omega
  obtain ⟨k, hk⟩ : ∃ k, m - 1 = k := ⟨_, rfl⟩
  rw [hk] at c1
  have hj1 : (j : Int) < k := by omega
  clear I hk
  refine callW_in Try.func31 code31_is fun fr cs => ?_
  simp only [Try.ntmps31, ez, Nat.reduceAdd, Nat.reduceSub]
  repeat (first | refine Walk.cx ?_ | (refine Walk.cReg ?_; simp only [z31]) | (refine Walk.oq ?_; try walk_nrm) | (refine Walk.un ?_; walk_nrm))
  exact Walk.ret1 rfl rfl Try.func31 rfl fun d => ⟨rfl, d, rfl⟩
theorem stripe_w (i : Nat) (hi : i < m) (w : World) (I : SpI cb rb m ra rc s w) : CallV Try.prog main V 31 #[.pointer (some ⟨cb, 0, none⟩), .int .i64 i] w (spP cb rb i) w := by
  cases i with
  | zero => exact stripe_wz w
  | succ j =>
    have h := stripe_ws (main := main) (V := V) j hi w I
    have hcc : ((j + 1 : Nat) : Int) = (j : Int) + 1 := by simp
    rw [hcc]
    exact h
theorem stAt_neg {a : Int} (hm : 0 < m) (h : a.tmod m < 0) : ((stAt m a : Nat) : Int) = a.tmod m + m := by
  have e := emod_neg (show (0 : Int) < m by omega) h
  have t1 := Int.lt_tmod_of_pos a (show (0 : Int) < m by omega)
  unfold stAt
  omega
theorem stAt_pos {a : Int} (hm : 0 < m) (h : 0 ≤ a.tmod m) : ((stAt m a : Nat) : Int) = a.tmod m := by
  have e := emod_pos (show (0 : Int) < m by omega) h
  unfold stAt
  omega
theorem at_neg (a : Int) (hr : a.tmod m < 0) (w : World) (I : SpI cb rb m ra rc s w) : CallV Try.prog main V 18 #[.pointer (some ⟨cb, 0, none⟩), .int .i64 a] w (spP cb rb (stAt m a)) w := by
  have hm0 := I.pos.1
  have hm := I.pos.2
  have k1 := stripes_w (main := main) (V := V) w I
  have k2 := stripe_w (main := main) (V := V) (stAt m a) (stAt_lt hm0 a) w I
  have hmz : ((m : Int) == 0) = false := by simp; omega
  have hmz' : ¬ (m : Int) = 0 := by omega
  have hmz2 : ¬ m = 0 := by omega
  have t1 := Int.lt_tmod_of_pos a (show (0 : Int) < m by omega)
  have t2 := Int.tmod_lt_of_pos a (show (0 : Int) < m by omega)
  have hA := stAt_neg hm0 hr
  clear I
  rw [hA] at k2
  clear hA
  generalize stAt m a = i at *
  generalize hR : a.tmod m = R at *
  have hd : decide (R < 0) = true := by simp; omega
  have hw : IntKind.i64.wrap (R + (m : Int)) = R + m := by rw [IntKind.wrap_i64]; omega
  have hw2 : IntKind.i64.wrap R = R := by rw [IntKind.wrap_i64]; omega
  refine callW_in Try.func18 code18_is fun fr cs => ?_
  simp only [Try.ntmps18, ez, Nat.reduceAdd, Nat.reduceSub]
  repeat (first | refine Walk.cx ?_ | (refine Walk.cReg ?_; simp only [z18]) | (refine Walk.oq ?_; try walk_nrm) | (refine Walk.un ?_; walk_nrm))
  refine Walk.callV (x := .int .i64 m) (W := w) ?_ (ho_of (by conv => lhs; whnf) (by kernel_rfl)) (by rfl) (by decide) rfl Try.func30 (by kernel_rfl) (by rfl) ?_
  · walk_nrm
    exact k1
  walk_nrm
  repeat (first | refine Walk.cx ?_ | (refine Walk.cReg ?_; simp only [z18]) | (refine Walk.oq ?_; try walk_nrm) | (refine Walk.un ?_; walk_nrm))
  refine Walk.callV (x := spP cb rb i) (W := w) ?_ (ho_of (by conv => lhs; whnf) (by kernel_rfl)) (by rfl) (by decide) rfl Try.func31 (by kernel_rfl) (by rfl) ?_
  · walk_nrm
    exact k2
  walk_nrm
  repeat (first | refine Walk.cx ?_ | (refine Walk.cReg ?_; simp only [z18]) | (refine Walk.oq ?_; try walk_nrm) | (refine Walk.un ?_; walk_nrm))
  exact Walk.ret1 rfl rfl Try.func18 rfl fun d => ⟨rfl, d, rfl⟩
theorem at_pos (a : Int) (hr : 0 ≤ a.tmod m) (w : World) (I : SpI cb rb m ra rc s w) : CallV Try.prog main V 18 #[.pointer (some ⟨cb, 0, none⟩), .int .i64 a] w (spP cb rb (stAt m a)) w := by
  have hm0 := I.pos.1
  have hm := I.pos.2
  have k1 := stripes_w (main := main) (V := V) w I
  have k2 := stripe_w (main := main) (V := V) (stAt m a) (stAt_lt hm0 a) w I
  have hmz : ((m : Int) == 0) = false := by simp; omega
  have hmz' : ¬ (m : Int) = 0 := by omega
  have hmz2 : ¬ m = 0 := by omega
  have t1 := Int.lt_tmod_of_pos a (show (0 : Int) < m by omega)
  have t2 := Int.tmod_lt_of_pos a (show (0 : Int) < m by omega)
  have hA := stAt_pos hm0 hr
  clear I
  rw [hA] at k2
  clear hA
  generalize stAt m a = i at *
  generalize hR : a.tmod m = R at *
  have hd : decide (R < 0) = false := by simp; omega
  have hw2 : IntKind.i64.wrap R = R := by rw [IntKind.wrap_i64]; omega
  refine callW_in Try.func18 code18_is fun fr cs => ?_
  simp only [Try.ntmps18, ez, Nat.reduceAdd, Nat.reduceSub]
  repeat (first | refine Walk.cx ?_ | (refine Walk.cReg ?_; simp only [z18]) | (refine Walk.oq ?_; try walk_nrm) | (refine Walk.un ?_; walk_nrm))
  refine Walk.callV (x := .int .i64 m) (W := w) ?_ (ho_of (by conv => lhs; whnf) (by kernel_rfl)) (by rfl) (by decide) rfl Try.func30 (by kernel_rfl) (by rfl) ?_
  · walk_nrm
    exact k1
  walk_nrm
  repeat (first | refine Walk.cx ?_ | (refine Walk.cReg ?_; simp only [z18]) | (refine Walk.oq ?_; try walk_nrm) | (refine Walk.un ?_; walk_nrm))
  refine Walk.callV (x := spP cb rb i) (W := w) ?_ (ho_of (by conv => lhs; whnf) (by kernel_rfl)) (by rfl) (by decide) rfl Try.func31 (by kernel_rfl) (by rfl) ?_
  · walk_nrm
    exact k2
  walk_nrm
  repeat (first | refine Walk.cx ?_ | (refine Walk.cReg ?_; simp only [z18]) | (refine Walk.oq ?_; try walk_nrm) | (refine Walk.un ?_; walk_nrm))
  exact Walk.ret1 rfl rfl Try.func18 rfl fun d => ⟨rfl, d, rfl⟩
theorem at_w (a : Int) (w : World) (I : SpI cb rb m ra rc s w) : CallV Try.prog main V 18 #[.pointer (some ⟨cb, 0, none⟩), .int .i64 a] w (spP cb rb (stAt m a)) w := by
  by_cases h : a.tmod m < 0
  · exact at_neg a h w I
  · exact at_pos a (by omega) w I
theorem sum_in (b n c : Nat) (cs : List Frame) (w : World) : Walk Try.prog main (DR V) (fun g w' => (∃ u, g = G (hdSum b n c 0 0 u) cs) ∧ ∃ d, w' = w.at d) (G (Frame.enter Try.prog 21 #[.slice (some ⟨b, 0, none⟩) n c] .normal) cs) w := by
  rw [enter_at _ Try.func21 code21_is]
  simp only [Try.ntmps21, ez, Nat.reduceAdd, Nat.reduceSub]
  repeat (first | refine Walk.cx ?_ | (refine Walk.cReg ?_; simp only [z21]) | (refine Walk.oq ?_; try walk_nrm) | (refine Walk.un ?_; walk_nrm))
  refine Walk.ctl rfl (fun w => stepG_loop) ?_
  refine .stop fun d => ⟨at_slots ?_, d, rfl⟩
  simp only [hdSum]
  rfl
theorem sum_go (b n c j : Nat) (t x : Int) (hj : j < n) (hn : n ≤ 64) (u : Nat → Value) (cs : List Frame) (w : World) (hc : w.cell? ⟨b, j, none⟩ = some (.int .i64 x)) :
    Walk Try.prog main (DR V) (fun g w' => (∃ u, g = G (hdSum b n c (IntKind.i64.wrap (t + x)) (j + 1) u) cs) ∧ ∃ d, w' = w.at d) (G (hdSum b n c t j u) cs) w := by
  have hi0 : (0 : Int) ≤ j := by omega
  have hi1 : decide ((j : Int) < n) = true := by simp; omega
  have hi3 : decide (j < n) = true := by simp; omega
  have hi4 : (j : Int) < n := by omega
  have hw1 : IntKind.wrap .i64 ((j : Int) + 1) = (j : Int) + 1 := by rw [IntKind.wrap_i64]; omega
  have hcc : ((j + 1 : Nat) : Int) = (j : Int) + 1 := by simp
  conv => arg 5; unfold hdSum
  repeat (first | refine Walk.cx ?_ | (refine Walk.cReg ?_; simp only [z21]) | (refine Walk.oq ?_; try walk_nrm) | (refine Walk.un ?_; walk_nrm))
  refine Walk.ctl rfl (fun w => stepG_inLoop) ?_
  refine .stop fun d => ⟨at_slots ?_, d, rfl⟩
  simp only [hdSum, hcc]
  rfl
theorem sum_out (b n c : Nat) (t : Int) (u : Nat → Value) (fr : Frame) (cs : List Frame) (w : World) :
    Walk Try.prog main (DR V) (fun g w' => g = G (fr.finish (.int .i64 t)) cs ∧ ∃ d, w' = w.at d) (G (hdSum b n c t n u) (fr :: cs)) w := by
  have hi1 : decide ((n : Int) < n) = false := by simp
  have hi3 : decide (n < n) = false := by simp
  conv => arg 5; unfold hdSum
  repeat (first | refine Walk.cx ?_ | (refine Walk.cReg ?_; simp only [z21]) | (refine Walk.oq ?_; try walk_nrm) | (refine Walk.un ?_; walk_nrm))
  exact Walk.on1 rfl rfl Try.func21 rfl (.stop fun d => ⟨rfl, d, rfl⟩)
theorem sum_loop (b n c : Nat) (l : List Int) (hl : l.length = n) (hn : n ≤ 64) (fr : Frame) (cs : List Frame) (w : World) (hc : ∀ (j : Nat) (x : Int), l[j]? = some x → w.cell? ⟨b, j, none⟩ = some (.int .i64 x)) : ∀ (r j : Nat) (u : Nat → Value), j + r = n →
    Walk Try.prog main (DR V) (fun g w' => g = G (fr.finish (.int .i64 (sumZ l))) cs ∧ ∃ d, w' = w.at d) (G (hdSum b n c (sumZ (l.take j)) j u) (fr :: cs)) w := by
  intro r
  induction r with
  | zero =>
    intro j u hj
    obtain rfl : j = n := hj
    rw [List.take_of_length_le (by omega)]
    exact sum_out b j c (sumZ l) u fr cs w
  | succ r ih =>
    intro j u hj
    have hjl : j < l.length := by omega
    refine (sum_go b n c j (sumZ (l.take j)) l[j] (by omega) hn u (fr :: cs) w (hc j _ (List.getElem?_eq_getElem hjl))).then ?_
    rintro _ _ ⟨⟨u1, rfl⟩, d, rfl⟩
    refine Walk.back ?_ d
    have := ih (j + 1) u1 (by omega)
    rw [List.take_succ_eq_append_getElem hjl, sumZ_snoc] at this
    exact this
theorem sum_w (b n c : Nat) (l : List Int) (hl : l.length = n) (hn : n ≤ 64) (w : World) (hc : ∀ (j : Nat) (x : Int), l[j]? = some x → w.cell? ⟨b, j, none⟩ = some (.int .i64 x)) : CallV Try.prog main V 21 #[.slice (some ⟨b, 0, none⟩) n c] w (.int .i64 (sumZ l)) w := by
  intro fr cs
  refine (sum_in b n c (fr :: cs) w).then ?_
  rintro _ _ ⟨⟨u1, rfl⟩, d, rfl⟩
  refine Walk.back ?_ d
  refine (sum_loop b n c l hl hn fr cs w hc n 0 u1 (by omega)).mono ?_
  rintro g w' ⟨rfl, d, rfl⟩
  exact ⟨_, ⟨rfl, d, rfl⟩, rfl⟩
end
end
end Go.Proofs.Ytabpfdckgnimaaa
