/- Part 11. -/
import Derived.Test.YtgfajibjedfkdaaJL10
set_option linter.unusedSimpArgs false
set_option linter.unusedVariables false
set_option maxHeartbeats 8000000
set_option maxRecDepth 100000
namespace Go.Relay
section
open Go.Conc Go.RowKit
open Go.ConcN (upd upd_ne upd_same)
section
variable {P : Program} {main : Bool} {V : Nat → Option Wait} {Stop : Goroutine → World → Prop} {w : World} {b : Frame} {a : Act} {k : List Item} {cs : List Frame} {ops : Array Oper}
theorem Walk.drawnM3 {id m : Nat} (hm : P.follows .mixedOrders = true) (hsz : ops.size = m + 3) (hlow : lowB ops = true) (hc : calmB ops m = true) (hl : lastB ops m = true) (hl2 : waitsB ops (m + 1) m = true) (hl3 : waitsB ops (m + 2) (m + 1) = true) (hk : b.kind ≠ .early)
    (h : Cm P main V ops (· = w) (fun a => OpW P main V Stop b k cs ops m (fun a1 w1 => OpW P main V Stop b k cs ops (m + 1) (fun a2 w2 => OpW P main V Stop b k cs ops (m + 2) (fun a' w' => Walk P main (DR V) Stop (G (b.at a' (.inRegion ops [] :: k)) cs) w') a2 w2) a1 w1) a w) (List.range m) a) : Walk P main (DR V) Stop (G (b.at a (.code (.region id ops true) :: k)) cs) w := by
  rw [List.range_eq_range'] at h
  have h0 : Cm P main V ops (· = w) (fun a => OpW P main V Stop b k cs ops m (fun a1 w1 => OpW P main V Stop b k cs ops (m + 1) (fun a2 w2 => OpW P main V Stop b k cs ops (m + 2) (fun a' w' => Walk P main (DR V) Stop (G (b.at a' (.inRegion ops [] :: k)) cs) w') a2 w2) a1 w1) a w) (List.range' 0 m) (puts ops (fun _ => undef) (fun j => decide (j < 0)) a) := by
    have : puts ops (fun _ => undef) (fun j => decide (j < 0)) a = a := putsL_none _ a fun j _ => decide_eq_false (Nat.not_lt_zero j)
    rw [this]; exact h
  obtain ⟨vals, _, hcond, hend⟩ := cm_vals (Z := (· = w)) (ops := ops) (m := m) (w := w) rfl (by omega) m 0 (fun _ => undef) a (by omega) h0
  refine Walk.drawnJ (Inv := fun f x w' => (f m = true ∧ f (m + 1) = true ∧ f (m + 2) = true ∧ (∀ j, j < m → f j = true) ∧ Walk P main (DR V) Stop (G (b.at x (.inRegion ops [] :: k)) cs) w') ∨
    (f m = true ∧ f (m + 1) = true ∧ f (m + 2) = false ∧ (∀ j, j < m → f j = true) ∧ OpW P main V Stop b k cs ops (m + 2) (fun a' w' => Walk P main (DR V) Stop (G (b.at a' (.inRegion ops [] :: k)) cs) w') x w') ∨
    (f m = true ∧ f (m + 1) = false ∧ f (m + 2) = false ∧ (∀ j, j < m → f j = true) ∧ OpW P main V Stop b k cs ops (m + 1) (fun a2 w2 => OpW P main V Stop b k cs ops (m + 2) (fun a' w' => Walk P main (DR V) Stop (G (b.at a' (.inRegion ops [] :: k)) cs) w') a2 w2) x w') ∨
    (f m = false ∧ f (m + 1) = false ∧ f (m + 2) = false ∧ x = puts ops vals f a ∧ ∃ d, w' = w.at d)) hm hlow (fun d => .inr (.inr (.inr ⟨rfl, rfl, rfl, (puts_zero vals a).symm, d, rfl⟩))) ?_ ?_
  · rintro f i o x w' hI hC hf ho hd rest hr
    have hi : i < m + 3 := by have := (Array.getElem?_eq_some_iff.1 ho).1; omega
    rcases hI with ⟨h1, h2, h2', h3, _⟩ | ⟨h1, h2, h2', h3, h4⟩ | ⟨h1, h2, h2', h3, h4⟩ | ⟨h1, h2, h2', rfl, d, rfl⟩
    · exfalso
      have : i = m ∨ i = m + 1 ∨ i = m + 2 ∨ i < m := by omega
      rcases this with e | e | e | e
      · rw [e, h1] at hf; cases hf
      · rw [e, h2] at hf; cases hf
      · rw [e, h2'] at hf; cases hf
      · rw [h3 i e] at hf; cases hf
    · have hi1 : i = m + 2 := by
        have : i = m ∨ i = m + 1 ∨ i = m + 2 ∨ i < m := by omega
        rcases this with e | e | e | e
        · rw [e, h1] at hf; cases hf
        · rw [e, h2] at hf; cases hf
        · exact e
        · rw [h3 i e] at hf; cases hf
      subst hi1
      exact h4 rest fun a' w'' hw => hr a' w'' (.inl ⟨by rw [upd_ne _ _ (by omega)]; exact h1, by rw [upd_ne _ _ (by omega)]; exact h2, upd_same _ _ _, fun j hj => by rw [upd_ne _ _ (by omega)]; exact h3 j hj, hw⟩)
    · have hi1 : i = m + 1 := by
        have : i = m ∨ i = m + 1 ∨ i = m + 2 ∨ i < m := by omega
        rcases this with e | e | e | e
        · rw [e, h1] at hf; cases hf
        · exact e
        · exfalso
          subst e
          have := waits_at hl3 ho hd
          rw [h2] at this
          cases this
        · rw [h3 i e] at hf; cases hf
      subst hi1
      exact h4 rest fun a' w'' hw => hr a' w'' (.inr (.inl ⟨by rw [upd_ne _ _ (by omega)]; exact h1, upd_same _ _ _, by rw [upd_ne _ _ (by omega)]; exact h2', fun j hj => by rw [upd_ne _ _ (by omega)]; exact h3 j hj, hw⟩))
    · refine Walk.back ?_ d
      by_cases e : i = m
      · subst e
        have hall := last_all hl hC ho hd
        have : puts ops vals f a = puts ops vals (fun j => decide (j < i)) a := puts_congr (fun j hj => ⟨by
          by_cases hji : j < i
          · rw [hall (i - j) j (by omega) (by omega)]; exact (decide_eq_true hji).symm
          · have : j = i ∨ j = i + 1 ∨ j = i + 2 := by omega
            rcases this with rfl | rfl | rfl
            · rw [hf]; simp
            · rw [h2]; simp
            · rw [h2']; simp, fun _ => rfl⟩) a
        rw [this]
        refine hend rest fun a' w' hw' => hr a' w' (.inr (.inr (.inl ⟨upd_same _ _ _, by rw [upd_ne _ _ (by omega)]; exact h2, by rw [upd_ne _ _ (by omega)]; exact h2', fun j hj => ?_, hw'⟩)))
        rw [upd_ne _ _ (by omega)]
        exact hall (i - j) j (by omega) (by omega)
      · by_cases e2 : i = m + 1
        · exfalso
          subst e2
          have := waits_at hl2 ho hd
          rw [h1] at this
          cases this
        · by_cases e3 : i = m + 2
          · exfalso
            subst e3
            have := waits_at hl3 ho hd
            rw [h2] at this
            cases this
          · have him : i < m := by omega
            refine Walk.calmOp (Z := (· = w)) rfl hc hk him ho hd (hcond i o (Nat.zero_le _) him ho) ?_
            rw [← puts_upd hc him vals hf ho a]
            exact hr _ (w.at w.drawn) (.inr (.inr (.inr ⟨by rw [upd_ne _ _ (Ne.symm e)]; exact h1, by rw [upd_ne _ _ (Ne.symm e2)]; exact h2, by rw [upd_ne _ _ (Ne.symm e3)]; exact h2', rfl, w.drawn, rfl⟩)))
  · rintro f x w' hI hall
    rcases hI with ⟨_, _, _, _, h3⟩ | ⟨_, _, h1, _⟩ | ⟨_, h1, _⟩ | ⟨h1, _⟩
    · exact h3
    · rw [hall (m + 2) (by omega)] at h1; cases h1
    · rw [hall (m + 1) (by omega)] at h1; cases h1
    · rw [hall m (by omega)] at h1; cases h1
end
end
end Go.Relay
namespace Go.Proofs.Ytgfajibjedfkdaa
open Go.Conc Go.RowKit Go.Relay
open Go.ConcN (upd upd_ne upd_same)
section
noncomputable def reg16_0 : Array Oper := match Try.f16.body with | some (.seq (.region _ ops _) _) => ops | _ => #[]
theorem size16_0 : reg16_0.size = 1 := by kernel_rfl
noncomputable def reg16_1 : Array Oper := match Try.f16.body with | some (.seq _ (.seq (.seq (.region _ ops _) _) _)) => ops | _ => #[]
theorem size16_1 : reg16_1.size = 2 := by kernel_rfl
noncomputable def reg16_2 : Array Oper := match Try.f16.body with | some (.seq _ (.seq (.seq _ (.cond _ (.seq (.region _ ops _) _) _)) _)) => ops | _ => #[]
theorem size16_2 : reg16_2.size = 1 := by kernel_rfl
noncomputable def reg16_3 : Array Oper := match Try.f16.body with | some (.seq _ (.seq _ (.seq (.region _ ops _) _))) => ops | _ => #[]
theorem size16_3 : reg16_3.size = 6 := by kernel_rfl
theorem code16_is : Try.f16.body = some (.seq (.region 0 reg16_0 false) (.seq (.seq (.region 1 reg16_1 false) (.cond (.tmp 6 ) (.seq (.region 2 reg16_2 false) (.ret)) (.skip))) (.seq (.region 3 reg16_3 false) (.ret)))) := by kernel_rfl
noncomputable def reg17_0 : Array Oper := match Try.f17.body with | some (.seq (.region _ ops _) _) => ops | _ => #[]
theorem size17_0 : reg17_0.size = 1 := by kernel_rfl
noncomputable def reg17_1 : Array Oper := match Try.f17.body with | some (.seq _ (.seq (.seq (.region _ ops _) _) _)) => ops | _ => #[]
theorem size17_1 : reg17_1.size = 2 := by kernel_rfl
noncomputable def reg17_2 : Array Oper := match Try.f17.body with | some (.seq _ (.seq (.seq _ (.cond _ (.seq (.region _ ops _) _) _)) _)) => ops | _ => #[]
theorem size17_2 : reg17_2.size = 1 := by kernel_rfl
noncomputable def reg17_3 : Array Oper := match Try.f17.body with | some (.seq _ (.seq _ (.seq (.region _ ops _) _))) => ops | _ => #[]
theorem size17_3 : reg17_3.size = 6 := by kernel_rfl
theorem code17_is : Try.f17.body = some (.seq (.region 0 reg17_0 false) (.seq (.seq (.region 1 reg17_1 false) (.cond (.tmp 6 ) (.seq (.region 2 reg17_2 false) (.ret)) (.skip))) (.seq (.region 3 reg17_3 false) (.ret)))) := by kernel_rfl
noncomputable def reg18_0 : Array Oper := match Try.f18.body with | some (.seq (.region _ ops _) _) => ops | _ => #[]
theorem size18_0 : reg18_0.size = 1 := by kernel_rfl
noncomputable def reg18_1 : Array Oper := match Try.f18.body with | some (.seq _ (.seq (.seq (.region _ ops _) _) _)) => ops | _ => #[]
theorem size18_1 : reg18_1.size = 2 := by kernel_rfl
noncomputable def reg18_2 : Array Oper := match Try.f18.body with | some (.seq _ (.seq (.seq _ (.cond _ (.seq (.region _ ops _) _) _)) _)) => ops | _ => #[]
theorem size18_2 : reg18_2.size = 1 := by kernel_rfl
noncomputable def reg18_3 : Array Oper := match Try.f18.body with | some (.seq _ (.seq _ (.seq (.region _ ops _) _))) => ops | _ => #[]
theorem size18_3 : reg18_3.size = 6 := by kernel_rfl
theorem code18_is : Try.f18.body = some (.seq (.region 0 reg18_0 false) (.seq (.seq (.region 1 reg18_1 false) (.cond (.tmp 6 ) (.seq (.region 2 reg18_2 false) (.ret)) (.skip))) (.seq (.region 3 reg18_3 false) (.ret)))) := by kernel_rfl
section
variable {P : Program} {main : Bool} {w : World} {b : Frame} {a : Act} {kk : List Item} {cs : List Frame} {ops : Array Oper} {i : Nat} {rest : List Nat} {o : Oper} {f : FuncId} {fn : Func} {ats : Array TypeId}
theorem run_swapU {ad : Addr} {v n : Int} (hc : w.cell? ad = some (.int .u32 v)) (hz : w.frozen? ad = false) : (Extern.Atomic.swapT (.int .u32) #[.pointer (some ad), .int .u32 n]).run P w = .ok (.int .u32 v) (w.setCell ad (.int .u32 n)) := by
  change Sem.run P (do
    let a ← asAddr (.pointer (some ad))
    let old ← Extern.Atomic.read (.int .u32) a
    store a (.int .u32 n) .atomic
    pure old) w = _
  simp [Extern.Atomic.read, asAddr, hc, hz, run_store P w ad (.int .u32 n) .atomic rfl, Result.andThen]
theorem ev_swapU {ad : Addr} {v n : Int} (hc : w.cell? ad = some (.int .u32 v)) (hz : w.frozen? ad = false) (es : Array Event) : (Extern.Atomic.swapT (.int .u32) #[.pointer (some ad), .int .u32 n]).events P w es = (es.push ⟨.cell ad, false, true⟩).push ⟨.cell ad, true, true⟩ := by
  change Sem.events P (do
    let a ← asAddr (.pointer (some ad))
    let old ← Extern.Atomic.read (.int .u32) a
    store a (.int .u32 n) .atomic
    pure old) w es = _
  simp [Extern.Atomic.read, asAddr, hc, hz, events_load, events_store P w _ ad (.int .u32 n) .atomic rfl, Result.evThen]
theorem stepG_swapU {x y : Operand} (ho : ops[i]? = some o) (hw : Region.wanted o (yielded ops a.tmps) = true) (hk : b.kind ≠ .early) (hop : o.op = .call { callee := .value (.func f), args := #[x, y], argTypes := ats })
    (hf : P.funcs[f]? = some fn) (hname : (fn.name == "runtime.NumGoroutine") = false) (hb : fn.body.isNone = true) (hn : Extern.findNext fn = none)
    (he : Extern.find fn = some (Extern.Atomic.swapT (.int .u32))) {ad : Addr} {v d : Int} (hx : a.eval x = .pointer (some ad)) (hy : a.eval y = .int .u32 d) (hc : w.cell? ad = some (.int .u32 v)) (hz : w.frozen? ad = false) :
    stepG P main (G (b.at a (.inRegion ops (i :: rest) :: kk)) cs) w = .go (G (b.at (a.put o.dst (.int .u32 v)) (.inRegion ops rest :: kk)) cs) (w.setCell ad (.int .u32 d)) #[⟨.cell ad, false, true⟩, ⟨.cell ad, true, true⟩] := by
  have hm : (#[x, y] : Array Operand).map a.eval = #[.pointer (some ad), .int .u32 d] := by simp [hx, hy]
  exact stepG_entry ho hw hk hop hf hname hb hn he (by rw [hm]; exact run_swapU hc hz) (by rw [hm, ev_swapU hc hz]; rfl) (sync_rw ad)
end
section
variable {main : Bool} {V : Nat → Option Wait} {X : RX} {s : Rs} {w : World} {sv : Value} {dl : Nat}
theorem atLoadB (b q : Nat) (x : Bool) (w : World) (hc : w.cell? ⟨b, q, none⟩ = some (.int .u32 (alV x))) : CallV Try.prog main V 174 #[.pointer (some ⟨b, q, none⟩)] w (.bool x) w := by
  have hx : (alV x != 0) = x := by cases x <;> rfl
  generalize alV x = z at *
  refine callW_in Try.func174 code174_is fun fr cs => ?_
  simp only [Try.ntmps174, List.size_toArray, List.length_cons, List.length_nil, Nat.reduceAdd, Nat.reduceSub, Array.replicate_succ, Array.replicate_zero, List.push_toArray, List.append_toArray, List.nil_append, List.cons_append]
  repeat (first | refine Walk.c rfl ?_ | refine Walk.cRet ?_ | refine Walk.cEnd ?_ | (refine Walk.cReg ?_; simp only [size174_0, size174_1, List.range, List.range.loop]) | (refine Walk.oq ?_; try walk_nrm) | (refine Walk.un ?_; walk_nrm))
  refine Walk.evs (fun _ => #[⟨.cell ⟨b, q, none⟩, false, true⟩]) rfl (fun d => stepG_load_atomic (w := w.at d) (ho_of (by conv => lhs; whnf) (by kernel_rfl)) (by rfl) (by decide) rfl Try.func175 (by kernel_rfl) (by rfl) (by kernel_rfl) .u32 (by kernel_rfl) rfl hc) (fun d e he => by simp at he; subst he; exact evR_read _ _) ?_
  walk_nrm
  repeat (first | refine Walk.c rfl ?_ | refine Walk.cRet ?_ | refine Walk.cEnd ?_ | (refine Walk.cReg ?_; simp only [size174_0, size174_1, List.range, List.range.loop]) | (refine Walk.oq ?_; try walk_nrm) | (refine Walk.un ?_; walk_nrm))
  exact Walk.ret1 rfl rfl Try.func174 rfl fun d => ⟨rfl, d, rfl⟩
theorem b32_t (w : World) : CallV Try.prog main V 107 #[.bool true] w (.int .u32 1) w := by
  refine callW_in Try.func107 code107_is fun fr cs => ?_
  simp only [Try.ntmps107, List.size_toArray, List.length_cons, List.length_nil, Nat.reduceAdd, Nat.reduceSub, Array.replicate_succ, Array.replicate_zero, List.push_toArray, List.append_toArray, List.nil_append, List.cons_append]
  repeat (first | refine Walk.c rfl ?_ | refine Walk.cRet ?_ | refine Walk.cEnd ?_ | (refine Walk.cReg ?_; simp only [size107_0, size107_1, size107_2, size107_3, List.range, List.range.loop]) | (refine Walk.oq ?_; try walk_nrm) | (refine Walk.un ?_; walk_nrm))
  exact Walk.ret1 rfl rfl Try.func107 rfl fun d => ⟨rfl, d, rfl⟩
theorem b32_f (w : World) : CallV Try.prog main V 107 #[.bool false] w (.int .u32 0) w := by
  refine callW_in Try.func107 code107_is fun fr cs => ?_
  simp only [Try.ntmps107, List.size_toArray, List.length_cons, List.length_nil, Nat.reduceAdd, Nat.reduceSub, Array.replicate_succ, Array.replicate_zero, List.push_toArray, List.append_toArray, List.nil_append, List.cons_append]
  repeat (first | refine Walk.c rfl ?_ | refine Walk.cRet ?_ | refine Walk.cEnd ?_ | (refine Walk.cReg ?_; simp only [size107_0, size107_1, size107_2, size107_3, List.range, List.range.loop]) | (refine Walk.oq ?_; try walk_nrm) | (refine Walk.un ?_; walk_nrm))
  exact Walk.ret1 rfl rfl Try.func107 rfl fun d => ⟨rfl, d, rfl⟩
theorem b32_w (x : Bool) (w : World) : CallV Try.prog main V 107 #[.bool x] w (.int .u32 (alV x)) w := by
  cases x
  · exact b32_f w
  · exact b32_t w
theorem atSwapB (b q : Nat) (x y : Bool) (w : World) (hc : w.cell? ⟨b, q, none⟩ = some (.int .u32 (alV x))) (hz : w.frozen? ⟨b, q, none⟩ = false) (hf : Free V ⟨b, q, none⟩) : CallV Try.prog main V 79 #[.pointer (some ⟨b, q, none⟩), .bool y] w (.bool x) (w.setCell ⟨b, q, none⟩ (.int .u32 (alV y))) := by
  have hx : (alV x != 0) = x := by cases x <;> rfl
  have h32 := b32_w (main := main) (V := V) y w
  generalize alV x = z at *
  generalize alV y = z2 at *
  refine callW_in Try.func79 code79_is fun fr cs => ?_
  simp only [Try.ntmps79, List.size_toArray, List.length_cons, List.length_nil, Nat.reduceAdd, Nat.reduceSub, Array.replicate_succ, Array.replicate_zero, List.push_toArray, List.append_toArray, List.nil_append, List.cons_append]
  repeat (first | refine Walk.c rfl ?_ | refine Walk.cRet ?_ | refine Walk.cEnd ?_ | (refine Walk.cReg ?_; simp only [size79_0, size79_1, List.range, List.range.loop]) | (refine Walk.oq ?_; try walk_nrm) | (refine Walk.un ?_; walk_nrm))
  (refine Walk.drawnM3 (by kernel_rfl) size79_1 (by kernel_rfl) (by kernel_rfl) (by kernel_rfl) (by kernel_rfl) (by kernel_rfl) (by decide) ?_; simp only [List.range, List.range.loop]; repeat (first | (refine Cm.opqA (ho_of (by conv => lhs; whnf) (by kernel_rfl)) (by rfl) (fun dd e he => ?_) ?_; (· (simp [go_sem, *] at he; try (subst he; exact evR_read _ _))); apply Exists.intro; apply And.intro; (· (intro dd K hK; go_simp; exact hK))) | (refine Cm.unw (ho_of (by conv => lhs; whnf) (by kernel_rfl)) (by rfl) ?_; walk_nrm)))
  refine Cm.callV (x := .int .u32 z2) ?_ (ho_of (by conv => lhs; whnf) (by kernel_rfl)) (by rfl) rfl Try.func107 (by kernel_rfl) (by rfl) ?_
  · intro w' e
    subst e
    walk_nrm
    exact h32
  clear h32
  walk_nrm
  refine Cm.done ?_
  intro rest hr1
  refine Walk.turn (W := w.setCell ⟨b, q, none⟩ (.int .u32 z2)) rfl (fun d => stepG_swapU (w := w.at d) (ho_of (by conv => lhs; whnf) (by kernel_rfl)) (by rfl) (by decide) rfl Try.func106 (by kernel_rfl) (by rfl) (by kernel_rfl) (by kernel_rfl) rfl rfl hc hz) (fun d => DR.set' hf hc d _ (evR_rw hf)) ?_
  walk_nrm
  refine hr1 _ _ ?_
  intro rest2 hr2
  (refine Walk.oq ?_; try walk_nrm)
  refine hr2 _ _ ?_
  intro rest3 hr3
  (refine Walk.oq ?_; try walk_nrm)
  refine hr3 _ _ ?_
  walk_nrm
  repeat (first | refine Walk.c rfl ?_ | refine Walk.cRet ?_ | refine Walk.cEnd ?_ | (refine Walk.cReg ?_; simp only [size79_0, size79_1, List.range, List.range.loop]) | (refine Walk.oq ?_; try walk_nrm) | (refine Walk.un ?_; walk_nrm))
  exact Walk.ret1 rfl rfl Try.func79 rfl fun d => ⟨rfl, d, rfl⟩
theorem run_ifaceAB (a : Option Addr) (w : World) : (Instr.makeInterface 152 (.pointer a)).run Try.prog w = .ok (.iface 152 (.pointer a)) w := by simp [Instr.makeInterface, run_underlying undABool]
theorem ev_ifaceAB (a : Option Addr) (w : World) (es : Array Event) : (Instr.makeInterface 152 (.pointer a)).events Try.prog w es = es := by simp [Instr.makeInterface, run_underlying undABool]
theorem RI.alCell (I : RI X s w) : w.cell? ⟨X.bb, 1, none⟩ = some (.int .u32 (alV s.al)) ∧ w.frozen? ⟨X.bb, 1, none⟩ = false := ⟨(cell_of I.bar 1).trans rfl, frozen_of I.bar 1⟩
theorem holdsB (hA : ∀ b, Apart V b) (I : RI X s w) (hb : s.n < 1152921504606846976) (hT : Tk X sv dl) :
    CallW Try.prog main V 77 #[sv, .pointer (some ⟨X.bb, 1, none⟩)] w (fun v w' => v = .bool s.al ∧ RI X (s.tick dl) w') := by
  have hs := step15 (main := main) hA I hb hT
  have hi1 := run_ifaceAB
  have hi2 := ev_ifaceAB
  clear I hb hT
  refine callW_in Try.func77 code77_is fun fr cs => ?_
  simp only [Try.ntmps77, List.size_toArray, List.length_cons, List.length_nil, Nat.reduceAdd, Nat.reduceSub, Array.replicate_succ, Array.replicate_zero, List.push_toArray, List.append_toArray, List.nil_append, List.cons_append]
  repeat (first | refine Walk.c rfl ?_ | refine Walk.cRet ?_ | refine Walk.cEnd ?_ | (refine Walk.cReg ?_; simp only [size77_0, size77_1, size77_2, List.range, List.range.loop]) | (refine Walk.oq ?_; try walk_nrm) | (refine Walk.un ?_; walk_nrm))
  refine Walk.callW (Post := fun v w' => v = .tuple #[] ∧ RI X (s.tick dl) w') ?_ (ho_of (by conv => lhs; whnf) (by kernel_rfl)) (by rfl) (by decide) rfl Try.func78 (by kernel_rfl) (by rfl) ?_
  · try walk_nrm
    exact hs
  rintro v w1 ⟨rfl, I1⟩
  clear hs
  have hld := atLoadB (main := main) (V := V) X.bb 1 s.al w1 I1.alCell.1
  walk_nrm
  repeat (first | refine Walk.c rfl ?_ | refine Walk.cRet ?_ | refine Walk.cEnd ?_ | (refine Walk.cReg ?_; simp only [size77_0, size77_1, size77_2, List.range, List.range.loop]) | (refine Walk.oq ?_; try walk_nrm) | (refine Walk.un ?_; walk_nrm))
  refine Walk.invokeM undABool rowABool X.bb 1 (Post := fun v w' => v = .bool s.al ∧ ∃ d, w' = w1.at d) ?_ (ho_of (by conv => lhs; whnf) (by kernel_rfl)) (by rfl) (by decide) rfl rfl Try.func174 (by kernel_rfl) (by rfl) ?_
  · try walk_nrm
    exact hld
  rintro v w2 ⟨rfl, d, rfl⟩
  clear hld
  refine Walk.back ?_ d
  generalize s.al = x at *
  walk_nrm
  repeat (first | refine Walk.c rfl ?_ | refine Walk.cRet ?_ | refine Walk.cEnd ?_ | (refine Walk.cReg ?_; simp only [size77_0, size77_1, size77_2, List.range, List.range.loop]) | (refine Walk.oq ?_; try walk_nrm) | (refine Walk.un ?_; walk_nrm))
  exact Walk.on1 rfl rfl Try.func77 rfl (.stop fun d => ⟨_, ⟨rfl, I1.at d⟩, rfl⟩)
theorem fload15 (hA : ∀ b, Apart V b) (I : RI X s w) (hb : s.n < 1152921504606846976) (hT : Tk X sv dl) :
    CallW Try.prog main V 44 #[.pointer (some ⟨X.bb, 1, none⟩), sv] w (fun v w' => v = .bool s.al ∧ RI X (s.tick dl) w') := by
  have hh := holdsB (main := main) hA I hb hT
  clear I hb hT
  have hp1 := fun w => run_eql_ptr (P := Try.prog) 150 undFlag (some ⟨X.bb, 1, none⟩) w
  have hp2 := fun w es => ev_eql_ptr (P := Try.prog) 150 undFlag (some ⟨X.bb, 1, none⟩) w es
  simp only [Option.isNone_some] at hp1
  refine callW_in Try.func44 code44_is fun fr cs => ?_
  simp only [Try.ntmps44, List.size_toArray, List.length_cons, List.length_nil, Nat.reduceAdd, Nat.reduceSub, Array.replicate_succ, Array.replicate_zero, List.push_toArray, List.append_toArray, List.nil_append, List.cons_append]
  repeat (first | refine Walk.c rfl ?_ | refine Walk.cRet ?_ | refine Walk.cEnd ?_ | (refine Walk.cReg ?_; simp only [size44_0, size44_1, size44_2, size44_3, List.range, List.range.loop]) | (refine Walk.oq ?_; try walk_nrm) | (refine Walk.un ?_; walk_nrm))
  refine Walk.callW (Post := fun v w' => v = .bool s.al ∧ RI X (s.tick dl) w') ?_ (ho_of (by conv => lhs; whnf) (by kernel_rfl)) (by rfl) (by decide) rfl Try.func77 (by kernel_rfl) (by rfl) ?_
  · try walk_nrm
    exact hh
  rintro v w1 ⟨rfl, I1⟩
  clear hh hp1 hp2
  generalize s.al = x at *
  walk_nrm
  repeat (first | refine Walk.c rfl ?_ | refine Walk.cRet ?_ | refine Walk.cEnd ?_ | (refine Walk.cReg ?_; simp only [size44_0, size44_1, size44_2, size44_3, List.range, List.range.loop]) | (refine Walk.oq ?_; try walk_nrm) | (refine Walk.un ?_; walk_nrm))
  exact Walk.on1 rfl rfl Try.func44 rfl (.stop fun d => ⟨_, ⟨rfl, I1.at d⟩, rfl⟩)
theorem fset15 (hA : ∀ b, Apart V b) (I : RI X s w) (hb : s.n < 1152921504606846976) (hT : Tk X sv dl) :
    CallW Try.prog main V 45 #[.pointer (some ⟨X.bb, 1, none⟩), sv] w (fun v w' => v = .bool (!s.al) ∧ RI X ⟨s.n + dl, s.ld, true⟩ w') := by
  have hs := step15 (main := main) hA I hb hT
  have hf := (hA X.bb).1 ⟨X.bb, 1, none⟩ rfl
  clear I hb hT
  have hp1 := fun w => run_eql_ptr (P := Try.prog) 150 undFlag (some ⟨X.bb, 1, none⟩) w
  have hp2 := fun w es => ev_eql_ptr (P := Try.prog) 150 undFlag (some ⟨X.bb, 1, none⟩) w es
  simp only [Option.isNone_some] at hp1
  refine callW_in Try.func45 code45_is fun fr cs => ?_
  simp only [Try.ntmps45, List.size_toArray, List.length_cons, List.length_nil, Nat.reduceAdd, Nat.reduceSub, Array.replicate_succ, Array.replicate_zero, List.push_toArray, List.append_toArray, List.nil_append, List.cons_append]
  repeat (first | refine Walk.c rfl ?_ | refine Walk.cRet ?_ | refine Walk.cEnd ?_ | (refine Walk.cReg ?_; simp only [size45_0, size45_1, size45_2, size45_3, size45_4, List.range, List.range.loop]) | (refine Walk.oq ?_; try walk_nrm) | (refine Walk.un ?_; walk_nrm))
  refine Walk.callW (Post := fun v w' => v = .tuple #[] ∧ RI X (s.tick dl) w') ?_ (ho_of (by conv => lhs; whnf) (by kernel_rfl)) (by rfl) (by decide) rfl Try.func78 (by kernel_rfl) (by rfl) ?_
  · try walk_nrm
    exact hs
  rintro v w1 ⟨rfl, I1⟩
  clear hs hp1 hp2
  have hsw := atSwapB (main := main) X.bb 1 s.al true w1 I1.alCell.1 I1.alCell.2 hf
  have I2 : RI X ⟨s.n + dl, s.ld, true⟩ (w1.setCell ⟨X.bb, 1, none⟩ (.int .u32 (alV true))) := I1.alSet true
  generalize w1.setCell ⟨X.bb, 1, none⟩ (.int .u32 (alV true)) = w2 at *
  walk_nrm
  repeat (first | refine Walk.c rfl ?_ | refine Walk.cRet ?_ | refine Walk.cEnd ?_ | (refine Walk.cReg ?_; simp only [size45_0, size45_1, size45_2, size45_3, size45_4, List.range, List.range.loop]) | (refine Walk.oq ?_; try walk_nrm) | (refine Walk.un ?_; walk_nrm))
  refine Walk.callV (x := .bool s.al) (W := w2) ?_ (ho_of (by conv => lhs; whnf) (by kernel_rfl)) (by rfl) (by decide) rfl Try.func79 (by kernel_rfl) (by rfl) ?_
  · try walk_nrm
    exact hsw
  clear hsw
  generalize s.al = x at *
  walk_nrm
  repeat (first | refine Walk.c rfl ?_ | refine Walk.cRet ?_ | refine Walk.cEnd ?_ | (refine Walk.cReg ?_; simp only [size45_0, size45_1, size45_2, size45_3, size45_4, List.range, List.range.loop]) | (refine Walk.oq ?_; try walk_nrm) | (refine Walk.un ?_; walk_nrm))
  exact Walk.on1 rfl rfl Try.func45 rfl (.stop fun d => ⟨_, ⟨rfl, I2.at d⟩, rfl⟩)
theorem fclear15 (hA : ∀ b, Apart V b) (I : RI X s w) (hb : s.n < 1152921504606846976) (hT : Tk X sv dl) :
    CallW Try.prog main V 46 #[.pointer (some ⟨X.bb, 1, none⟩), sv] w (fun v w' => v = .bool (s.al) ∧ RI X ⟨s.n + dl, s.ld, false⟩ w') := by
  have hs := step15 (main := main) hA I hb hT
  have hf := (hA X.bb).1 ⟨X.bb, 1, none⟩ rfl
  clear I hb hT
  have hp1 := fun w => run_eql_ptr (P := Try.prog) 150 undFlag (some ⟨X.bb, 1, none⟩) w
  have hp2 := fun w es => ev_eql_ptr (P := Try.prog) 150 undFlag (some ⟨X.bb, 1, none⟩) w es
  simp only [Option.isNone_some] at hp1
  refine callW_in Try.func46 code46_is fun fr cs => ?_
  simp only [Try.ntmps46, List.size_toArray, List.length_cons, List.length_nil, Nat.reduceAdd, Nat.reduceSub, Array.replicate_succ, Array.replicate_zero, List.push_toArray, List.append_toArray, List.nil_append, List.cons_append]
  repeat (first | refine Walk.c rfl ?_ | refine Walk.cRet ?_ | refine Walk.cEnd ?_ | (refine Walk.cReg ?_; simp only [size46_0, size46_1, size46_2, size46_3, size46_4, List.range, List.range.loop]) | (refine Walk.oq ?_; try walk_nrm) | (refine Walk.un ?_; walk_nrm))
  refine Walk.callW (Post := fun v w' => v = .tuple #[] ∧ RI X (s.tick dl) w') ?_ (ho_of (by conv => lhs; whnf) (by kernel_rfl)) (by rfl) (by decide) rfl Try.func78 (by kernel_rfl) (by rfl) ?_
  · try walk_nrm
    exact hs
  rintro v w1 ⟨rfl, I1⟩
  clear hs hp1 hp2
  have hsw := atSwapB (main := main) X.bb 1 s.al false w1 I1.alCell.1 I1.alCell.2 hf
  have I2 : RI X ⟨s.n + dl, s.ld, false⟩ (w1.setCell ⟨X.bb, 1, none⟩ (.int .u32 (alV false))) := I1.alSet false
  generalize w1.setCell ⟨X.bb, 1, none⟩ (.int .u32 (alV false)) = w2 at *
  walk_nrm
  repeat (first | refine Walk.c rfl ?_ | refine Walk.cRet ?_ | refine Walk.cEnd ?_ | (refine Walk.cReg ?_; simp only [size46_0, size46_1, size46_2, size46_3, size46_4, List.range, List.range.loop]) | (refine Walk.oq ?_; try walk_nrm) | (refine Walk.un ?_; walk_nrm))
  refine Walk.callV (x := .bool s.al) (W := w2) ?_ (ho_of (by conv => lhs; whnf) (by kernel_rfl)) (by rfl) (by decide) rfl Try.func79 (by kernel_rfl) (by rfl) ?_
  · try walk_nrm
    exact hsw
  clear hsw
  generalize s.al = x at *
  walk_nrm
  repeat (first | refine Walk.c rfl ?_ | refine Walk.cRet ?_ | refine Walk.cEnd ?_ | (refine Walk.cReg ?_; simp only [size46_0, size46_1, size46_2, size46_3, size46_4, List.range, List.range.loop]) | (refine Walk.oq ?_; try walk_nrm) | (refine Walk.un ?_; walk_nrm))
  exact Walk.on1 rfl rfl Try.func46 rfl (.stop fun d => ⟨_, ⟨rfl, I2.at d⟩, rfl⟩)
theorem alerted15 (hA : ∀ b, Apart V b) (I : RI X s w) (hb : s.n < 1152921504606846976) (hT : Tk X sv dl) :
    CallW Try.prog main V 16 #[.pointer (some ⟨X.bb, 0, none⟩), sv] w (fun v w' => v = .bool (s.al) ∧ RI X (s.tick dl) w') := by
  have hh := fload15 (main := main) hA I hb hT
  clear I hb hT
  generalize (s.tick dl) = s' at *
  have hp1 := fun w => run_eql_ptr (P := Try.prog) 33 undBarr (some ⟨X.bb, 0, none⟩) w
  have hp2 := fun w es => ev_eql_ptr (P := Try.prog) 33 undBarr (some ⟨X.bb, 0, none⟩) w es
  simp only [Option.isNone_some] at hp1
  refine callW_in Try.func16 code16_is fun fr cs => ?_
  simp only [Try.ntmps16, List.size_toArray, List.length_cons, List.length_nil, Nat.reduceAdd, Nat.reduceSub, Array.replicate_succ, Array.replicate_zero, List.push_toArray, List.append_toArray, List.nil_append, List.cons_append]
  repeat (first | refine Walk.c rfl ?_ | refine Walk.cRet ?_ | refine Walk.cEnd ?_ | (refine Walk.cReg ?_; simp only [size16_0, size16_1, size16_2, size16_3, List.range, List.range.loop]) | (refine Walk.oq ?_; try walk_nrm) | (refine Walk.un ?_; walk_nrm))
  refine Walk.callW (Post := fun v w' => v = .bool (s.al) ∧ RI X s' w') ?_ (ho_of (by conv => lhs; whnf) (by kernel_rfl)) (by rfl) (by decide) rfl Try.func44 (by kernel_rfl) (by rfl) ?_
  · try walk_nrm
    exact hh
  rintro v w1 ⟨rfl, I1⟩
  clear hh hp1 hp2
  generalize (s.al) = x at *
  walk_nrm
  repeat (first | refine Walk.c rfl ?_ | refine Walk.cRet ?_ | refine Walk.cEnd ?_ | (refine Walk.cReg ?_; simp only [size16_0, size16_1, size16_2, size16_3, List.range, List.range.loop]) | (refine Walk.oq ?_; try walk_nrm) | (refine Walk.un ?_; walk_nrm))
  exact Walk.on1 rfl rfl Try.func16 rfl (.stop fun d => ⟨_, ⟨rfl, I1.at d⟩, rfl⟩)
theorem alert15 (hA : ∀ b, Apart V b) (I : RI X s w) (hb : s.n < 1152921504606846976) (hT : Tk X sv dl) :
    CallW Try.prog main V 17 #[.pointer (some ⟨X.bb, 0, none⟩), sv] w (fun v w' => v = .bool (!s.al) ∧ RI X (⟨s.n + dl, s.ld, true⟩) w') := by
  have hh := fset15 (main := main) hA I hb hT
  clear I hb hT
  generalize (⟨s.n + dl, s.ld, true⟩ : Rs) = s' at *
  have hp1 := fun w => run_eql_ptr (P := Try.prog) 33 undBarr (some ⟨X.bb, 0, none⟩) w
  have hp2 := fun w es => ev_eql_ptr (P := Try.prog) 33 undBarr (some ⟨X.bb, 0, none⟩) w es
  simp only [Option.isNone_some] at hp1
  refine callW_in Try.func17 code17_is fun fr cs => ?_
  simp only [Try.ntmps17, List.size_toArray, List.length_cons, List.length_nil, Nat.reduceAdd, Nat.reduceSub, Array.replicate_succ, Array.replicate_zero, List.push_toArray, List.append_toArray, List.nil_append, List.cons_append]
  repeat (first | refine Walk.c rfl ?_ | refine Walk.cRet ?_ | refine Walk.cEnd ?_ | (refine Walk.cReg ?_; simp only [size17_0, size17_1, size17_2, size17_3, List.range, List.range.loop]) | (refine Walk.oq ?_; try walk_nrm) | (refine Walk.un ?_; walk_nrm))
  refine Walk.callW (Post := fun v w' => v = .bool (!s.al) ∧ RI X s' w') ?_ (ho_of (by conv => lhs; whnf) (by kernel_rfl)) (by rfl) (by decide) rfl Try.func45 (by kernel_rfl) (by rfl) ?_
  · try walk_nrm
    exact hh
  rintro v w1 ⟨rfl, I1⟩
  clear hh hp1 hp2
  generalize (!s.al) = x at *
  walk_nrm
  repeat (first | refine Walk.c rfl ?_ | refine Walk.cRet ?_ | refine Walk.cEnd ?_ | (refine Walk.cReg ?_; simp only [size17_0, size17_1, size17_2, size17_3, List.range, List.range.loop]) | (refine Walk.oq ?_; try walk_nrm) | (refine Walk.un ?_; walk_nrm))
  exact Walk.on1 rfl rfl Try.func17 rfl (.stop fun d => ⟨_, ⟨rfl, I1.at d⟩, rfl⟩)
theorem clear15 (hA : ∀ b, Apart V b) (I : RI X s w) (hb : s.n < 1152921504606846976) (hT : Tk X sv dl) :
    CallW Try.prog main V 18 #[.pointer (some ⟨X.bb, 0, none⟩), sv] w (fun v w' => v = .bool (s.al) ∧ RI X (⟨s.n + dl, s.ld, false⟩) w') := by
  have hh := fclear15 (main := main) hA I hb hT
  clear I hb hT
  generalize (⟨s.n + dl, s.ld, false⟩ : Rs) = s' at *
  have hp1 := fun w => run_eql_ptr (P := Try.prog) 33 undBarr (some ⟨X.bb, 0, none⟩) w
  have hp2 := fun w es => ev_eql_ptr (P := Try.prog) 33 undBarr (some ⟨X.bb, 0, none⟩) w es
  simp only [Option.isNone_some] at hp1
  refine callW_in Try.func18 code18_is fun fr cs => ?_
  simp only [Try.ntmps18, List.size_toArray, List.length_cons, List.length_nil, Nat.reduceAdd, Nat.reduceSub, Array.replicate_succ, Array.replicate_zero, List.push_toArray, List.append_toArray, List.nil_append, List.cons_append]
  repeat (first | refine Walk.c rfl ?_ | refine Walk.cRet ?_ | refine Walk.cEnd ?_ | (refine Walk.cReg ?_; simp only [size18_0, size18_1, size18_2, size18_3, List.range, List.range.loop]) | (refine Walk.oq ?_; try walk_nrm) | (refine Walk.un ?_; walk_nrm))
  refine Walk.callW (Post := fun v w' => v = .bool (s.al) ∧ RI X s' w') ?_ (ho_of (by conv => lhs; whnf) (by kernel_rfl)) (by rfl) (by decide) rfl Try.func46 (by kernel_rfl) (by rfl) ?_
  · try walk_nrm
    exact hh
  rintro v w1 ⟨rfl, I1⟩
  clear hh hp1 hp2
  generalize (s.al) = x at *
  walk_nrm
  repeat (first | refine Walk.c rfl ?_ | refine Walk.cRet ?_ | refine Walk.cEnd ?_ | (refine Walk.cReg ?_; simp only [size18_0, size18_1, size18_2, size18_3, List.range, List.range.loop]) | (refine Walk.oq ?_; try walk_nrm) | (refine Walk.un ?_; walk_nrm))
  exact Walk.on1 rfl rfl Try.func18 rfl (.stop fun d => ⟨_, ⟨rfl, I1.at d⟩, rfl⟩)
end
end
end Go.Proofs.Ytgfajibjedfkdaa
