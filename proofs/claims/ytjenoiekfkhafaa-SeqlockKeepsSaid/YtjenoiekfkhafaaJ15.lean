/- Part 15. -/
import Derived.Test.YtjenoiekfkhafaaJ11
import Derived.Test.YtjenoiekfkhafaaJ14
set_option linter.unusedSimpArgs false
set_option linter.unusedVariables false
set_option linter.unusedVariables false
set_option maxHeartbeats 8000000
set_option maxRecDepth 100000
namespace Go.Proofs.Ytjenoiekfkhafaa
open Go.Conc Go.RowKit Go.Relay
open Go.ConcN (upd upd_ne upd_same)
section
section
variable {lb k : Nat} {sv : Value}
theorem ch_round (K : Lg (sqLa lb k) sv) (ad : Bool) (xs : Nat → Int) (fl : FuncId) (fn : Func) (caps : Array Value) (hf : Try.prog.funcs[fl]? = some fn) (hname : (fn.name == "runtime.NumGoroutine") = false) (hb : fn.body.isNone = false) (hlay : LayOK K ad fl caps)
    (B : Nat) (ls : List Int) (hlen : ls.length = k + 1) (hxs : ∀ i, i ≤ k → ls[i]? = some (xs i)) (fr : Frame) (l : List Frame) (hp : Plain fr) (hl : ∀ f ∈ l, Plain f) (hk : ∀ x e', ChOut K x e' → LW K.toLb e' (G (fr.finish x) (l ++ K.bot e')))
    (T j : Nat) (hT : T ≤ 1024) (hj : j < T) (e : K.E) (u : Nat → Value) (hB : K.mine e B) (hN : NumB (K.w e) B ls) (ht : K.tgt e = (K.s e, trAt T j (.w1 ad · xs)))
    (ih : ∀ (e' : K.E) (u' : Nat → Value), K.mine e' B → NumB (K.w e') B ls → K.tgt e' = (K.s e', trAt T (j + 1) (.w1 ad · xs)) → LW K.toLb e' (G (hdCh lb sv (.func (.func fl) #[] caps) B (k + 1) T (j + 1) u') (fr :: (l ++ K.bot e')))) :
    LW K.toLb e (G (hdCh lb sv (.func (.func fl) #[] caps) B (k + 1) T j u) (fr :: (l ++ K.bot e))) := by
  have ht0 : K.tgt e = (K.s e, .inr (.w1 ad (T - j) xs)) := by rw [ht]; unfold trAt; rw [if_pos hj] <;> rfl
  have w1 := load_ver K e (.w1 ad (T - j) xs) ht0
  have hfl := fail_tr hj (fun t => QD.w1 ad t xs)
  have hlp := fun e' u' v hB' hN' ht' => lay_loop K ad xs v fl fn caps hf hname hb hlay B ls hlen hxs fr l hp hl hk (k + 1) 0 e' u' (by omega) hB' hN' ht'
  generalize hTj : T - j = t at *
  have hj1 : decide ((j : Int) < T) = true := by simp; omega
  have hj3 : decide (j < T) = true := by simp; omega
  have hw1 : IntKind.wrap .i64 ((j : Int) + 1) = ((j + 1 : Nat) : Int) := by rw [IntKind.wrap_i64]; omega
  clear hTj hlay hlen hxs ht
  unfold LW hdCh
  repeat (first | refine Walk.cx ?_ | (refine Walk.cReg ?_; simp only [z41]) | (refine Walk.oq ?_; try walk_nrm) | (refine Walk.un ?_; walk_nrm))
  refine LW.callS (K := K.toLb) (e := e) (l := fr :: l) (f := 46) (Q := fun v e' => Aft K.toLb e (.w1 ad t xs) e' ∧ v = .int .i64 ((K.s e' : Sq).v)) ?_ (ho_of (by conv => lhs; whnf) (by kernel_rfl)) (by rfl) (by decide) rfl Try.func46 (by kernel_rfl) (by rfl) ⟨rfl, rfl, _, Try.func41⟩ (plain_cons hp hl) ?_
  · walk_nrm
    exact w1
  rintro v e1 ⟨ha, rfl⟩
  have ht1 : K.tgt e1 = (K.s e1, if sqOdd (K.s e1 : Sq).v then sqFail t (.w1 ad · xs) else .inr (.w2 ad t xs (K.s e1 : Sq).v)) := ha.tgt
  rw [hfl] at ht1
  obtain ⟨hm1, hb1⟩ := ha.mine B hB
  have hN1 := hN.same hb1
  generalize (K.s e1 : Sq).v = x at *
  have hod := odd_w (main := K.main) (V := K.V e1) x (K.w e1)
  clear w1 hN
  unfold LW
  walk_nrm
  repeat (first | refine Walk.cx ?_ | (refine Walk.cReg ?_; simp only [z41]) | (refine Walk.oq ?_; try walk_nrm) | (refine Walk.un ?_; walk_nrm))
  refine Walk.callV (x := .bool (decide (sqOdd x))) (W := K.w e1) ?_ (ho_of (by conv => lhs; whnf) (by kernel_rfl)) (by rfl) (by decide) rfl Try.func47 (by kernel_rfl) (by rfl) ?_
  · walk_nrm
    exact hod
  walk_nrm
  clear hod
  by_cases ho : sqOdd x
  · rw [if_pos ho] at ht1
    have hih := fun u => ih e1 u hm1 hN1 ht1
    clear ih hk hlp
    simp only [ho, decide_true]
    unfold LW at hih
    repeat (first | refine Walk.cx ?_ | (refine Walk.cReg ?_; simp only [z41]) | (refine Walk.oq ?_; try walk_nrm) | (refine Walk.un ?_; walk_nrm))
    refine Walk.ctl rfl (fun w => stepG_inLoop) ?_
    refine slots_walk (F := fun u => G (hdCh lb sv (.func (.func fl) #[] caps) B (k + 1) T (j + 1) u) (fr :: (l ++ K.bot e1))) hih ?_
    simp only [hdCh]
    rfl
  · rw [if_neg ho] at ht1
    have w2 := cas_ver K e1 (.w2 ad t xs x) x (IntKind.i64.wrap (x + 1)) ht1
    simp only [ho, decide_false]
    repeat (first | refine Walk.cx ?_ | (refine Walk.cReg ?_; simp only [z41]) | (refine Walk.oq ?_; try walk_nrm) | (refine Walk.un ?_; walk_nrm))
    refine LW.callS (K := K.toLb) (e := e1) (l := fr :: l) (f := 58) (Q := fun v e' => ∃ s : Sq, (s.v = x ∧ v = .bool true ∧ Wrote K e1 (.w2 ad t xs x) s (sqPutV s (IntKind.i64.wrap (x + 1))) e') ∨ (s.v ≠ x ∧ v = .bool false ∧ Wrote K e1 (.w2 ad t xs x) s s e')) ?_ (ho_of (by conv => lhs; whnf) (by kernel_rfl)) (by rfl) (by decide) rfl Try.func58 (by kernel_rfl) (by rfl) ⟨rfl, rfl, _, Try.func41⟩ (plain_cons hp hl) ?_
    · walk_nrm
      exact w2
    rintro v e2 ⟨s, ⟨hs, rfl, hw⟩ | ⟨hs, rfl, hw⟩⟩
    · have ht2 : K.tgt e2 = (K.s e2, .inr (dLay k ad xs x 0)) := by
        rw [hw.tgt, hw.s]
        show (if s.v = x then (sqPutV s (IntKind.i64.wrap (x + 1)), Sum.inr (QD.w3 ad xs x 0)) else (s, sqFail t (.w1 ad · xs))) = _
        rw [if_pos hs]
        unfold dLay
        rw [if_neg (by omega)] <;> rfl
      obtain ⟨hm2, hb2⟩ := hw.mine B hm1
      have hh := fun u => hlp e2 u x hm2 (hN1.same hb2) ht2
      clear w2 ih hk hlp
      unfold LW at hh ⊢
      walk_nrm
      repeat (first | refine Walk.cx ?_ | (refine Walk.cReg ?_; simp only [z41]) | (refine Walk.oq ?_; try walk_nrm) | (refine Walk.un ?_; walk_nrm))
      refine Walk.ctl rfl (fun w => stepG_loop) ?_
      refine slots_walk (F := fun u => G (hdLy lb sv (.func (.func fl) #[] caps) B (k + 1) x 0 u) (fr :: (l ++ K.bot e2))) hh ?_
      simp only [hdLy]
      rfl
    · have ht2 : K.tgt e2 = (K.s e2, trAt T (j + 1) (.w1 ad · xs)) := by
        rw [hw.tgt, hw.s]
        show (if s.v = x then (sqPutV s (IntKind.i64.wrap (x + 1)), Sum.inr (QD.w3 ad xs x 0)) else (s, sqFail t (.w1 ad · xs))) = _
        rw [if_neg hs, hfl] <;> rfl
      obtain ⟨hm2, hb2⟩ := hw.mine B hm1
      have hih := fun u => ih e2 u hm2 (hN1.same hb2) ht2
      clear w2 ih hk hlp
      unfold LW at hih ⊢
      walk_nrm
      repeat (first | refine Walk.cx ?_ | (refine Walk.cReg ?_; simp only [z41]) | (refine Walk.oq ?_; try walk_nrm) | (refine Walk.un ?_; walk_nrm))
      refine Walk.ctl rfl (fun w => stepG_inLoop) ?_
      refine slots_walk (F := fun u => G (hdCh lb sv (.func (.func fl) #[] caps) B (k + 1) T (j + 1) u) (fr :: (l ++ K.bot e2))) hih ?_
      simp only [hdCh]
      rfl
theorem ch_end (K : Lg (sqLa lb k) sv) (ad : Bool) (xs : Nat → Int) (lv : Value) (B : Nat) (T : Nat) (hT : T ≤ 1024) (fr : Frame) (l : List Frame) (hk : ∀ x e', ChOut K x e' → LW K.toLb e' (G (fr.finish x) (l ++ K.bot e'))) (e : K.E) (u : Nat → Value) (ht : K.tgt e = (K.s e, trAt T T (.w1 ad · xs))) :
    LW K.toLb e (G (hdCh lb sv lv B (k + 1) T T u) (fr :: (l ++ K.bot e))) := by
  have ht0 : K.tgt e = (K.s e, .inl aNo) := by rw [ht]; unfold trAt; rw [if_neg (by omega)] <;> rfl
  have hkk := hk (.bool false) e ⟨_, rfl, ht0⟩
  have hj3 : decide (T < T) = false := by simp
  unfold LW hdCh
  unfold LW at hkk
  repeat (first | refine Walk.cx ?_ | (refine Walk.cReg ?_; simp only [z41]) | (refine Walk.oq ?_; try walk_nrm) | (refine Walk.un ?_; walk_nrm))
  exact Walk.on1 rfl rfl Try.func41 rfl hkk
theorem ch_loop (K : Lg (sqLa lb k) sv) (ad : Bool) (xs : Nat → Int) (fl : FuncId) (fn : Func) (caps : Array Value) (hf : Try.prog.funcs[fl]? = some fn) (hname : (fn.name == "runtime.NumGoroutine") = false) (hb : fn.body.isNone = false) (hlay : LayOK K ad fl caps)
    (B : Nat) (ls : List Int) (hlen : ls.length = k + 1) (hxs : ∀ i, i ≤ k → ls[i]? = some (xs i)) (fr : Frame) (l : List Frame) (hp : Plain fr) (hl : ∀ f ∈ l, Plain f) (hk : ∀ x e', ChOut K x e' → LW K.toLb e' (G (fr.finish x) (l ++ K.bot e'))) (T : Nat) (hT : T ≤ 1024) :
    ∀ (r j : Nat) (e : K.E) (u : Nat → Value), j + r = T → K.mine e B → NumB (K.w e) B ls → K.tgt e = (K.s e, trAt T j (.w1 ad · xs)) → LW K.toLb e (G (hdCh lb sv (.func (.func fl) #[] caps) B (k + 1) T j u) (fr :: (l ++ K.bot e))) := by
  intro r
  induction r with
  | zero =>
    intro j e u hj hB hN ht
    obtain rfl : j = T := hj
    exact ch_end K ad xs _ B j hT fr l hk e u ht
  | succ r ih =>
    intro j e u hj hB hN ht
    exact ch_round K ad xs fl fn caps hf hname hb hlay B ls hlen hxs fr l hp hl hk T j hT (by omega) e u hB hN ht fun e' u' hB' hN' ht' => ih (j + 1) e' u' (by omega) hB' hN' ht'
def ValsIn (k : Nat) (xs : Nat → Int) (vs : List Int) : Prop := ∀ i, i ≤ k → (padL (vs.take (k + 1)) (k + 1))[i]? = some (xs i)
theorem change_s (K : Lg (sqLa lb k) sv) (ad : Bool) (xs : Nat → Int) (fl : FuncId) (fn : Func) (caps : Array Value) (hf : Try.prog.funcs[fl]? = some fn) (hname : (fn.name == "runtime.NumGoroutine") = false) (hb : fn.body.isNone = false) (hlay : LayOK K ad fl caps)
    (e : K.E) (a : Int) (sl : Value) (vs : List Int) (hsl : LsR sl vs (K.w e)) (hxs : ValsIn k xs vs) (ht : K.tgt e = (K.s e, .inr (.w1 ad (sqTr a) xs))) : SCall K.toLb 41 #[.pointer (some ⟨lb, 0, none⟩), sv, .int .i64 a, sl, .func (.func fl) #[] caps] e (ChOut K) := by
  intro fr l hp hl hk
  have hT := sqTr_le a
  have hpl : (padL (vs.take (k + 1)) (k + 1)).length = k + 1 := padL_len (by simp; omega)
  have hlp := fun B e' u hB hN ht' => ch_loop K ad xs fl fn caps hf hname hb hlay B (padL (vs.take (k + 1)) (k + 1)) hpl hxs fr l hp hl hk (sqTr a) hT.2 (sqTr a) 0 e' u (by omega) hB hN ht'
  have hwi := fun w => within_w (main := K.main) (V := K.V e) a w
  have hwh := whole_w (main := K.main) (V := K.V e) (K.w e) (K.inv e) sl vs hsl (fun b hb => K.newA e b hb)
  have htr : ∀ s : Sq, ((s, Sum.inr (QD.w1 ad (sqTr a) xs)) : Sq × (Ans ⊕ QD)) = (s, trAt (sqTr a) 0 (.w1 ad · xs)) := fun s => by
    unfold trAt
    rw [if_pos (by omega)] <;> rfl
  generalize sqTr a = T at *
  generalize padL (vs.take (k + 1)) (k + 1) = ls at *
  have hp1 := fun w => run_eql_ptr (P := Try.prog) 35 undLock (some ⟨lb, 0, none⟩) w
  have hp2 := fun w es => ev_eql_ptr (P := Try.prog) 35 undLock (some ⟨lb, 0, none⟩) w es
  simp only [Option.isNone_some] at hp1
  obtain ⟨sa, sc, rfl, hslr⟩ := hsl
  clear hslr hk hlay hxs
  unfold LW
  rw [enter_at _ Try.func41 code41_is]
  simp only [Try.ntmps41, ez, Nat.reduceAdd, Nat.reduceSub]
  repeat (first | refine Walk.cx ?_ | (refine Walk.cReg ?_; simp only [z41]) | (refine Walk.oq ?_; try walk_nrm) | (refine Walk.un ?_; walk_nrm))
  refine Walk.callW (Post := NewNum ls (K.w e)) ?_ (ho_of (by conv => lhs; whnf) (by kernel_rfl)) (by rfl) (by decide) rfl Try.func38 (by kernel_rfl) (by rfl) ?_
  · walk_nrm
    exact hwh
  rintro v w1 ⟨B, rfl, hB1, hB2, hN, hold, hsz⟩
  obtain ⟨e1, m1⟩ := K.grow e (w' := w1) hsz hold
  have hmB : K.mine e1 B := m1.new hB1 hB2
  have ht1 : K.tgt e1 = (K.s e1, trAt T 0 (.w1 ad · xs)) := by
    rw [m1.tgt, m1.s, ht]
    exact htr _
  rw [← m1.w] at hN
  have hh := fun u => hlp B e1 u hmB hN ht1
  refine LW.to (l := fr :: l) m1 ?_
  rw [hpl]
  unfold LW at hh ⊢
  clear hwh hlp
  replace hwi := hwi (K.w e1)
  rw [← m1.V] at hwi
  walk_nrm
  repeat (first | refine Walk.cx ?_ | (refine Walk.cReg ?_; simp only [z41]) | (refine Walk.oq ?_; try walk_nrm) | (refine Walk.un ?_; walk_nrm))
  refine Walk.callV (x := .int .i64 (T : Int)) (W := K.w e1) ?_ (ho_of (by conv => lhs; whnf) (by kernel_rfl)) (by rfl) (by decide) rfl Try.func45 (by kernel_rfl) (by rfl) ?_
  · walk_nrm
    exact hwi
  walk_nrm
  clear hwi
  repeat (first | refine Walk.cx ?_ | (refine Walk.cReg ?_; simp only [z41]) | (refine Walk.oq ?_; try walk_nrm) | (refine Walk.un ?_; walk_nrm))
  refine Walk.ctl rfl (fun w => stepG_loop) ?_
  refine slots_walk (F := fun u => G (hdCh lb sv (.func (.func fl) #[] caps) B (k + 1) T 0 u) (fr :: (l ++ K.bot e1))) hh ?_
  simp only [hdCh]
  rfl
end
end
section
def DoOK (L : La) (f : FuncId) (first cap : Array Value) : Prop := ∀ (sv : Value) (K : Lg L sv) (e : K.E) (th : Int) (op : OpV), K.tgt e = L.enter (K.s e) th op →
  SCall K.toLb f (first ++ #[sv, .int .i64 th, opVal op] ++ cap) e (fun v e' => ∃ a sl, K.tgt e' = (K.s e', .inl a) ∧ v = ansV a sl ∧ LsR sl a.l (K.w e') ∧ a.l.length ≤ 1048576)
noncomputable def reg64_0 := rg Try.f64.body [0]
noncomputable def reg64_1 := rg Try.f64.body [1, 0, 0]
noncomputable def reg64_2 := rg Try.f64.body [1, 0, 1, 0, 0]
noncomputable def reg64_3 := rg Try.f64.body [1, 1, 0]
noncomputable def reg64_4 := rg Try.f64.body [1, 1, 1, 0]
noncomputable def reg64_5 := rg Try.f64.body [1, 1, 1, 1, 0]
theorem z64 : List.range reg64_0.size = [0, 1] ∧ List.range reg64_1.size = [0, 1] ∧ List.range reg64_2.size = [0, 1] ∧ List.range reg64_3.size = [0, 1, 2, 3, 4, 5, 6] ∧ List.range reg64_4.size = [0, 1, 2, 3, 4] ∧ List.range reg64_5.size = [0, 1] := by refine ⟨?_, ?_, ?_, ?_, ?_, ?_⟩ <;> kernel_rfl
theorem code64_is : Try.f64.body = some (.seq (.region 0 reg64_0 false) (.seq (.seq (.region 1 reg64_1 false) (.cond (.tmp 11 ) (.seq (.region 2 reg64_2 false) (.ret)) (.skip))) (.seq (.region 3 reg64_3 false) (.seq (.region 4 reg64_4 false) (.seq (.region 5 reg64_5 false) (.ret)))))) := by kernel_rfl
section
variable {L : La} {sv : Value}
theorem doOne_s (K : Lg L sv) (e : K.E) (op : OpV) (th : Int) (f : FuncId) (fn : Func) (first cap : Array Value) (hf : Try.prog.funcs[f]? = some fn) (hname : (fn.name == "runtime.NumGoroutine") = false) (hb : fn.body.isNone = false) (hdo : DoOK L f first cap) (ht : K.tgt e = L.enter (K.s e) th op) :
    SCall K.toLb 64 #[.func (.func f) first cap, sv, .int .i64 th, opVal op] e (fun v e' => ∃ a sl, K.tgt e' = (K.s e', .inl a) ∧ v = ansV a sl ∧ LsAt (K.w e).heap.size (K.mine e') sl a.l (K.w e')) := by
  intro fr l hp hl hk
  obtain ⟨fsO, huO⟩ := structT 47 (by kernel_rfl)
  obtain ⟨fsA, huA⟩ := structT 44 (by kernel_rfl)
  have hn1 := fun w => run_eql_func (P := Try.prog) (w := w) 83 (.func f) first cap (by kernel_rfl : Try.prog.underlying 83 = some (.func #[90, 3, 47] #[44] false))
  have hn2 := fun w es => ev_eql_func (P := Try.prog) (w := w) 83 (.func f) first cap es (by kernel_rfl : Try.prog.underlying 83 = some (.func #[90, 3, 47] #[44] false))
  unfold LW
  obtain ⟨ok, oa, ob, oc⟩ := op
  simp only [opVal] at *
  rw [enter_at _ Try.func64 code64_is]
  simp only [Try.ntmps64, ez, Nat.reduceAdd, Nat.reduceSub]
  repeat (first | refine Walk.cx ?_ | (refine Walk.cReg ?_; simp only [z64]) | (refine Walk.oq ?_; try walk_nrm) | (refine Walk.un ?_; walk_nrm))
  (refine Walk.oa ?_; try walk_nrm)
  (refine Walk.oa ?_; try walk_nrm)
  repeat (first | refine Walk.cx ?_ | (refine Walk.cReg ?_; simp only [z64]) | (refine Walk.oq ?_; try walk_nrm) | (refine Walk.un ?_; walk_nrm))
  have hsz : (((K.w e).alloc (.cells #[.int .i64 ok, .int .i64 oa, .int .i64 ob, .int .i64 oc] 47)).alloc (.cells #[.bool false, .int .i64 0, .slice none 0 0] 44)).heap.size = (K.w e).heap.size + 2 := by simp
  have hA1 : ((K.w e).alloc (.cells #[.int .i64 ok, .int .i64 oa, .int .i64 ob, .int .i64 oc] 47)).heap.size = (K.w e).heap.size + 1 := by simp
  have c1 : (((K.w e).alloc (.cells #[.int .i64 ok, .int .i64 oa, .int .i64 ob, .int .i64 oc] 47)).alloc (.cells #[.bool false, .int .i64 0, .slice none 0 0] 44)).heap[(K.w e).heap.size]? = some (.cells #[.int .i64 ok, .int .i64 oa, .int .i64 ob, .int .i64 oc] 47) := by
    rw [heap_new_lt _ _ (by omega)]
    exact heap_alloc_new _ _
  have c2 : (((K.w e).alloc (.cells #[.int .i64 ok, .int .i64 oa, .int .i64 ob, .int .i64 oc] 47)).alloc (.cells #[.bool false, .int .i64 0, .slice none 0 0] 44)).heap[(K.w e).heap.size + 1]? = some (.cells #[.bool false, .int .i64 0, .slice none 0 0] 44) := by
    have := heap_alloc_new ((K.w e).alloc (.cells #[.int .i64 ok, .int .i64 oa, .int .i64 ob, .int .i64 oc] 47)) (.cells #[.bool false, .int .i64 0, .slice none 0 0] 44)
    rwa [hA1] at this
  obtain ⟨e1, m1⟩ := K.grow e (w' := ((K.w e).alloc (.cells #[.int .i64 ok, .int .i64 oa, .int .i64 ob, .int .i64 oc] 47)).alloc (.cells #[.bool false, .int .i64 0, .slice none 0 0] 44)) (by omega) (fun b hb' => by
    rw [heap_new_lt _ _ (by omega)]
    exact heap_new_lt _ _ hb')
  try simp only [hA1]
  generalize hw2 : ((K.w e).alloc (.cells #[.int .i64 ok, .int .i64 oa, .int .i64 ob, .int .i64 oc] 47)).alloc (.cells #[.bool false, .int .i64 0, .slice none 0 0] 44) = w2 at *
  generalize hN : (K.w e).heap.size = N at *
  refine Walk.loadS 47 (.tmp 7) (ho_of (by conv => lhs; whnf) (by kernel_rfl)) (by rfl) (by decide) rfl N 0 [.int .i64 ok, .int .i64 oa, .int .i64 ob, .int .i64 oc] (.struct fsO) rfl (fun j v hj => ?_) huO rfl (by kernel_rfl) ?_
  · rw [Nat.zero_add, cell_of c1]
    simpa using hj
  walk_nrm
  repeat (first | refine Walk.cx ?_ | (refine Walk.cReg ?_; simp only [z64]) | (refine Walk.oq ?_; try walk_nrm) | (refine Walk.un ?_; walk_nrm))
  refine Walk.ctl rfl (fun w' => stepG_callValue (ho_of (by conv => lhs; whnf) (by kernel_rfl)) (by rfl) (by decide) rfl rfl hf hname hb) ?_
  walk_nrm
  generalize hX : Frame.at _ _ _ = X
  refine LW.to (l := X :: fr :: l) m1 ?_
  have hpX : Plain X := by subst hX; exact ⟨rfl, rfl, _, Try.func64⟩
  have hpl : ∀ x ∈ fr :: l, Plain x := fun x hx => by
    rcases List.mem_cons.1 hx with rfl | hx
    · exact hp
    · exact hl x hx
  refine (SCall.fz K (hdo sv (Fz K e1) (fz0 K e1) th ⟨ok, oa, ob, oc⟩ (by show K.tgt e1 = L.enter (K.s e1) _ _; rw [m1.tgt, m1.s, ht]))) X (fr :: l) hpX hpl ?_
  rintro v e2 ⟨hkept, a, sl, ht2, rfl, hls, hlsn⟩
  replace hls : LsR sl a.l (K.w e2) := hls
  obtain ⟨hm2, hb2⟩ := hkept (N + 1) (m1.new (by omega) (by omega))
  rw [m1.w, c2] at hb2
  have hap2 := (K.mineA e2 _ hm2).1
  have hlt2 := (K.mineA e2 _ hm2).2.2
  rw [← hX]
  clear hX hpX
  unfold LW
  simp only [ansV]
  refine Walk.finish (ho_of (by conv => lhs; whnf) (by kernel_rfl)) ?_
  walk_nrm
  (refine Walk.oa ?_; try walk_nrm)
  have hap3 := K.newA e2 _ (Nat.le_refl (K.w e2).heap.size)
  have c3 := heap_alloc_new (K.w e2) (.cells #[.bool false, .int .i64 0, .slice none 0 0] 44)
  have c4 : ((K.w e2).alloc (.cells #[.bool false, .int .i64 0, .slice none 0 0] 44)).heap[N + 1]? = _ := (heap_new_lt _ _ hlt2).trans hb2
  have hs3 : ((K.w e2).alloc (.cells #[.bool false, .int .i64 0, .slice none 0 0] 44)).heap.size = (K.w e2).heap.size + 1 := by simp
  have o3 : ∀ b, b < (K.w e2).heap.size → ((K.w e2).alloc (.cells #[.bool false, .int .i64 0, .slice none 0 0] 44)).heap[b]? = (K.w e2).heap[b]? := fun b hb' => heap_new_lt _ _ hb'
  generalize hM : (K.w e2).heap.size = M at *
  generalize (K.w e2).alloc (.cells #[.bool false, .int .i64 0, .slice none 0 0] 44) = w3 at *
  refine Walk.storeS 44 (.tmp 9) (.tmp 17) (ho_of (by conv => lhs; whnf) (by kernel_rfl)) (by rfl) (by decide) rfl M #[.bool a.ok, .int .i64 a.n, sl] _ 44 rfl rfl c3 (by kernel_rfl) (by rfl) (by rcases hls with ⟨_, _, rfl, _⟩; simp [Value.oneCell']) hap3 ?_
  have c5 := setRow_self (cells := #[.bool a.ok, .int .i64 a.n, sl]) c3
  have c6 : (w3.setRow M #[.bool a.ok, .int .i64 a.n, sl]).heap[N + 1]? = _ := (setRow_other w3 _ (show N + 1 ≠ M by omega)).trans c4
  have hs4 := setRow_size w3 M #[.bool a.ok, .int .i64 a.n, sl]
  have o4 : ∀ b, b < M → (w3.setRow M #[.bool a.ok, .int .i64 a.n, sl]).heap[b]? = (K.w e2).heap[b]? := fun b hb' => (setRow_other w3 _ (show b ≠ M by omega)).trans (o3 b hb')
  generalize w3.setRow M #[.bool a.ok, .int .i64 a.n, sl] = w4 at *
  have hle3 := hls.same (w' := w4) (fun b hb' => o4 b (by omega))
  have d2 := cell_of c5 2
  have z2 := frozen_of c5 2
  simp only [List.getElem?_toArray, List.getElem?_cons_succ, List.getElem?_cons_zero] at d2
  have hs4' : w4.heap.size = M + 1 := by omega
  walk_nrm
  repeat (first | refine Walk.cx ?_ | (refine Walk.cReg ?_; simp only [z64]) | (refine Walk.oq ?_; try walk_nrm) | (refine Walk.un ?_; walk_nrm))
  refine Walk.callW (Post := fun v w' => LsAt w4.heap.size (fun b => w4.heap.size ≤ b ∧ b < w'.heap.size) v a.l w' ∧ w4.heap.size ≤ w'.heap.size ∧ ∀ b, b < w4.heap.size → w'.heap[b]? = w4.heap[b]?) ?_ (ho_of (by conv => lhs; whnf) (by kernel_rfl)) (by rfl) (by decide) rfl Try.func81 (by kernel_rfl) (by rfl) ?_
  · walk_nrm
    exact clone_w w4 sl a.l hle3 hlsn (fun b hb => K.newA e2 b (by omega))
  rintro sl' w4' ⟨hls', hs4'', o4''⟩
  obtain ⟨sa, sc, rfl⟩ : ∃ sa sc, sl' = .slice sa a.l.length sc := by
    obtain ⟨x, y, h, _⟩ := hls'
    exact ⟨x, y, h⟩
  have c5' := (o4'' M (by omega)).trans c5
  have d2' := cell_of c5' 2
  have z2' := frozen_of c5' 2
  simp only [List.getElem?_toArray, List.getElem?_cons_succ, List.getElem?_cons_zero] at d2'
  clear d2 z2
  have d2 := d2'
  have z2 := z2'
  clear d2' z2'
  walk_nrm
  repeat (first | refine Walk.cx ?_ | (refine Walk.cReg ?_; simp only [z64]) | (refine Walk.oq ?_; try walk_nrm) | (refine Walk.un ?_; walk_nrm))
  (have hfr := hap3.1 ⟨M, 2, none⟩ rfl; refine Walk.os hfr d2 ?_; clear hfr; try walk_nrm)
  have c7 : (w4'.setCell ⟨M, 2, none⟩ (.slice sa a.l.length sc)).heap[M]? = some (.cells #[.bool a.ok, .int .i64 a.n, (.slice sa a.l.length sc)] 44) := by
    rw [heap_set_self _ _ c5']
    simp
  have c8 : (w4'.setCell ⟨M, 2, none⟩ (.slice sa a.l.length sc)).heap[N + 1]? = _ := (heap_set_other w4' _ _ _ (show N + 1 ≠ M by omega)).trans ((o4'' _ (by omega)).trans c6)
  have hs5 := size_set w4' ⟨M, 2, none⟩ (.slice sa a.l.length sc)
  have o5 : ∀ b, b < M → (w4'.setCell ⟨M, 2, none⟩ (.slice sa a.l.length sc)).heap[b]? = (K.w e2).heap[b]? := fun b hb' => (heap_set_other w4' _ _ _ (show b ≠ M by omega)).trans ((o4'' b (by omega)).trans (o4 b hb'))
  have hls5 := hls'.same (w' := w4'.setCell ⟨M, 2, none⟩ (.slice sa a.l.length sc)) (fun b hb' => heap_set_other w4' _ _ _ (show b ≠ M by omega))
  generalize w4'.setCell ⟨M, 2, none⟩ (.slice sa a.l.length sc) = w5 at *
  repeat (first | refine Walk.cx ?_ | (refine Walk.cReg ?_; simp only [z64]) | (refine Walk.oq ?_; try walk_nrm) | (refine Walk.un ?_; walk_nrm))
  refine Walk.loadS 44 (.tmp 9) (ho_of (by conv => lhs; whnf) (by kernel_rfl)) (by rfl) (by decide) rfl M 0 [.bool a.ok, .int .i64 a.n, (.slice sa a.l.length sc)] (.struct fsA) rfl (fun j v hj => ?_) huA rfl (by kernel_rfl) ?_
  · rw [Nat.zero_add, cell_of c7]
    simpa using hj
  walk_nrm
  refine Walk.storeS 44 (.tmp 8) (.tmp 22) (ho_of (by conv => lhs; whnf) (by kernel_rfl)) (by rfl) (by decide) rfl (N + 1) #[.bool a.ok, .int .i64 a.n, (.slice sa a.l.length sc)] _ 44 rfl rfl c8 (by kernel_rfl) (by rfl) (by simp [Value.oneCell']) hap2 ?_
  have c9 := setRow_self (cells := #[.bool a.ok, .int .i64 a.n, (.slice sa a.l.length sc)]) c8
  have hls6 := hls5.same (w' := w5.setRow (N + 1) #[.bool a.ok, .int .i64 a.n, (.slice sa a.l.length sc)]) (fun b hb' => setRow_other w5 _ (show b ≠ N + 1 by omega))
  obtain ⟨e3, m3⟩ := K.own e2 (w' := w5.setRow (N + 1) #[.bool a.ok, .int .i64 a.n, (.slice sa a.l.length sc)]) (by rw [setRow_size]; omega) (fun b hb' hbm => (setRow_other w5 _ (fun he : b = N + 1 => hbm (by rw [he]; exact hm2))).trans (o5 b (by omega)))
  have hnew : ∀ b, (w4.heap.size ≤ b ∧ b < w4'.heap.size) → K.mine e3 b := fun b hb => (m3.mine b).2 (.inr ⟨by omega, by rw [setRow_size]; omega⟩)
  generalize w5.setRow (N + 1) #[.bool a.ok, .int .i64 a.n, (.slice sa a.l.length sc)] = w6 at *
  walk_nrm
  repeat (first | refine Walk.cx ?_ | (refine Walk.cReg ?_; simp only [z64]) | (refine Walk.oq ?_; try walk_nrm) | (refine Walk.un ?_; walk_nrm))
  refine Walk.onCell (T := N + 1) rfl rfl rfl Try.func64 rfl (by rfl) c9 (by kernel_rfl) (by kernel_rfl) ?_
  refine LW.to m3 (hk _ e3 ⟨a, (.slice sa a.l.length sc), ?_, rfl, ?_⟩)
  · rw [m3.tgt, m3.s]
    exact ht2
  · rw [m3.w]
    exact (hls6.imp hnew).low (by omega)
end
end
section
theorem ListOK.ne {L : La} {sv : Value} {K : Lg L sv} {e : K.E} {sl : Value} {ls : List Int} (h : ListOK K e sl ls) {R : Nat} {arr : Array Value} (hR : (K.w e).heap[R]? = some (.cells arr 44)) : ∀ b, sl.ownBlock = some b → b ≠ R := by
  rcases h with ⟨rfl, rfl⟩ | ⟨B, rfl, hm, hN⟩
  · intro b hb; cases hb
  · intro b hb e
    have hb : some B = some b := hb
    obtain rfl := Option.some.inj hb
    subst e
    unfold NumB at hN
    rw [hR] at hN
    simp at hN
theorem ListOK.keep {L : La} {sv : Value} {K : Lg L sv} {e e' : K.E} {sl : Value} {ls : List Int} (h : ListOK K e sl ls) (hm : ∀ b, K.mine e b → K.mine e' b) (hb : ∀ b, K.mine e b → sl.ownBlock = some b → (K.w e').heap[b]? = (K.w e).heap[b]?) : ListOK K e' sl ls := by
  rcases h with ⟨rfl, rfl⟩ | ⟨B, rfl, hB, hN⟩
  · exact .inl ⟨rfl, rfl⟩
  · exact .inr ⟨B, rfl, hm B hB, hN.same (hb B hB rfl)⟩
theorem cell_back {L : La} {sv : Value} (K : Lg L sv) {F : FuncId} {fn : Func} {e2 : K.E} {fr c : Frame} {l : List Frame} {R : Nat} {a : Ans} {sl : Value} (hm : K.mine e2 R) (hR : (K.w e2).heap[R]? = some (.cells #[.bool false, .int .i64 0, .slice none 0 0] 44))
    (ht : K.tgt e2 = (K.s e2, .inl a)) (hsl : ListOK K e2 sl a.l) (hk : ∀ e', K.tgt e' = (K.s e', .inl a) → ListOK K e' sl a.l → LW K.toLb e' (G (c.finish (ansV a sl)) (l ++ K.bot e')))
    (hF : Try.prog.funcs[F]? = some fn) (hres : fn.results = #[.cell 8 44]) (hfr : fr.mode = .returning ∧ fr.kind = .normal ∧ fr.defers = [] ∧ fr.fn = F ∧ fr.tmps.getD 8 undef = .pointer (some ⟨R, 0, none⟩)) :
    Walk Try.prog K.main (DR (K.V e2)) (K.Stop e2) (G fr (c :: (l ++ K.bot e2))) ((K.w e2).setRow R #[.bool a.ok, .int .i64 a.n, sl]) := by
  obtain ⟨h1, h2, h3, h4, h5⟩ := hfr
  obtain ⟨e3, m⟩ := K.own e2 (w' := (K.w e2).setRow R #[.bool a.ok, .int .i64 a.n, sl]) (by rw [setRow_size]; exact Nat.le_refl _) (fun b _ hbm => setRow_other _ _ (fun he : b = R => hbm (by rw [he]; exact hm)))
  have c9 := setRow_self (cells := #[.bool a.ok, .int .i64 a.n, sl]) hR
  refine Walk.onCell (T := R) h1 h2 h3 (by rw [h4]; exact hF) hres h5 c9 (by kernel_rfl) (by kernel_rfl) ?_
  refine LW.to m (hk e3 ?_ ?_)
  · rw [m.tgt, m.s]
    exact ht
  · refine hsl.keep (fun b h => (m.mine b).2 (.inl h)) fun b _ hb => ?_
    rw [m.w]
    exact setRow_other _ _ (hsl.ne hR b hb)
section
variable {lb k : Nat} {sv : Value}
theorem write_s (K : Lg (sqLa lb k) sv) (xs : Nat → Int) (e : K.E) (a : Int) (sl : Value) (vs : List Int) (hsl : LsR sl vs (K.w e)) (hxs : ValsIn k xs vs) (ht : K.tgt e = (K.s e, .inr (.w1 false (sqTr a) xs))) : SCall K.toLb 23 #[.pointer (some ⟨lb, 0, none⟩), sv, .int .i64 a, sl] e (ChOut K) := by
  intro fr l hp hl hk
  have he := fun (e1 : K.E) (N : Nat) (hN : K.mine e1 N) (hc : (K.w e1).heap[N]? = some (.cells #[sv] 90)) (hsl1 : LsR sl vs (K.w e1)) (h : K.tgt e1 = (K.s e1, .inr (.w1 false (sqTr a) xs))) =>
    SCall.fz K (change_s (Fz K e1) false xs 42 _ #[.pointer (some ⟨N, 0, none⟩)] Try.func42 (by kernel_rfl) (by rfl) (layW_ok (Fz K e1) N (fun e2 => ((e2.2 N hN).2).trans hc)) (fz0 K e1) a sl vs hsl1 hxs h)
  obtain ⟨sa, sc, rfl, hslr⟩ := hsl
  have hsl : LsR (.slice sa vs.length sc) vs (K.w e) := ⟨sa, sc, rfl, hslr⟩
  clear hslr
  generalize vs.length = vn at *
  unfold LW
  rw [enter_at _ Try.func23 code23_is]
  simp only [Try.ntmps23, ez, Nat.reduceAdd, Nat.reduceSub]
  repeat (first | refine Walk.cx ?_ | (refine Walk.cReg ?_; simp only [z23]) | (refine Walk.oq ?_; try walk_nrm) | (refine Walk.un ?_; walk_nrm))
  (refine Walk.oa ?_; try walk_nrm)
  change Walk Try.prog K.main (DR (K.V e)) (K.Stop e) _ ((K.w e).alloc (.cells sv.cells 90))
  rw [K.one]
  have c1 := heap_alloc_new (K.w e) (.cells #[sv] 90)
  have s1 : ((K.w e).alloc (.cells #[sv] 90)).heap.size = (K.w e).heap.size + 1 := by simp
  have hsl1 := hsl.same (w' := (K.w e).alloc (.cells #[sv] 90)) (fun b hb' => heap_new_lt _ _ hb')
  obtain ⟨e1, m1⟩ := K.grow e (w' := (K.w e).alloc (.cells #[sv] 90)) (by omega) (fun b hb' => heap_new_lt _ _ hb')
  generalize hR : (K.w e).heap.size = R at *
  generalize (K.w e).alloc (.cells #[sv] 90) = w1 at *
  have hmR : K.mine e1 R := m1.new (by omega) (by omega)
  have ht1 : K.tgt e1 = (K.s e1, .inr (.w1 false (sqTr a) xs)) := by rw [m1.tgt, m1.s]; exact ht
  have d1 := (cell_of c1 0).trans rfl
  have hw1 := m1.w
  rw [← hw1] at c1 hsl1
  have h1 := he e1 R hmR c1 hsl1 ht1
  clear he hw1 c1 hsl1 hsl
  repeat (first | refine Walk.cx ?_ | (refine Walk.cReg ?_; simp only [z23]) | (refine Walk.oq ?_; try walk_nrm) | (refine Walk.un ?_; walk_nrm))
  refine LW.to (l := fr :: l) m1 ?_
  refine LW.callS (K := K.toLb) (e := e1) (l := fr :: l) (f := 41) (Q := fun x e' => ∃ h : Kept K e1 e', ChOut (Fz K e1) x ⟨e', h⟩) ?_ (ho_of (by conv => lhs; whnf) (by kernel_rfl)) (by rfl) (by decide) rfl Try.func41 (by kernel_rfl) (by rfl) ⟨rfl, rfl, _, Try.func23⟩ (plain_cons hp hl) ?_
  · walk_nrm
    exact h1
  rintro x e2 ⟨hkept, b, rfl, ht2⟩
  have hkk := hk (.bool b) e2 ⟨b, rfl, ht2⟩
  unfold LW at hkk ⊢
  walk_nrm
  repeat (first | refine Walk.cx ?_ | (refine Walk.cReg ?_; simp only [z23]) | (refine Walk.oq ?_; try walk_nrm) | (refine Walk.un ?_; walk_nrm))
  exact Walk.on1 rfl rfl Try.func23 rfl hkk
theorem add_s (K : Lg (sqLa lb k) sv) (xs : Nat → Int) (e : K.E) (a : Int) (sl : Value) (vs : List Int) (hsl : LsR sl vs (K.w e)) (hxs : ValsIn k xs vs) (ht : K.tgt e = (K.s e, .inr (.w1 true (sqTr a) xs))) : SCall K.toLb 24 #[.pointer (some ⟨lb, 0, none⟩), sv, .int .i64 a, sl] e (ChOut K) := by
  intro fr l hp hl hk
  have he := fun (e1 : K.E) (N : Nat) (hN : K.mine e1 N) (hc : (K.w e1).heap[N]? = some (.cells #[sv] 90)) (hsl1 : LsR sl vs (K.w e1)) (h : K.tgt e1 = (K.s e1, .inr (.w1 true (sqTr a) xs))) =>
    SCall.fz K (change_s (Fz K e1) true xs 43 _ #[.pointer (some ⟨N, 0, none⟩)] Try.func43 (by kernel_rfl) (by rfl) (layA_ok (Fz K e1) N (fun e2 => ((e2.2 N hN).2).trans hc)) (fz0 K e1) a sl vs hsl1 hxs h)
  obtain ⟨sa, sc, rfl, hslr⟩ := hsl
  have hsl : LsR (.slice sa vs.length sc) vs (K.w e) := ⟨sa, sc, rfl, hslr⟩
  clear hslr
  generalize vs.length = vn at *
  unfold LW
  rw [enter_at _ Try.func24 code24_is]
  simp only [Try.ntmps24, ez, Nat.reduceAdd, Nat.reduceSub]
  repeat (first | refine Walk.cx ?_ | (refine Walk.cReg ?_; simp only [z24]) | (refine Walk.oq ?_; try walk_nrm) | (refine Walk.un ?_; walk_nrm))
  (refine Walk.oa ?_; try walk_nrm)
  change Walk Try.prog K.main (DR (K.V e)) (K.Stop e) _ ((K.w e).alloc (.cells sv.cells 90))
  rw [K.one]
  have c1 := heap_alloc_new (K.w e) (.cells #[sv] 90)
  have s1 : ((K.w e).alloc (.cells #[sv] 90)).heap.size = (K.w e).heap.size + 1 := by simp
  have hsl1 := hsl.same (w' := (K.w e).alloc (.cells #[sv] 90)) (fun b hb' => heap_new_lt _ _ hb')
  obtain ⟨e1, m1⟩ := K.grow e (w' := (K.w e).alloc (.cells #[sv] 90)) (by omega) (fun b hb' => heap_new_lt _ _ hb')
  generalize hR : (K.w e).heap.size = R at *
  generalize (K.w e).alloc (.cells #[sv] 90) = w1 at *
  have hmR : K.mine e1 R := m1.new (by omega) (by omega)
  have ht1 : K.tgt e1 = (K.s e1, .inr (.w1 true (sqTr a) xs)) := by rw [m1.tgt, m1.s]; exact ht
  have d1 := (cell_of c1 0).trans rfl
  have hw1 := m1.w
  rw [← hw1] at c1 hsl1
  have h1 := he e1 R hmR c1 hsl1 ht1
  clear he hw1 c1 hsl1 hsl
  repeat (first | refine Walk.cx ?_ | (refine Walk.cReg ?_; simp only [z24]) | (refine Walk.oq ?_; try walk_nrm) | (refine Walk.un ?_; walk_nrm))
  refine LW.to (l := fr :: l) m1 ?_
  refine LW.callS (K := K.toLb) (e := e1) (l := fr :: l) (f := 41) (Q := fun x e' => ∃ h : Kept K e1 e', ChOut (Fz K e1) x ⟨e', h⟩) ?_ (ho_of (by conv => lhs; whnf) (by kernel_rfl)) (by rfl) (by decide) rfl Try.func41 (by kernel_rfl) (by rfl) ⟨rfl, rfl, _, Try.func24⟩ (plain_cons hp hl) ?_
  · walk_nrm
    exact h1
  rintro x e2 ⟨hkept, b, rfl, ht2⟩
  have hkk := hk (.bool b) e2 ⟨b, rfl, ht2⟩
  unfold LW at hkk ⊢
  walk_nrm
  repeat (first | refine Walk.cx ?_ | (refine Walk.cReg ?_; simp only [z24]) | (refine Walk.oq ?_; try walk_nrm) | (refine Walk.un ?_; walk_nrm))
  exact Walk.on1 rfl rfl Try.func24 rfl hkk
end
end
section
structure OSt (L : La) (g : OG) (S : Stile) : Prop where
  n : S.n = g.n
  alo : g.A < g.w0.heap.size
  tbs : ¬ g.sh S.tb ∧ S.tb ≠ g.A
  tb : ∀ i, i < g.n → g.w0.cell? ⟨S.tb, i, none⟩ = some (S.F i)
  sch : ∀ (j : Nat) (z : Int), S.sl[j]? = some z → ∃ s so, S.sa = some ⟨s, so, none⟩ ∧ g.w0.cell? ⟨s, so + j, none⟩ = some (.int .i64 z) ∧ ¬ g.sh s ∧ s ≠ g.A
def t0 (L : La) : Tst L := ⟨[], none, []⟩
structure OInv (L : La) (g : OG) (S : Stile) (k : Nat) (o : Nat → Option Role) (x : OX L) (cs : Nat → List Frame) (w : World) (pr : Nat → Option Nat) (hd : Nat → Value) (y : L.Gh) : Prop where
  st : OSt L g S
  kn : k ≤ g.n
  size : g.w0.heap.size ≤ w.heap.size
  base : ∀ b, b < g.w0.heap.size → o b = none
  old : ∀ b, b < g.w0.heap.size → ¬ g.sh b → b ≠ g.A → w.heap[b]? = g.w0.heap[b]?
  prl : ∀ b i, pr b = some i → g.w0.heap.size ≤ b ∧ b < w.heap.size ∧ o b = none ∧ ¬ L.sh y b
  shl : ∀ b, L.sh y b → o b = none ∧ b ≠ g.A ∧ b < w.heap.size ∧ (b < g.w0.heap.size → g.sh b)
  I : L.I y x.s w
  an : ∃ arr : Array Value, w.heap[g.A]? = some (.cells arr 42) ∧ arr.size = g.n ∧ ∀ i, i < g.n → arr[i]? = some (hd i)
  row : ∀ i, i < g.n → RowA g.w0.heap.size (fun b => pr b = some i) (hd i) (x.th i).ans w
  cont : ∀ i, i < k → i < g.n → x.out i = none → (x.th i).d.isSome = true ∧ cs i ≠ [] ∧ (∀ f ∈ cs i, Plain f) ∧ Cont L g S i (1048577 - x.cnt) (x.th i) (cs i) y (hd i) (fun b => pr b = some i) w
  fresh : ∀ i, k ≤ i → i < g.n → x.th i = t0 L
def invO (L : La) (g : OG) (S : Stile) (yb : L.Gh) (k : Nat) (o : Nat → Option Role) (x : OX L) (cs : Nat → List Frame) (w : World) : Prop := ∃ pr hd y, L.le yb y ∧ OInv L g S k o x cs w pr hd y
theorem cell_lt' {w : World} {b i : Nat} {v : Value} (h : w.cell? ⟨b, i, none⟩ = some v) : b < w.heap.size := by
  unfold World.cell? at h
  split at h
  · rename_i h'; exact (Array.getElem?_eq_some_iff.1 h').1
  · cases h
section
variable {L : La} {g : OG} {S : Stile} {k : Nat} {o o' : Nat → Option Role} {x : OX L} {cs : Nat → List Frame} {w w' : World} {pr : Nat → Option Nat} {hd : Nat → Value} {y yb : L.Gh}
theorem OInv.cell (P : OInv L g S k o x cs w pr hd y) {b i : Nat} {v : Value} (h : g.w0.cell? ⟨b, i, none⟩ = some v) (hs : ¬ g.sh b) (hA : b ≠ g.A) : w.cell? ⟨b, i, none⟩ = some v :=
  (World.cell?_of_block (a := ⟨b, i, none⟩) (P.old b (cell_lt' h) hs hA)).trans h
theorem invO_keep (h : invO L g S yb k o x cs w) (K : Keeps o o' w w') : invO L g S yb k o' x cs w' := by
  obtain ⟨pr, hd, y, hy, P⟩ := h
  have hb : ∀ b, b < g.w0.heap.size → o' b = none ∧ w'.heap[b]? = w.heap[b]? := fun b h => K.same b (Nat.lt_of_lt_of_le h P.size) (P.base b h)
  have hp : ∀ b i, pr b = some i → o' b = none ∧ w'.heap[b]? = w.heap[b]? := fun b i h => K.same b (P.prl b i h).2.1 (P.prl b i h).2.2.1
  have hsh : ∀ b, L.sh y b → o' b = none ∧ w'.heap[b]? = w.heap[b]? := fun b h => K.same b (P.shl b h).2.2.1 (P.shl b h).1
  refine ⟨pr, hd, y, hy, ⟨P.st, P.kn, Nat.le_trans P.size K.size, fun b h => (hb b h).1, fun b h h1 h2 => (hb b h).2.trans (P.old b h h1 h2), fun b i h => ⟨(P.prl b i h).1, Nat.lt_of_lt_of_le (P.prl b i h).2.1 K.size, (hp b i h).1, (P.prl b i h).2.2.2⟩, fun b h => ⟨(hsh b h).1, (P.shl b h).2.1, Nat.lt_of_lt_of_le (P.shl b h).2.2.1 K.size, (P.shl b h).2.2.2⟩, L.stable P.I fun b h => (hsh b h).2, ?_, fun i hi => (P.row i hi).same fun b e => (hp b i e).2, fun i hi hin ho => ?_, P.fresh⟩⟩
  · obtain ⟨arr, ha, hz, hr⟩ := P.an
    exact ⟨arr, (hb _ P.st.alo).2.trans ha, hz, hr⟩
  · obtain ⟨h1, h2, h3, h4⟩ := P.cont i hi hin ho
    exact ⟨h1, h2, h3, h4.keep (L.refl _) K.size fun b e => (hp b i e).2⟩
theorem OInv.rely (P : OInv L g S k o x cs w pr hd y) {V : Nat → Option Wait} {i : Nat} (hi : i < g.n) (hA : ∀ b, o b = none → Apart V b) (hlt : ∀ b r, o b = some r → b < w.heap.size) : Rely L g i V y w (hd i) (fun b => pr b = some i) := by
  refine ⟨P.size, P.old, ?_, fun b e => ⟨(P.prl b i e).1, (P.prl b i e).2.1, (P.prl b i e).2.2.2⟩, fun b e => hA b ?_, fun b h => (P.shl b h).2, P.st.alo, (P.row i hi).hdo⟩
  · obtain ⟨arr, ha, hz, hr⟩ := P.an
    exact ⟨arr, ha, hr i hi⟩
  · rcases e with e | e | e | e
    · exact P.base b e
    · exact (P.prl b i e).2.2.1
    · cases ho : o b with
      | none => rfl
      | some r => have := hlt b r ho; omega
    · exact (P.shl b e).1
theorem fin_of_stop {V : Nat → Option Wait} {f : Frame} {fs : List Frame} {i k' cnt' : Nat} {r : L.Sg × Tst L} {g' : Goroutine} (hy : L.le yb y) (P : OInv L g S k o x cs w pr hd y) (hi : i < g.n) (hik : i < k') (hkk : ∀ j, j < k' → j ≠ i → j < k) (hkf : k ≤ k') (hkn : k' ≤ g.n) (hc : x.cnt ≤ cnt')
    (hlt : ∀ b r, o b = some r → b < w.heap.size) (hS : StopT L g S i (Cont L g S i (1048577 - cnt')) ⟨V, f, fs, w, y, fun b => pr b = some i, r⟩ g' w') : Fin (invO L g S yb) OX.out S k' o (putO x i r cnt') cs i f fs w g' w' := by
  obtain ⟨y', hyy, hsz, hfr, hI, hpub, hd', ⟨arr, arr', ha, ha', hasz, hai, haj⟩, hrow, hend⟩ := hS
  dsimp only at hyy hsz hfr hI hpub hrow hend ha ha' hasz hai haj
  let new : Nat → Option Nat := fun b => if w.heap.size ≤ b ∧ b < w'.heap.size then some i else pr b
  obtain ⟨pr', hpr1, hpr2⟩ : ∃ pr' : Nat → Option Nat, (∀ b, L.sh y' b → pr' b = none) ∧ ∀ b, ¬ L.sh y' b → pr' b = new b := ⟨fun b => @ite _ (L.sh y' b) (Classical.propDecidable _) none (new b), fun b h => if_pos h, fun b h => if_neg h⟩
  have hMi : (fun b => pr' b = some i) = ownT (⟨V, f, fs, w, y, fun b => pr b = some i, r⟩ : Tn L) y' w' := by
    funext b
    refine propext ⟨fun h => ?_, fun h => ?_⟩
    · have hs : ¬ L.sh y' b := fun hs => by
        have h : pr' b = some i := h
        rw [hpr1 b hs] at h; cases h
      refine ⟨?_, hs⟩
      have h : pr' b = some i := h
      rw [hpr2 b hs] at h
      by_cases e : w.heap.size ≤ b ∧ b < w'.heap.size
      · exact .inr e
      · have h : (if w.heap.size ≤ b ∧ b < w'.heap.size then some i else pr b) = some i := h
        rw [if_neg e] at h
        exact .inl h
    · show pr' b = some i
      rw [hpr2 b h.2]
      show (if w.heap.size ≤ b ∧ b < w'.heap.size then some i else pr b) = some i
      rcases h.1 with h | h
      · split
        · rfl
        · exact h
      · rw [if_pos h]
  have hMj : ∀ j, j ≠ i → ∀ b, pr' b = some j ↔ pr b = some j := fun j hj b => by
    by_cases hs : L.sh y' b
    · rw [hpr1 b hs]
      refine ⟨fun h => (by cases h), fun h => ?_⟩
      have h1 := P.prl b j h
      rcases hpub b hs with h2 | h2 | h2
      · exact absurd h2 h1.2.2.2
      · rw [h] at h2; exact absurd (Option.some.inj h2) hj
      · omega
    · rw [hpr2 b hs]
      show (if w.heap.size ≤ b ∧ b < w'.heap.size then some i else pr b) = some j ↔ pr b = some j
      by_cases e : w.heap.size ≤ b ∧ b < w'.heap.size
      · rw [if_pos e]
        refine ⟨fun h => absurd (Option.some.inj h).symm hj, fun h => ?_⟩
        have := (P.prl b j h).2.1
        omega
      · rw [if_neg e]
  have hother : ∀ j b, j ≠ i → pr b = some j → w'.heap[b]? = w.heap[b]? := fun j b hj h => by
    have h1 := P.prl b j h
    refine hfr b h1.2.1 (fun e => hj ?_) h1.2.2.2 (fun e => ?_)
    · rw [h] at e; exact Option.some.inj e
    · have := P.st.alo; omega
  have hown : ∀ b, (pr b = some i ∨ (w.heap.size ≤ b ∧ b < w'.heap.size)) → g.w0.heap.size ≤ b ∧ b < w'.heap.size ∧ o b = none := fun b h => by
    rcases h with h | h
    · have := P.prl b i h
      exact ⟨this.1, by omega, this.2.2.1⟩
    · refine ⟨Nat.le_trans P.size h.1, h.2, ?_⟩
      cases ho : o b with
      | none => rfl
      | some z => have := hlt b z ho; have h1 : w.heap.size ≤ b := h.1; omega
  have harr : arr.size = arr'.size := hasz.symm
  obtain ⟨arr0, ha0, hz0, hr0⟩ := P.an
  rw [ha] at ha0
  have harr0 : arr0 = arr := by cases ha0; rfl
  subst harr0
  have hth : ∀ j, j ≠ i → (putO x i r cnt').th j = x.th j := fun j hj => upd_ne _ _ hj
  have hthi : (putO x i r cnt').th i = r.2 := upd_same _ _ _
  have hinv : ∀ l, (r.2.d.isSome = true → l ≠ [] ∧ (∀ f ∈ l, Plain f) ∧ Cont L g S i (1048577 - cnt') r.2 l y' hd' (fun b => pr' b = some i) w') → invO L g S yb k' o (putO x i r cnt') (upd cs i l) w' := fun l hl => by
    refine ⟨pr', upd hd i hd', y', L.trans hy hyy, ⟨P.st, hkn, Nat.le_trans P.size hsz, P.base, fun b hb h1 h2 => (hfr b (Nat.lt_of_lt_of_le hb P.size) (fun e => by have := (P.prl b i e).1; omega) (fun e => h1 ((P.shl b e).2.2.2 hb)) h2).trans (P.old b hb h1 h2), fun b j h => ?_, fun b h => ?_, hI, ⟨arr', ha', by rw [hasz]; exact hz0, fun j hj => ?_⟩, fun j hj => ?_, fun j hj hjn ho => ?_, fun j hj hjn => ?_⟩⟩
    · have hs : ¬ L.sh y' b := fun hs => by rw [hpr1 b hs] at h; cases h
      by_cases e : j = i
      · subst e
        have h0 : ownT (⟨V, f, fs, w, y, fun b => pr b = some j, r⟩ : Tn L) y' w' b := by rw [← hMi]; exact h
        have h1 := hown b h0.1
        exact ⟨h1.1, h1.2.1, h1.2.2, hs⟩
      · have := P.prl b j ((hMj j e b).1 h)
        exact ⟨this.1, by omega, this.2.2.1, hs⟩
    · have hl' := L.lt hI h
      rcases hpub b h with h1 | h1 | h1
      · have := P.shl b h1
        exact ⟨this.1, this.2.1, hl', this.2.2.2⟩
      · have h2 := hown b (.inl h1)
        exact ⟨h2.2.2, fun e => (by have := P.st.alo; omega), hl', fun e => (by omega)⟩
      · have h2 := hown b (.inr ⟨h1, hl'⟩)
        exact ⟨h2.2.2, fun e => (by have := P.st.alo; omega), hl', fun e => (by omega)⟩
    · by_cases e : j = i
      · subst e; rw [upd_same]; exact hai
      · rw [upd_ne _ _ e, haj j e]; exact hr0 j hj
    · by_cases e : j = i
      · subst e; rw [upd_same, hthi, hMi]; exact hrow
      · rw [upd_ne _ _ e, hth j e]
        have hM : (fun b => pr' b = some j) = (fun b => pr b = some j) := funext fun b => propext (hMj j e b)
        rw [hM]
        exact (P.row j hj).same fun b hb => hother j b e hb
    · by_cases e : j = i
      · subst e
        rw [hthi, upd_same, upd_same]
        have ho : upd x.out j (match r.2.d with | none => some false | some _ => none) j = none := ho
        rw [upd_same] at ho
        have hs : r.2.d.isSome = true := by
          cases hd : r.2.d with
          | none => rw [hd] at ho; cases ho
          | some d => rfl
        exact ⟨hs, hl hs⟩
      · have ho : upd x.out i (match r.2.d with | none => some false | some _ => none) j = none := ho
        rw [upd_ne _ _ e] at ho
        rw [hth j e, upd_ne _ _ e, upd_ne _ _ e]
        obtain ⟨h1, h2, h3, h4⟩ := P.cont j (hkk j hj e) hjn ho
        refine ⟨h1, h2, h3, ?_⟩
        have hM : (fun b => pr' b = some j) = (fun b => pr b = some j) := funext fun b => propext (hMj j e b)
        rw [hM]
        refine (h4.le (Nat.sub_le_sub_left hc _)).keep hyy hsz fun b hb => hother j b e hb
    · have e : j ≠ i := by omega
      rw [hth j e]
      exact P.fresh j (by omega) hjn
  refine ⟨hsz, fun b z hb => hfr b (hlt b z hb) (fun e => by rw [(P.prl b i e).2.2.1] at hb; cases hb) (fun e => by rw [(P.shl b e).1] at hb; cases hb) (fun e => by rw [P.base b (e ▸ P.st.alo)] at hb; cases hb), ?_⟩
  have hout : (putO x i r cnt').out i = match r.2.d with | none => some false | some _ => none := upd_same _ _ _
  rcases hend with ⟨h1, rfl⟩ | ⟨l, h1, h2, h3, h4, rfl⟩
  · refine ⟨[], hinv [] (fun h => by rw [h1] at h; cases h), .inr (.inl ⟨?_, rfl⟩)⟩
    show (putO x i r cnt').out i = some false
    rw [hout, h1]
  · refine ⟨l, hinv l (fun _ => ⟨h2, h3, by rw [hMi]; exact h4⟩), .inl ⟨?_, rfl⟩⟩
    show (putO x i r cnt').out i = none
    rw [hout]
    cases hd : r.2.d with
    | none => rw [hd] at h1; cases h1
    | some d => rfl
theorem goO {V : Nat → Option Wait} {i : Nat} {c : Frame} {l : List Frame} (f : Frame) (fs : List Frame) (h : invO L g S yb k o x cs w) (hik : i < k) (hout : x.out i = none) (hcs : cs i = c :: l) (hc : x.cnt < 1048576) (hA : ∀ b, o b = none → Apart V b) (hlt : ∀ b r, o b = some r → b < w.heap.size) :
    Walk Try.prog false (DR V) (Fin (invO L g S yb) OX.out S k o (nextO x i) cs i f fs w) (G (c.finish (.tuple #[])) (l ++ f :: fs)) w := by
  obtain ⟨pr, hd, y, hy, P⟩ := h
  have hi : i < g.n := Nat.lt_of_lt_of_le hik P.kn
  obtain ⟨h1, h2, h3, h4⟩ := P.cont i hik hi hout
  obtain ⟨d, hdd⟩ := Option.isSome_iff_exists.1 h1
  rw [show 1048577 - x.cnt = (1048577 - (x.cnt + 1)) + 1 from by omega] at h4
  have hn : nextO x i = putO x i (landO L (i : Nat) (L.act x.s d) (x.th i).left (x.th i).ans) (x.cnt + 1) := by
    unfold nextO; rw [hdd]
  rw [hn]
  exact (h4 V f fs y w x.s c l d (L.refl _) (Nat.le_refl _) (fun _ _ => rfl) (P.rely hi hA hlt) P.I hdd hcs).mono fun g' w' hS => fin_of_stop hy P hi hik (fun j hj _ => hj) (Nat.le_refl _) P.kn (Nat.le_succ _) hlt hS
theorem invO_shape {i : Nat} (h : invO L g S yb k o x cs w) (hik : i < k) (hout : x.out i = none) : (∃ c l, cs i = c :: l) ∧ ∀ f ∈ cs i, Plain f := by
  obtain ⟨pr, hd, y, hy, P⟩ := h
  obtain ⟨h1, h2, h3, h4⟩ := P.cont i hik (Nat.lt_of_lt_of_le hik P.kn) hout
  refine ⟨?_, h3⟩
  cases hc : cs i with
  | nil => exact absurd hc h2
  | cons c l => exact ⟨c, l, rfl⟩
theorem invO_thr {i : Nat} (h : invO L g S yb k o x cs w) (hi : i < S.n) : w.cell? ⟨S.tb, i, none⟩ = some (S.F i) := by
  obtain ⟨pr, hd, y, hy, P⟩ := h
  exact P.cell (P.st.tb i (P.st.n ▸ hi)) P.st.tbs.1 P.st.tbs.2
theorem invO_sch {j : Nat} {z : Int} (h : invO L g S yb k o x cs w) (hz : S.sl[j]? = some z) : ∃ s so, S.sa = some ⟨s, so, none⟩ ∧ w.cell? ⟨s, so + j, none⟩ = some (.int .i64 z) := by
  obtain ⟨pr, hd, y, hy, P⟩ := h
  obtain ⟨s, so, e, hc, h1, h2⟩ := P.st.sch j z hz
  exact ⟨s, so, e, P.cell hc h1 h2⟩
end
end
end Go.Proofs.Ytjenoiekfkhafaa
