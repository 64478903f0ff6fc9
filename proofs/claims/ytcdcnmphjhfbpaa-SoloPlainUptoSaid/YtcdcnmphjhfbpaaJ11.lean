/- Part 11. -/
import Derived.Test.YtcdcnmphjhfbpaaJ10
set_option linter.unusedSimpArgs false
set_option linter.unusedVariables false
set_option maxHeartbeats 8000000
set_option maxRecDepth 100000
namespace Go.Proofs.Ytcdcnmphjhfbpaa
open Go.Conc Go.RowKit Go.Relay
open Go.ConcN (upd upd_ne upd_same)
section
section
variable {rb sb n : Nat} {sv : Value}
theorem GatL.ne {L : La} {sv : Value} {K : Lg L sv} {e : K.E} {sl : Value} {ls : List Int} (h : GatL K e sl ls) {R : Nat} {arr : Array Value} (hR : (K.w e).heap[R]? = some (.cells arr 46)) : ∀ b, sl.ownBlock = some b → b ≠ R := fun b hb e' => by
  subst e'
  rcases h.2.1.2 with ⟨e1, _⟩ | ⟨g, cap, cur, e1, _, h2, _⟩
  · rw [e1] at hb; cases hb
  · rw [e1] at hb
    cases hb
    rw [hR] at h2
    cases h2
theorem GatL.keep {L : La} {sv : Value} {K : Lg L sv} {e e' : K.E} {sl : Value} {ls : List Int} (h : GatL K e sl ls) (hm : ∀ b, K.mine e b → K.mine e' b) (hb : ∀ b, K.mine e b → sl.ownBlock = some b → (K.w e').heap[b]? = (K.w e).heap[b]?) : GatL K e' sl ls :=
  ⟨h.1, row_same h.2.1 fun b hb' => hb b (h.2.2 b hb') hb', fun b hb' => hm b (h.2.2 b hb')⟩
theorem GatL.lsR {L : La} {sv : Value} {K : Lg L sv} {e : K.E} {sl : Value} {ls : List Int} (h : GatL K e sl ls) : LsR sl ls (K.w e) := by
  obtain ⟨⟨a, c, rfl⟩, hr, _⟩ := h
  have hx : ls.length ≤ c ∧ (a = none → c = 0) := by
    rcases hr.2 with ⟨e1, _⟩ | ⟨g, cap, cur, e1, _, _, hle, _⟩
    · injection e1 with _ en ec
      exact ⟨by omega, fun _ => ec⟩
    · injection e1 with e1 _ e3
      subst e1 e3
      exact ⟨hle, fun h => by cases h⟩
  refine ⟨a, c, rfl, hx.1, hx.2, fun j z hz => ?_⟩
  obtain ⟨g, e1, _, _, hc⟩ := row_at hr (j := j) (x := .int .i64 z) (by rw [List.getElem?_map, hz]; rfl)
  exact ⟨g, 0, e1, by rw [Nat.zero_add]; exact hc⟩
theorem GatL.nil {L : La} {sv : Value} (K : Lg L sv) (e : K.E) : GatL K e (.slice none 0 0) [] := ⟨⟨_, _, rfl⟩, ⟨rfl, .inl ⟨rfl, rfl⟩⟩, fun b h => by simp [Value.ownBlock] at h⟩
end
end
section
structure RingIn (L : La) (rb sb n : Nat) where
  rg : L.Sg → Rg
  putS : L.Sg → Nat → Int → L.Sg
  putV : L.Sg → Nat → Int → L.Sg
  sh : ∀ y, L.sh y sb
  ring : ∀ {y s w}, L.I y s w → RgI rb sb n (rg s) w
  upS : ∀ {y s w i v}, i < n → L.I y s w → L.I y (putS s i v) (w.setCell ⟨sb, i * 2, none⟩ (.int .i64 v))
  upV : ∀ {y s w i v}, i < n → L.I y s w → L.I y (putV s i v) (w.setCell ⟨sb, i * 2 + 1, none⟩ (.int .i64 v))
section
variable {L : La} {rb sb n : Nat} {sv : Value}
def RingIn.stpW (R : RingIn L rb sb n) (i : Nat) (hi : i < n) : Wd L where
  on := fun _ => True
  up := fun _ _ => trivial
  b := sb
  q := i * 2
  get := fun s => (R.rg s).st i
  put := fun s v => R.putS s i v
  ok := fun _ => True
  sh := fun y _ => R.sh y
  rd := fun _ s w _ h => RgI.rdS hi (R.ring h)
  wr := fun _ s w v _ _ h => R.upS hi h
def RingIn.vluW (R : RingIn L rb sb n) (i : Nat) (hi : i < n) : Wd L where
  on := fun _ => True
  up := fun _ _ => trivial
  b := sb
  q := i * 2 + 1
  get := fun s => (R.rg s).va i
  put := fun s v => R.putV s i v
  ok := fun _ => True
  sh := fun y _ => R.sh y
  rd := fun _ s w _ h => RgI.rdV hi (R.ring h)
  wr := fun _ s w v _ _ h => R.upV hi h
theorem RingIn.load_stp (R : RingIn L rb sb n) (K : Lg L sv) (i : Nat) (hi : i < n) (e : K.E) (d : L.D) (ht : K.tgt e = (K.s e, .inr d)) : SCall K.toLb 100 #[.pointer (some ⟨sb, i * 2, none⟩), sv] e (fun v e' => Aft K.toLb e d e' ∧ v = .int .i64 ((R.rg (K.s e')).st i)) := word_load K (R.stpW i hi) e d trivial ht
theorem RingIn.load_vlu (R : RingIn L rb sb n) (K : Lg L sv) (i : Nat) (hi : i < n) (e : K.E) (d : L.D) (ht : K.tgt e = (K.s e, .inr d)) : SCall K.toLb 100 #[.pointer (some ⟨sb, i * 2 + 1, none⟩), sv] e (fun v e' => Aft K.toLb e d e' ∧ v = .int .i64 ((R.rg (K.s e')).va i)) := word_load K (R.vluW i hi) e d trivial ht
theorem RingIn.store_stp (R : RingIn L rb sb n) (K : Lg L sv) (i : Nat) (hi : i < n) (e : K.E) (d : L.D) (x : Int) (ht : K.tgt e = (K.s e, .inr d)) : SCall K.toLb 71 #[.pointer (some ⟨sb, i * 2, none⟩), sv, .int .i64 x] e (fun _ e' => ∃ s : L.Sg, Wrote K e d s (R.putS s i x) e') := word_store K (R.stpW i hi) e d x trivial trivial ht
theorem RingIn.store_vlu (R : RingIn L rb sb n) (K : Lg L sv) (i : Nat) (hi : i < n) (e : K.E) (d : L.D) (x : Int) (ht : K.tgt e = (K.s e, .inr d)) : SCall K.toLb 71 #[.pointer (some ⟨sb, i * 2 + 1, none⟩), sv, .int .i64 x] e (fun _ e' => ∃ s : L.Sg, Wrote K e d s (R.putV s i x) e') := word_store K (R.vluW i hi) e d x trivial trivial ht
theorem putG_s (R : RingIn L rb sb n) (K : Lg L sv) (e : K.E) (q v : Int) (hq : good q) (d1 d2 d3 : L.D) (F : L.Sg → Ans ⊕ L.D) (a1 : ∀ s, L.act s d1 = (R.putS s (ixR n q) (laR n q - 1), .inr d2)) (a2 : ∀ s, L.act s d2 = (R.putV s (ixR n q) v, .inr d3)) (a3 : ∀ s, L.act s d3 = (R.putS s (ixR n q) (laR n q), F (R.putS s (ixR n q) (laR n q)))) (ht : K.tgt e = (K.s e, .inr d1)) : SCall K.toLb 60 #[.pointer (some ⟨rb, 0, none⟩), sv, .int .i64 q, .int .i64 v] e (fun x e' => x = .int .i64 0 ∧ K.tgt e' = (K.s e', F (K.s e'))) := by
  intro fr l hp hl hk
  have I := R.ring (K.inv e)
  have hh := holds_yes (main := K.main) (V := K.V e) (K.w e) I q hq
  have ha := at_w (main := K.main) (V := K.V e) (K.w e) I q hq
  have hix := ixR_lt I.pos.1 q
  have hb := laR_in I.pos.1 hq
  have w1 := R.store_stp K (ixR n q) hix e d1 (laR n q - 1) ht
  have h1 : ∀ (e1 : K.E) (s1 : L.Sg), Wrote K e d1 s1 (R.putS s1 (ixR n q) (laR n q - 1)) e1 → K.tgt e1 = (K.s e1, .inr d2) := fun e1 s1 h => by
    rw [h.tgt]
    rw [h.s]
    exact a1 _
  have w2 := fun (e1 : K.E) (h : K.tgt e1 = (K.s e1, .inr d2)) => R.store_vlu K (ixR n q) hix e1 d2 v h
  have h2 : ∀ (e1 e2 : K.E) (s1 : L.Sg), Wrote K e1 d2 s1 (R.putV s1 (ixR n q) v) e2 → K.tgt e2 = (K.s e2, .inr d3) := fun e1 e2 s1 h => by
    rw [h.tgt]
    rw [h.s]
    exact a2 _
  have w3 := fun (e1 : K.E) (h : K.tgt e1 = (K.s e1, .inr d3)) => R.store_stp K (ixR n q) hix e1 d3 (laR n q) h
  have h3 : ∀ (e1 e2 : K.E) (s1 : L.Sg), Wrote K e1 d3 s1 (R.putS s1 (ixR n q) (laR n q)) e2 → K.tgt e2 = (K.s e2, F (K.s e2)) := fun e1 e2 s1 h => by
    rw [h.tgt]
    rw [h.s]
    exact a3 _
  have hw1 : IntKind.wrap .i64 (laR n q - 1) = laR n q - 1 := by rw [IntKind.wrap_i64]; omega
  clear a1 a2 a3
  generalize ixR n q = ix at *
  generalize laR n q = la at *
  unfold LW
  clear I
  rw [enter_at _ Try.func60 code60_is]
  simp only [Try.ntmps60, ez, Nat.reduceAdd, Nat.reduceSub]
  repeat (first | refine Walk.cx ?_ | (refine Walk.cReg ?_; simp only [z60]) | (refine Walk.oq ?_; try walk_nrm) | (refine Walk.un ?_; walk_nrm))
  refine Walk.callV (x := .bool true) (W := K.w e) ?_ (ho_of (by conv => lhs; whnf) (by kernel_rfl)) (by rfl) (by decide) rfl Try.func74 (by kernel_rfl) (by rfl) ?_
  · walk_nrm
    exact hh
  walk_nrm
  clear hh
  repeat (first | refine Walk.cx ?_ | (refine Walk.cReg ?_; simp only [z60]) | (refine Walk.oq ?_; try walk_nrm) | (refine Walk.un ?_; walk_nrm))
  refine Walk.callV (x := .tuple #[.pointer (some ⟨sb, ix * 2, none⟩), .int .i64 la]) (W := K.w e) ?_ (ho_of (by conv => lhs; whnf) (by kernel_rfl)) (by rfl) (by decide) rfl Try.func110 (by kernel_rfl) (by rfl) ?_
  · walk_nrm
    exact ha
  walk_nrm
  clear ha
  repeat (first | refine Walk.cx ?_ | (refine Walk.cReg ?_; simp only [z60]) | (refine Walk.oq ?_; try walk_nrm) | (refine Walk.un ?_; walk_nrm))
  refine LW.callS (K := K.toLb) (e := e) (l := fr :: l) (f := 71) (Q := fun _ e' => ∃ s : L.Sg, Wrote K e d1 s (R.putS s ix (la - 1)) e') ?_ (ho_of (by conv => lhs; whnf) (by kernel_rfl)) (by rfl) (by decide) rfl Try.func71 (by kernel_rfl) (by rfl) ⟨rfl, rfl, _, Try.func60⟩ (plain_cons hp hl) ?_
  · walk_nrm
    exact w1
  rintro x e1 ⟨s1, hs1⟩
  have g1 := h1 e1 s1 hs1
  unfold LW
  walk_nrm
  repeat (first | refine Walk.cx ?_ | (refine Walk.cReg ?_; simp only [z60]) | (refine Walk.oq ?_; try walk_nrm) | (refine Walk.un ?_; walk_nrm))
  refine LW.callS (K := K.toLb) (e := e1) (l := fr :: l) (f := 71) (Q := fun _ e' => ∃ s : L.Sg, Wrote K e1 d2 s (R.putV s ix v) e') ?_ (ho_of (by conv => lhs; whnf) (by kernel_rfl)) (by rfl) (by decide) rfl Try.func71 (by kernel_rfl) (by rfl) ⟨rfl, rfl, _, Try.func60⟩ (plain_cons hp hl) ?_
  · walk_nrm
    exact w2 e1 g1
  rintro x2 e2 ⟨s2, hs2⟩
  have g2 := h2 e1 e2 s2 hs2
  unfold LW
  walk_nrm
  repeat (first | refine Walk.cx ?_ | (refine Walk.cReg ?_; simp only [z60]) | (refine Walk.oq ?_; try walk_nrm) | (refine Walk.un ?_; walk_nrm))
  refine LW.callS (K := K.toLb) (e := e2) (l := fr :: l) (f := 71) (Q := fun _ e' => ∃ s : L.Sg, Wrote K e2 d3 s (R.putS s ix la) e') ?_ (ho_of (by conv => lhs; whnf) (by kernel_rfl)) (by rfl) (by decide) rfl Try.func71 (by kernel_rfl) (by rfl) ⟨rfl, rfl, _, Try.func60⟩ (plain_cons hp hl) ?_
  · walk_nrm
    exact w3 e2 g2
  rintro x3 e3 ⟨s3, hs3⟩
  have hkk := hk (.int .i64 0) e3 ⟨rfl, h3 e2 e3 s3 hs3⟩
  unfold LW at hkk ⊢
  walk_nrm
  repeat (first | refine Walk.cx ?_ | (refine Walk.cReg ?_; simp only [z60]) | (refine Walk.oq ?_; try walk_nrm) | (refine Walk.un ?_; walk_nrm))
  exact Walk.on1 rfl rfl Try.func60 rfl hkk
end
end
section
section
variable {L : La} {rb sb n : Nat} {sv : Value}
def GetOutG (K : Lg L sv) (E6 E10 : Ans ⊕ L.D) (F : Int → Ans ⊕ L.D) (v : Value) (e' : K.E) : Prop := ∃ a er, v = .tuple #[.int .i64 a, .int .i64 er] ∧ ((er = 6 ∧ K.tgt e' = (K.s e', E6)) ∨ (er = 10 ∧ K.tgt e' = (K.s e', E10)) ∨ (er = 0 ∧ K.tgt e' = (K.s e', F a)))
theorem getG_s (R : RingIn L rb sb n) (K : Lg L sv) (e : K.E) (q : Int) (hq : good q) (d1 d2 : L.D) (d3 : Int → L.D) (E6 E10 : Ans ⊕ L.D) (F : Int → Ans ⊕ L.D) (a1 : ∀ s, L.act s d1 = (s, if (R.rg s).st (ixR n q) < laR n q then E6 else if laR n q < (R.rg s).st (ixR n q) then E10 else .inr d2)) (a2 : ∀ s, L.act s d2 = (s, .inr (d3 ((R.rg s).va (ixR n q))))) (a3 : ∀ s v, L.act s (d3 v) = (s, if (R.rg s).st (ixR n q) = laR n q then F v else E10))
    (ht : K.tgt e = (K.s e, .inr d1)) : SCall K.toLb 61 #[.pointer (some ⟨rb, 0, none⟩), sv, .int .i64 q] e (GetOutG K E6 E10 F) := by
  intro fr l hp hl hk
  have I := R.ring (K.inv e)
  have hh := holds_yes (main := K.main) (V := K.V e) (K.w e) I q hq
  have ha := at_w (main := K.main) (V := K.V e) (K.w e) I q hq
  have hix := ixR_lt I.pos.1 q
  have w1 := R.load_stp K (ixR n q) hix e d1 ht
  have w2 := fun (e1 : K.E) (h : K.tgt e1 = (K.s e1, .inr d2)) => R.load_vlu K (ixR n q) hix e1 d2 h
  have w3 := fun (e1 : K.E) (v : Int) (h : K.tgt e1 = (K.s e1, .inr (d3 v))) => R.load_stp K (ixR n q) hix e1 (d3 v) h
  generalize ixR n q = ix at *
  generalize laR n q = la at *
  unfold LW
  clear I
  rw [enter_at _ Try.func61 code61_is]
  simp only [Try.ntmps61, ez, Nat.reduceAdd, Nat.reduceSub]
  repeat (first | refine Walk.cx ?_ | (refine Walk.cReg ?_; simp only [z61]) | (refine Walk.oq ?_; try walk_nrm) | (refine Walk.un ?_; walk_nrm))
  refine Walk.callV (x := .bool true) (W := K.w e) ?_ (ho_of (by conv => lhs; whnf) (by kernel_rfl)) (by rfl) (by decide) rfl Try.func74 (by kernel_rfl) (by rfl) ?_
  · walk_nrm
    exact hh
  walk_nrm
  clear hh
  repeat (first | refine Walk.cx ?_ | (refine Walk.cReg ?_; simp only [z61]) | (refine Walk.oq ?_; try walk_nrm) | (refine Walk.un ?_; walk_nrm))
  refine Walk.callV (x := .tuple #[.pointer (some ⟨sb, ix * 2, none⟩), .int .i64 la]) (W := K.w e) ?_ (ho_of (by conv => lhs; whnf) (by kernel_rfl)) (by rfl) (by decide) rfl Try.func110 (by kernel_rfl) (by rfl) ?_
  · walk_nrm
    exact ha
  walk_nrm
  clear ha
  repeat (first | refine Walk.cx ?_ | (refine Walk.cReg ?_; simp only [z61]) | (refine Walk.oq ?_; try walk_nrm) | (refine Walk.un ?_; walk_nrm))
  refine LW.callS (K := K.toLb) (e := e) (l := fr :: l) (f := 100) (Q := fun v e' => Aft K.toLb e d1 e' ∧ v = .int .i64 ((R.rg (K.s e')).st ix)) ?_ (ho_of (by conv => lhs; whnf) (by kernel_rfl)) (by rfl) (by decide) rfl Try.func100 (by kernel_rfl) (by rfl) ⟨rfl, rfl, _, Try.func61⟩ (plain_cons hp hl) ?_
  · walk_nrm
    exact w1
  rintro v e1 ⟨ha, rfl⟩
  have t1 : K.tgt e1 = (K.s e1, if (R.rg (K.s e1)).st ix < la then E6 else if la < (R.rg (K.s e1)).st ix then E10 else .inr d2) := ha.tgt.trans (a1 _)
  generalize (R.rg (K.s e1)).st ix = x at *
  clear w1 ht a1
  by_cases h1 : x < la
  · rw [if_pos h1] at t1
    have hkk := hk (.tuple #[.int .i64 0, .int .i64 6]) e1 ⟨0, 6, rfl, .inl ⟨rfl, t1⟩⟩
    have h1' : decide (x < la) = true := by simp [h1]
    unfold LW at hkk ⊢
    walk_nrm
    repeat (first | refine Walk.cx ?_ | (refine Walk.cReg ?_; simp only [z61]) | (refine Walk.oq ?_; try walk_nrm) | (refine Walk.un ?_; walk_nrm))
    exact Walk.on2 rfl rfl Try.func61 rfl hkk
  rw [if_neg h1] at t1
  have h1' : decide (x < la) = false := by simp [h1]
  have h1i : la ≤ x := by omega
  by_cases h2 : la < x
  · rw [if_pos h2] at t1
    have hkk := hk (.tuple #[.int .i64 0, .int .i64 10]) e1 ⟨0, 10, rfl, .inr (.inl ⟨rfl, t1⟩)⟩
    have h2' : decide (la < x) = true := by simp [h2]
    unfold LW at hkk ⊢
    walk_nrm
    repeat (first | refine Walk.cx ?_ | (refine Walk.cReg ?_; simp only [z61]) | (refine Walk.oq ?_; try walk_nrm) | (refine Walk.un ?_; walk_nrm))
    exact Walk.on2 rfl rfl Try.func61 rfl hkk
  rw [if_neg h2] at t1
  have h2' : decide (la < x) = false := by simp [h2]
  have h2i : x ≤ la := by omega
  have w2 := w2 e1 t1
  unfold LW
  walk_nrm
  repeat (first | refine Walk.cx ?_ | (refine Walk.cReg ?_; simp only [z61]) | (refine Walk.oq ?_; try walk_nrm) | (refine Walk.un ?_; walk_nrm))
  refine LW.callS (K := K.toLb) (e := e1) (l := fr :: l) (f := 100) (Q := fun v e' => Aft K.toLb e1 d2 e' ∧ v = .int .i64 ((R.rg (K.s e')).va ix)) ?_ (ho_of (by conv => lhs; whnf) (by kernel_rfl)) (by rfl) (by decide) rfl Try.func100 (by kernel_rfl) (by rfl) ⟨rfl, rfl, _, Try.func61⟩ (plain_cons hp hl) ?_
  · walk_nrm
    exact w2
  rintro v e2 ⟨ha2, rfl⟩
  have t2 : K.tgt e2 = (K.s e2, .inr (d3 ((R.rg (K.s e2)).va ix))) := ha2.tgt.trans (a2 _)
  generalize (R.rg (K.s e2)).va ix = y at *
  have w3 := w3 e2 y t2
  clear w2 a2 h1' h2'
  unfold LW
  walk_nrm
  repeat (first | refine Walk.cx ?_ | (refine Walk.cReg ?_; simp only [z61]) | (refine Walk.oq ?_; try walk_nrm) | (refine Walk.un ?_; walk_nrm))
  refine LW.callS (K := K.toLb) (e := e2) (l := fr :: l) (f := 100) (Q := fun v e' => Aft K.toLb e2 (d3 y) e' ∧ v = .int .i64 ((R.rg (K.s e')).st ix)) ?_ (ho_of (by conv => lhs; whnf) (by kernel_rfl)) (by rfl) (by decide) rfl Try.func100 (by kernel_rfl) (by rfl) ⟨rfl, rfl, _, Try.func61⟩ (plain_cons hp hl) ?_
  · walk_nrm
    exact w3
  rintro v e3 ⟨ha3, rfl⟩
  have t3 : K.tgt e3 = (K.s e3, if (R.rg (K.s e3)).st ix = la then F y else E10) := ha3.tgt.trans (a3 _ _)
  generalize (R.rg (K.s e3)).st ix = z at *
  clear w3 a3
  by_cases h3 : z = la
  · rw [if_pos h3] at t3
    have hkk := hk (.tuple #[.int .i64 y, .int .i64 0]) e3 ⟨y, 0, rfl, .inr (.inr ⟨rfl, t3⟩)⟩
    have h3' : (z != la) = false := by simp [h3]
    have h3'' : (z == la) = true := by simp [h3]
    unfold LW at hkk ⊢
    walk_nrm
    repeat (first | refine Walk.cx ?_ | (refine Walk.cReg ?_; simp only [z61]) | (refine Walk.oq ?_; try walk_nrm) | (refine Walk.un ?_; walk_nrm))
    exact Walk.on2 rfl rfl Try.func61 rfl hkk
  · rw [if_neg h3] at t3
    have hkk := hk (.tuple #[.int .i64 0, .int .i64 10]) e3 ⟨0, 10, rfl, .inr (.inl ⟨rfl, t3⟩)⟩
    have h3' : (z != la) = true := by simp [h3]
    have h3'' : (z == la) = false := by simp [h3]
    unfold LW at hkk ⊢
    walk_nrm
    repeat (first | refine Walk.cx ?_ | (refine Walk.cReg ?_; simp only [z61]) | (refine Walk.oq ?_; try walk_nrm) | (refine Walk.un ?_; walk_nrm))
    exact Walk.on2 rfl rfl Try.func61 rfl hkk
end
end
section
structure GaP (L : La) (n : Nat) (rg : L.Sg → Rg) where
  A1 : Int → Int → List Int → L.D
  A2 : Int → Int → List Int → L.D
  A3 : Int → Int → List Int → Int → L.D
  G : List Int → Ans ⊕ L.D
  E : Int → Ans ⊕ L.D
  a1 : ∀ q m ls s, L.act s (A1 q m ls) = (s, if (rg s).st (ixR n q) < laR n q then (if ls = [] then E 6 else G ls) else if laR n q < (rg s).st (ixR n q) then (if ls = [] then E 10 else G ls) else .inr (A2 q m ls))
  a2 : ∀ q m ls s, L.act s (A2 q m ls) = (s, .inr (A3 q m ls ((rg s).va (ixR n q))))
  a3 : ∀ q m ls s v, L.act s (A3 q m ls v) = (s, if (rg s).st (ixR n q) = laR n q then (if (ls.length : Int) + 1 < m ∧ good (q + 1) then .inr (A1 (q + 1) m (ls ++ [v])) else G (ls ++ [v])) else (if ls = [] then E 10 else G ls))
section
variable {L : La} {rb sb n : Nat} {sv : Value} {rg : L.Sg → Rg}
def GaP.endG (P : GaP L n rg) (ls : List Int) (er : Int) : Ans ⊕ L.D := if ls = [] then P.E er else P.G ls
def GaP.gaD (P : GaP L n rg) (a m : Int) (ls : List Int) : Ans ⊕ L.D := if (ls.length : Int) < m ∧ good (a + ls.length) then .inr (P.A1 (a + ls.length) m ls) else P.G ls
theorem GaP.snoc (P : GaP L n rg) (a m v : Int) (ls : List Int) : P.gaD a m (ls ++ [v]) = if (ls.length : Int) + 1 < m ∧ good (a + ls.length + 1) then .inr (P.A1 (a + ls.length + 1) m (ls ++ [v])) else P.G (ls ++ [v]) := by
  have e : ((ls ++ [v]).length : Int) = (ls.length : Int) + 1 := by simp
  unfold GaP.gaD
  rw [e, ← Int.add_assoc]
def GaP.gbD (P : GaP L n rg) (n' : Nat) (a b : Int) : Ans ⊕ L.D := if good a then (if min b n' ≤ 0 then P.G [] else .inr (P.A1 a (min b n') [])) else P.E 1
theorem GaP.gbD_is (P : GaP L n rg) {n' : Nat} {a b : Int} (ha : good a) : P.gbD n' a b = P.gaD a (min b n') [] := by
  have h0 : a + (([] : List Int).length : Int) = a := by simp
  unfold GaP.gbD GaP.gaD
  rw [if_pos ha, h0]
  by_cases h : min b (n' : Int) ≤ 0
  · rw [if_pos h, if_neg (by simp only [List.length_nil]; omega)]
  · rw [if_neg h, if_pos ⟨by simp only [List.length_nil]; omega, ha⟩]
def GaB (mo : Int) (j : Nat) : Prop := j ≤ 65536 ∧ (j : Int) ≤ max mo 0
def GaOutG (P : GaP L n rg) (K : Lg L sv) (mo : Int) (v : Value) (e' : K.E) : Prop := ∃ sl er ls, v = .tuple #[sl, .int .i64 er] ∧ GatL K e' sl ls ∧ GaB mo ls.length ∧ (er = 0 → K.tgt e' = (K.s e', P.G ls)) ∧ (er ≠ 0 → ls = [] ∧ K.tgt e' = (K.s e', P.E er))
theorem gaG_out (R : RingIn L rb sb n) (P : GaP L n R.rg) (K : Lg L sv) (a mo m : Int) (hmo : min mo n = m) (fr : Frame) (l : List Frame) (hk : ∀ x e', GaOutG P K mo x e' → LW K.toLb e' (G (fr.finish x) (l ++ K.bot e'))) (sl : Value) (ls : List Int) (e : K.E) (u : Nat → Value) (hm : m ≤ ls.length) (h6 : GaB mo ls.length) (hL : GatL K e sl ls) (ht : K.tgt e = (K.s e, P.G ls)) : LW K.toLb e (G (hdGa rb sv sl a mo u) (fr :: (l ++ K.bot e))) := by
  have hmn := @events_min_ints Try.prog
  have hkk := hk (.tuple #[sl, .int .i64 0]) e ⟨sl, 0, ls, rfl, hL, h6, fun _ => ht, fun h => absurd rfl h⟩
  have hsz := size_w (main := K.main) (V := K.V e) (K.w e) (R.ring (K.inv e))
  obtain ⟨⟨sa, sc, rfl⟩, _, _⟩ := hL
  have h1 : decide ((ls.length : Int) < m) = false := by simp; omega
  generalize ls.length = j at *
  unfold LW at hkk ⊢
  unfold hdGa
  repeat (first | refine Walk.cx ?_ | (refine Walk.cReg ?_; simp only [z73]) | (refine Walk.oq ?_; try walk_nrm) | (refine Walk.un ?_; walk_nrm))
  refine Walk.callV (x := .int .i64 (n : Nat)) (W := K.w e) ?_ (ho_of (by conv => lhs; whnf) (by kernel_rfl)) (by rfl) (by decide) rfl Try.func19 (by kernel_rfl) (by rfl) ?_
  · walk_nrm
    exact hsz
  walk_nrm
  repeat (first | refine Walk.cx ?_ | (refine Walk.cReg ?_; simp only [z73]) | (refine Walk.oq ?_; try walk_nrm) | (refine Walk.un ?_; walk_nrm))
  exact Walk.on2 rfl rfl Try.func73 rfl hkk
end
end
end Go.Proofs.Ytcdcnmphjhfbpaa
