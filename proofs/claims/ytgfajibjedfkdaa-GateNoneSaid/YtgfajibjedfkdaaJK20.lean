/- Part 20. -/
import Derived.Test.YtgfajibjedfkdaaJK15
import Derived.Test.YtgfajibjedfkdaaJK19
set_option linter.unusedSimpArgs false
set_option linter.unusedVariables false
set_option linter.unusedVariables false
set_option maxHeartbeats 8000000
set_option maxRecDepth 100000
namespace Go.Proofs.Ytgfajibjedfkdaa
open Go.Conc Go.RowKit Go.Relay
open Go.ConcN (upd upd_ne upd_same)
section
noncomputable def reg61_0 := rg Try.f61.body [0]
noncomputable def reg61_1 := rg Try.f61.body [1, 0, 0]
noncomputable def reg61_2 := rg Try.f61.body [1, 0, 1, 0, 0]
noncomputable def reg61_3 := rg Try.f61.body [1, 1, 0]
noncomputable def reg61_4 := rg Try.f61.body [1, 1, 1, 0, 0]
noncomputable def reg61_5 := rg Try.f61.body [1, 1, 1, 0, 1, 0, 0, 0]
noncomputable def reg61_6 := rg Try.f61.body [1, 1, 1, 0, 1, 0, 0, 1, 1, 0, 0, 0]
noncomputable def reg61_7 := rg Try.f61.body [1, 1, 1, 0, 1, 0, 0, 1, 1, 0, 0, 1, 0]
noncomputable def reg61_8 := rg Try.f61.body [1, 1, 1, 0, 1, 0, 0, 1, 1, 0, 0, 1, 1, 0]
noncomputable def reg61_9 := rg Try.f61.body [1, 1, 1, 0, 1, 0, 0, 1, 1, 0, 0, 1, 1, 1, 0]
noncomputable def reg61_10 := rg Try.f61.body [1, 1, 1, 0, 1, 0, 0, 1, 1, 1]
noncomputable def reg61_11 := rg Try.f61.body [1, 1, 1, 1, 0]
theorem z61 : List.range reg61_0.size = [0, 1] ∧ List.range reg61_1.size = [0, 1] ∧ List.range reg61_2.size = [0, 1, 2] ∧ List.range reg61_3.size = [0, 1, 2] ∧ List.range reg61_4.size = [0, 1, 2, 3, 4, 5, 6, 7] ∧ List.range reg61_5.size = [0] ∧ List.range reg61_6.size = [0, 1, 2] ∧ List.range reg61_7.size = [0, 1, 2, 3, 4, 5, 6, 7] ∧ List.range reg61_8.size = [0, 1, 2, 3, 4, 5, 6] ∧ List.range reg61_9.size = [0, 1, 2, 3] ∧ List.range reg61_10.size = [0, 1] ∧ List.range reg61_11.size = [0, 1, 2, 3] := by refine ⟨?_, ?_, ?_, ?_, ?_, ?_, ?_, ?_, ?_, ?_, ?_, ?_⟩ <;> kernel_rfl
theorem code61_is : Try.f61.body = some (.seq (.region 0 reg61_0 false) (.seq (.seq (.region 1 reg61_1 false) (.cond (.tmp 14 ) (.seq (.region 2 reg61_2 false) (.ret)) (.skip))) (.seq (.region 3 reg61_3 false) (.seq (.seq (.region 4 reg61_4 false) (.block 0 (.loop (.seq (.region 5 reg61_5 false) (.seq (.cond (.tmp 25 ) (.skip) (.exit 0)) (.seq (.block 1 (.seq (.region 6 reg61_6 false) (.seq (.region 7 reg61_7 false) (.seq (.region 8 reg61_8 false) (.cond (.tmp 41 ) (.region 9 reg61_9 false) (.skip)))))) (.region 10 reg61_10 false))))))) (.seq (.region 11 reg61_11 false) (.ret)))))) := by kernel_rfl
noncomputable def hdLe (gb : Nat) (sv sl : Value) (n i : Nat) (ls pl : Int) (u : Nat → Value) : Frame :=
  (base 61).at { tmps := #[.pointer (some ⟨gb, 0, none⟩), sv, u 2, u 3, u 4, u 5, u 6, u 7, .int .i64 ls, .int .i64 pl, u 10, u 11, u 12, u 13, u 14, u 15, u 16, u 17, u 18, u 19, u 20, u 21, sl, .int .i64 n, .int .i64 i, u 25, u 26, u 27, u 28, u 29, u 30, u 31, u 32, u 33, u 34, u 35, u 36, u 37, u 38, u 39, u 40, u 41, u 42, u 43, u 44, u 45, u 46], defers := [] } [.code (.seq (.region 5 reg61_5 false) (.seq (.cond (.tmp 25 ) (.skip) (.exit 0)) (.seq (.block 1 (.seq (.region 6 reg61_6 false) (.seq (.region 7 reg61_7 false) (.seq (.region 8 reg61_8 false) (.cond (.tmp 41 ) (.region 9 reg61_9 false) (.skip)))))) (.region 10 reg61_10 false)))), .inLoop (.seq (.region 5 reg61_5 false) (.seq (.cond (.tmp 25 ) (.skip) (.exit 0)) (.seq (.block 1 (.seq (.region 6 reg61_6 false) (.seq (.region 7 reg61_7 false) (.seq (.region 8 reg61_8 false) (.cond (.tmp 41 ) (.region 9 reg61_9 false) (.skip)))))) (.region 10 reg61_10 false)))), .inBlock 0, .code (.seq (.region 11 reg61_11 false) (.ret))]
theorem HlI.slice {h : Hl} {w : World} (H : HlI h w) : ∃ a c, h.sl = .slice a h.l.length c ∧ NumA a h.l w := by
  rcases H.row.2 with ⟨e, e0⟩ | ⟨g, cap, cur, e, _⟩
  · have hn : h.l = [] := List.eq_nil_of_length_eq_zero e0
    exact ⟨Option.none, 0, by rw [e, hn]; rfl, fun j z hj => by rw [hn] at hj; simp at hj⟩
  · have hr := H.row
    rw [e] at hr
    exact ⟨_, _, e, LsI.numA (P := fun _ => True) hr⟩
def eNx (s : Gt) (l : List Int) (i : Nat) (ls pl : Int) : Int × Int := if pl = -1 ∨ s.n (l.getD i 0).toNat < ls then (s.n (l.getD i 0).toNat, l.getD i 0) else (ls, pl)
section
variable {L : La} {gb : Nat} {sv : Value}
def eAt (d2 : List Int → Nat → Int → Int → L.D) (F : Int → Int → Ans ⊕ L.D) (l : List Int) (i : Nat) (ls pl : Int) : Ans ⊕ L.D := if i < l.length then .inr (d2 l i ls pl) else F ls pl
def LeastOut (K : Lg L sv) (F : Int → Int → Ans ⊕ L.D) (x : Value) (e' : K.E) : Prop := ∃ ls pl, x = .tuple #[.int .i64 ls, .int .i64 pl] ∧ K.tgt e' = (K.s e', F ls pl)
theorem le_out (K : Lg L sv) (d2 : List Int → Nat → Int → Int → L.D) (F : Int → Int → Ans ⊕ L.D) (sl : Value) (lm : List Int) (ls pl : Int) (fr : Frame) (l : List Frame) (hk : ∀ x e', LeastOut K F x e' → LW K.toLb e' (G (fr.finish x) (l ++ K.bot e'))) (e : K.E) (u : Nat → Value) (ht : K.tgt e = (K.s e, eAt d2 F lm lm.length ls pl)) :
    LW K.toLb e (G (hdLe gb sv sl lm.length lm.length ls pl u) (fr :: (l ++ K.bot e))) := by
  have hkk := hk (.tuple #[.int .i64 ls, .int .i64 pl]) e ⟨_, _, rfl, by rw [ht]; unfold eAt; rw [if_neg (by omega)]⟩
  generalize lm.length = n at *
  have h1 : decide ((n : Int) < n) = false := by simp
  have h2 : decide (n < n) = false := by simp
  clear hk ht
  unfold LW hdLe
  unfold LW at hkk
  repeat (first | refine Walk.cx ?_ | (refine Walk.cReg ?_; simp only [z61]) | (refine Walk.oq ?_; try walk_nrm) | (refine Walk.un ?_; walk_nrm))
  exact Walk.on2 rfl rfl Try.func61 rfl hkk
theorem le_go (R : GateIn L gb) (K : Lg L sv) (d2 : List Int → Nat → Int → Int → L.D) (F : Int → Int → Ans ⊕ L.D) (h2 : ∀ s l i ls pl, i < l.length → L.act s (d2 l i ls pl) = (s, eAt d2 F l (i + 1) (eNx (R.gt s) l i ls pl).1 (eNx (R.gt s) l i ls pl).2)) (k0 : Nat) (h0 : Hl) (a : Option Addr) (c : Nat) (hsl : h0.sl = .slice a h0.l.length c) (i : Nat) (hi : i < h0.l.length) (ls pl : Int) (fr : Frame) (l : List Frame) (hp : Plain fr) (hl : ∀ f ∈ l, Plain f) (e : K.E) (u : Nat → Value) (hk0 : (R.gh (K.gh e))[k0]? = some h0) (ht : K.tgt e = (K.s e, eAt d2 F h0.l i ls pl))
    (ih : ∀ (e' : K.E) (u' : Nat → Value) (ls' pl' : Int), (R.gh (K.gh e'))[k0]? = some h0 → K.tgt e' = (K.s e', eAt d2 F h0.l (i + 1) ls' pl') → LW K.toLb e' (G (hdLe gb sv (.slice a h0.l.length c) h0.l.length (i + 1) ls' pl' u') (fr :: (l ++ K.bot e')))) :
    LW K.toLb e (G (hdLe gb sv (.slice a h0.l.length c) h0.l.length i ls pl u) (fr :: (l ++ K.bot e))) := by
  have H := (R.I (K.inv e)).held h0 (List.mem_of_getElem? hk0)
  have hx := List.getElem?_eq_getElem hi
  obtain ⟨hz0, hz1⟩ := H.ok.2 _ (List.getElem_mem hi)
  have hgd : h0.l.getD i 0 = h0.l[i] := by simp [List.getD_eq_getElem?_getD, hx]
  obtain ⟨a', c', e1, hnum⟩ := H.slice
  rw [hsl] at e1
  injection e1 with ea _ ec
  subst ea
  obtain ⟨ab, ao, rfl, hc⟩ := hnum i _ hx
  have hten := H.ok.len
  obtain ⟨j, hj⟩ : ∃ j : Nat, h0.l[i] = (j : Int) := ⟨h0.l[i].toNat, by omega⟩
  have hj64 : j < 64 := by omega
  have hjt : (h0.l.getD i 0).toNat = j := by rw [hgd, hj]; rfl
  rw [hj] at hc hgd
  have ht0 : K.tgt e = (K.s e, .inr (d2 h0.l i ls pl)) := by rw [ht]; unfold eAt; rw [if_pos hi]
  have w1 := R.load_n K j hj64 e _ ht0
  have hnx : ∀ (e1 : K.E), Aft K.toLb e (d2 h0.l i ls pl) e1 → K.tgt e1 = (K.s e1, eAt d2 F h0.l (i + 1) (if pl = -1 ∨ (R.gt (K.s e1)).n j < ls then (R.gt (K.s e1)).n j else ls) (if pl = -1 ∨ (R.gt (K.s e1)).n j < ls then (j : Int) else pl)) := fun e1 ha => by
    rw [ha.tgt, h2 _ _ _ _ _ hi]
    unfold eNx
    rw [hjt, hgd]
    by_cases h : pl = -1 ∨ (R.gt (K.s e1)).n j < ls
    · rw [if_pos h, if_pos h, if_pos h]
    · rw [if_neg h, if_neg h, if_neg h]
  have hkeep : ∀ (e1 : K.E), Aft K.toLb e (d2 h0.l i ls pl) e1 → (R.gh (K.gh e1))[k0]? = some h0 := fun e1 ha => R.keep ha.le hk0
  clear hx hgd hjt hj hz0 hz1 hnum H h2 ht ht0 hsl ec
  generalize h0.l.length = n at *
  generalize d2 h0.l i ls pl = dd at *
  have hx1 := fun w => (ix_num gb j hj64 w #[]).1
  have hx2 := fun w es => (ix_num gb j hj64 w es).2
  have hi1 : decide ((i : Int) < n) = true := by simp; omega
  have hi3 : decide (i < n) = true := by simp; omega
  have hi4 : (i : Int) < n := by omega
  have hi0 : (0 : Int) ≤ i := by omega
  have hw1 : IntKind.wrap .i64 ((i : Int) + 1) = (i : Int) + 1 := by rw [IntKind.wrap_i64]; omega
  have hcc : ((i + 1 : Nat) : Int) = (i : Int) + 1 := by simp
  unfold LW hdLe
  repeat (first | refine Walk.cx ?_ | (refine Walk.cReg ?_; simp only [z61]) | (refine Walk.oq ?_; try walk_nrm) | (refine Walk.un ?_; walk_nrm))
  refine LW.callS (K := K.toLb) (e := e) (l := fr :: l) (f := 95) (Q := fun v e' => Aft K.toLb e dd e' ∧ v = .int .i64 ((R.gt (K.s e')).n j)) ?_ (ho_of (by conv => lhs; whnf) (by kernel_rfl)) (by rfl) (by decide) rfl Try.func95 (by kernel_rfl) (by rfl) ⟨rfl, rfl, _, Try.func61⟩ (plain_cons hp hl) ?_
  · walk_nrm
    exact w1
  rintro x e1 ⟨ha, rfl⟩
  have hn1 := hnx e1 ha
  have hk1 := hkeep e1 ha
  clear hnx hkeep w1 ha
  generalize (R.gt (K.s e1)).n j = nm at *
  by_cases hpl : pl = -1
  · have hb : (pl == -1) = true := by rw [hpl]; rfl
    have hih := fun u' => ih e1 u' nm j hk1 (by rw [hn1, if_pos (.inl hpl), if_pos (.inl hpl)])
    clear ih hn1 hk1 hpl
    unfold LW at hih ⊢
    walk_nrm
    repeat (first | refine Walk.cx ?_ | (refine Walk.cReg ?_; simp only [z61]) | (refine Walk.oq ?_; try walk_nrm) | (refine Walk.un ?_; walk_nrm))
    refine Walk.ctl rfl (fun w => stepG_inLoop) ?_
    refine slots_walk (F := fun u => G (hdLe gb sv (.slice (some ⟨ab, ao, none⟩) n c) n (i + 1) nm j u) (fr :: (l ++ K.bot e1))) hih ?_
    simp only [hdLe, hcc]
    rfl
  · have hb : (pl == -1) = false := by simpa using hpl
    by_cases hlt : nm < ls
    · have hb2 : decide (nm < ls) = true := decide_eq_true hlt
      have hih := fun u' => ih e1 u' nm j hk1 (by rw [hn1, if_pos (.inr hlt), if_pos (.inr hlt)])
      clear ih hn1 hk1 hpl
      unfold LW at hih ⊢
      walk_nrm
      repeat (first | refine Walk.cx ?_ | (refine Walk.cReg ?_; simp only [z61]) | (refine Walk.oq ?_; try walk_nrm) | (refine Walk.un ?_; walk_nrm))
      refine Walk.ctl rfl (fun w => stepG_inLoop) ?_
      refine slots_walk (F := fun u => G (hdLe gb sv (.slice (some ⟨ab, ao, none⟩) n c) n (i + 1) nm j u) (fr :: (l ++ K.bot e1))) hih ?_
      simp only [hdLe, hcc]
      rfl
    · have hb2 : decide (nm < ls) = false := decide_eq_false hlt
      have hno : ¬ (pl = -1 ∨ nm < ls) := fun h => h.elim hpl hlt
      have hih := fun u' => ih e1 u' ls pl hk1 (by rw [hn1, if_neg hno, if_neg hno])
      clear ih hn1 hk1 hpl hno
      unfold LW at hih ⊢
      walk_nrm
      repeat (first | refine Walk.cx ?_ | (refine Walk.cReg ?_; simp only [z61]) | (refine Walk.oq ?_; try walk_nrm) | (refine Walk.un ?_; walk_nrm))
      refine Walk.ctl rfl (fun w => stepG_inLoop) ?_
      refine slots_walk (F := fun u => G (hdLe gb sv (.slice (some ⟨ab, ao, none⟩) n c) n (i + 1) ls pl u) (fr :: (l ++ K.bot e1))) hih ?_
      simp only [hdLe, hcc]
      rfl
theorem le_loop (R : GateIn L gb) (K : Lg L sv) (d2 : List Int → Nat → Int → Int → L.D) (F : Int → Int → Ans ⊕ L.D) (h2 : ∀ s l i ls pl, i < l.length → L.act s (d2 l i ls pl) = (s, eAt d2 F l (i + 1) (eNx (R.gt s) l i ls pl).1 (eNx (R.gt s) l i ls pl).2)) (k0 : Nat) (h0 : Hl) (a : Option Addr) (c : Nat) (hsl : h0.sl = .slice a h0.l.length c) (fr : Frame) (l : List Frame) (hp : Plain fr) (hl : ∀ f ∈ l, Plain f) (hk : ∀ x e', LeastOut K F x e' → LW K.toLb e' (G (fr.finish x) (l ++ K.bot e'))) :
    ∀ (r i : Nat) (ls pl : Int) (e : K.E) (u : Nat → Value), i + r = h0.l.length → (R.gh (K.gh e))[k0]? = some h0 → K.tgt e = (K.s e, eAt d2 F h0.l i ls pl) → LW K.toLb e (G (hdLe gb sv (.slice a h0.l.length c) h0.l.length i ls pl u) (fr :: (l ++ K.bot e))) := by
  intro r
  induction r with
  | zero =>
    intro i ls pl e u hi hk0 ht
    have hi : i = h0.l.length := hi
    subst hi
    exact le_out K d2 F _ h0.l ls pl fr l hk e u ht
  | succ r ih =>
    intro i ls pl e u hi hk0 ht
    exact le_go R K d2 F h2 k0 h0 a c hsl i (by omega) ls pl fr l hp hl e u hk0 ht fun e' u' ls' pl' hk' ht' => ih (i + 1) ls' pl' e' u' (by omega) hk' ht'
theorem least_s (R : GateIn L gb) (K : Lg L sv) (e : K.E) (no : Int) (d1 : L.D) (d2 : List Int → Nat → Int → Int → L.D) (F : Int → Int → Ans ⊕ L.D) (h1 : ∀ s, L.act s d1 = (s, eAt d2 F (R.gt s).l 0 no (-1))) (h2 : ∀ s l i ls pl, i < l.length → L.act s (d2 l i ls pl) = (s, eAt d2 F l (i + 1) (eNx (R.gt s) l i ls pl).1 (eNx (R.gt s) l i ls pl).2)) (ht : K.tgt e = (K.s e, .inr d1)) :
    SCall K.toLb 61 #[.pointer (some ⟨gb, 0, none⟩), sv, .int .i64 no] e (LeastOut K F) := by
  intro fr l hp hl hk
  have hp1 := fun w => run_eql_ptr (P := Try.prog) 74 undGate (some ⟨gb, 0, none⟩) w
  have hp2 := fun w es => ev_eql_ptr (P := Try.prog) 74 undGate (some ⟨gb, 0, none⟩) w es
  simp only [Option.isNone_some] at hp1
  have w1 := box_load R K e d1 ht
  have hlp := fun k0 h0 a c hsl e u => le_loop R K d2 F h2 k0 h0 a c hsl fr l hp hl hk h0.l.length 0 no (-1) e u (Nat.zero_add _)
  clear hk h2
  unfold LW
  rw [enter_at _ Try.func61 code61_is]
  simp only [Try.ntmps61, ez, Nat.reduceAdd, Nat.reduceSub]
  repeat (first | refine Walk.cx ?_ | (refine Walk.cReg ?_; simp only [z61]) | (refine Walk.oq ?_; try walk_nrm) | (refine Walk.un ?_; walk_nrm))
  refine LW.callS (K := K.toLb) (e := e) (l := fr :: l) (f := 90) (Q := fun v e' => Aft K.toLb e d1 e' ∧ ∃ h, (R.gh (K.gh e'))[(R.gt (K.s e')).k]? = some h ∧ h.l = (R.gt (K.s e')).l ∧ v = heldV (.pointer (some ⟨gb, 0, none⟩)) h.p) ?_ (ho_of (by conv => lhs; whnf) (by kernel_rfl)) (by rfl) (by decide) rfl Try.func90 (by kernel_rfl) (by rfl) ⟨rfl, rfl, _, Try.func61⟩ (plain_cons hp hl) ?_
  · walk_nrm
    exact w1
  rintro x e1 ⟨ha, h0, hy, hlh, rfl⟩
  have H := (R.I (K.inv e1)).held h0 (List.mem_of_getElem? hy)
  obtain ⟨a, c, hsl, _⟩ := H.slice
  have hv := held_w (main := K.main) (V := K.V e1) h0 (some ⟨gb, 0, none⟩) (K.w e1) H
  have ht1 : K.tgt e1 = (K.s e1, eAt d2 F h0.l 0 no (-1)) := by rw [ha.tgt, h1, hlh]
  clear w1 h1 ha ht H hlh
  unfold LW
  walk_nrm
  repeat (first | refine Walk.cx ?_ | (refine Walk.cReg ?_; simp only [z61]) | (refine Walk.oq ?_; try walk_nrm) | (refine Walk.un ?_; walk_nrm))
  refine Walk.callW (Post := fun v w' => v = h0.sl ∧ (∀ b, b < (K.w e1).heap.size → w'.heap[b]? = (K.w e1).heap[b]?) ∧ (K.w e1).heap.size ≤ w'.heap.size) ?_ (ho_of (by conv => lhs; whnf) (by kernel_rfl)) (by rfl) (by decide) rfl Try.func92 (by kernel_rfl) (by rfl) ?_
  · walk_nrm
    exact hv
  rintro v w2 ⟨rfl, hO, hS⟩
  obtain ⟨e2, m2⟩ := K.grow e1 hS hO
  have hlp2 := fun u => hlp (R.gt (K.s e1)).k h0 a c hsl e2 u (by rw [m2.gh]; exact hy) (by rw [m2.tgt, m2.s]; exact ht1)
  clear hlp hv hO hS hy ht1
  refine LW.to (l := fr :: l) m2 ?_
  rw [hsl]
  clear hsl
  generalize h0.l.length = n at *
  unfold LW at hlp2 ⊢
  walk_nrm
  repeat (first | refine Walk.cx ?_ | (refine Walk.cReg ?_; simp only [z61]) | (refine Walk.oq ?_; try walk_nrm) | (refine Walk.un ?_; walk_nrm))
  refine Walk.ctl rfl (fun w => stepG_loop) ?_
  refine slots_walk (F := fun u => G (hdLe gb sv (.slice a n c) n 0 no (-1) u) (fr :: (l ++ K.bot e2))) hlp2 ?_
  simp only [hdLe]
  rfl
end
end
section
noncomputable def reg62_0 := rg Try.f62.body [0]
noncomputable def reg62_1 := rg Try.f62.body [1, 0]
noncomputable def reg62_2 := rg Try.f62.body [1, 1, 0, 0]
noncomputable def reg62_3 := rg Try.f62.body [1, 1, 0, 1, 0, 0]
noncomputable def reg62_4 := rg Try.f62.body [1, 1, 1, 0]
theorem z62 : List.range reg62_0.size = [0, 1] ∧ List.range reg62_1.size = [0, 1, 2, 3, 4, 5, 6, 7] ∧ List.range reg62_2.size = [0, 1, 2, 3, 4, 5, 6, 7, 8] ∧ List.range reg62_3.size = [0, 1] ∧ List.range reg62_4.size = [0, 1, 2] := by refine ⟨?_, ?_, ?_, ?_, ?_⟩ <;> kernel_rfl
theorem code62_is : Try.f62.body = some (.seq (.region 0 reg62_0 false) (.seq (.region 1 reg62_1 false) (.seq (.seq (.region 2 reg62_2 false) (.cond (.tmp 26 ) (.seq (.region 3 reg62_3 false) (.ret)) (.skip))) (.seq (.region 4 reg62_4 false) (.ret))))) := by kernel_rfl
noncomputable def reg72_0 := rg Try.f72.body [0]
noncomputable def reg72_1 := rg Try.f72.body [1, 0, 0]
noncomputable def reg72_2 := rg Try.f72.body [1, 0, 1, 0, 0]
noncomputable def reg72_3 := rg Try.f72.body [1, 1, 0]
theorem z72 : List.range reg72_0.size = [0] ∧ List.range reg72_1.size = [0, 1] ∧ List.range reg72_2.size = [0] ∧ List.range reg72_3.size = [0, 1, 2, 3, 4, 5, 6, 7] := by refine ⟨?_, ?_, ?_, ?_⟩ <;> kernel_rfl
theorem code72_is : Try.f72.body = some (.seq (.region 0 reg72_0 false) (.seq (.seq (.region 1 reg72_1 false) (.cond (.tmp 6 ) (.seq (.region 2 reg72_2 false) (.ret)) (.skip))) (.seq (.region 3 reg72_3 false) (.ret)))) := by kernel_rfl
def mayR (q size ls pl : Int) : Bool × Int := if pl = -1 ∨ gFin ls q (max size 1) then (true, -1) else (false, pl)
section
variable {L : La} {gb : Nat} {sv : Value}
def MayOut (K : Lg L sv) (F : Bool → Int → Ans ⊕ L.D) (x : Value) (e' : K.E) : Prop := ∃ b pl, x = .tuple #[.bool b, .int .i64 pl] ∧ K.tgt e' = (K.s e', F b pl)
theorem may_s (R : GateIn L gb) (K : Lg L sv) (e : K.E) (q size : Int) (d1 : L.D) (d2 : List Int → Nat → Int → Int → L.D) (F : Bool → Int → Ans ⊕ L.D) (h1 : ∀ s, L.act s d1 = (s, eAt d2 (fun ls pl => F (mayR q size ls pl).1 (mayR q size ls pl).2) (R.gt s).l 0 0 (-1))) (h2 : ∀ s l i ls pl, i < l.length → L.act s (d2 l i ls pl) = (s, eAt d2 (fun ls pl => F (mayR q size ls pl).1 (mayR q size ls pl).2) l (i + 1) (eNx (R.gt s) l i ls pl).1 (eNx (R.gt s) l i ls pl).2)) (ht : K.tgt e = (K.s e, .inr d1)) :
    SCall K.toLb 62 #[.pointer (some ⟨gb, 0, none⟩), sv, .int .i64 q, .int .i64 size] e (MayOut K F) := by
  intro fr l hp hl hk
  have hle := least_s R K e 0 d1 d2 (fun ls pl => F (mayR q size ls pl).1 (mayR q size ls pl).2) h1 h2 ht
  clear h1 h2 ht
  unfold LW
  rw [enter_at _ Try.func62 code62_is]
  simp only [Try.ntmps62, ez, Nat.reduceAdd, Nat.reduceSub]
  repeat (first | refine Walk.cx ?_ | (refine Walk.cReg ?_; simp only [z62]) | (refine Walk.oq ?_; try walk_nrm) | (refine Walk.un ?_; walk_nrm))
  refine LW.callS (K := K.toLb) (e := e) (l := fr :: l) (f := 61) (Q := LeastOut K (fun ls pl => F (mayR q size ls pl).1 (mayR q size ls pl).2)) ?_ (ho_of (by conv => lhs; whnf) (by kernel_rfl)) (by rfl) (by decide) rfl Try.func61 (by kernel_rfl) (by rfl) ⟨rfl, rfl, _, Try.func62⟩ (plain_cons hp hl) ?_
  · walk_nrm
    exact hle
  rintro x e1 ⟨ls, pl, rfl, ht1⟩
  replace ht1 : K.tgt e1 = (K.s e1, F (mayR q size ls pl).1 (mayR q size ls pl).2) := ht1
  have hmn := @events_max_ints Try.prog
  clear hle
  by_cases hpl : pl = -1
  · have hb : (pl == -1) = true := by rw [hpl]; rfl
    have hkk := hk (.tuple #[.bool true, .int .i64 (-1)]) e1 ⟨_, _, rfl, by rw [ht1]; unfold mayR; rw [if_pos (.inl hpl)]⟩
    clear hk ht1 hpl
    unfold LW at hkk ⊢
    walk_nrm
    repeat (first | refine Walk.cx ?_ | (refine Walk.cReg ?_; simp only [z62]) | (refine Walk.oq ?_; try walk_nrm) | (refine Walk.un ?_; walk_nrm))
    exact Walk.on2 rfl rfl Try.func62 rfl hkk
  · have hb : (pl == -1) = false := by simpa using hpl
    have hfw := fin_w (main := K.main) (V := K.V e1) ls q (max size 1) (K.w e1)
    by_cases hf : gFin ls q (max size 1)
    · rw [decide_eq_true hf] at hfw
      have hkk := hk (.tuple #[.bool true, .int .i64 (-1)]) e1 ⟨_, _, rfl, by rw [ht1]; unfold mayR; rw [if_pos (.inr hf)]⟩
      clear hk ht1 hpl hf
      unfold LW at hkk ⊢
      walk_nrm
      repeat (first | refine Walk.cx ?_ | (refine Walk.cReg ?_; simp only [z62]) | (refine Walk.oq ?_; try walk_nrm) | (refine Walk.un ?_; walk_nrm))
      refine Walk.callV (x := .bool true) (W := K.w e1) ?_ (ho_of (by conv => lhs; whnf) (by kernel_rfl)) (by rfl) (by decide) rfl Try.func96 (by kernel_rfl) (by rfl) ?_
      · walk_nrm
        exact hfw
      clear hfw
      walk_nrm
      repeat (first | refine Walk.cx ?_ | (refine Walk.cReg ?_; simp only [z62]) | (refine Walk.oq ?_; try walk_nrm) | (refine Walk.un ?_; walk_nrm))
      exact Walk.on2 rfl rfl Try.func62 rfl hkk
    · rw [decide_eq_false hf] at hfw
      have hkk := hk (.tuple #[.bool false, .int .i64 pl]) e1 ⟨_, _, rfl, by rw [ht1]; unfold mayR; rw [if_neg (fun h => h.elim hpl hf)]⟩
      clear hk ht1 hpl hf
      unfold LW at hkk ⊢
      walk_nrm
      repeat (first | refine Walk.cx ?_ | (refine Walk.cReg ?_; simp only [z62]) | (refine Walk.oq ?_; try walk_nrm) | (refine Walk.un ?_; walk_nrm))
      refine Walk.callV (x := .bool false) (W := K.w e1) ?_ (ho_of (by conv => lhs; whnf) (by kernel_rfl)) (by rfl) (by decide) rfl Try.func96 (by kernel_rfl) (by rfl) ?_
      · walk_nrm
        exact hfw
      clear hfw
      walk_nrm
      repeat (first | refine Walk.cx ?_ | (refine Walk.cReg ?_; simp only [z62]) | (refine Walk.oq ?_; try walk_nrm) | (refine Walk.un ?_; walk_nrm))
      exact Walk.on2 rfl rfl Try.func62 rfl hkk
def ListOut (K : Lg L sv) (F : List Int → Ans ⊕ L.D) (x : Value) (e' : K.E) : Prop := ∃ l : List Int, l.length ≤ 64 ∧ (∃ a c, x = .slice a l.length c ∧ NumA a l (K.w e') ∧ l.length ≤ c ∧ (a = none → c = 0)) ∧ K.tgt e' = (K.s e', F l)
theorem list_s (R : GateIn L gb) (K : Lg L sv) (e : K.E) (d1 : L.D) (F : List Int → Ans ⊕ L.D) (h1 : ∀ s, L.act s d1 = (s, F (R.gt s).l)) (ht : K.tgt e = (K.s e, .inr d1)) :
    SCall K.toLb 72 #[.pointer (some ⟨gb, 0, none⟩), sv] e (ListOut K F) := by
  intro fr l hp hl hk
  have hp1 := fun w => run_eql_ptr (P := Try.prog) 74 undGate (some ⟨gb, 0, none⟩) w
  have hp2 := fun w es => ev_eql_ptr (P := Try.prog) 74 undGate (some ⟨gb, 0, none⟩) w es
  simp only [Option.isNone_some] at hp1
  have w1 := box_load R K e d1 ht
  unfold LW
  rw [enter_at _ Try.func72 code72_is]
  simp only [Try.ntmps72, ez, Nat.reduceAdd, Nat.reduceSub]
  repeat (first | refine Walk.cx ?_ | (refine Walk.cReg ?_; simp only [z72]) | (refine Walk.oq ?_; try walk_nrm) | (refine Walk.un ?_; walk_nrm))
  refine LW.callS (K := K.toLb) (e := e) (l := fr :: l) (f := 90) (Q := fun v e' => Aft K.toLb e d1 e' ∧ ∃ h, (R.gh (K.gh e'))[(R.gt (K.s e')).k]? = some h ∧ h.l = (R.gt (K.s e')).l ∧ v = heldV (.pointer (some ⟨gb, 0, none⟩)) h.p) ?_ (ho_of (by conv => lhs; whnf) (by kernel_rfl)) (by rfl) (by decide) rfl Try.func90 (by kernel_rfl) (by rfl) ⟨rfl, rfl, _, Try.func72⟩ (plain_cons hp hl) ?_
  · walk_nrm
    exact w1
  rintro x e1 ⟨ha, h0, hy, hlh, rfl⟩
  have H := (R.I (K.inv e1)).held h0 (List.mem_of_getElem? hy)
  have hv := held_w (main := K.main) (V := K.V e1) h0 (some ⟨gb, 0, none⟩) (K.w e1) H
  have ht1 : K.tgt e1 = (K.s e1, F h0.l) := by rw [ha.tgt, h1, hlh]
  clear w1 h1 ha ht hlh hy
  unfold LW
  walk_nrm
  repeat (first | refine Walk.cx ?_ | (refine Walk.cReg ?_; simp only [z72]) | (refine Walk.oq ?_; try walk_nrm) | (refine Walk.un ?_; walk_nrm))
  refine Walk.callW (Post := fun v w' => v = h0.sl ∧ (∀ b, b < (K.w e1).heap.size → w'.heap[b]? = (K.w e1).heap[b]?) ∧ (K.w e1).heap.size ≤ w'.heap.size) ?_ (ho_of (by conv => lhs; whnf) (by kernel_rfl)) (by rfl) (by decide) rfl Try.func92 (by kernel_rfl) (by rfl) ?_
  · walk_nrm
    exact hv
  rintro v w2 ⟨rfl, hO, hS⟩
  obtain ⟨e2, m2⟩ := K.grow e1 hS hO
  have H2 : HlI h0 w2 := H.same fun b hb => hO b (H.lt hb)
  obtain ⟨a, c, hsl, hnum⟩ := H2.slice
  have hls : LsR h0.sl h0.l w2 := by
    refine ⟨a, c, hsl, ?_, ?_, hnum⟩
    · have hr := H2.row
      rw [hsl] at hr
      rcases hr.2 with ⟨e, e0⟩ | ⟨g, cap, cur, e, _, hg, hle, _⟩
      · omega
      · injection e with _ _ e3
        rw [e3]; exact hle
    · intro ea
      have hr := H2.row
      rw [hsl] at hr
      rcases hr.2 with ⟨e, e0⟩ | ⟨g, cap, cur, e, _⟩
      · injection e with _ _ e5
      · rw [ea] at e; injection e with e3; cases e3
  have hA : ∀ b, w2.heap.size ≤ b → Apart (K.V e2) b := fun b hb => K.newA e2 b (by rw [m2.w]; exact hb)
  rw [m2.V] at hA
  have h64 := H2.ok.len
  have hcl := cloneI_w (main := K.main) (V := K.V e1) w2 h0.sl h0.l hls (by omega) hA
  have ht2 : K.tgt e2 = (K.s e2, F h0.l) := by rw [m2.tgt, m2.s]; exact ht1
  refine LW.to (l := fr :: l) m2 ?_
  rw [← m2.w, ← m2.V] at hcl
  clear hv hO hS H H2 ht1 hls hsl hnum hA
  generalize h0.sl = sl at *
  generalize h0.l = l0 at *
  unfold LW
  walk_nrm
  repeat (first | refine Walk.cx ?_ | (refine Walk.cReg ?_; simp only [z72]) | (refine Walk.oq ?_; try walk_nrm) | (refine Walk.un ?_; walk_nrm))
  refine Walk.callW (Post := fun v w' => LsI (K.w e2).heap.size (fun b => (K.w e2).heap.size ≤ b ∧ b < w'.heap.size) v l0 w' ∧ (K.w e2).heap.size ≤ w'.heap.size ∧ ∀ b, b < (K.w e2).heap.size → w'.heap[b]? = (K.w e2).heap[b]?) ?_ (ho_of (by conv => lhs; whnf) (by kernel_rfl)) (by rfl) (by decide) rfl Try.func105 (by kernel_rfl) (by rfl) ?_
  · walk_nrm
    exact hcl
  rintro v w3 ⟨⟨a3, c3, rfl, _, hr3⟩, hS3, hO3⟩
  obtain ⟨hr3, _⟩ := hr3 trivial
  obtain ⟨e3, m3⟩ := K.grow e2 hS3 hO3
  have hkk := hk (.slice a3 l0.length c3) e3 ⟨l0, h64, ⟨a3, c3, rfl, by rw [m3.w]; exact LsI.numA (P := fun _ => True) hr3, ?_, ?_⟩, by rw [m3.tgt, m3.s]; exact ht2⟩
  · clear hcl hk hr3
    refine LW.to (l := fr :: l) m3 ?_
    generalize l0.length = n at *
    unfold LW at hkk ⊢
    walk_nrm
    repeat (first | refine Walk.cx ?_ | (refine Walk.cReg ?_; simp only [z72]) | (refine Walk.oq ?_; try walk_nrm) | (refine Walk.un ?_; walk_nrm))
    exact Walk.on1 rfl rfl Try.func72 rfl hkk
  · rcases hr3.2 with ⟨e, e0⟩ | ⟨g, cap, cur, e, _, hg, hle, _⟩
    · omega
    · injection e with _ _ e3
      rw [e3]; exact hle
  · intro ea
    rcases hr3.2 with ⟨e, e0⟩ | ⟨g, cap, cur, e, _⟩
    · injection e with _ _ e5
    · rw [ea] at e; injection e with e3; cases e3
end
end
section
def Gr (w w' : World) : Prop := w.heap.size ≤ w'.heap.size ∧ ∀ b, b < w.heap.size → w'.heap[b]? = w.heap[b]?
theorem Gr.refl (w : World) : Gr w w := ⟨Nat.le_refl _, fun _ _ => rfl⟩
theorem Gr.trans {a b c : World} (h : Gr a b) (h' : Gr b c) : Gr a c := ⟨Nat.le_trans h.1 h'.1, fun x hx => (h'.2 x (by have := h.1; omega)).trans (h.2 x hx)⟩
theorem facts_far {dsts : List Nat} {vals : List Value} {f : Nat → Bool} {u : Nat → Value} (F : Facts dsts vals f u) {i d : Nat} {v : Value} (hi : dsts.length ≤ i) (hd : d ∉ dsts) : Facts dsts vals (upd f i true) (upd u d v) := by
  intro j d' v' hj hd' hv'
  have hlt := (List.getElem?_eq_some_iff.1 hd').1
  rw [upd_ne _ _ (by omega)] at hj
  rw [upd_ne _ _ (fun h : d' = d => hd (h ▸ List.mem_of_getElem? hd'))]
  exact F j d' v' hj hd' hv'
theorem undHe : ∃ fs, Try.prog.underlying 179 = some (.struct fs) := by
  have h : (match Try.prog.underlying 179 with | some (.struct _) => true | _ => false) = true := by kernel_rfl
  revert h
  cases Try.prog.underlying 179 with
  | none => intro h; cases h
  | some d => cases d <;> intro h <;> first | exact ⟨_, rfl⟩ | cases h
section
variable {L : La} {sv : Value}
noncomputable def reg63_0 := rg Try.f63.body [0]
noncomputable def reg63_1 := rg Try.f63.body [1, 0, 0]
noncomputable def reg63_2 := rg Try.f63.body [1, 0, 1, 0]
noncomputable def reg63_3 := rg Try.f63.body [1, 0, 1, 1, 0, 0]
noncomputable def reg63_4 := rg Try.f63.body [1, 1, 0, 0, 0, 0]
noncomputable def reg63_5 := rg Try.f63.body [1, 1, 0, 0, 0, 1, 0, 0]
noncomputable def reg63_6 := rg Try.f63.body [1, 1, 0, 0, 0, 1, 0, 1, 0, 0]
noncomputable def reg63_7 := rg Try.f63.body [1, 1, 0, 0, 0, 1, 1, 0]
theorem size63_7 : reg63_7.size = 10 := by kernel_rfl
noncomputable def reg63_8 := rg Try.f63.body [1, 1, 0, 0, 0, 1, 1, 1, 0, 0]
theorem z63 : List.range reg63_0.size = [0] ∧ List.range reg63_1.size = [0, 1, 2, 3] ∧ List.range reg63_2.size = [0, 1] ∧ List.range reg63_3.size = [0, 1] ∧ List.range reg63_4.size = [0, 1, 2, 3, 4, 5, 6] ∧ List.range reg63_5.size = [0, 1, 2, 3, 4] ∧ List.range reg63_6.size = [0] ∧ List.range reg63_7.size = [0, 1, 2, 3, 4, 5, 6, 7, 8, 9] ∧ List.range reg63_8.size = [0] := by refine ⟨?_, ?_, ?_, ?_, ?_, ?_, ?_, ?_, ?_⟩ <;> kernel_rfl
theorem code63_is : Try.f63.body = some (.seq (.region 0 reg63_0 false) (.seq (.seq (.region 1 reg63_1 false) (.seq (.region 2 reg63_2 false) (.cond (.tmp 13 ) (.seq (.region 3 reg63_3 false) (.ret)) (.skip)))) (.block 0 (.loop (.block 1 (.seq (.region 4 reg63_4 false) (.seq (.seq (.region 5 reg63_5 false) (.cond (.tmp 24 ) (.seq (.region 6 reg63_6 false) (.ret)) (.skip))) (.seq (.region 7 reg63_7 true) (.cond (.tmp 34 ) (.seq (.region 8 reg63_8 false) (.ret)) (.skip)))))))))) := by kernel_rfl
noncomputable def tmLv (gb Hb : Nat) (sv : Value) (p : Int) (u : Nat → Value) : Array Value := #[.pointer (some ⟨gb, 0, none⟩), sv, .int .i64 p, u 3, u 4, u 5, u 6, u 7, .pointer (some ⟨Hb, 0, none⟩), u 9, u 10, u 11, u 12, u 13, u 14, u 15, u 16, u 17, u 18, u 19, u 20, u 21, u 22, u 23, u 24, u 25, u 26, u 27, u 28, u 29, u 30, u 31, u 32, u 33, u 34]
theorem tmLv_reg (K : Lb L) (e : K.E) (gb Hb : Nat) (p : Int) (q : Option Addr) (sl : Value) (Z : Value → World → Prop) (Q : Value → K.E → Prop) (kx : List Item) (l : List Frame) (hpl : ∀ f ∈ l, Plain f)
    (hH : ∀ W, Gr (K.w e) W → W.cell? ⟨Hb, 0, none⟩ = some (.pointer (some ⟨gb, 0, none⟩)) ∧ W.cell? ⟨Hb, 1, none⟩ = some (.pointer q))
    (hval : ∀ W, Gr (K.w e) W → CallW Try.prog K.main (K.V e) 92 #[.agg #[.pointer (some ⟨gb, 0, none⟩), .pointer q]] W (fun v w' => v = sl ∧ Gr W w'))
    (hwith : ∀ W, Gr (K.w e) W → CallW Try.prog K.main (K.V e) 97 #[sl, .int .i64 p] W (fun v w' => Z v w' ∧ Gr W w'))
    (hZ : ∀ v W W', Z v W → Gr W W' → Z v W')
    (hcas : ∀ v W, Gr (K.w e) W → Z v W → ∃ e2, Mv K e e2 (K.s e) W ∧ SCall K 93 #[.pointer (some ⟨gb, 0, none⟩), sv, .agg #[.pointer (some ⟨gb, 0, none⟩), .pointer q], v] e2 Q)
    (hend : ∀ (u : Nat → Value) x e3, Q x e3 → u 34 = x → LW K e3 (G ((base 63).at ⟨tmLv gb Hb sv p u, []⟩ (.inRegion reg63_7 [] :: kx)) (l ++ K.bot e3))) (u0 : Nat → Value) :
    LW K e (G ((base 63).at ⟨tmLv gb Hb sv p u0, []⟩ (.code (.region 7 reg63_7 true) :: kx)) (l ++ K.bot e)) := by
  obtain ⟨fsHe, huHe⟩ := undHe
  refine LW.drawnG (m := 9) (f := 93) (Q := Q) (Inv := fun f x w => ∃ u, x = ⟨tmLv gb Hb sv p u, []⟩ ∧ Facts [25, 26, 27, 28, 29, 30, 31, 32] [.pointer (some ⟨gb, 0, none⟩), .pointer (some ⟨gb, 0, none⟩), .pointer (some ⟨gb, 0, none⟩), sv, .agg #[.pointer (some ⟨gb, 0, none⟩), .pointer q], .agg #[.pointer (some ⟨gb, 0, none⟩), .pointer q], sl, .int .i64 p] f u ∧ (f 8 = true → Z (u 33) w) ∧ Gr (K.w e) w) (by kernel_rfl) size63_7 (by kernel_rfl) (by kernel_rfl) (by decide) (ho_of (by conv => lhs; whnf) (by kernel_rfl)) rfl rfl Try.func93 (by kernel_rfl) (by rfl) hpl ⟨u0, rfl, Facts.none _ _ _, fun h => (by cases h), Gr.refl _⟩ ?_ ?_
  · rintro f j op act w hj ⟨u, rfl, F0, hz, hg⟩ hC hfj ho hdeps rest hr
    match j, hj with
    | 0, _ =>
      clear hdeps hC hend hcas
      simp only [tmLv] at hr ⊢
      (refine Walk.oq ?_; try walk_nrm)
      refine hr _ _ ⟨upd u 25 (.pointer (some ⟨gb, 0, none⟩)), ?_, F0.set (by decide) rfl rfl, fun h => ?_, hg⟩
      · simp [tmLv, upd]
      · rw [upd_ne _ _ (by decide)] at h ⊢
        exact hz h
    | 1, _ =>
      have hd := deps_of (l := [0]) (by kernel_rfl) ho hdeps
      have e25 := F0 0 25 _ (hd 0 (by simp)) rfl rfl
      clear hdeps hC hend hcas
      simp only [tmLv] at hr ⊢
      simp only [e25]
      (refine Walk.oq ?_; try walk_nrm)
      refine hr _ _ ⟨upd u 26 (.pointer (some ⟨gb, 0, none⟩)), ?_, F0.set (by decide) rfl rfl, fun h => ?_, hg⟩
      · simp [tmLv, upd, e25]
      · rw [upd_ne _ _ (by decide)] at h ⊢
        exact hz h
    | 2, _ =>
      have hd := deps_of (l := [1]) (by kernel_rfl) ho hdeps
      have e26 := F0 1 26 _ (hd 1 (by simp)) rfl rfl
      clear hdeps hC hend hcas
      simp only [tmLv] at hr ⊢
      simp only [e26]
      (refine Walk.oq ?_; try walk_nrm)
      refine hr _ _ ⟨upd u 27 (.pointer (some ⟨gb, 0, none⟩)), ?_, F0.set (by decide) rfl rfl, fun h => ?_, hg⟩
      · simp [tmLv, upd, e26]
      · rw [upd_ne _ _ (by decide)] at h ⊢
        exact hz h
    | 3, _ =>
      clear hdeps hC hend hcas
      simp only [tmLv] at hr ⊢
      (refine Walk.oq ?_; try walk_nrm)
      refine hr _ _ ⟨upd u 28 (sv), ?_, F0.set (by decide) rfl rfl, fun h => ?_, hg⟩
      · simp [tmLv, upd]
      · rw [upd_ne _ _ (by decide)] at h ⊢
        exact hz h
    | 4, _ =>
      clear hdeps hC hend hcas
      simp only [tmLv] at hr ⊢
      obtain ⟨c0, c1⟩ := hH w hg
      refine Walk.loadS 179 (.tmp 8) (ho_of (by conv => lhs; whnf) (by kernel_rfl)) (by rfl) (by decide) rfl Hb 0 [.pointer (some ⟨gb, 0, none⟩), .pointer q] (.struct fsHe) rfl (fun j v hj => ?_) huHe rfl (by kernel_rfl) ?_
      · match j, hj with
        | 0, hj => cases hj; exact c0
        | 1, hj => cases hj; exact c1
      clear c0 c1
      walk_nrm
      refine hr _ _ ⟨upd u 29 (.agg #[.pointer (some ⟨gb, 0, none⟩), .pointer q]), ?_, F0.set (by decide) rfl rfl, fun h => ?_, hg⟩
      · simp [tmLv, upd]
      · rw [upd_ne _ _ (by decide)] at h ⊢
        exact hz h
    | 5, _ =>
      clear hdeps hC hend hcas
      simp only [tmLv] at hr ⊢
      obtain ⟨c0, c1⟩ := hH w hg
      refine Walk.loadS 179 (.tmp 8) (ho_of (by conv => lhs; whnf) (by kernel_rfl)) (by rfl) (by decide) rfl Hb 0 [.pointer (some ⟨gb, 0, none⟩), .pointer q] (.struct fsHe) rfl (fun j v hj => ?_) huHe rfl (by kernel_rfl) ?_
      · match j, hj with
        | 0, hj => cases hj; exact c0
        | 1, hj => cases hj; exact c1
      clear c0 c1
      walk_nrm
      refine hr _ _ ⟨upd u 30 (.agg #[.pointer (some ⟨gb, 0, none⟩), .pointer q]), ?_, F0.set (by decide) rfl rfl, fun h => ?_, hg⟩
      · simp [tmLv, upd]
      · rw [upd_ne _ _ (by decide)] at h ⊢
        exact hz h
    | 6, _ =>
      have hd := deps_of (l := [5]) (by kernel_rfl) ho hdeps
      have e30 := F0 5 30 _ (hd 5 (by simp)) rfl rfl
      clear hdeps hC hend hcas
      simp only [tmLv] at hr ⊢
      simp only [e30]
      refine Walk.callW (Post := fun v w' => v = sl ∧ Gr w w') ?_ (ho_of (by conv => lhs; whnf) (by kernel_rfl)) (by rfl) (by decide) rfl Try.func92 (by kernel_rfl) (by rfl) ?_
      · walk_nrm
        exact hval w hg
      rintro v w' ⟨rfl, hg'⟩
      walk_nrm
      refine hr _ _ ⟨upd u 31 v, ?_, F0.set (by decide) rfl rfl, fun h => ?_, hg.trans hg'⟩
      · simp [tmLv, upd, e30]
      · rw [upd_ne _ _ (by decide)] at h ⊢
        exact hZ _ _ _ (hz h) hg'
    | 7, _ =>
      clear hdeps hC hend hcas
      simp only [tmLv] at hr ⊢
      (refine Walk.oq ?_; try walk_nrm)
      refine hr _ _ ⟨upd u 32 (.int .i64 p), ?_, F0.set (by decide) rfl rfl, fun h => ?_, hg⟩
      · simp [tmLv, upd]
      · rw [upd_ne _ _ (by decide)] at h ⊢
        exact hz h
    | 8, _ =>
      have hd := deps_of (l := [6, 7]) (by kernel_rfl) ho hdeps
      have e31 := F0 6 31 _ (hd 6 (by simp)) rfl rfl
      have e32 := F0 7 32 _ (hd 7 (by simp)) rfl rfl
      clear hdeps hC hend hcas
      simp only [tmLv] at hr ⊢
      simp only [e31, e32]
      refine Walk.callW (Post := fun v w' => Z v w' ∧ Gr w w') ?_ (ho_of (by conv => lhs; whnf) (by kernel_rfl)) (by rfl) (by decide) rfl Try.func97 (by kernel_rfl) (by rfl) ?_
      · walk_nrm
        exact hwith w hg
      rintro v w' ⟨hz', hg'⟩
      walk_nrm
      refine hr _ _ ⟨upd u 33 v, ?_, facts_far F0 (Nat.le_refl _) (by decide), fun h => ?_, hg.trans hg'⟩
      · simp [tmLv, upd, e31, e32]
      · rw [upd_same]
        exact hz'
  · rintro f act w ⟨u, rfl, F0, hz, hg⟩ hall
    have e2 := F0 2 27 _ (hall 2 (by decide)) rfl rfl
    have e3 := F0 3 28 _ (hall 3 (by decide)) rfl rfl
    have e4 := F0 4 29 _ (hall 4 (by decide)) rfl rfl
    obtain ⟨en, mv, hs⟩ := hcas _ w hg (hz (hall 8 (by decide)))
    clear hcas hH hval hwith hZ hz F0
    refine ⟨en, mv, fun rest => ⟨rfl, rfl, _, Try.func63⟩, ?_, fun v em hq => ?_⟩
    · simp only [tmLv]
      walk_nrm
      simp only [e2, e3, e4]
      exact hs
    · have hh := hend (upd u 34 v) v em hq (upd_same _ _ _)
      clear hend hs
      simp only [tmLv] at hh ⊢
      walk_nrm
      simpa [upd] using hh
noncomputable def reg60_0 := rg Try.f60.body [0]
noncomputable def reg60_1 := rg Try.f60.body [1, 0, 0]
noncomputable def reg60_2 := rg Try.f60.body [1, 0, 1, 0]
noncomputable def reg60_3 := rg Try.f60.body [1, 0, 1, 1, 0, 0]
noncomputable def reg60_4 := rg Try.f60.body [1, 1, 0, 0, 0, 0]
noncomputable def reg60_5 := rg Try.f60.body [1, 1, 0, 0, 0, 1, 0, 0]
noncomputable def reg60_6 := rg Try.f60.body [1, 1, 0, 0, 0, 1, 0, 1, 0, 0]
noncomputable def reg60_7 := rg Try.f60.body [1, 1, 0, 0, 0, 1, 1, 0]
noncomputable def reg60_8 := rg Try.f60.body [1, 1, 0, 0, 0, 1, 1, 1, 0]
theorem size60_8 : reg60_8.size = 10 := by kernel_rfl
noncomputable def reg60_9 := rg Try.f60.body [1, 1, 0, 0, 0, 1, 1, 1, 1, 0, 0]
theorem z60 : List.range reg60_0.size = [0] ∧ List.range reg60_1.size = [0, 1, 2, 3] ∧ List.range reg60_2.size = [0, 1] ∧ List.range reg60_3.size = [0, 1] ∧ List.range reg60_4.size = [0, 1, 2, 3, 4, 5, 6] ∧ List.range reg60_5.size = [0, 1, 2, 3] ∧ List.range reg60_6.size = [0] ∧ List.range reg60_7.size = [0, 1, 2, 3, 4, 5, 6, 7] ∧ List.range reg60_8.size = [0, 1, 2, 3, 4, 5, 6, 7, 8, 9] ∧ List.range reg60_9.size = [0] := by refine ⟨?_, ?_, ?_, ?_, ?_, ?_, ?_, ?_, ?_, ?_⟩ <;> kernel_rfl
theorem code60_is : Try.f60.body = some (.seq (.region 0 reg60_0 false) (.seq (.seq (.region 1 reg60_1 false) (.seq (.region 2 reg60_2 false) (.cond (.tmp 15 ) (.seq (.region 3 reg60_3 false) (.ret)) (.skip)))) (.block 0 (.loop (.block 1 (.seq (.region 4 reg60_4 false) (.seq (.seq (.region 5 reg60_5 false) (.cond (.tmp 25 ) (.seq (.region 6 reg60_6 false) (.ret)) (.skip))) (.seq (.region 7 reg60_7 false) (.seq (.region 8 reg60_8 true) (.cond (.tmp 43 ) (.seq (.region 9 reg60_9 false) (.ret)) (.skip))))))))))) := by kernel_rfl
noncomputable def tmJn (gb Hb : Nat) (sv : Value) (p at' : Int) (u : Nat → Value) : Array Value := #[.pointer (some ⟨gb, 0, none⟩), sv, .int .i64 p, .int .i64 at', u 4, u 5, u 6, u 7, u 8, u 9, .pointer (some ⟨Hb, 0, none⟩), u 11, u 12, u 13, u 14, u 15, u 16, u 17, u 18, u 19, u 20, u 21, u 22, u 23, u 24, u 25, u 26, u 27, u 28, u 29, u 30, u 31, u 32, u 33, u 34, u 35, u 36, u 37, u 38, u 39, u 40, u 41, u 42, u 43]
theorem tmJn_reg (K : Lb L) (e : K.E) (gb Hb : Nat) (p at' : Int) (q : Option Addr) (sl : Value) (Z : Value → World → Prop) (Q : Value → K.E → Prop) (kx : List Item) (l : List Frame) (hpl : ∀ f ∈ l, Plain f)
    (hH : ∀ W, Gr (K.w e) W → W.cell? ⟨Hb, 0, none⟩ = some (.pointer (some ⟨gb, 0, none⟩)) ∧ W.cell? ⟨Hb, 1, none⟩ = some (.pointer q))
    (hval : ∀ W, Gr (K.w e) W → CallW Try.prog K.main (K.V e) 92 #[.agg #[.pointer (some ⟨gb, 0, none⟩), .pointer q]] W (fun v w' => v = sl ∧ Gr W w'))
    (hwith : ∀ W, Gr (K.w e) W → CallW Try.prog K.main (K.V e) 94 #[sl, .int .i64 p] W (fun v w' => Z v w' ∧ Gr W w'))
    (hZ : ∀ v W W', Z v W → Gr W W' → Z v W')
    (hcas : ∀ v W, Gr (K.w e) W → Z v W → ∃ e2, Mv K e e2 (K.s e) W ∧ SCall K 93 #[.pointer (some ⟨gb, 0, none⟩), sv, .agg #[.pointer (some ⟨gb, 0, none⟩), .pointer q], v] e2 Q)
    (hend : ∀ (u : Nat → Value) x e3, Q x e3 → u 43 = x → LW K e3 (G ((base 60).at ⟨tmJn gb Hb sv p at' u, []⟩ (.inRegion reg60_8 [] :: kx)) (l ++ K.bot e3))) (u0 : Nat → Value) :
    LW K e (G ((base 60).at ⟨tmJn gb Hb sv p at' u0, []⟩ (.code (.region 8 reg60_8 true) :: kx)) (l ++ K.bot e)) := by
  obtain ⟨fsHe, huHe⟩ := undHe
  refine LW.drawnG (m := 9) (f := 93) (Q := Q) (Inv := fun f x w => ∃ u, x = ⟨tmJn gb Hb sv p at' u, []⟩ ∧ Facts [34, 35, 36, 37, 38, 39, 40, 41] [.pointer (some ⟨gb, 0, none⟩), .pointer (some ⟨gb, 0, none⟩), .pointer (some ⟨gb, 0, none⟩), sv, .agg #[.pointer (some ⟨gb, 0, none⟩), .pointer q], .agg #[.pointer (some ⟨gb, 0, none⟩), .pointer q], sl, .int .i64 p] f u ∧ (f 8 = true → Z (u 42) w) ∧ Gr (K.w e) w) (by kernel_rfl) size60_8 (by kernel_rfl) (by kernel_rfl) (by decide) (ho_of (by conv => lhs; whnf) (by kernel_rfl)) rfl rfl Try.func93 (by kernel_rfl) (by rfl) hpl ⟨u0, rfl, Facts.none _ _ _, fun h => (by cases h), Gr.refl _⟩ ?_ ?_
  · rintro f j op act w hj ⟨u, rfl, F0, hz, hg⟩ hC hfj ho hdeps rest hr
    match j, hj with
    | 0, _ =>
      clear hdeps hC hend hcas
      simp only [tmJn] at hr ⊢
      (refine Walk.oq ?_; try walk_nrm)
      refine hr _ _ ⟨upd u 34 (.pointer (some ⟨gb, 0, none⟩)), ?_, F0.set (by decide) rfl rfl, fun h => ?_, hg⟩
      · simp [tmJn, upd]
      · rw [upd_ne _ _ (by decide)] at h ⊢
        exact hz h
    | 1, _ =>
      have hd := deps_of (l := [0]) (by kernel_rfl) ho hdeps
      have e34 := F0 0 34 _ (hd 0 (by simp)) rfl rfl
      clear hdeps hC hend hcas
      simp only [tmJn] at hr ⊢
      simp only [e34]
      (refine Walk.oq ?_; try walk_nrm)
      refine hr _ _ ⟨upd u 35 (.pointer (some ⟨gb, 0, none⟩)), ?_, F0.set (by decide) rfl rfl, fun h => ?_, hg⟩
      · simp [tmJn, upd, e34]
      · rw [upd_ne _ _ (by decide)] at h ⊢
        exact hz h
    | 2, _ =>
      have hd := deps_of (l := [1]) (by kernel_rfl) ho hdeps
      have e35 := F0 1 35 _ (hd 1 (by simp)) rfl rfl
      clear hdeps hC hend hcas
      simp only [tmJn] at hr ⊢
      simp only [e35]
      (refine Walk.oq ?_; try walk_nrm)
      refine hr _ _ ⟨upd u 36 (.pointer (some ⟨gb, 0, none⟩)), ?_, F0.set (by decide) rfl rfl, fun h => ?_, hg⟩
      · simp [tmJn, upd, e35]
      · rw [upd_ne _ _ (by decide)] at h ⊢
        exact hz h
    | 3, _ =>
      clear hdeps hC hend hcas
      simp only [tmJn] at hr ⊢
      (refine Walk.oq ?_; try walk_nrm)
      refine hr _ _ ⟨upd u 37 (sv), ?_, F0.set (by decide) rfl rfl, fun h => ?_, hg⟩
      · simp [tmJn, upd]
      · rw [upd_ne _ _ (by decide)] at h ⊢
        exact hz h
    | 4, _ =>
      clear hdeps hC hend hcas
      simp only [tmJn] at hr ⊢
      obtain ⟨c0, c1⟩ := hH w hg
      refine Walk.loadS 179 (.tmp 10) (ho_of (by conv => lhs; whnf) (by kernel_rfl)) (by rfl) (by decide) rfl Hb 0 [.pointer (some ⟨gb, 0, none⟩), .pointer q] (.struct fsHe) rfl (fun j v hj => ?_) huHe rfl (by kernel_rfl) ?_
      · match j, hj with
        | 0, hj => cases hj; exact c0
        | 1, hj => cases hj; exact c1
      clear c0 c1
      walk_nrm
      refine hr _ _ ⟨upd u 38 (.agg #[.pointer (some ⟨gb, 0, none⟩), .pointer q]), ?_, F0.set (by decide) rfl rfl, fun h => ?_, hg⟩
      · simp [tmJn, upd]
      · rw [upd_ne _ _ (by decide)] at h ⊢
        exact hz h
    | 5, _ =>
      clear hdeps hC hend hcas
      simp only [tmJn] at hr ⊢
      obtain ⟨c0, c1⟩ := hH w hg
      refine Walk.loadS 179 (.tmp 10) (ho_of (by conv => lhs; whnf) (by kernel_rfl)) (by rfl) (by decide) rfl Hb 0 [.pointer (some ⟨gb, 0, none⟩), .pointer q] (.struct fsHe) rfl (fun j v hj => ?_) huHe rfl (by kernel_rfl) ?_
      · match j, hj with
        | 0, hj => cases hj; exact c0
        | 1, hj => cases hj; exact c1
      clear c0 c1
      walk_nrm
      refine hr _ _ ⟨upd u 39 (.agg #[.pointer (some ⟨gb, 0, none⟩), .pointer q]), ?_, F0.set (by decide) rfl rfl, fun h => ?_, hg⟩
      · simp [tmJn, upd]
      · rw [upd_ne _ _ (by decide)] at h ⊢
        exact hz h
    | 6, _ =>
      have hd := deps_of (l := [5]) (by kernel_rfl) ho hdeps
      have e39 := F0 5 39 _ (hd 5 (by simp)) rfl rfl
      clear hdeps hC hend hcas
      simp only [tmJn] at hr ⊢
      simp only [e39]
      refine Walk.callW (Post := fun v w' => v = sl ∧ Gr w w') ?_ (ho_of (by conv => lhs; whnf) (by kernel_rfl)) (by rfl) (by decide) rfl Try.func92 (by kernel_rfl) (by rfl) ?_
      · walk_nrm
        exact hval w hg
      rintro v w' ⟨rfl, hg'⟩
      walk_nrm
      refine hr _ _ ⟨upd u 40 v, ?_, F0.set (by decide) rfl rfl, fun h => ?_, hg.trans hg'⟩
      · simp [tmJn, upd, e39]
      · rw [upd_ne _ _ (by decide)] at h ⊢
        exact hZ _ _ _ (hz h) hg'
    | 7, _ =>
      clear hdeps hC hend hcas
      simp only [tmJn] at hr ⊢
      (refine Walk.oq ?_; try walk_nrm)
      refine hr _ _ ⟨upd u 41 (.int .i64 p), ?_, F0.set (by decide) rfl rfl, fun h => ?_, hg⟩
      · simp [tmJn, upd]
      · rw [upd_ne _ _ (by decide)] at h ⊢
        exact hz h
    | 8, _ =>
      have hd := deps_of (l := [6, 7]) (by kernel_rfl) ho hdeps
      have e40 := F0 6 40 _ (hd 6 (by simp)) rfl rfl
      have e41 := F0 7 41 _ (hd 7 (by simp)) rfl rfl
      clear hdeps hC hend hcas
      simp only [tmJn] at hr ⊢
      simp only [e40, e41]
      refine Walk.callW (Post := fun v w' => Z v w' ∧ Gr w w') ?_ (ho_of (by conv => lhs; whnf) (by kernel_rfl)) (by rfl) (by decide) rfl Try.func94 (by kernel_rfl) (by rfl) ?_
      · walk_nrm
        exact hwith w hg
      rintro v w' ⟨hz', hg'⟩
      walk_nrm
      refine hr _ _ ⟨upd u 42 v, ?_, facts_far F0 (Nat.le_refl _) (by decide), fun h => ?_, hg.trans hg'⟩
      · simp [tmJn, upd, e40, e41]
      · rw [upd_same]
        exact hz'
  · rintro f act w ⟨u, rfl, F0, hz, hg⟩ hall
    have e2 := F0 2 36 _ (hall 2 (by decide)) rfl rfl
    have e3 := F0 3 37 _ (hall 3 (by decide)) rfl rfl
    have e4 := F0 4 38 _ (hall 4 (by decide)) rfl rfl
    obtain ⟨en, mv, hs⟩ := hcas _ w hg (hz (hall 8 (by decide)))
    clear hcas hH hval hwith hZ hz F0
    refine ⟨en, mv, fun rest => ⟨rfl, rfl, _, Try.func60⟩, ?_, fun v em hq => ?_⟩
    · simp only [tmJn]
      walk_nrm
      simp only [e2, e3, e4]
      exact hs
    · have hh := hend (upd u 43 v) v em hq (upd_same _ _ _)
      clear hend hs
      simp only [tmJn] at hh ⊢
      walk_nrm
      simpa [upd] using hh
end
end
end Go.Proofs.Ytgfajibjedfkdaa
