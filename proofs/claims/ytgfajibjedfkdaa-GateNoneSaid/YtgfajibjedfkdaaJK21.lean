/- Part 21. -/
import Derived.Test.YtgfajibjedfkdaaJK20
set_option linter.unusedSimpArgs false
set_option linter.unusedVariables false
set_option linter.unusedVariables false
set_option maxHeartbeats 8000000
set_option maxRecDepth 100000
namespace Go.Proofs.Ytgfajibjedfkdaa
open Go.Conc Go.RowKit Go.Relay
open Go.ConcN (upd upd_ne upd_same)
section
noncomputable def kLv : List Item := [.code (.cond (.tmp 34 ) (.seq (.region 8 reg63_8 false) (.ret)) (.skip)), .inBlock 1, .inLoop (.block 1 (.seq (.region 4 reg63_4 false) (.seq (.seq (.region 5 reg63_5 false) (.cond (.tmp 24 ) (.seq (.region 6 reg63_6 false) (.ret)) (.skip))) (.seq (.region 7 reg63_7 true) (.cond (.tmp 34 ) (.seq (.region 8 reg63_8 false) (.ret)) (.skip)))))), .inBlock 0]
noncomputable def hdLv (gb : Nat) (sv : Value) (p : Int) (u : Nat → Value) : Frame :=
  (base 63).at { tmps := #[.pointer (some ⟨gb, 0, none⟩), sv, .int .i64 p, u 3, u 4, u 5, u 6, u 7, u 8, u 9, u 10, u 11, u 12, u 13, u 14, u 15, u 16, u 17, u 18, u 19, u 20, u 21, u 22, u 23, u 24, u 25, u 26, u 27, u 28, u 29, u 30, u 31, u 32, u 33, u 34], defers := [] } [.code (.block 1 (.seq (.region 4 reg63_4 false) (.seq (.seq (.region 5 reg63_5 false) (.cond (.tmp 24 ) (.seq (.region 6 reg63_6 false) (.ret)) (.skip))) (.seq (.region 7 reg63_7 true) (.cond (.tmp 34 ) (.seq (.region 8 reg63_8 false) (.ret)) (.skip)))))), .inLoop (.block 1 (.seq (.region 4 reg63_4 false) (.seq (.seq (.region 5 reg63_5 false) (.cond (.tmp 24 ) (.seq (.region 6 reg63_6 false) (.ret)) (.skip))) (.seq (.region 7 reg63_7 true) (.cond (.tmp 34 ) (.seq (.region 8 reg63_8 false) (.ret)) (.skip)))))), .inBlock 0]
noncomputable def hdLva (gb Hb : Nat) (sv : Value) (p : Int) (u : Nat → Value) : Frame :=
  (base 63).at { tmps := #[.pointer (some ⟨gb, 0, none⟩), sv, .int .i64 p, u 3, u 4, u 5, u 6, u 7, .pointer (some ⟨Hb, 0, none⟩), u 9, u 10, u 11, u 12, u 13, u 14, u 15, u 16, u 17, u 18, u 19, u 20, u 21, u 22, u 23, u 24, u 25, u 26, u 27, u 28, u 29, u 30, u 31, u 32, u 33, u 34], defers := [] } [.code (.seq (.seq (.region 5 reg63_5 false) (.cond (.tmp 24 ) (.seq (.region 6 reg63_6 false) (.ret)) (.skip))) (.seq (.region 7 reg63_7 true) (.cond (.tmp 34 ) (.seq (.region 8 reg63_8 false) (.ret)) (.skip)))), .inBlock 1, .inLoop (.block 1 (.seq (.region 4 reg63_4 false) (.seq (.seq (.region 5 reg63_5 false) (.cond (.tmp 24 ) (.seq (.region 6 reg63_6 false) (.ret)) (.skip))) (.seq (.region 7 reg63_7 true) (.cond (.tmp 34 ) (.seq (.region 8 reg63_8 false) (.ret)) (.skip)))))), .inBlock 0]
noncomputable def hdLvb (gb Hb : Nat) (sv : Value) (p : Int) (u : Nat → Value) : Frame :=
  (base 63).at { tmps := #[.pointer (some ⟨gb, 0, none⟩), sv, .int .i64 p, u 3, u 4, u 5, u 6, u 7, .pointer (some ⟨Hb, 0, none⟩), u 9, u 10, u 11, u 12, u 13, u 14, u 15, u 16, u 17, u 18, u 19, u 20, u 21, u 22, u 23, u 24, u 25, u 26, u 27, u 28, u 29, u 30, u 31, u 32, u 33, u 34], defers := [] } [.code (.region 7 reg63_7 true), .code (.cond (.tmp 34 ) (.seq (.region 8 reg63_8 false) (.ret)) (.skip)), .inBlock 1, .inLoop (.block 1 (.seq (.region 4 reg63_4 false) (.seq (.seq (.region 5 reg63_5 false) (.cond (.tmp 24 ) (.seq (.region 6 reg63_6 false) (.ret)) (.skip))) (.seq (.region 7 reg63_7 true) (.cond (.tmp 34 ) (.seq (.region 8 reg63_8 false) (.ret)) (.skip)))))), .inBlock 0]
def ErrOut {L : La} {sv : Value} (K : Lg L sv) (F : Int → Ans ⊕ L.D) (x : Value) (e' : K.E) : Prop := ∃ c : Int, x = .int .i64 c ∧ K.tgt e' = (K.s e', F c)
structure HdI {L : La} {gb : Nat} {sv : Value} (R : GateIn L gb) (K : Lg L sv) (e : K.E) (Hb k0 : Nat) (h0 : Hl) : Prop where
  own : K.mine e Hb
  blk : (K.w e).heap[Hb]? = some (.cells #[.pointer (some ⟨gb, 0, none⟩), .pointer (h0.p.map fun b => (⟨b, 0, none⟩ : Addr))] 179)
  top : (R.gh (K.gh e))[k0]? = some h0
theorem HdI.mv {L : La} {gb : Nat} {sv : Value} {R : GateIn L gb} {K : Lg L sv} {e e' : K.E} {Hb k0 : Nat} {h0 : Hl} {w' : World} (H : HdI R K e Hb k0 h0) (m : Mv K.toLb e e' (K.s e) w') (hg : Gr (K.w e) w') : HdI R K e' Hb k0 h0 :=
  ⟨(m.mine Hb).2 (.inl H.own), by rw [m.w, hg.2 Hb (K.mineA e Hb H.own).2.2]; exact H.blk, by rw [m.gh]; exact H.top⟩
section
variable {L : La} {gb : Nat} {sv : Value}
theorem Lv_c (R : GateIn L gb) (K : Lg L sv) (p : Int) (hp : gOK p) (d1 : L.D) (d2 : Nat → List Int → L.D) (F : Int → Ans ⊕ L.D) (h2 : ∀ s k l, L.act s (d2 k l) = if (R.gt s).k = k then (R.lay s (l.filter fun z => decide (z ≠ p)), F 0) else (s, .inr d1))
    (fr : Frame) (l : List Frame) (hpf : Plain fr) (hl : ∀ f ∈ l, Plain f) (hk : ∀ x e', ErrOut K F x e' → LW K.toLb e' (G (fr.finish x) (l ++ K.bot e')))
    (e : K.E) (Hb k0 : Nat) (h0 : Hl) (H : HdI R K e Hb k0 h0) (hpm : p ∈ h0.l) (ht : K.tgt e = (K.s e, .inr (d2 k0 h0.l)))
    (ih : ∀ e' u', K.fuel e' < K.fuel e → K.tgt e' = (K.s e', .inr d1) → LW K.toLb e' (G (hdLv gb sv p u') (fr :: (l ++ K.bot e')))) (u : Nat → Value) :
    LW K.toLb e (G ((base 63).at ⟨tmLv gb Hb sv p u, []⟩ (.code (.region 7 reg63_7 true) :: kLv)) (fr :: (l ++ K.bot e))) := by
  have HI := (R.I (K.inv e)).held h0 (List.mem_of_getElem? H.top)
  obtain ⟨a, ca, hsl, _⟩ := HI.slice
  obtain ⟨l', hl'⟩ : ∃ l', (h0.l.filter fun z => decide (z ≠ p)) = l' := ⟨_, rfl⟩
  have hok' : okL l' := hl' ▸ HI.ok.filter _
  have hlt := (K.mineA e Hb H.own).2.2
  have h2' := fun s => h2 s k0 h0.l
  rw [hl'] at h2'
  obtain ⟨q, hq⟩ : ∃ q, h0.p.map (fun b => (⟨b, 0, none⟩ : Addr)) = q := ⟨_, rfl⟩
  have hblk := H.blk
  rw [hq] at hblk
  have hheld : ∀ (W : World), HlI h0 W → CallW Try.prog K.main (K.V e) 92 #[.agg #[.pointer (some ⟨gb, 0, none⟩), .pointer q]] W (fun v w' => v = h0.sl ∧ Gr W w') := fun W hW => by
    have hh := held_w (main := K.main) (V := K.V e) h0 (some ⟨gb, 0, none⟩) W hW
    unfold heldV ptrV at hh
    rw [hq] at hh
    exact fun fr cs => (hh fr cs).mono fun gr w' ⟨v, ⟨x1, x2, x3⟩, x4⟩ => ⟨v, ⟨x1, x3, x2⟩, x4⟩
  have hst : ∀ W, Gr (K.w e) W → HlI h0 W := fun W hg => HI.same fun b hb => hg.2 b (HI.lt hb)
  have hreg := tmLv_reg (sv := sv) K.toLb e gb Hb p q h0.sl (fun v w => ∃ g c, v = .slice (some ⟨g, 0, none⟩) l'.length c ∧ (K.w e).heap.size ≤ g ∧ g < w.heap.size ∧ w.ownsRow 0 3 1 v l'.length (l'.map fun z => .int .i64 z))
    (fun x e' => K.fuel e' < K.fuel e ∧ ((x = .bool true ∧ K.tgt e' = (K.s e', F 0)) ∨ (x = .bool false ∧ K.tgt e' = (K.s e', .inr d1)))) kLv (fr :: l) (plain_cons hpf hl)
    (fun W hg => ⟨(cell_of ((hg.2 Hb hlt).trans hblk) 0).trans rfl, (cell_of ((hg.2 Hb hlt).trans hblk) 1).trans rfl⟩)
    (fun W hg => hheld W (hst W hg))
    (fun W hg => by
      have hw := without_w (main := K.main) (V := K.V e) a ca h0.l p HI.ok hpm W (by rw [← hsl]; exact (hst W hg).row) (fun b hb => K.newA e b (Nat.le_trans hg.1 hb))
      rw [hl', ← hsl] at hw
      exact fun fr cs => (hw fr cs).mono fun gr w' ⟨v, ⟨g, c, x1, x2, x3, x4, x5, x6⟩, x7⟩ => ⟨v, ⟨⟨g, c, x1, Nat.le_trans hg.1 x2, x3, x4⟩, x6, x5⟩, x7⟩)
    (fun v W W' ⟨g, c, x1, x2, x3, x4⟩ hg => ⟨g, c, x1, x2, Nat.lt_of_lt_of_le x3 hg.1, row_same x4 fun b hb => hg.2 b (x4.lt b hb).2⟩)
    (fun v W hg ⟨g, c, x1, x2, x3, x4⟩ => by
      obtain ⟨e2, m2⟩ := K.grow e hg.1 hg.2
      have hb := box_cas R K e2 (d2 k0 h0.l) k0 h0 (by rw [m2.gh]; exact H.top) (some ⟨g, 0, none⟩) c l' hok' (by rw [m2.w]; subst x1; exact x4) (fun b hb => by cases hb; exact m2.new x2 x3) (by rw [m2.tgt, m2.s]; exact ht)
      unfold heldV ptrV at hb
      rw [hq] at hb
      subst x1
      refine ⟨e2, m2, hb.mono ?_⟩
      rintro x e3 ⟨s, hc⟩
      refine ⟨by rw [← m2.fuel]; exact hc.fuel, ?_⟩
      rcases hc.out with ⟨y1, y2, y3⟩ | ⟨y1, y2, y3⟩
      · exact .inl ⟨y2, by rw [hc.tgt, h2' s, if_pos y1, y3]⟩
      · exact .inr ⟨y2, by rw [hc.tgt, h2' s, if_neg y1, y3]⟩)
    (fun u x e3 hq hx => by
      obtain ⟨hf, hq⟩ := hq
      rcases hq with ⟨rfl, ht3⟩ | ⟨rfl, ht3⟩
      · have hkk := hk (.int .i64 0) e3 ⟨0, rfl, ht3⟩
        clear hk ih h2 h2' hheld hst ht3
        unfold LW at hkk ⊢
        simp only [tmLv, kLv, hx]
        repeat (first | refine Walk.cx ?_ | (refine Walk.cReg ?_; simp only [z63]) | (refine Walk.oq ?_; try walk_nrm) | (refine Walk.un ?_; walk_nrm))
        exact Walk.on1 rfl rfl Try.func63 rfl hkk
      · have hih := fun u' => ih e3 u' hf ht3
        clear hk ih h2 h2' hheld hst ht3
        unfold LW at hih ⊢
        simp only [tmLv, kLv, hx]
        repeat (first | refine Walk.cx ?_ | (refine Walk.cReg ?_; simp only [z63]) | (refine Walk.oq ?_; try walk_nrm) | (refine Walk.un ?_; walk_nrm))
        refine Walk.ctl rfl (fun w => stepG_inLoop) ?_
        refine slots_walk (F := fun u => G (hdLv gb sv p u) (fr :: (l ++ K.bot e3))) hih ?_
        simp only [hdLv]
        rfl)
  exact hreg u
end
end
section
section
variable {L : La} {gb : Nat} {sv : Value}
theorem Lv_a (R : GateIn L gb) (K : Lg L sv) (p : Int) (d1 : L.D) (X : Nat → List Int → Ans ⊕ L.D) (h1 : ∀ s, L.act s d1 = (s, X (R.gt s).k (R.gt s).l))
    (fr : Frame) (l : List Frame) (hpf : Plain fr) (hl : ∀ f ∈ l, Plain f) (e : K.E) (u : Nat → Value) (ht : K.tgt e = (K.s e, .inr d1))
    (hk : ∀ e' Hb k0 h0 u', HdI R K e' Hb k0 h0 → K.fuel e' < K.fuel e → K.tgt e' = (K.s e', X k0 h0.l) → LW K.toLb e' (G (hdLva gb Hb sv p u') (fr :: (l ++ K.bot e')))) :
    LW K.toLb e (G (hdLv gb sv p u) (fr :: (l ++ K.bot e))) := by
  have hp1 := fun w => run_eql_ptr (P := Try.prog) 74 undGate (some ⟨gb, 0, none⟩) w
  have hp2 := fun w es => ev_eql_ptr (P := Try.prog) 74 undGate (some ⟨gb, 0, none⟩) w es
  simp only [Option.isNone_some] at hp1
  have w1 := box_load R K e d1 ht
  unfold LW hdLv
  repeat (first | refine Walk.cx ?_ | (refine Walk.cReg ?_; simp only [z63]) | (refine Walk.oq ?_; try walk_nrm) | (refine Walk.un ?_; walk_nrm))
  refine LW.callS (K := K.toLb) (e := e) (l := fr :: l) (f := 90) (Q := fun v e' => Aft K.toLb e d1 e' ∧ ∃ h, (R.gh (K.gh e'))[(R.gt (K.s e')).k]? = some h ∧ h.l = (R.gt (K.s e')).l ∧ v = heldV (.pointer (some ⟨gb, 0, none⟩)) h.p) ?_ (ho_of (by conv => lhs; whnf) (by kernel_rfl)) (by rfl) (by decide) rfl Try.func90 (by kernel_rfl) (by rfl) ⟨rfl, rfl, _, Try.func63⟩ (plain_cons hpf hl) ?_
  · walk_nrm
    exact w1
  rintro x e1 ⟨ha, h0, hy, hlh, rfl⟩
  have c1 := heap_alloc_new (K.w e1) (.cells #[.pointer none, .pointer none] 179)
  have s1 : ((K.w e1).alloc (.cells #[.pointer none, .pointer none] 179)).heap.size = (K.w e1).heap.size + 1 := by simp
  have o1 : ∀ b, b < (K.w e1).heap.size → ((K.w e1).alloc (.cells #[.pointer none, .pointer none] 179)).heap[b]? = (K.w e1).heap[b]? := fun b hb => heap_new_lt _ _ hb
  obtain ⟨e2, m2⟩ := K.grow e1 (w' := (K.w e1).alloc (.cells #[.pointer none, .pointer none] 179)) (by omega) o1
  unfold LW
  walk_nrm
  repeat (first | refine Walk.cx ?_ | (refine Walk.cReg ?_; simp only [z63]) | (refine Walk.oq ?_; try walk_nrm) | (refine Walk.un ?_; walk_nrm))
  (refine Walk.oa ?_; try walk_nrm)
  generalize hHb : (K.w e1).heap.size = Hb at *
  generalize (K.w e1).alloc (.cells #[.pointer none, .pointer none] 179) = w2 at *
  have hm2 : K.mine e2 Hb := m2.new (by omega) (by omega)
  have d2 : (K.w e2).heap[Hb]? = some (.cells #[.pointer none, .pointer none] 179) := by rw [m2.w]; exact c1
  have hap := (K.mineA e2 Hb hm2).1
  obtain ⟨e3, m3⟩ := K.own e2 (w' := (K.w e2).setRow Hb #[.pointer (some ⟨gb, 0, none⟩), .pointer (h0.p.map fun b => (⟨b, 0, none⟩ : Addr))]) (by rw [setRow_size]; exact Nat.le_refl _) (fun b hb hm => setRow_other _ _ fun e => hm (e ▸ hm2))
  have d3 := setRow_self (cells := #[.pointer (some ⟨gb, 0, none⟩), .pointer (h0.p.map fun b => (⟨b, 0, none⟩ : Addr))]) d2
  have hI : HdI R K e3 Hb (R.gt (K.s e1)).k h0 := ⟨(m3.mine Hb).2 (.inl hm2), by rw [m3.w]; exact d3, by rw [m3.gh, m2.gh]; exact hy⟩
  have ht3 : K.tgt e3 = (K.s e3, X (R.gt (K.s e1)).k h0.l) := by rw [m3.tgt, m3.s, m2.tgt, m2.s, ha.tgt, h1, hlh]
  have hf3 : K.fuel e3 < K.fuel e := by rw [m3.fuel, m2.fuel]; exact ha.fuel
  have hkk := fun u' => hk e3 Hb _ h0 u' hI hf3 ht3
  clear hk ht3 hI hf3 hy hlh w1 h1 ha c1 s1 o1 d3
  refine LW.to (l := fr :: l) m2 ?_
  unfold heldV ptrV
  obtain ⟨q, hq⟩ : ∃ q, h0.p.map (fun b => (⟨b, 0, none⟩ : Addr)) = q := ⟨_, rfl⟩
  rw [hq] at m3 ⊢
  unfold LW
  repeat (first | refine Walk.cx ?_ | (refine Walk.cReg ?_; simp only [z63]) | (refine Walk.oq ?_; try walk_nrm) | (refine Walk.un ?_; walk_nrm))
  refine Walk.storeS 179 (.tmp 8) (.tmp 19) (ho_of (by conv => lhs; whnf) (by kernel_rfl)) (by rfl) (by decide) rfl Hb #[.pointer (some ⟨gb, 0, none⟩), .pointer q] _ 179 rfl rfl d2 (by kernel_rfl) (by rfl) (by simp [Value.oneCell']) hap ?_
  refine LW.to (l := fr :: l) m3 ?_
  clear m2 m3 hm2 d2 hap
  unfold LW at hkk ⊢
  walk_nrm
  refine Walk.c rfl ?_
  refine slots_walk (F := fun u => G (hdLva gb Hb sv p u) (fr :: (l ++ K.bot e3))) hkk ?_
  simp only [hdLva]
  rfl
theorem Lv_b (R : GateIn L gb) (K : Lg L sv) (p : Int) (X : Nat → List Int → Ans ⊕ L.D) (F : Int → Ans ⊕ L.D)
    (fr : Frame) (l : List Frame) (hpf : Plain fr) (hl : ∀ f ∈ l, Plain f) (hk : ∀ x e', ErrOut K F x e' → LW K.toLb e' (G (fr.finish x) (l ++ K.bot e'))) (e : K.E) (Hb k0 : Nat) (h0 : Hl) (u : Nat → Value) (H : HdI R K e Hb k0 h0) (hX : ¬ (p ∈ h0.l) → X k0 h0.l = F 6) (ht : K.tgt e = (K.s e, X k0 h0.l))
    (hy : ∀ e' u', HdI R K e' Hb k0 h0 → p ∈ h0.l → K.fuel e' = K.fuel e → K.tgt e' = (K.s e', X k0 h0.l) → LW K.toLb e' (G (hdLvb gb Hb sv p u') (fr :: (l ++ K.bot e')))) :
    LW K.toLb e (G (hdLva gb Hb sv p u) (fr :: (l ++ K.bot e))) := by
  have HI := (R.I (K.inv e)).held h0 (List.mem_of_getElem? H.top)
  obtain ⟨a, ca, hsl, _⟩ := HI.slice
  obtain ⟨fsHe, huHe⟩ := undHe
  obtain ⟨q, hq⟩ : ∃ q, h0.p.map (fun b => (⟨b, 0, none⟩ : Addr)) = q := ⟨_, rfl⟩
  have hblk := H.blk
  rw [hq] at hblk
  have c0 := (cell_of hblk 0).trans rfl
  have c1 := (cell_of hblk 1).trans rfl
  have hh := held_w (main := K.main) (V := K.V e) h0 (some ⟨gb, 0, none⟩) (K.w e) HI
  unfold heldV ptrV at hh
  rw [hq] at hh
  unfold LW hdLva
  repeat (first | refine Walk.cx ?_ | (refine Walk.cReg ?_; simp only [z63]) | (refine Walk.oq ?_; try walk_nrm) | (refine Walk.un ?_; walk_nrm))
  refine Walk.loadS 179 (.tmp 8) (ho_of (by conv => lhs; whnf) (by kernel_rfl)) (by rfl) (by decide) rfl Hb 0 [.pointer (some ⟨gb, 0, none⟩), .pointer q] (.struct fsHe) rfl (fun j v hj => ?_) huHe rfl (by kernel_rfl) ?_
  · match j, hj with
    | 0, hj => cases hj; exact c0
    | 1, hj => cases hj; exact c1
  clear c0 c1 hblk
  walk_nrm
  repeat (first | refine Walk.cx ?_ | (refine Walk.cReg ?_; simp only [z63]) | (refine Walk.oq ?_; try walk_nrm) | (refine Walk.un ?_; walk_nrm))
  refine Walk.callW (Post := fun v w' => v = h0.sl ∧ (∀ b, b < (K.w e).heap.size → w'.heap[b]? = (K.w e).heap[b]?) ∧ (K.w e).heap.size ≤ w'.heap.size) ?_ (ho_of (by conv => lhs; whnf) (by kernel_rfl)) (by rfl) (by decide) rfl Try.func92 (by kernel_rfl) (by rfl) ?_
  · walk_nrm
    exact hh
  rintro v w2 ⟨rfl, hO, hS⟩
  obtain ⟨e2, m2⟩ := K.grow e hS hO
  have H2 := H.mv m2 ⟨hS, hO⟩
  have HI2 : HlI h0 w2 := HI.same fun b hb => hO b (HI.lt hb)
  have h64 := HI2.ok.len
  have hnum : NumA a h0.l w2 := by
    obtain ⟨a', c', e1, hn⟩ := HI2.slice
    rw [hsl] at e1
    cases e1
    exact hn
  have ht2 : K.tgt e2 = (K.s e2, X k0 h0.l) := by rw [m2.tgt, m2.s]; exact ht
  have hct := contains_w (main := K.main) (V := K.V e2) a h0.l ca p (by omega) (K.w e2) (by rw [m2.w]; exact hnum)
  have hfu := m2.fuel
  clear hh hO hS HI HI2 H ht hnum
  refine LW.to (l := fr :: l) m2 ?_
  rw [hsl]
  clear hsl m2 hq
  by_cases hmem : p ∈ h0.l
  · rw [decide_eq_true hmem] at hct
    have hkk := fun u' => hy e2 u' H2 hmem hfu ht2
    clear hk hy ht2 hX hmem H2
    generalize h0.l.length = n at *
    unfold LW at hkk ⊢
    walk_nrm
    repeat (first | refine Walk.cx ?_ | (refine Walk.cReg ?_; simp only [z63]) | (refine Walk.oq ?_; try walk_nrm) | (refine Walk.un ?_; walk_nrm))
    refine Walk.callV (x := .bool true) (W := K.w e2) ?_ (ho_of (by conv => lhs; whnf) (by kernel_rfl)) (by rfl) (by decide) rfl Try.func91 (by kernel_rfl) (by rfl) ?_
    · walk_nrm
      exact hct
    clear hct
    walk_nrm
    repeat (first | refine Walk.cx ?_ | (refine Walk.cReg ?_; simp only [z63]) | (refine Walk.oq ?_; try walk_nrm) | (refine Walk.un ?_; walk_nrm))
    refine slots_walk (F := fun u => G (hdLvb gb Hb sv p u) (fr :: (l ++ K.bot e2))) hkk ?_
    simp only [hdLvb]
    rfl
  · rw [decide_eq_false hmem] at hct
    have hkk := hk (.int .i64 6) e2 ⟨_, rfl, by rw [ht2, hX (hmem)]⟩
    clear hk hy ht2 hX hmem H2
    generalize h0.l.length = n at *
    unfold LW at hkk ⊢
    walk_nrm
    repeat (first | refine Walk.cx ?_ | (refine Walk.cReg ?_; simp only [z63]) | (refine Walk.oq ?_; try walk_nrm) | (refine Walk.un ?_; walk_nrm))
    refine Walk.callV (x := .bool false) (W := K.w e2) ?_ (ho_of (by conv => lhs; whnf) (by kernel_rfl)) (by rfl) (by decide) rfl Try.func91 (by kernel_rfl) (by rfl) ?_
    · walk_nrm
      exact hct
    clear hct
    walk_nrm
    repeat (first | refine Walk.cx ?_ | (refine Walk.cReg ?_; simp only [z63]) | (refine Walk.oq ?_; try walk_nrm) | (refine Walk.un ?_; walk_nrm))
    exact Walk.on1 rfl rfl Try.func63 rfl hkk
theorem Lv_loop (R : GateIn L gb) (K : Lg L sv) (p : Int) (hp : gOK p) (d1 : L.D) (d2 : Nat → List Int → L.D) (F : Int → Ans ⊕ L.D) (h1 : ∀ s, L.act s d1 = (s, if p ∈ (R.gt s).l then .inr (d2 (R.gt s).k (R.gt s).l) else F 6)) (h2 : ∀ s k l, L.act s (d2 k l) = if (R.gt s).k = k then (R.lay s (l.filter fun z => decide (z ≠ p)), F 0) else (s, .inr d1))
    (fr : Frame) (l : List Frame) (hpf : Plain fr) (hl : ∀ f ∈ l, Plain f) (hk : ∀ x e', ErrOut K F x e' → LW K.toLb e' (G (fr.finish x) (l ++ K.bot e'))) :
    ∀ (n : Nat) (e : K.E) (u : Nat → Value), K.fuel e < n → K.tgt e = (K.s e, .inr d1) → LW K.toLb e (G (hdLv gb sv p u) (fr :: (l ++ K.bot e))) := by
  intro n
  induction n with
  | zero => intro e u hf; omega
  | succ n ih =>
    intro e u hf ht
    refine Lv_a R K p d1 (fun k l => if p ∈ l then .inr (d2 k l) else F 6) h1 fr l hpf hl e u ht fun e1 Hb k0 h0 u1 H1 hf1 ht1 => ?_
    refine Lv_b R K p (fun k l => if p ∈ l then .inr (d2 k l) else F 6) F fr l hpf hl hk e1 Hb k0 h0 u1 H1 (fun hn => by rw [if_neg hn]) ht1 fun e2 u2 H2 hm hf2 ht2 => ?_
    have hc := Lv_c R K p hp d1 d2 F h2 fr l hpf hl hk e2 Hb k0 h0 H2 hm (by simpa only [if_pos hm] using ht2) (fun e3 u3 hf3 ht3 => ih e3 u3 (by omega) ht3) u2
    unfold tmLv kLv at hc
    unfold hdLvb
    exact hc
theorem leave_s (R : GateIn L gb) (K : Lg L sv) (e : K.E) (p : Int) (hp : gOK p) (d1 : L.D) (d2 : Nat → List Int → L.D) (F : Int → Ans ⊕ L.D) (h1 : ∀ s, L.act s d1 = (s, if p ∈ (R.gt s).l then .inr (d2 (R.gt s).k (R.gt s).l) else F 6)) (h2 : ∀ s k l, L.act s (d2 k l) = if (R.gt s).k = k then (R.lay s (l.filter fun z => decide (z ≠ p)), F 0) else (s, .inr d1)) (ht : K.tgt e = (K.s e, .inr d1)) :
    SCall K.toLb 63 #[.pointer (some ⟨gb, 0, none⟩), sv, .int .i64 p] e (ErrOut K F) := by
  intro fr l hpf hl hk
  have hr := ref_yes (main := K.main) (V := K.V e) gb p hp (K.w e)
  have hlp := fun u => Lv_loop R K p hp d1 d2 F h1 h2 fr l hpf hl hk _ e u (Nat.lt_succ_self _) ht
  clear hk h1 h2 ht hp
  unfold LW
  rw [enter_at _ Try.func63 code63_is]
  simp only [Try.ntmps63, ez, Nat.reduceAdd, Nat.reduceSub]
  repeat (first | refine Walk.cx ?_ | (refine Walk.cReg ?_; simp only [z63]) | (refine Walk.oq ?_; try walk_nrm) | (refine Walk.un ?_; walk_nrm))
  refine Walk.callV (x := .int .i64 0) (W := K.w e) ?_ (ho_of (by conv => lhs; whnf) (by kernel_rfl)) (by rfl) (by decide) rfl Try.func74 (by kernel_rfl) (by rfl) ?_
  · walk_nrm
    exact hr
  walk_nrm
  clear hr
  unfold LW at hlp
  repeat (first | refine Walk.cx ?_ | (refine Walk.cReg ?_; simp only [z63]) | (refine Walk.oq ?_; try walk_nrm) | (refine Walk.un ?_; walk_nrm))
  refine Walk.ctl rfl (fun w => stepG_loop) ?_
  refine slots_walk (F := fun u => G (hdLv gb sv p u) (fr :: (l ++ K.bot e))) hlp ?_
  simp only [hdLv]
  rfl
end
section
variable {main : Bool} {V : Nat → Option Wait}
theorem leave_no (g : Option Addr) (sv : Value) (p : Int) (hp : ¬ gOK p) (w : World) : CallV Try.prog main V 63 #[.pointer g, sv, .int .i64 p] w (.int .i64 1) w := by
  have hr := ref_no (main := main) (V := V) g p hp w
  clear hp
  refine callW_in Try.func63 code63_is fun fr cs => ?_
  simp only [Try.ntmps63, ez, Nat.reduceAdd, Nat.reduceSub]
  repeat (first | refine Walk.cx ?_ | (refine Walk.cReg ?_; simp only [z63]) | (refine Walk.oq ?_; try walk_nrm) | (refine Walk.un ?_; walk_nrm))
  refine Walk.callV (x := .int .i64 1) (W := w) ?_ (ho_of (by conv => lhs; whnf) (by kernel_rfl)) (by rfl) (by decide) rfl Try.func74 (by kernel_rfl) (by rfl) ?_
  · walk_nrm
    exact hr
  walk_nrm
  clear hr
  repeat (first | refine Walk.cx ?_ | (refine Walk.cReg ?_; simp only [z63]) | (refine Walk.oq ?_; try walk_nrm) | (refine Walk.un ?_; walk_nrm))
  exact Walk.ret1 rfl rfl Try.func63 rfl fun d => ⟨rfl, d, rfl⟩
end
end
section
noncomputable def kJn : List Item := [.code (.cond (.tmp 43 ) (.seq (.region 9 reg60_9 false) (.ret)) (.skip)), .inBlock 1, .inLoop (.block 1 (.seq (.region 4 reg60_4 false) (.seq (.seq (.region 5 reg60_5 false) (.cond (.tmp 25 ) (.seq (.region 6 reg60_6 false) (.ret)) (.skip))) (.seq (.region 7 reg60_7 false) (.seq (.region 8 reg60_8 true) (.cond (.tmp 43 ) (.seq (.region 9 reg60_9 false) (.ret)) (.skip))))))), .inBlock 0]
noncomputable def hdJn (gb : Nat) (sv : Value) (p at' : Int) (u : Nat → Value) : Frame :=
  (base 60).at { tmps := #[.pointer (some ⟨gb, 0, none⟩), sv, .int .i64 p, .int .i64 at', u 4, u 5, u 6, u 7, u 8, u 9, u 10, u 11, u 12, u 13, u 14, u 15, u 16, u 17, u 18, u 19, u 20, u 21, u 22, u 23, u 24, u 25, u 26, u 27, u 28, u 29, u 30, u 31, u 32, u 33, u 34, u 35, u 36, u 37, u 38, u 39, u 40, u 41, u 42, u 43], defers := [] } [.code (.block 1 (.seq (.region 4 reg60_4 false) (.seq (.seq (.region 5 reg60_5 false) (.cond (.tmp 25 ) (.seq (.region 6 reg60_6 false) (.ret)) (.skip))) (.seq (.region 7 reg60_7 false) (.seq (.region 8 reg60_8 true) (.cond (.tmp 43 ) (.seq (.region 9 reg60_9 false) (.ret)) (.skip))))))), .inLoop (.block 1 (.seq (.region 4 reg60_4 false) (.seq (.seq (.region 5 reg60_5 false) (.cond (.tmp 25 ) (.seq (.region 6 reg60_6 false) (.ret)) (.skip))) (.seq (.region 7 reg60_7 false) (.seq (.region 8 reg60_8 true) (.cond (.tmp 43 ) (.seq (.region 9 reg60_9 false) (.ret)) (.skip))))))), .inBlock 0]
noncomputable def hdJna (gb Hb : Nat) (sv : Value) (p at' : Int) (u : Nat → Value) : Frame :=
  (base 60).at { tmps := #[.pointer (some ⟨gb, 0, none⟩), sv, .int .i64 p, .int .i64 at', u 4, u 5, u 6, u 7, u 8, u 9, .pointer (some ⟨Hb, 0, none⟩), u 11, u 12, u 13, u 14, u 15, u 16, u 17, u 18, u 19, u 20, u 21, u 22, u 23, u 24, u 25, u 26, u 27, u 28, u 29, u 30, u 31, u 32, u 33, u 34, u 35, u 36, u 37, u 38, u 39, u 40, u 41, u 42, u 43], defers := [] } [.code (.seq (.seq (.region 5 reg60_5 false) (.cond (.tmp 25 ) (.seq (.region 6 reg60_6 false) (.ret)) (.skip))) (.seq (.region 7 reg60_7 false) (.seq (.region 8 reg60_8 true) (.cond (.tmp 43 ) (.seq (.region 9 reg60_9 false) (.ret)) (.skip))))), .inBlock 1, .inLoop (.block 1 (.seq (.region 4 reg60_4 false) (.seq (.seq (.region 5 reg60_5 false) (.cond (.tmp 25 ) (.seq (.region 6 reg60_6 false) (.ret)) (.skip))) (.seq (.region 7 reg60_7 false) (.seq (.region 8 reg60_8 true) (.cond (.tmp 43 ) (.seq (.region 9 reg60_9 false) (.ret)) (.skip))))))), .inBlock 0]
noncomputable def hdJnb (gb Hb : Nat) (sv : Value) (p at' : Int) (u : Nat → Value) : Frame :=
  (base 60).at { tmps := #[.pointer (some ⟨gb, 0, none⟩), sv, .int .i64 p, .int .i64 at', u 4, u 5, u 6, u 7, u 8, u 9, .pointer (some ⟨Hb, 0, none⟩), u 11, u 12, u 13, u 14, u 15, u 16, u 17, u 18, u 19, u 20, u 21, u 22, u 23, u 24, u 25, u 26, u 27, u 28, u 29, u 30, u 31, u 32, u 33, u 34, u 35, u 36, u 37, u 38, u 39, u 40, u 41, u 42, u 43], defers := [] } [.code (.seq (.region 7 reg60_7 false) (.seq (.region 8 reg60_8 true) (.cond (.tmp 43 ) (.seq (.region 9 reg60_9 false) (.ret)) (.skip)))), .inBlock 1, .inLoop (.block 1 (.seq (.region 4 reg60_4 false) (.seq (.seq (.region 5 reg60_5 false) (.cond (.tmp 25 ) (.seq (.region 6 reg60_6 false) (.ret)) (.skip))) (.seq (.region 7 reg60_7 false) (.seq (.region 8 reg60_8 true) (.cond (.tmp 43 ) (.seq (.region 9 reg60_9 false) (.ret)) (.skip))))))), .inBlock 0]
section
variable {L : La} {gb : Nat} {sv : Value}
theorem Jn_c (R : GateIn L gb) (K : Lg L sv) (p at' : Int) (hp : gOK p) (d1 : L.D) (d3 : Nat → List Int → L.D) (F : Int → Ans ⊕ L.D) (h2 : ∀ s k l, L.act s (d3 k l) = if (R.gt s).k = k then (R.lay s (l ++ [p]), F 0) else (s, .inr d1))
    (fr : Frame) (l : List Frame) (hpf : Plain fr) (hl : ∀ f ∈ l, Plain f) (hk : ∀ x e', ErrOut K F x e' → LW K.toLb e' (G (fr.finish x) (l ++ K.bot e')))
    (e : K.E) (Hb k0 : Nat) (h0 : Hl) (H : HdI R K e Hb k0 h0) (hpm : p ∉ h0.l) (ht : K.tgt e = (K.s e, .inr (d3 k0 h0.l)))
    (ih : ∀ e' u', K.fuel e' < K.fuel e → K.tgt e' = (K.s e', .inr d1) → LW K.toLb e' (G (hdJn gb sv p at' u') (fr :: (l ++ K.bot e')))) (u : Nat → Value) :
    LW K.toLb e (G ((base 60).at ⟨tmJn gb Hb sv p at' u, []⟩ (.code (.region 8 reg60_8 true) :: kJn)) (fr :: (l ++ K.bot e))) := by
  have HI := (R.I (K.inv e)).held h0 (List.mem_of_getElem? H.top)
  obtain ⟨a, ca, hsl, _⟩ := HI.slice
  obtain ⟨l', hl'⟩ : ∃ l', (h0.l ++ [p]) = l' := ⟨_, rfl⟩
  have hok' : okL l' := hl' ▸ HI.ok.snoc hpm hp.1 hp.2
  have hlt := (K.mineA e Hb H.own).2.2
  have h2' := fun s => h2 s k0 h0.l
  rw [hl'] at h2'
  obtain ⟨q, hq⟩ : ∃ q, h0.p.map (fun b => (⟨b, 0, none⟩ : Addr)) = q := ⟨_, rfl⟩
  have hblk := H.blk
  rw [hq] at hblk
  have hheld : ∀ (W : World), HlI h0 W → CallW Try.prog K.main (K.V e) 92 #[.agg #[.pointer (some ⟨gb, 0, none⟩), .pointer q]] W (fun v w' => v = h0.sl ∧ Gr W w') := fun W hW => by
    have hh := held_w (main := K.main) (V := K.V e) h0 (some ⟨gb, 0, none⟩) W hW
    unfold heldV ptrV at hh
    rw [hq] at hh
    exact fun fr cs => (hh fr cs).mono fun gr w' ⟨v, ⟨x1, x2, x3⟩, x4⟩ => ⟨v, ⟨x1, x3, x2⟩, x4⟩
  have hst : ∀ W, Gr (K.w e) W → HlI h0 W := fun W hg => HI.same fun b hb => hg.2 b (HI.lt hb)
  have hreg := tmJn_reg (sv := sv) K.toLb e gb Hb p at' q h0.sl (fun v w => ∃ g c, v = .slice (some ⟨g, 0, none⟩) l'.length c ∧ (K.w e).heap.size ≤ g ∧ g < w.heap.size ∧ w.ownsRow 0 3 1 v l'.length (l'.map fun z => .int .i64 z))
    (fun x e' => K.fuel e' < K.fuel e ∧ ((x = .bool true ∧ K.tgt e' = (K.s e', F 0)) ∨ (x = .bool false ∧ K.tgt e' = (K.s e', .inr d1)))) kJn (fr :: l) (plain_cons hpf hl)
    (fun W hg => ⟨(cell_of ((hg.2 Hb hlt).trans hblk) 0).trans rfl, (cell_of ((hg.2 Hb hlt).trans hblk) 1).trans rfl⟩)
    (fun W hg => hheld W (hst W hg))
    (fun W hg => by
      have hw := with_w (main := K.main) (V := K.V e) a ca h0.l p HI.ok.len W (by rw [← hsl]; exact (hst W hg).row) (fun b hb => K.newA e b (Nat.le_trans hg.1 hb))
      rw [hl', ← hsl] at hw
      exact fun fr cs => (hw fr cs).mono fun gr w' ⟨v, ⟨g, c, x1, x2, x3, x4, x5, x6⟩, x7⟩ => ⟨v, ⟨⟨g, c, x1, Nat.le_trans hg.1 x2, x3, x4⟩, x6, x5⟩, x7⟩)
    (fun v W W' ⟨g, c, x1, x2, x3, x4⟩ hg => ⟨g, c, x1, x2, Nat.lt_of_lt_of_le x3 hg.1, row_same x4 fun b hb => hg.2 b (x4.lt b hb).2⟩)
    (fun v W hg ⟨g, c, x1, x2, x3, x4⟩ => by
      obtain ⟨e2, m2⟩ := K.grow e hg.1 hg.2
      have hb := box_cas R K e2 (d3 k0 h0.l) k0 h0 (by rw [m2.gh]; exact H.top) (some ⟨g, 0, none⟩) c l' hok' (by rw [m2.w]; subst x1; exact x4) (fun b hb => by cases hb; exact m2.new x2 x3) (by rw [m2.tgt, m2.s]; exact ht)
      unfold heldV ptrV at hb
      rw [hq] at hb
      subst x1
      refine ⟨e2, m2, hb.mono ?_⟩
      rintro x e3 ⟨s, hc⟩
      refine ⟨by rw [← m2.fuel]; exact hc.fuel, ?_⟩
      rcases hc.out with ⟨y1, y2, y3⟩ | ⟨y1, y2, y3⟩
      · exact .inl ⟨y2, by rw [hc.tgt, h2' s, if_pos y1, y3]⟩
      · exact .inr ⟨y2, by rw [hc.tgt, h2' s, if_neg y1, y3]⟩)
    (fun u x e3 hq hx => by
      obtain ⟨hf, hq⟩ := hq
      rcases hq with ⟨rfl, ht3⟩ | ⟨rfl, ht3⟩
      · have hkk := hk (.int .i64 0) e3 ⟨0, rfl, ht3⟩
        clear hk ih h2 h2' hheld hst ht3
        unfold LW at hkk ⊢
        simp only [tmJn, kJn, hx]
        repeat (first | refine Walk.cx ?_ | (refine Walk.cReg ?_; simp only [z60]) | (refine Walk.oq ?_; try walk_nrm) | (refine Walk.un ?_; walk_nrm))
        exact Walk.on1 rfl rfl Try.func60 rfl hkk
      · have hih := fun u' => ih e3 u' hf ht3
        clear hk ih h2 h2' hheld hst ht3
        unfold LW at hih ⊢
        simp only [tmJn, kJn, hx]
        repeat (first | refine Walk.cx ?_ | (refine Walk.cReg ?_; simp only [z60]) | (refine Walk.oq ?_; try walk_nrm) | (refine Walk.un ?_; walk_nrm))
        refine Walk.ctl rfl (fun w => stepG_inLoop) ?_
        refine slots_walk (F := fun u => G (hdJn gb sv p at' u) (fr :: (l ++ K.bot e3))) hih ?_
        simp only [hdJn]
        rfl)
  exact hreg u
end
end
section
section
variable {L : La} {gb : Nat} {sv : Value}
theorem Jn_a (R : GateIn L gb) (K : Lg L sv) (p at' : Int) (d1 : L.D) (X : Nat → List Int → Ans ⊕ L.D) (h1 : ∀ s, L.act s d1 = (s, X (R.gt s).k (R.gt s).l))
    (fr : Frame) (l : List Frame) (hpf : Plain fr) (hl : ∀ f ∈ l, Plain f) (e : K.E) (u : Nat → Value) (ht : K.tgt e = (K.s e, .inr d1))
    (hk : ∀ e' Hb k0 h0 u', HdI R K e' Hb k0 h0 → K.fuel e' < K.fuel e → K.tgt e' = (K.s e', X k0 h0.l) → LW K.toLb e' (G (hdJna gb Hb sv p at' u') (fr :: (l ++ K.bot e')))) :
    LW K.toLb e (G (hdJn gb sv p at' u) (fr :: (l ++ K.bot e))) := by
  have hp1 := fun w => run_eql_ptr (P := Try.prog) 74 undGate (some ⟨gb, 0, none⟩) w
  have hp2 := fun w es => ev_eql_ptr (P := Try.prog) 74 undGate (some ⟨gb, 0, none⟩) w es
  simp only [Option.isNone_some] at hp1
  have w1 := box_load R K e d1 ht
  unfold LW hdJn
  repeat (first | refine Walk.cx ?_ | (refine Walk.cReg ?_; simp only [z60]) | (refine Walk.oq ?_; try walk_nrm) | (refine Walk.un ?_; walk_nrm))
  refine LW.callS (K := K.toLb) (e := e) (l := fr :: l) (f := 90) (Q := fun v e' => Aft K.toLb e d1 e' ∧ ∃ h, (R.gh (K.gh e'))[(R.gt (K.s e')).k]? = some h ∧ h.l = (R.gt (K.s e')).l ∧ v = heldV (.pointer (some ⟨gb, 0, none⟩)) h.p) ?_ (ho_of (by conv => lhs; whnf) (by kernel_rfl)) (by rfl) (by decide) rfl Try.func90 (by kernel_rfl) (by rfl) ⟨rfl, rfl, _, Try.func60⟩ (plain_cons hpf hl) ?_
  · walk_nrm
    exact w1
  rintro x e1 ⟨ha, h0, hy, hlh, rfl⟩
  have c1 := heap_alloc_new (K.w e1) (.cells #[.pointer none, .pointer none] 179)
  have s1 : ((K.w e1).alloc (.cells #[.pointer none, .pointer none] 179)).heap.size = (K.w e1).heap.size + 1 := by simp
  have o1 : ∀ b, b < (K.w e1).heap.size → ((K.w e1).alloc (.cells #[.pointer none, .pointer none] 179)).heap[b]? = (K.w e1).heap[b]? := fun b hb => heap_new_lt _ _ hb
  obtain ⟨e2, m2⟩ := K.grow e1 (w' := (K.w e1).alloc (.cells #[.pointer none, .pointer none] 179)) (by omega) o1
  unfold LW
  walk_nrm
  repeat (first | refine Walk.cx ?_ | (refine Walk.cReg ?_; simp only [z60]) | (refine Walk.oq ?_; try walk_nrm) | (refine Walk.un ?_; walk_nrm))
  (refine Walk.oa ?_; try walk_nrm)
  generalize hHb : (K.w e1).heap.size = Hb at *
  generalize (K.w e1).alloc (.cells #[.pointer none, .pointer none] 179) = w2 at *
  have hm2 : K.mine e2 Hb := m2.new (by omega) (by omega)
  have d2 : (K.w e2).heap[Hb]? = some (.cells #[.pointer none, .pointer none] 179) := by rw [m2.w]; exact c1
  have hap := (K.mineA e2 Hb hm2).1
  obtain ⟨e3, m3⟩ := K.own e2 (w' := (K.w e2).setRow Hb #[.pointer (some ⟨gb, 0, none⟩), .pointer (h0.p.map fun b => (⟨b, 0, none⟩ : Addr))]) (by rw [setRow_size]; exact Nat.le_refl _) (fun b hb hm => setRow_other _ _ fun e => hm (e ▸ hm2))
  have d3 := setRow_self (cells := #[.pointer (some ⟨gb, 0, none⟩), .pointer (h0.p.map fun b => (⟨b, 0, none⟩ : Addr))]) d2
  have hI : HdI R K e3 Hb (R.gt (K.s e1)).k h0 := ⟨(m3.mine Hb).2 (.inl hm2), by rw [m3.w]; exact d3, by rw [m3.gh, m2.gh]; exact hy⟩
  have ht3 : K.tgt e3 = (K.s e3, X (R.gt (K.s e1)).k h0.l) := by rw [m3.tgt, m3.s, m2.tgt, m2.s, ha.tgt, h1, hlh]
  have hf3 : K.fuel e3 < K.fuel e := by rw [m3.fuel, m2.fuel]; exact ha.fuel
  have hkk := fun u' => hk e3 Hb _ h0 u' hI hf3 ht3
  clear hk ht3 hI hf3 hy hlh w1 h1 ha c1 s1 o1 d3
  refine LW.to (l := fr :: l) m2 ?_
  unfold heldV ptrV
  obtain ⟨q, hq⟩ : ∃ q, h0.p.map (fun b => (⟨b, 0, none⟩ : Addr)) = q := ⟨_, rfl⟩
  rw [hq] at m3 ⊢
  unfold LW
  repeat (first | refine Walk.cx ?_ | (refine Walk.cReg ?_; simp only [z60]) | (refine Walk.oq ?_; try walk_nrm) | (refine Walk.un ?_; walk_nrm))
  refine Walk.storeS 179 (.tmp 10) (.tmp 21) (ho_of (by conv => lhs; whnf) (by kernel_rfl)) (by rfl) (by decide) rfl Hb #[.pointer (some ⟨gb, 0, none⟩), .pointer q] _ 179 rfl rfl d2 (by kernel_rfl) (by rfl) (by simp [Value.oneCell']) hap ?_
  refine LW.to (l := fr :: l) m3 ?_
  clear m2 m3 hm2 d2 hap
  unfold LW at hkk ⊢
  walk_nrm
  refine Walk.c rfl ?_
  refine slots_walk (F := fun u => G (hdJna gb Hb sv p at' u) (fr :: (l ++ K.bot e3))) hkk ?_
  simp only [hdJna]
  rfl
theorem Jn_b (R : GateIn L gb) (K : Lg L sv) (p at' : Int) (X : Nat → List Int → Ans ⊕ L.D) (F : Int → Ans ⊕ L.D)
    (fr : Frame) (l : List Frame) (hpf : Plain fr) (hl : ∀ f ∈ l, Plain f) (hk : ∀ x e', ErrOut K F x e' → LW K.toLb e' (G (fr.finish x) (l ++ K.bot e'))) (e : K.E) (Hb k0 : Nat) (h0 : Hl) (u : Nat → Value) (H : HdI R K e Hb k0 h0) (hX : ¬ (p ∉ h0.l) → X k0 h0.l = F 7) (ht : K.tgt e = (K.s e, X k0 h0.l))
    (hy : ∀ e' u', HdI R K e' Hb k0 h0 → p ∉ h0.l → K.fuel e' = K.fuel e → K.tgt e' = (K.s e', X k0 h0.l) → LW K.toLb e' (G (hdJnb gb Hb sv p at' u') (fr :: (l ++ K.bot e')))) :
    LW K.toLb e (G (hdJna gb Hb sv p at' u) (fr :: (l ++ K.bot e))) := by
  have HI := (R.I (K.inv e)).held h0 (List.mem_of_getElem? H.top)
  obtain ⟨a, ca, hsl, _⟩ := HI.slice
  obtain ⟨fsHe, huHe⟩ := undHe
  obtain ⟨q, hq⟩ : ∃ q, h0.p.map (fun b => (⟨b, 0, none⟩ : Addr)) = q := ⟨_, rfl⟩
  have hblk := H.blk
  rw [hq] at hblk
  have c0 := (cell_of hblk 0).trans rfl
  have c1 := (cell_of hblk 1).trans rfl
  have hh := held_w (main := K.main) (V := K.V e) h0 (some ⟨gb, 0, none⟩) (K.w e) HI
  unfold heldV ptrV at hh
  rw [hq] at hh
  unfold LW hdJna
  repeat (first | refine Walk.cx ?_ | (refine Walk.cReg ?_; simp only [z60]) | (refine Walk.oq ?_; try walk_nrm) | (refine Walk.un ?_; walk_nrm))
  refine Walk.loadS 179 (.tmp 10) (ho_of (by conv => lhs; whnf) (by kernel_rfl)) (by rfl) (by decide) rfl Hb 0 [.pointer (some ⟨gb, 0, none⟩), .pointer q] (.struct fsHe) rfl (fun j v hj => ?_) huHe rfl (by kernel_rfl) ?_
  · match j, hj with
    | 0, hj => cases hj; exact c0
    | 1, hj => cases hj; exact c1
  clear c0 c1 hblk
  walk_nrm
  repeat (first | refine Walk.cx ?_ | (refine Walk.cReg ?_; simp only [z60]) | (refine Walk.oq ?_; try walk_nrm) | (refine Walk.un ?_; walk_nrm))
  refine Walk.callW (Post := fun v w' => v = h0.sl ∧ (∀ b, b < (K.w e).heap.size → w'.heap[b]? = (K.w e).heap[b]?) ∧ (K.w e).heap.size ≤ w'.heap.size) ?_ (ho_of (by conv => lhs; whnf) (by kernel_rfl)) (by rfl) (by decide) rfl Try.func92 (by kernel_rfl) (by rfl) ?_
  · walk_nrm
    exact hh
  rintro v w2 ⟨rfl, hO, hS⟩
  obtain ⟨e2, m2⟩ := K.grow e hS hO
  have H2 := H.mv m2 ⟨hS, hO⟩
  have HI2 : HlI h0 w2 := HI.same fun b hb => hO b (HI.lt hb)
  have h64 := HI2.ok.len
  have hnum : NumA a h0.l w2 := by
    obtain ⟨a', c', e1, hn⟩ := HI2.slice
    rw [hsl] at e1
    cases e1
    exact hn
  have ht2 : K.tgt e2 = (K.s e2, X k0 h0.l) := by rw [m2.tgt, m2.s]; exact ht
  have hct := contains_w (main := K.main) (V := K.V e2) a h0.l ca p (by omega) (K.w e2) (by rw [m2.w]; exact hnum)
  have hfu := m2.fuel
  clear hh hO hS HI HI2 H ht hnum
  refine LW.to (l := fr :: l) m2 ?_
  rw [hsl]
  clear hsl m2 hq
  by_cases hmem : p ∈ h0.l
  · rw [decide_eq_true hmem] at hct
    have hkk := hk (.int .i64 7) e2 ⟨_, rfl, by rw [ht2, hX (fun h => h hmem)]⟩
    clear hk hy ht2 hX hmem H2
    generalize h0.l.length = n at *
    unfold LW at hkk ⊢
    walk_nrm
    repeat (first | refine Walk.cx ?_ | (refine Walk.cReg ?_; simp only [z60]) | (refine Walk.oq ?_; try walk_nrm) | (refine Walk.un ?_; walk_nrm))
    refine Walk.callV (x := .bool true) (W := K.w e2) ?_ (ho_of (by conv => lhs; whnf) (by kernel_rfl)) (by rfl) (by decide) rfl Try.func91 (by kernel_rfl) (by rfl) ?_
    · walk_nrm
      exact hct
    clear hct
    walk_nrm
    repeat (first | refine Walk.cx ?_ | (refine Walk.cReg ?_; simp only [z60]) | (refine Walk.oq ?_; try walk_nrm) | (refine Walk.un ?_; walk_nrm))
    exact Walk.on1 rfl rfl Try.func60 rfl hkk
  · rw [decide_eq_false hmem] at hct
    have hkk := fun u' => hy e2 u' H2 hmem hfu ht2
    clear hk hy ht2 hX hmem H2
    generalize h0.l.length = n at *
    unfold LW at hkk ⊢
    walk_nrm
    repeat (first | refine Walk.cx ?_ | (refine Walk.cReg ?_; simp only [z60]) | (refine Walk.oq ?_; try walk_nrm) | (refine Walk.un ?_; walk_nrm))
    refine Walk.callV (x := .bool false) (W := K.w e2) ?_ (ho_of (by conv => lhs; whnf) (by kernel_rfl)) (by rfl) (by decide) rfl Try.func91 (by kernel_rfl) (by rfl) ?_
    · walk_nrm
      exact hct
    clear hct
    walk_nrm
    refine Walk.c rfl ?_
    refine Walk.c rfl ?_
    refine Walk.c rfl ?_
    refine slots_walk (F := fun u => G (hdJnb gb Hb sv p at' u) (fr :: (l ++ K.bot e2))) hkk ?_
    simp only [hdJnb]
    rfl
theorem Jn_n (R : GateIn L gb) (K : Lg L sv) (p at' : Int) (hp : gOK p) (d2 d3 : Nat → List Int → L.D) (h2 : ∀ s k l, L.act s (d2 k l) = (R.put s p.toNat at', .inr (d3 k l)))
    (fr : Frame) (l : List Frame) (hpf : Plain fr) (hl : ∀ f ∈ l, Plain f) (e : K.E) (Hb k0 : Nat) (h0 : Hl) (u : Nat → Value) (H : HdI R K e Hb k0 h0) (ht : K.tgt e = (K.s e, .inr (d2 k0 h0.l)))
    (hy : ∀ e' u', HdI R K e' Hb k0 h0 → K.fuel e' ≤ K.fuel e → K.tgt e' = (K.s e', .inr (d3 k0 h0.l)) → LW K.toLb e' (G ((base 60).at ⟨tmJn gb Hb sv p at' u', []⟩ (.code (.region 8 reg60_8 true) :: kJn)) (fr :: (l ++ K.bot e')))) :
    LW K.toLb e (G (hdJnb gb Hb sv p at' u) (fr :: (l ++ K.bot e))) := by
  have hp1 := fun w => run_eql_ptr (P := Try.prog) 74 undGate (some ⟨gb, 0, none⟩) w
  have hp2 := fun w es => ev_eql_ptr (P := Try.prog) 74 undGate (some ⟨gb, 0, none⟩) w es
  simp only [Option.isNone_some] at hp1
  obtain ⟨j, hj⟩ : ∃ j : Nat, p = (j : Int) := ⟨p.toNat, by have := hp.1; omega⟩
  have hj64 : j < 64 := by have := hp.2; omega
  subst hj
  have hjt : (j : Int).toNat = j := by omega
  rw [hjt] at h2
  have w1 := R.store_n K j hj64 e (d2 k0 h0.l) at' ht
  have hx1 := fun w => (ix_num gb j hj64 w #[]).1
  have hx2 := fun w es => (ix_num gb j hj64 w es).2
  have hkk := fun (e1 : K.E) (s : L.Sg) (hw : Wrote K e (d2 k0 h0.l) s (R.put s j at') e1) u' => hy e1 u' ⟨(hw.mine Hb H.own).1, by rw [(hw.mine Hb H.own).2]; exact H.blk, R.keep hw.le H.top⟩ (Nat.le_of_lt hw.fuel) (by rw [hw.tgt, h2, hw.s])
  clear hy h2 ht H hp
  unfold LW hdJnb
  repeat (first | refine Walk.cx ?_ | (refine Walk.cReg ?_; simp only [z60]) | (refine Walk.oq ?_; try walk_nrm) | (refine Walk.un ?_; walk_nrm))
  refine LW.callS (K := K.toLb) (e := e) (l := fr :: l) (f := 69) (Q := fun _ e' => ∃ s : L.Sg, Wrote K e (d2 k0 h0.l) s (R.put s j at') e') ?_ (ho_of (by conv => lhs; whnf) (by kernel_rfl)) (by rfl) (by decide) rfl Try.func69 (by kernel_rfl) (by rfl) ⟨rfl, rfl, _, Try.func60⟩ (plain_cons hpf hl) ?_
  · walk_nrm
    exact w1
  rintro x e1 ⟨s1, hs1⟩
  have hkk := fun u' => hkk e1 s1 hs1 u'
  clear w1 hs1
  unfold LW at hkk ⊢
  walk_nrm
  repeat (first | refine Walk.cx ?_ | (refine Walk.cReg ?_; simp only [z60]) | (refine Walk.oq ?_; try walk_nrm) | (refine Walk.un ?_; walk_nrm))
  refine slots_walk (F := fun u => G ((base 60).at ⟨tmJn gb Hb sv j at' u, []⟩ (.code (.region 8 reg60_8 true) :: kJn)) (fr :: (l ++ K.bot e1))) hkk ?_
  simp only [tmJn, kJn]
  rfl
theorem Jn_loop (R : GateIn L gb) (K : Lg L sv) (p at' : Int) (hp : gOK p) (d1 : L.D) (d2 d3 : Nat → List Int → L.D) (F : Int → Ans ⊕ L.D) (h1 : ∀ s, L.act s d1 = (s, if p ∈ (R.gt s).l then F 7 else .inr (d2 (R.gt s).k (R.gt s).l))) (h2 : ∀ s k l, L.act s (d2 k l) = (R.put s p.toNat at', .inr (d3 k l))) (h3 : ∀ s k l, L.act s (d3 k l) = if (R.gt s).k = k then (R.lay s (l ++ [p]), F 0) else (s, .inr d1))
    (fr : Frame) (l : List Frame) (hpf : Plain fr) (hl : ∀ f ∈ l, Plain f) (hk : ∀ x e', ErrOut K F x e' → LW K.toLb e' (G (fr.finish x) (l ++ K.bot e'))) :
    ∀ (n : Nat) (e : K.E) (u : Nat → Value), K.fuel e < n → K.tgt e = (K.s e, .inr d1) → LW K.toLb e (G (hdJn gb sv p at' u) (fr :: (l ++ K.bot e))) := by
  intro n
  induction n with
  | zero => intro e u hf; omega
  | succ n ih =>
    intro e u hf ht
    refine Jn_a R K p at' d1 (fun k l => if p ∈ l then F 7 else .inr (d2 k l)) h1 fr l hpf hl e u ht fun e1 Hb k0 h0 u1 H1 hf1 ht1 => ?_
    refine Jn_b R K p at' (fun k l => if p ∈ l then F 7 else .inr (d2 k l)) F fr l hpf hl hk e1 Hb k0 h0 u1 H1 (fun hn => by rw [if_pos (Classical.not_not.1 hn)]) ht1 fun e2 u2 H2 hm hf2 ht2 => ?_
    exact Jn_n R K p at' hp d2 d3 h2 fr l hpf hl e2 Hb k0 h0 u2 H2 (by simpa only [if_neg hm] using ht2) (fun e4 u4 H4 hf4 ht4 => Jn_c R K p at' hp d1 d3 F h3 fr l hpf hl hk e4 Hb k0 h0 H4 hm ht4 (fun e3 u3 hf3 ht3 => ih e3 u3 (by omega) ht3) u4)
theorem join_s (R : GateIn L gb) (K : Lg L sv) (e : K.E) (p at' : Int) (hp : gOK p) (d1 : L.D) (d2 d3 : Nat → List Int → L.D) (F : Int → Ans ⊕ L.D) (h1 : ∀ s, L.act s d1 = (s, if p ∈ (R.gt s).l then F 7 else .inr (d2 (R.gt s).k (R.gt s).l))) (h2 : ∀ s k l, L.act s (d2 k l) = (R.put s p.toNat at', .inr (d3 k l))) (h3 : ∀ s k l, L.act s (d3 k l) = if (R.gt s).k = k then (R.lay s (l ++ [p]), F 0) else (s, .inr d1)) (ht : K.tgt e = (K.s e, .inr d1)) :
    SCall K.toLb 60 #[.pointer (some ⟨gb, 0, none⟩), sv, .int .i64 p, .int .i64 at'] e (ErrOut K F) := by
  intro fr l hpf hl hk
  have hr := ref_yes (main := K.main) (V := K.V e) gb p hp (K.w e)
  have hlp := fun u => Jn_loop R K p at' hp d1 d2 d3 F h1 h2 h3 fr l hpf hl hk _ e u (Nat.lt_succ_self _) ht
  clear hk h1 h2 h3 ht hp
  unfold LW
  rw [enter_at _ Try.func60 code60_is]
  simp only [Try.ntmps60, ez, Nat.reduceAdd, Nat.reduceSub]
  repeat (first | refine Walk.cx ?_ | (refine Walk.cReg ?_; simp only [z60]) | (refine Walk.oq ?_; try walk_nrm) | (refine Walk.un ?_; walk_nrm))
  refine Walk.callV (x := .int .i64 0) (W := K.w e) ?_ (ho_of (by conv => lhs; whnf) (by kernel_rfl)) (by rfl) (by decide) rfl Try.func74 (by kernel_rfl) (by rfl) ?_
  · walk_nrm
    exact hr
  walk_nrm
  clear hr
  unfold LW at hlp
  repeat (first | refine Walk.cx ?_ | (refine Walk.cReg ?_; simp only [z60]) | (refine Walk.oq ?_; try walk_nrm) | (refine Walk.un ?_; walk_nrm))
  refine Walk.ctl rfl (fun w => stepG_loop) ?_
  refine slots_walk (F := fun u => G (hdJn gb sv p at' u) (fr :: (l ++ K.bot e))) hlp ?_
  simp only [hdJn]
  rfl
end
section
variable {main : Bool} {V : Nat → Option Wait}
theorem join_no (g : Option Addr) (sv : Value) (p at' : Int) (hp : ¬ gOK p) (w : World) : CallV Try.prog main V 60 #[.pointer g, sv, .int .i64 p, .int .i64 at'] w (.int .i64 1) w := by
  have hr := ref_no (main := main) (V := V) g p hp w
  clear hp
  refine callW_in Try.func60 code60_is fun fr cs => ?_
  simp only [Try.ntmps60, ez, Nat.reduceAdd, Nat.reduceSub]
  repeat (first | refine Walk.cx ?_ | (refine Walk.cReg ?_; simp only [z60]) | (refine Walk.oq ?_; try walk_nrm) | (refine Walk.un ?_; walk_nrm))
  refine Walk.callV (x := .int .i64 1) (W := w) ?_ (ho_of (by conv => lhs; whnf) (by kernel_rfl)) (by rfl) (by decide) rfl Try.func74 (by kernel_rfl) (by rfl) ?_
  · walk_nrm
    exact hr
  walk_nrm
  clear hr
  repeat (first | refine Walk.cx ?_ | (refine Walk.cReg ?_; simp only [z60]) | (refine Walk.oq ?_; try walk_nrm) | (refine Walk.un ?_; walk_nrm))
  exact Walk.ret1 rfl rfl Try.func60 rfl fun d => ⟨rfl, d, rfl⟩
end
end
end Go.Proofs.Ytgfajibjedfkdaa
