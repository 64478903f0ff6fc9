/- Part 19. -/
import Derived.Test.YtgfajibjedfkdaaJK4
import Derived.Test.YtgfajibjedfkdaaJK18
set_option linter.unusedSimpArgs false
set_option linter.unusedVariables false
set_option linter.unusedVariables false
set_option maxHeartbeats 8000000
set_option maxRecDepth 100000
namespace Go.Proofs.Ytgfajibjedfkdaa
open Go.Conc Go.RowKit Go.Relay
open Go.ConcN (upd upd_ne upd_same)
section
noncomputable def reg122_0 := rg Try.f122.body [0]
noncomputable def reg122_1 := rg Try.f122.body [1, 0]
theorem z122 : List.range reg122_0.size = [0] ∧ List.range reg122_1.size = [0, 1, 2, 3] := by refine ⟨?_, ?_⟩ <;> kernel_rfl
theorem code122_is : Try.f122.body = some (.seq (.region 0 reg122_0 false) (.seq (.region 1 reg122_1 false) (.ret))) := by kernel_rfl
noncomputable def reg93_0 := rg Try.f93.body [0]
noncomputable def reg93_1 := rg Try.f93.body [1, 0, 0]
noncomputable def reg93_2 := rg Try.f93.body [1, 0, 1, 0, 0]
noncomputable def reg93_3 := rg Try.f93.body [1, 1, 0]
noncomputable def reg93_4 := rg Try.f93.body [1, 1, 1, 0]
theorem size93_4 : reg93_4.size = 15 := by kernel_rfl
theorem z93 : List.range reg93_0.size = [0, 1] ∧ List.range reg93_1.size = [0, 1] ∧ List.range reg93_2.size = [0] ∧ List.range reg93_3.size = [0, 1] ∧ List.range reg93_4.size = [0, 1, 2, 3, 4, 5, 6, 7, 8, 9, 10, 11, 12, 13, 14] := by refine ⟨?_, ?_, ?_, ?_, ?_⟩ <;> kernel_rfl
theorem code93_is : Try.f93.body = some (.seq (.region 0 reg93_0 false) (.seq (.seq (.region 1 reg93_1 false) (.cond (.tmp 10 ) (.seq (.region 2 reg93_2 false) (.ret)) (.skip))) (.seq (.region 3 reg93_3 false) (.seq (.region 4 reg93_4 true) (.ret))))) := by kernel_rfl
theorem infoBoxL : ∃ ti, Try.prog.info? 97 = some ti := Option.isSome_iff_exists.1 (by kernel_rfl)
theorem run_eql_bx (a : Addr) (w : World) : (binOp .eql 177 (.pointer (some a)) (.pointer (some a))).run Try.prog w = .ok (.bool true) w := by
  obtain ⟨ti, hi⟩ := infoBoxL
  simp only [binOp]
  simp [Op.equal, Op.maxDepth, (eqIn_ptr_same2 9999 _ a w #[] undBoxL hi).1]
theorem ev_eql_bx (a : Addr) (w : World) (es : Array Event) : (binOp .eql 177 (.pointer (some a)) (.pointer (some a))).events Try.prog w es = es := by
  obtain ⟨ti, hi⟩ := infoBoxL
  simp only [binOp]
  simp [Op.equal, Op.maxDepth, (eqIn_ptr_same2 9999 _ a w #[] undBoxL hi).1, (eqIn_ptr_same2 9999 _ a w es undBoxL hi).2]
section
variable {main : Bool} {V : Nat → Option Wait}
theorem lay_w (sa : Option Addr) (sn sc : Nat) (w : World) : CallV Try.prog main V 122 #[.slice sa sn sc] w (.pointer (some ⟨w.heap.size, 0, none⟩)) (w.alloc (.cells #[.slice sa sn sc, .int .u8 0] 213)) := by
  refine callW_in Try.func122 code122_is fun fr cs => ?_
  simp only [Try.ntmps122, ez, Nat.reduceAdd, Nat.reduceSub]
  repeat (first | refine Walk.cx ?_ | (refine Walk.cReg ?_; simp only [z122]) | (refine Walk.oq ?_; try walk_nrm) | (refine Walk.un ?_; walk_nrm))
  (refine Walk.oa ?_; try walk_nrm)
  repeat (first | refine Walk.cx ?_ | (refine Walk.cReg ?_; simp only [z122]) | (refine Walk.oq ?_; try walk_nrm) | (refine Walk.un ?_; walk_nrm))
  exact Walk.ret1 rfl rfl Try.func122 rfl fun d => ⟨rfl, d, rfl⟩
noncomputable def tmCs (gb Hb : Nat) (sv hv sl : Value) (u : Nat → Value) : Array Value := #[.pointer (some ⟨gb, 0, none⟩), sv, hv, sl, u 4, u 5, .pointer (some ⟨Hb, 0, none⟩), u 7, u 8, u 9, u 10, u 11, u 12, u 13, u 14, u 15, u 16, u 17, u 18, u 19, u 20, u 21, u 22, u 23, u 24, u 25, u 26]
theorem cas_reg {Stop : Goroutine → World → Prop} (gb Hb : Nat) (sv hv : Value) (sa : Option Addr) (sn sc : Nat) (q : Option Addr) (r : Bool) (w1 w3 : World) (k : List Item) (cs : List Frame) (u0 : Nat → Value)
    (a0 : w1.cell? ⟨Hb, 0, none⟩ = some (.pointer (some ⟨gb, 0, none⟩))) (a1 : w1.cell? ⟨Hb, 1, none⟩ = some (.pointer q)) (b0 : w3.cell? ⟨Hb, 0, none⟩ = some (.pointer (some ⟨gb, 0, none⟩))) (b1 : w3.cell? ⟨Hb, 1, none⟩ = some (.pointer q))
    (hcas : CallV Try.prog main V 121 #[.pointer (some ⟨gb, 0, none⟩), .pointer q, .pointer (some ⟨w1.heap.size, 0, none⟩)] (w1.alloc (.cells #[.slice sa sn sc, .int .u8 0] 213)) (.bool r) w3)
    (hend : ∀ u : Nat → Value, u 8 = .bool r → Walk Try.prog main (DR V) Stop (G ((base 93).at ⟨tmCs gb Hb sv hv (.slice sa sn sc) u, []⟩ (.inRegion reg93_4 [] :: k)) cs) w3) :
    Walk Try.prog main (DR V) Stop (G ((base 93).at ⟨tmCs gb Hb sv hv (.slice sa sn sc) u0, []⟩ (.code (.region 4 reg93_4 true) :: k)) cs) w1 := by
  obtain ⟨P, hP⟩ : ∃ P, w1.heap.size = P := ⟨_, rfl⟩
  obtain ⟨W2, hW2⟩ : ∃ W2, w1.alloc (.cells #[.slice sa sn sc, .int .u8 0] 213) = W2 := ⟨_, rfl⟩
  have d0 : W2.cell? ⟨Hb, 0, none⟩ = some (.pointer (some ⟨gb, 0, none⟩)) := by rw [← hW2]; exact cell_alloc _ _ a0
  have d1 : W2.cell? ⟨Hb, 1, none⟩ = some (.pointer q) := by rw [← hW2]; exact cell_alloc _ _ a1
  rw [hP, hW2] at hcas
  have hpp := fun w => run_eql_bx ⟨gb, 0, none⟩ w
  have hpe := fun w es => ev_eql_bx ⟨gb, 0, none⟩ w es
  refine Walk.drawnJ (Inv := fun f ac' w => ∃ u, ac' = ⟨tmCs gb Hb sv hv (.slice sa sn sc) u, []⟩ ∧ Facts [13, 14, 15, 16, 17, 18, 19, 20, 21, 22, 23, 24, 25, 26, 8] [.pointer (some ⟨Hb, 0, none⟩), .pointer (some ⟨gb, 0, none⟩), .pointer (some ⟨gb, 0, none⟩), .bool true, .bool true, .pointer (some ⟨gb, 0, none⟩), .pointer (some ⟨gb, 0, none⟩), .pointer (some ⟨gb, 0, none⟩), .pointer (some ⟨Hb, 1, none⟩), .pointer q, .slice sa sn sc, .pointer (some ⟨P, 0, none⟩), .bool r, .bool r, .bool r] f u ∧ (f 12 = true → f 11 = true) ∧ ∃ d, w = (cond (f 12) w3 (cond (f 11) W2 w1)).at d) (by kernel_rfl) (by kernel_rfl) (fun d => ⟨u0, rfl, Facts.none _ _ _, fun h => (by cases h), d, rfl⟩) ?_ ?_
  · rintro f j op act w ⟨u, rfl, F0, hp2, d, rfl⟩ hC hfj ho hdeps rest hr
    have hj : j < 15 := by have := (Array.getElem?_eq_some_iff.1 ho).1; rw [size93_4] at this; exact this
    refine Walk.back ?_ d
    obtain ⟨wx, hw⟩ : ∃ wx, cond (f 12) w3 (cond (f 11) W2 w1) = wx := ⟨_, rfl⟩
    rw [hw]
    have c0 : wx.cell? ⟨Hb, 0, none⟩ = some (.pointer (some ⟨gb, 0, none⟩)) := by
      rw [← hw]
      cases f 12 <;> cases f 11 <;> assumption
    have c1 : wx.cell? ⟨Hb, 1, none⟩ = some (.pointer q) := by
      rw [← hw]
      cases f 12 <;> cases f 11 <;> assumption
    clear a0 a1 b0 b1 d0 d1
    match j, hj with
    | 0, _ =>
      clear hdeps hC hend hcas
      simp only [tmCs] at hr ⊢
      (refine Walk.oq ?_; try walk_nrm)
      refine hr _ _ ⟨upd u 13 (.pointer (some ⟨Hb, 0, none⟩)), ?_, F0.set (by decide) rfl rfl, fun h => (by rw [upd_ne _ _ (by decide)] at h ⊢; exact hp2 h), wx.drawn, by rw [upd_ne _ _ (by decide), upd_ne _ _ (by decide), hw]; rfl⟩
      simp [tmCs, upd]
    | 1, _ =>
      have hd := deps_of (l := [0]) (by kernel_rfl) ho hdeps
      have e13 := F0 0 13 _ (hd 0 (by simp)) rfl rfl
      clear hdeps hC hend hcas
      simp only [tmCs] at hr ⊢
      simp only [e13]
      (refine Walk.oq ?_; try walk_nrm)
      refine hr _ _ ⟨upd u 14 (.pointer (some ⟨gb, 0, none⟩)), ?_, F0.set (by decide) rfl rfl, fun h => (by rw [upd_ne _ _ (by decide)] at h ⊢; exact hp2 h), wx.drawn, by rw [upd_ne _ _ (by decide), upd_ne _ _ (by decide), hw]; rfl⟩
      simp [tmCs, upd, e13]
    | 2, _ =>
      clear hdeps hC hend hcas
      simp only [tmCs] at hr ⊢
      (refine Walk.oq ?_; try walk_nrm)
      refine hr _ _ ⟨upd u 15 (.pointer (some ⟨gb, 0, none⟩)), ?_, F0.set (by decide) rfl rfl, fun h => (by rw [upd_ne _ _ (by decide)] at h ⊢; exact hp2 h), wx.drawn, by rw [upd_ne _ _ (by decide), upd_ne _ _ (by decide), hw]; rfl⟩
      simp [tmCs, upd]
    | 3, _ =>
      have hd := deps_of (l := [1, 2]) (by kernel_rfl) ho hdeps
      have e14 := F0 1 14 _ (hd 1 (by simp)) rfl rfl
      have e15 := F0 2 15 _ (hd 2 (by simp)) rfl rfl
      clear hdeps hC hend hcas
      simp only [tmCs] at hr ⊢
      simp only [e14, e15]
      (refine Walk.oq ?_; try walk_nrm)
      refine hr _ _ ⟨upd u 16 (.bool true), ?_, F0.set (by decide) rfl rfl, fun h => (by rw [upd_ne _ _ (by decide)] at h ⊢; exact hp2 h), wx.drawn, by rw [upd_ne _ _ (by decide), upd_ne _ _ (by decide), hw]; rfl⟩
      simp [tmCs, upd, e14, e15]
    | 4, _ =>
      have hd := deps_of (l := [3]) (by kernel_rfl) ho hdeps
      have e16 := F0 3 16 _ (hd 3 (by simp)) rfl rfl
      clear hdeps hC hend hcas
      simp only [tmCs] at hr ⊢
      simp only [e16]
      (refine Walk.oq ?_; try walk_nrm)
      refine hr _ _ ⟨upd u 17 (.bool true), ?_, F0.set (by decide) rfl rfl, fun h => (by rw [upd_ne _ _ (by decide)] at h ⊢; exact hp2 h), wx.drawn, by rw [upd_ne _ _ (by decide), upd_ne _ _ (by decide), hw]; rfl⟩
      simp [tmCs, upd, e16]
    | 5, _ =>
      have hd := deps_of (l := [4]) (by kernel_rfl) ho hdeps
      have e17 := F0 4 17 _ (hd 4 (by simp)) rfl rfl
      clear hdeps hC hend hcas
      simp only [tmCs] at hr ⊢
      simp only [e17]
      (refine Walk.oq ?_; try walk_nrm)
      refine hr _ _ ⟨upd u 18 (.pointer (some ⟨gb, 0, none⟩)), ?_, F0.set (by decide) rfl rfl, fun h => (by rw [upd_ne _ _ (by decide)] at h ⊢; exact hp2 h), wx.drawn, by rw [upd_ne _ _ (by decide), upd_ne _ _ (by decide), hw]; rfl⟩
      simp [tmCs, upd, e17]
    | 6, _ =>
      have hd := deps_of (l := [5, 4]) (by kernel_rfl) ho hdeps
      have e18 := F0 5 18 _ (hd 5 (by simp)) rfl rfl
      have e17 := F0 4 17 _ (hd 4 (by simp)) rfl rfl
      clear hdeps hC hend hcas
      simp only [tmCs] at hr ⊢
      simp only [e18, e17]
      (refine Walk.oq ?_; try walk_nrm)
      refine hr _ _ ⟨upd u 19 (.pointer (some ⟨gb, 0, none⟩)), ?_, F0.set (by decide) rfl rfl, fun h => (by rw [upd_ne _ _ (by decide)] at h ⊢; exact hp2 h), wx.drawn, by rw [upd_ne _ _ (by decide), upd_ne _ _ (by decide), hw]; rfl⟩
      simp [tmCs, upd, e18, e17]
    | 7, _ =>
      have hd := deps_of (l := [6, 4]) (by kernel_rfl) ho hdeps
      have e19 := F0 6 19 _ (hd 6 (by simp)) rfl rfl
      have e17 := F0 4 17 _ (hd 4 (by simp)) rfl rfl
      clear hdeps hC hend hcas
      simp only [tmCs] at hr ⊢
      simp only [e19, e17]
      (refine Walk.oq ?_; try walk_nrm)
      refine hr _ _ ⟨upd u 20 (.pointer (some ⟨gb, 0, none⟩)), ?_, F0.set (by decide) rfl rfl, fun h => (by rw [upd_ne _ _ (by decide)] at h ⊢; exact hp2 h), wx.drawn, by rw [upd_ne _ _ (by decide), upd_ne _ _ (by decide), hw]; rfl⟩
      simp [tmCs, upd, e19, e17]
    | 8, _ =>
      have hd := deps_of (l := [4]) (by kernel_rfl) ho hdeps
      have e17 := F0 4 17 _ (hd 4 (by simp)) rfl rfl
      clear hdeps hC hend hcas
      simp only [tmCs] at hr ⊢
      simp only [e17]
      (refine Walk.oq ?_; try walk_nrm)
      refine hr _ _ ⟨upd u 21 (.pointer (some ⟨Hb, 1, none⟩)), ?_, F0.set (by decide) rfl rfl, fun h => (by rw [upd_ne _ _ (by decide)] at h ⊢; exact hp2 h), wx.drawn, by rw [upd_ne _ _ (by decide), upd_ne _ _ (by decide), hw]; rfl⟩
      simp [tmCs, upd, e17]
    | 9, _ =>
      have hd := deps_of (l := [8, 4]) (by kernel_rfl) ho hdeps
      have e21 := F0 8 21 _ (hd 8 (by simp)) rfl rfl
      have e17 := F0 4 17 _ (hd 4 (by simp)) rfl rfl
      clear hdeps hC hend hcas
      simp only [tmCs] at hr ⊢
      simp only [e21, e17]
      (refine Walk.oq ?_; try walk_nrm)
      refine hr _ _ ⟨upd u 22 (.pointer q), ?_, F0.set (by decide) rfl rfl, fun h => (by rw [upd_ne _ _ (by decide)] at h ⊢; exact hp2 h), wx.drawn, by rw [upd_ne _ _ (by decide), upd_ne _ _ (by decide), hw]; rfl⟩
      simp [tmCs, upd, e21, e17]
    | 10, _ =>
      have hd := deps_of (l := [4]) (by kernel_rfl) ho hdeps
      have e17 := F0 4 17 _ (hd 4 (by simp)) rfl rfl
      clear hdeps hC hend hcas
      simp only [tmCs] at hr ⊢
      simp only [e17]
      (refine Walk.oq ?_; try walk_nrm)
      refine hr _ _ ⟨upd u 23 (.slice sa sn sc), ?_, F0.set (by decide) rfl rfl, fun h => (by rw [upd_ne _ _ (by decide)] at h ⊢; exact hp2 h), wx.drawn, by rw [upd_ne _ _ (by decide), upd_ne _ _ (by decide), hw]; rfl⟩
      simp [tmCs, upd, e17]
    | 11, _ =>
      have hd := deps_of (l := [10, 4]) (by kernel_rfl) ho hdeps
      have e23 := F0 10 23 _ (hd 10 (by simp)) rfl rfl
      have e17 := F0 4 17 _ (hd 4 (by simp)) rfl rfl
      have h12 : f 12 = false := by
        cases h : f 12 with
        | false => rfl
        | true => rw [hp2 h] at hfj; cases hfj
      rw [hfj, h12] at hw
      replace hw : wx = w1 := hw.symm
      subst hw
      clear hdeps hC hend c0 c1
      simp only [tmCs] at hr ⊢
      simp only [e23, e17]
      refine Walk.callV (x := .pointer (some ⟨wx.heap.size, 0, none⟩)) (W := wx.alloc (.cells #[.slice sa sn sc, .int .u8 0] 213)) ?_ (ho_of (by conv => lhs; whnf) (by kernel_rfl)) (by rfl) (by decide) rfl Try.func122 (by kernel_rfl) (by rfl) ?_
      · walk_nrm
        exact lay_w sa sn sc wx
      walk_nrm
      refine hr _ _ ⟨upd u 24 (.pointer (some ⟨wx.heap.size, 0, none⟩)), ?_, by rw [hP]; exact F0.set (by decide) rfl rfl, fun h => (by rw [upd_ne _ _ (by decide), h12] at h; cases h), W2.drawn, by rw [upd_ne _ _ (by decide), h12, upd_same, hW2]; rfl⟩
      simp [tmCs, upd, e23, e17]
    | 12, _ =>
      have hd := deps_of (l := [7, 9, 11, 4]) (by kernel_rfl) ho hdeps
      have e20 := F0 7 20 _ (hd 7 (by simp)) rfl rfl
      have e22 := F0 9 22 _ (hd 9 (by simp)) rfl rfl
      have e24 := F0 11 24 _ (hd 11 (by simp)) rfl rfl
      have e17 := F0 4 17 _ (hd 4 (by simp)) rfl rfl
      have h11 := hd 11 (by simp)
      rw [hfj, h11] at hw
      replace hw : wx = W2 := hw.symm
      subst hw
      clear hdeps hC hend c0 c1
      simp only [tmCs] at hr ⊢
      simp only [e20, e22, e24, e17]
      refine Walk.callV (x := .bool r) (W := w3) ?_ (ho_of (by conv => lhs; whnf) (by kernel_rfl)) (by rfl) (by decide) rfl Try.func121 (by kernel_rfl) (by rfl) ?_
      · walk_nrm
        exact hcas
      walk_nrm
      refine hr _ _ ⟨upd u 25 (.bool r), ?_, F0.set (by decide) rfl rfl, fun h => (by rw [upd_ne _ _ (by decide)]; exact h11), w3.drawn, by rw [upd_same]; rfl⟩
      simp [tmCs, upd, e20, e22, e24, e17]
    | 13, _ =>
      have hd := deps_of (l := [4, 12]) (by kernel_rfl) ho hdeps
      have e17 := F0 4 17 _ (hd 4 (by simp)) rfl rfl
      have e25 := F0 12 25 _ (hd 12 (by simp)) rfl rfl
      clear hdeps hC hend hcas
      simp only [tmCs] at hr ⊢
      simp only [e17, e25]
      (refine Walk.oq ?_; try walk_nrm)
      refine hr _ _ ⟨upd u 26 (.bool r), ?_, F0.set (by decide) rfl rfl, fun h => (by rw [upd_ne _ _ (by decide)] at h ⊢; exact hp2 h), wx.drawn, by rw [upd_ne _ _ (by decide), upd_ne _ _ (by decide), hw]; rfl⟩
      simp [tmCs, upd, e17, e25]
    | 14, _ =>
      have hd := deps_of (l := [13]) (by kernel_rfl) ho hdeps
      have e26 := F0 13 26 _ (hd 13 (by simp)) rfl rfl
      clear hdeps hC hend hcas
      simp only [tmCs] at hr ⊢
      simp only [e26]
      (refine Walk.oq ?_; try walk_nrm)
      refine hr _ _ ⟨upd u 8 (.bool r), ?_, F0.set (by decide) rfl rfl, fun h => (by rw [upd_ne _ _ (by decide)] at h ⊢; exact hp2 h), wx.drawn, by rw [upd_ne _ _ (by decide), upd_ne _ _ (by decide), hw]; rfl⟩
      simp [tmCs, upd, e26]
  · rintro f act w ⟨u, rfl, F0, _, d, rfl⟩ hall
    have h8 := F0 14 8 _ (hall 14 (by rw [size93_4]; decide)) rfl rfl
    have h12 := hall 12 (by rw [size93_4]; decide)
    rw [h12]
    exact (hend u h8).back d
end
end
section
section
variable {L : La} {gb : Nat} {sv : Value}
structure BoxCas (R : GateIn L gb) (K : Lg L sv) (e : K.E) (d : L.D) (k0 : Nat) (sl : Value) (l : List Int) (v : Value) (s : L.Sg) (e' : K.E) : Prop where
  tgt : K.tgt e' = L.act s d
  fuel : K.fuel e' < K.fuel e
  le : L.le (K.gh e) (K.gh e')
  out : ((R.gt s).k = k0 ∧ v = .bool true ∧ K.s e' = R.lay s l) ∨ ((R.gt s).k ≠ k0 ∧ v = .bool false ∧ K.s e' = s)
  size : (K.w e).heap.size ≤ (K.w e').heap.size
  mine : ∀ b, K.mine e b → sl.ownBlock ≠ some b → K.mine e' b ∧ (K.w e').heap[b]? = (K.w e).heap[b]?
theorem GtI.at_k {gb : Nat} {y : List Hl} {s : Gt} {w : World} (I : GtI gb y s w) {k : Nat} {h h0 : Hl} (h1 : y[s.k]? = some h) (h2 : y[k]? = some h0) : h.p = h0.p ↔ s.k = k :=
  ⟨fun e => I.one _ _ _ _ h1 h2 e, fun e => by subst e; rw [h1] at h2; cases h2; rfl⟩
theorem box_cas (R : GateIn L gb) (K : Lg L sv) (e : K.E) (d : L.D) (k0 : Nat) (h0 : Hl) (hk0 : (R.gh (K.gh e))[k0]? = some h0) (sa : Option Addr) (sc : Nat) (l : List Int) (hl : okL l) (hrow : (K.w e).ownsRow 0 3 1 (.slice sa l.length sc) l.length (l.map fun z => .int .i64 z)) (hm : ∀ b, (Value.slice sa l.length sc).ownBlock = some b → K.mine e b) (ht : K.tgt e = (K.s e, .inr d)) :
    SCall K.toLb 93 #[.pointer (some ⟨gb, 0, none⟩), sv, heldV (.pointer (some ⟨gb, 0, none⟩)) h0.p, .slice sa l.length sc] e (fun v e' => ∃ s, BoxCas R K e d k0 (.slice sa l.length sc) l v s e') := by
  intro fr ls hp hls hk
  have hp1 := fun w => run_eql_ptr (P := Try.prog) 177 undBoxL (some ⟨gb, 0, none⟩) w
  have hp2 := fun w es => ev_eql_ptr (P := Try.prog) 177 undBoxL (some ⟨gb, 0, none⟩) w es
  simp only [Option.isNone_some] at hp1
  obtain ⟨q, hq⟩ : ∃ q, h0.p.map (fun b => (⟨b, 0, none⟩ : Addr)) = q := ⟨_, rfl⟩
  have c1 := heap_alloc_new (K.w e) (.cells #[.pointer (some ⟨gb, 0, none⟩), .pointer q] 179)
  have s1 : ((K.w e).alloc (.cells #[.pointer (some ⟨gb, 0, none⟩), .pointer q] 179)).heap.size = (K.w e).heap.size + 1 := by simp
  have o1 : ∀ b, b < (K.w e).heap.size → ((K.w e).alloc (.cells #[.pointer (some ⟨gb, 0, none⟩), .pointer q] 179)).heap[b]? = (K.w e).heap[b]? := fun b hb => heap_new_lt _ _ hb
  obtain ⟨e1, m1⟩ := K.grow e (w' := (K.w e).alloc (.cells #[.pointer (some ⟨gb, 0, none⟩), .pointer q] 179)) (by omega) o1
  have ht1 : K.tgt e1 = (K.s e1, .inr d) := by rw [m1.tgt, m1.s]; exact ht
  have hh := step_s K e1 d ht1
  unfold heldV ptrV
  rw [hq]
  unfold LW
  rw [enter_at _ Try.func93 code93_is]
  simp only [Try.ntmps93, ez, Nat.reduceAdd, Nat.reduceSub]
  repeat (first | refine Walk.cx ?_ | (refine Walk.cReg ?_; simp only [z93]) | (refine Walk.oq ?_; try walk_nrm) | (refine Walk.un ?_; walk_nrm))
  (refine Walk.oa ?_; try walk_nrm)
  generalize hHb : (K.w e).heap.size = Hb at *
  generalize (K.w e).alloc (.cells #[.pointer (some ⟨gb, 0, none⟩), .pointer q] 179) = w1 at *
  have hmR : K.mine e1 Hb := m1.new (by omega) (by omega)
  refine LW.to (l := fr :: ls) m1 ?_
  unfold LW
  repeat (first | refine Walk.cx ?_ | (refine Walk.cReg ?_; simp only [z93]) | (refine Walk.oq ?_; try walk_nrm) | (refine Walk.un ?_; walk_nrm))
  refine LW.callS (K := K.toLb) (e := e1) (l := fr :: ls) (f := 78) (Q := fun _ e' => Aft K.toLb e1 d e') ?_ (ho_of (by conv => lhs; whnf) (by kernel_rfl)) (by rfl) (by decide) rfl Try.func78 (by kernel_rfl) (by rfl) ⟨rfl, rfl, _, Try.func93⟩ (plain_cons hp hls) ?_
  · walk_nrm
    exact hh
  intro v e2 ha
  obtain ⟨h1, hy, hl1, hc, hz, hH1⟩ := R.rd (K.inv e2)
  have I2 := R.I (K.inv e2)
  have hle12 : L.le (K.gh e) (K.gh e2) := by have := ha.le; rwa [m1.gh] at this
  have hk2 := R.keep hle12 hk0
  have hH0 : HlI h0 (K.w e2) := I2.held h0 (List.mem_of_getElem? hk2)
  have hat := I2.at_k hy hk2
  have hmine2 : ∀ b, K.mine e b → K.mine e2 b ∧ (K.w e2).heap[b]? = (K.w e).heap[b]? := fun b hb => by
    obtain ⟨x1, x2⟩ := ha.mine b ((m1.mine b).2 (.inl hb))
    have := (K.mineA e b hb).2.2
    exact ⟨x1, by rw [x2, m1.w]; exact o1 b (by omega)⟩
  have hs2 : Hb + 1 ≤ (K.w e2).heap.size := by have := ha.size; rw [m1.w] at this; omega
  have d2 : (K.w e2).heap[Hb]? = some (.cells #[.pointer (some ⟨gb, 0, none⟩), .pointer q] 179) := (ha.mine Hb hmR).2.trans (by rw [m1.w]; exact c1)
  have hrow2 : (K.w e2).ownsRow 0 3 1 (.slice sa l.length sc) l.length (l.map fun z => .int .i64 z) := row_same hrow fun b hb => (hmine2 b (hm b hb)).2
  have hHbn : ¬ L.sh (K.gh e2) Hb := (K.mineA e2 Hb (ha.mine Hb hmR).1).2.1
  have hgH : gb ≠ Hb := fun e => hHbn (R.sh (.inl e.symm))
  have c2 := heap_alloc_new (K.w e2) (.cells #[.slice sa l.length sc, .int .u8 0] 213)
  have s2 : ((K.w e2).alloc (.cells #[.slice sa l.length sc, .int .u8 0] 213)).heap.size = (K.w e2).heap.size + 1 := by simp
  have o2 : ∀ b, b < (K.w e2).heap.size → ((K.w e2).alloc (.cells #[.slice sa l.length sc, .int .u8 0] 213)).heap[b]? = (K.w e2).heap[b]? := fun b hb => heap_new_lt _ _ hb
  have hgb2 := L.lt (K.inv e2) (R.sh (.inl rfl))
  have hN : HlI ⟨some (K.w e2).heap.size, .slice sa l.length sc, l⟩ ((K.w e2).alloc (.cells #[.slice sa l.length sc, .int .u8 0] 213)) := ⟨hl, row_same hrow2 fun b hb => o2 b (hrow2.lt b hb).2, fun b e => by cases e; exact c2, fun e => by cases e⟩
  have I3 : L.I (K.gh e2) (K.s e2) ((K.w e2).alloc (.cells #[.slice sa l.length sc, .int .u8 0] 213)) := L.stable (K.inv e2) fun b hb => o2 b (L.lt (K.inv e2) hb)
  have hfree := (K.shA e2 gb (R.sh (.inl rfl))).1 ⟨gb, 0, none⟩ rfl
  have hc3 := (World.cell?_of_block (a := ⟨gb, 0, none⟩) (o2 gb hgb2)).trans hc
  have hz3 := (World.frozen?_of_block (a := ⟨gb, 0, none⟩) (o2 gb hgb2)).trans hz
  have hN1 : PtrOK (some (K.w e2).heap.size) ((K.w e2).alloc (.cells #[.slice sa l.length sc, .int .u8 0] 213)) := hN.ptr
  have hP1 : PtrOK h1.p ((K.w e2).alloc (.cells #[.slice sa l.length sc, .int .u8 0] 213)) := (hH1.same fun b hb => o2 b (hH1.lt hb)).ptr
  have hP0 : PtrOK h0.p ((K.w e2).alloc (.cells #[.slice sa l.length sc, .int .u8 0] 213)) := (hH0.same fun b hb => o2 b (hH0.lt hb)).ptr
  have a0 := (cell_of d2 0).trans rfl
  have a1 := (cell_of d2 1).trans rfl
  have hap : ∀ b, (Value.slice sa l.length sc).ownBlock = some b → ¬ L.sh (K.gh e2) b := fun b hb => (K.mineA e2 b (hmine2 b (hm b hb)).1).2.1
  by_cases hkk : (R.gt (K.s e2)).k = k0
  · have hpe := hat.2 hkk
    have hcs := casL_hit (main := K.main) (V := K.V e2) gb 0 h1.p (some (K.w e2).heap.size) _ hc3 hz3 hfree hP1 hN1
    rw [hpe] at hcs
    obtain ⟨e3, m3⟩ := K.mg e2 (R.ghl (K.gh e2) ⟨some (K.w e2).heap.size, .slice sa l.length sc, l⟩) (R.lay (K.s e2) l) (((K.w e2).alloc (.cells #[.slice sa l.length sc, .int .u8 0] 213)).setCell ⟨gb, 0, none⟩ (.pointer (some ⟨(K.w e2).heap.size, 0, none⟩))) (R.lel _ _) (by rw [size_set]; omega)
      (fun b hb _ hs => (heap_set_other _ _ _ _ fun he : b = gb => hs (he ▸ R.sh (.inl rfl))).trans (o2 b hb))
      (R.upL rfl hN (fun b hb => by
        rcases hb with hb | hb
        · cases hb
          exact fun h => absurd (L.lt (K.inv e2) h) (Nat.lt_irrefl _)
        · exact hap b hb) I3)
      (fun b hb => by
        rcases R.shl hb with h | h
        · exact .inl h
        · rcases h with h | h
          · cases h
            exact .inr (.inr (Nat.le_refl _))
          · exact .inr (.inl (hmine2 b (hm b h)).1))
    have hout : BoxCas R K e d k0 (.slice sa l.length sc) l (.bool true) (K.s e2) e3 := by
      refine ⟨by rw [m3.tgt]; exact ha.tgt, by rw [m3.fuel, ← m1.fuel]; exact ha.fuel, L.trans hle12 (by rw [m3.gh]; exact R.lel _ _), .inl ⟨hkk, rfl, m3.s⟩, by rw [m3.w, size_set]; omega, fun b hb hne => ?_⟩
      obtain ⟨x1, x2⟩ := hmine2 b hb
      have hx := K.mineA e2 b x1
      refine ⟨(m3.mine b).2 ⟨.inl x1, fun hs => ?_⟩, ?_⟩
      · rcases R.shl hs with h | h
        · exact hx.2.1 h
        · rcases h with h | h
          · cases h
            exact absurd hx.2.2 (Nat.lt_irrefl _)
          · exact hne h
      · rw [m3.w, heap_set_other _ _ _ _ (fun he : b = gb => hx.2.1 (he ▸ R.sh (.inl rfl))), o2 b hx.2.2, x2]
    have hfin := hk (.bool true) e3 ⟨_, hout⟩
    have b0 : (((K.w e2).alloc (.cells #[.slice sa l.length sc, .int .u8 0] 213)).setCell ⟨gb, 0, none⟩ (.pointer (some ⟨(K.w e2).heap.size, 0, none⟩))).heap[Hb]? = (K.w e2).heap[Hb]? := (heap_set_other _ _ _ _ (Ne.symm hgH)).trans (o2 Hb (by omega))
    have b1 := (World.cell?_of_block (a := ⟨Hb, 0, none⟩) b0).trans a0
    have b2 := (World.cell?_of_block (a := ⟨Hb, 1, none⟩) b0).trans a1
    unfold ptrV at hcs
    rw [hq] at hcs
    simp only [Option.map_some] at hcs
    have hend : ∀ u : Nat → Value, u 8 = .bool true → Walk Try.prog K.main (DR (K.V e2)) (K.Stop e2) (G ((base 93).at ⟨tmCs gb Hb sv (.agg #[.pointer (some ⟨gb, 0, none⟩), .pointer q]) (.slice sa l.length sc) u, []⟩ (.inRegion reg93_4 [] :: [.code .ret])) (fr :: (ls ++ K.bot e2))) (((K.w e2).alloc (.cells #[.slice sa l.length sc, .int .u8 0] 213)).setCell ⟨gb, 0, none⟩ (.pointer (some ⟨(K.w e2).heap.size, 0, none⟩))) := fun u h8 => by
      refine LW.mg (K := K.toLb) m3 ?_
      have hb := m3.bot
      unfold LW at hfin ⊢
      rw [← hb]
      clear hcs hk hc hz hc3 hz3 a0 a1 b0 b1 b2 hp1 hp2 hout
      simp only [tmCs, h8]
      repeat (first | refine Walk.cx ?_ | (refine Walk.cReg ?_; simp only [z93]) | (refine Walk.oq ?_; try walk_nrm) | (refine Walk.un ?_; walk_nrm))
      exact Walk.on1 rfl rfl Try.func93 rfl hfin
    have hreg := fun u0 => cas_reg (main := K.main) (V := K.V e2) (Stop := K.Stop e2) gb Hb sv (.agg #[.pointer (some ⟨gb, 0, none⟩), .pointer q]) sa l.length sc q true (K.w e2) _ [.code .ret] (fr :: (ls ++ K.bot e2)) u0 a0 a1 b1 b2 hcs hend
    clear hend hcs hk hc hz hc3 hz3 a0 a1 b0 b1 b2 hout hfin
    unfold LW
    walk_nrm
    repeat (first | refine Walk.cx ?_ | (refine Walk.cReg ?_; simp only [z93]) | (refine Walk.oq ?_; try walk_nrm) | (refine Walk.un ?_; walk_nrm))
    refine slots_walk (F := fun u => G ((base 93).at ⟨tmCs gb Hb sv (.agg #[.pointer (some ⟨gb, 0, none⟩), .pointer q]) (.slice sa l.length sc) u, []⟩ (.code (.region 4 reg93_4 true) :: [.code .ret])) (fr :: (ls ++ K.bot e2))) hreg ?_
    simp only [tmCs]
    rfl
  · have hpe : h1.p ≠ h0.p := fun e => hkk (hat.1 e)
    have hcs := casL_miss (main := K.main) (V := K.V e2) gb 0 h1.p h0.p (some (K.w e2).heap.size) _ hc3 hz3 hpe hP1 hP0 hN1
    obtain ⟨e3, m3⟩ := K.grow e2 (w' := (K.w e2).alloc (.cells #[.slice sa l.length sc, .int .u8 0] 213)) (by omega) o2
    have hout : BoxCas R K e d k0 (.slice sa l.length sc) l (.bool false) (K.s e2) e3 := by
      refine ⟨by rw [m3.tgt]; exact ha.tgt, by rw [m3.fuel, ← m1.fuel]; exact ha.fuel, by rw [m3.gh]; exact hle12, .inr ⟨hkk, rfl, m3.s⟩, by rw [m3.w]; omega, fun b hb hne => ?_⟩
      obtain ⟨x1, x2⟩ := hmine2 b hb
      have hx := K.mineA e2 b x1
      exact ⟨(m3.mine b).2 (.inl x1), by rw [m3.w, o2 b hx.2.2, x2]⟩
    have hfin := hk (.bool false) e3 ⟨_, hout⟩
    have b0 := o2 Hb (by omega)
    have b1 := (World.cell?_of_block (a := ⟨Hb, 0, none⟩) b0).trans a0
    have b2 := (World.cell?_of_block (a := ⟨Hb, 1, none⟩) b0).trans a1
    unfold ptrV at hcs
    rw [hq] at hcs
    simp only [Option.map_some] at hcs
    have hend : ∀ u : Nat → Value, u 8 = .bool false → Walk Try.prog K.main (DR (K.V e2)) (K.Stop e2) (G ((base 93).at ⟨tmCs gb Hb sv (.agg #[.pointer (some ⟨gb, 0, none⟩), .pointer q]) (.slice sa l.length sc) u, []⟩ (.inRegion reg93_4 [] :: [.code .ret])) (fr :: (ls ++ K.bot e2))) ((K.w e2).alloc (.cells #[.slice sa l.length sc, .int .u8 0] 213)) := fun u h8 => by
      refine LW.to (l := fr :: ls) m3 ?_
      unfold LW at hfin ⊢
      clear hcs hk hc hz hc3 hz3 a0 a1 b0 b1 b2 hp1 hp2 hout
      simp only [tmCs, h8]
      repeat (first | refine Walk.cx ?_ | (refine Walk.cReg ?_; simp only [z93]) | (refine Walk.oq ?_; try walk_nrm) | (refine Walk.un ?_; walk_nrm))
      exact Walk.on1 rfl rfl Try.func93 rfl hfin
    have hreg := fun u0 => cas_reg (main := K.main) (V := K.V e2) (Stop := K.Stop e2) gb Hb sv (.agg #[.pointer (some ⟨gb, 0, none⟩), .pointer q]) sa l.length sc q false (K.w e2) _ [.code .ret] (fr :: (ls ++ K.bot e2)) u0 a0 a1 b1 b2 hcs hend
    clear hend hcs hk hc hz hc3 hz3 a0 a1 b0 b1 b2 hout hfin
    unfold LW
    walk_nrm
    repeat (first | refine Walk.cx ?_ | (refine Walk.cReg ?_; simp only [z93]) | (refine Walk.oq ?_; try walk_nrm) | (refine Walk.un ?_; walk_nrm))
    refine slots_walk (F := fun u => G ((base 93).at ⟨tmCs gb Hb sv (.agg #[.pointer (some ⟨gb, 0, none⟩), .pointer q]) (.slice sa l.length sc) u, []⟩ (.code (.region 4 reg93_4 true) :: [.code .ret])) (fr :: (ls ++ K.bot e2))) hreg ?_
    simp only [tmCs]
    rfl
end
end
section
theorem undGate : Try.prog.underlying 74 = some (.pointer 105) := by kernel_rfl
theorem ix_num (gb j : Nat) (hj : j < 64) (w : World) (es : Array Event) : (Instr.indexAt 103 (.pointer (some ⟨gb, 1, none⟩)) (.int .i64 j)).run Try.prog w = .ok (.pointer (some ⟨gb, 1 + j, none⟩)) w ∧ (Instr.indexAt 103 (.pointer (some ⟨gb, 1, none⟩)) (.int .i64 j)).events Try.prog w es = es := by
  have hu : Try.prog.underlying 103 = some (.array 64 102) := by kernel_rfl
  have h0 : (0 : Int) ≤ j := by omega
  have h1 : (j : Int) < 64 := by omega
  refine ⟨?_, events_indexAt_array _ _ 64 _ _ _ hu ⟨h0, h1⟩⟩
  have hs : (Try.prog.info? 102).map (·.size) = some 1 := by kernel_rfl
  cases hq : Try.prog.info? 102 with
  | none => simp [hq] at hs
  | some i =>
    have hi : i.size = 1 := by simpa [hq] using hs
    simp [Instr.indexAt, Instr.sureAddr, run_underlying hu, asIntOf, h1, hj, sizeOf, typeInfo, hq, hi, Addr.add]
noncomputable def reg74_0 := rg Try.f74.body [0]
noncomputable def reg74_1 := rg Try.f74.body [1, 0, 0, 0]
noncomputable def reg74_2 := rg Try.f74.body [1, 0, 0, 1, 0, 0]
noncomputable def reg74_3 := rg Try.f74.body [1, 0, 0, 1, 1, 0]
noncomputable def reg74_4 := rg Try.f74.body [1, 0, 0, 1, 1, 1, 0, 0]
noncomputable def reg74_5 := rg Try.f74.body [1, 1, 0]
theorem z74 : List.range reg74_0.size = [0] ∧ List.range reg74_1.size = [0, 1, 2, 3, 4, 5, 6] ∧ List.range reg74_2.size = [0] ∧ List.range reg74_3.size = [0, 1, 2] ∧ List.range reg74_4.size = [0] ∧ List.range reg74_5.size = [0] := by refine ⟨?_, ?_, ?_, ?_, ?_, ?_⟩ <;> kernel_rfl
theorem code74_is : Try.f74.body = some (.seq (.region 0 reg74_0 false) (.seq (.block 0 (.seq (.region 1 reg74_1 false) (.cond (.tmp 5 ) (.seq (.region 2 reg74_2 false) (.ret)) (.seq (.region 3 reg74_3 false) (.cond (.tmp 12 ) (.seq (.region 4 reg74_4 false) (.ret)) (.skip)))))) (.seq (.region 5 reg74_5 false) (.ret)))) := by kernel_rfl
noncomputable def reg96_0 := rg Try.f96.body [0]
noncomputable def reg96_1 := rg Try.f96.body [1, 0]
theorem z96 : List.range reg96_0.size = [0] ∧ List.range reg96_1.size = [0, 1, 2, 3, 4, 5, 6, 7, 8, 9, 10, 11] := by refine ⟨?_, ?_⟩ <;> kernel_rfl
theorem code96_is : Try.f96.body = some (.seq (.region 0 reg96_0 false) (.seq (.region 1 reg96_1 false) (.ret))) := by kernel_rfl
noncomputable def reg36_0 := rg Try.f36.body [0]
noncomputable def reg36_1 := rg Try.f36.body [1, 0, 0]
noncomputable def reg36_2 := rg Try.f36.body [1, 0, 1, 0]
noncomputable def reg36_3 := rg Try.f36.body [1, 0, 1, 1, 0, 0]
noncomputable def reg36_4 := rg Try.f36.body [1, 1, 0]
noncomputable def reg36_5 := rg Try.f36.body [1, 1, 1, 0]
theorem z36 : List.range reg36_0.size = [0] ∧ List.range reg36_1.size = [0, 1, 2, 3] ∧ List.range reg36_2.size = [0, 1] ∧ List.range reg36_3.size = [0, 1] ∧ List.range reg36_4.size = [0, 1, 2, 3, 4, 5, 6, 7] ∧ List.range reg36_5.size = [0] := by refine ⟨?_, ?_, ?_, ?_, ?_, ?_⟩ <;> kernel_rfl
theorem code36_is : Try.f36.body = some (.seq (.region 0 reg36_0 false) (.seq (.seq (.region 1 reg36_1 false) (.seq (.region 2 reg36_2 false) (.cond (.tmp 14 ) (.seq (.region 3 reg36_3 false) (.ret)) (.skip)))) (.seq (.region 4 reg36_4 false) (.seq (.region 5 reg36_5 false) (.ret))))) := by kernel_rfl
noncomputable def reg71_0 := rg Try.f71.body [0]
noncomputable def reg71_1 := rg Try.f71.body [1, 0, 0]
noncomputable def reg71_2 := rg Try.f71.body [1, 0, 1, 0]
noncomputable def reg71_3 := rg Try.f71.body [1, 0, 1, 1, 0, 0]
noncomputable def reg71_4 := rg Try.f71.body [1, 1, 0]
theorem z71 : List.range reg71_0.size = [0, 1] ∧ List.range reg71_1.size = [0, 1, 2, 3] ∧ List.range reg71_2.size = [0, 1] ∧ List.range reg71_3.size = [0, 1, 2] ∧ List.range reg71_4.size = [0, 1, 2, 3, 4, 5, 6, 7, 8] := by refine ⟨?_, ?_, ?_, ?_, ?_⟩ <;> kernel_rfl
theorem code71_is : Try.f71.body = some (.seq (.region 0 reg71_0 false) (.seq (.seq (.region 1 reg71_1 false) (.seq (.region 2 reg71_2 false) (.cond (.tmp 13 ) (.seq (.region 3 reg71_3 false) (.ret)) (.skip)))) (.seq (.region 4 reg71_4 false) (.ret)))) := by kernel_rfl
def gOK (p : Int) : Prop := 0 ≤ p ∧ p < 64
instance (p : Int) : Decidable (gOK p) := inferInstanceAs (Decidable (_ ∧ _))
def gFin (at' q size : Int) : Prop := q < IntKind.wrap .i64 (-9223372036854775808 + size) ∨ IntKind.wrap .i64 (q - size) ≤ at'
instance (a q s : Int) : Decidable (gFin a q s) := inferInstanceAs (Decidable (_ ∨ _))
section
variable {main : Bool} {V : Nat → Option Wait}
theorem ref_yes (gb : Nat) (p : Int) (hp : gOK p) (w : World) : CallV Try.prog main V 74 #[.pointer (some ⟨gb, 0, none⟩), .int .i64 p] w (.int .i64 0) w := by
  have hp1 := fun w => run_eql_ptr (P := Try.prog) 74 undGate (some ⟨gb, 0, none⟩) w
  have hp2 := fun w es => ev_eql_ptr (P := Try.prog) 74 undGate (some ⟨gb, 0, none⟩) w es
  simp only [Option.isNone_some] at hp1
  have h1 : decide (p < 0) = false := decide_eq_false (by have := hp.1; omega)
  have h2 : decide (64 ≤ p) = false := decide_eq_false (by have := hp.2; omega)
  have h3 := hp.2
  have h4 := hp.1
  refine callW_in Try.func74 code74_is fun fr cs => ?_
  simp only [Try.ntmps74, ez, Nat.reduceAdd, Nat.reduceSub]
  repeat (first | refine Walk.cx ?_ | (refine Walk.cReg ?_; simp only [z74]) | (refine Walk.oq ?_; try walk_nrm) | (refine Walk.un ?_; walk_nrm))
  exact Walk.ret1 rfl rfl Try.func74 rfl fun d => ⟨rfl, d, rfl⟩
theorem ref_no (g : Option Addr) (p : Int) (hp : ¬ gOK p) (w : World) : CallV Try.prog main V 74 #[.pointer g, .int .i64 p] w (.int .i64 1) w := by
  by_cases h : p < 0
  · have h1 : decide (p < 0) = true := decide_eq_true h
    clear hp
    refine callW_in Try.func74 code74_is fun fr cs => ?_
    simp only [Try.ntmps74, ez, Nat.reduceAdd, Nat.reduceSub]
    repeat (first | refine Walk.cx ?_ | (refine Walk.cReg ?_; simp only [z74]) | (refine Walk.oq ?_; try walk_nrm) | (refine Walk.un ?_; walk_nrm))
    exact Walk.ret1 rfl rfl Try.func74 rfl fun d => ⟨rfl, d, rfl⟩
  · have h1 : decide (p < 0) = false := decide_eq_false h
    have h2 : decide (64 ≤ p) = true := decide_eq_true (by unfold gOK at hp; omega)
    have h3 : 64 ≤ p := by unfold gOK at hp; omega
    clear hp
    refine callW_in Try.func74 code74_is fun fr cs => ?_
    simp only [Try.ntmps74, ez, Nat.reduceAdd, Nat.reduceSub]
    repeat (first | refine Walk.cx ?_ | (refine Walk.cReg ?_; simp only [z74]) | (refine Walk.oq ?_; try walk_nrm) | (refine Walk.un ?_; walk_nrm))
    exact Walk.ret1 rfl rfl Try.func74 rfl fun d => ⟨rfl, d, rfl⟩
theorem fin_w (a q s : Int) (w : World) : CallV Try.prog main V 96 #[.int .i64 a, .int .i64 q, .int .i64 s] w (.bool (decide (gFin a q s))) w := by
  have key : decide (gFin a q s) = (decide (q < IntKind.wrap .i64 (-9223372036854775808 + s)) || decide (IntKind.wrap .i64 (q - s) ≤ a)) := by
    unfold gFin
    exact Bool.decide_or _ _
  rw [key]
  clear key
  cases h1 : decide (q < IntKind.wrap .i64 (-9223372036854775808 + s)) with
  | true =>
    rw [Bool.true_or]
    refine callW_in Try.func96 code96_is fun fr cs => ?_
    simp only [Try.ntmps96, ez, Nat.reduceAdd, Nat.reduceSub]
    repeat (first | refine Walk.cx ?_ | (refine Walk.cReg ?_; simp only [z96]) | (refine Walk.oq ?_; try walk_nrm) | (refine Walk.un ?_; walk_nrm))
    exact Walk.ret1 rfl rfl Try.func96 rfl fun d => ⟨rfl, d, rfl⟩
  | false =>
    rw [Bool.false_or]
    generalize hD : IntKind.wrap .i64 (q - s) = D
    obtain ⟨r, hr⟩ : ∃ r, decide (D ≤ a) = r := ⟨_, rfl⟩
    rw [hr]
    refine callW_in Try.func96 code96_is fun fr cs => ?_
    simp only [Try.ntmps96, ez, Nat.reduceAdd, Nat.reduceSub]
    repeat (first | refine Walk.cx ?_ | (refine Walk.cReg ?_; simp only [z96]) | (refine Walk.oq ?_; try walk_nrm) | (refine Walk.un ?_; walk_nrm))
    exact Walk.ret1 rfl rfl Try.func96 rfl fun d => ⟨rfl, d, rfl⟩
end
section
variable {L : La} {gb : Nat} {sv : Value}
theorem gset_s (R : GateIn L gb) (K : Lg L sv) (e : K.E) (i : Nat) (hi : i < 64) (a : Int) (d1 : L.D) (F : L.Sg → Ans ⊕ L.D) (a1 : ∀ s, L.act s d1 = (R.put s i a, F (R.put s i a))) (ht : K.tgt e = (K.s e, .inr d1)) :
    SCall K.toLb 36 #[.pointer (some ⟨gb, 0, none⟩), sv, .int .i64 i, .int .i64 a] e (fun x e' => x = .int .i64 0 ∧ K.tgt e' = (K.s e', F (K.s e'))) := by
  intro fr l hp hl hk
  have hr := ref_yes (main := K.main) (V := K.V e) gb i ⟨by omega, by omega⟩ (K.w e)
  have w1 := R.store_n K i hi e d1 a ht
  have h1 : ∀ (e1 : K.E) (s1 : L.Sg), Wrote K e d1 s1 (R.put s1 i a) e1 → K.tgt e1 = (K.s e1, F (K.s e1)) := fun e1 s1 h => by
    rw [h.tgt]
    rw [h.s]
    exact a1 _
  have hx1 := fun w => (ix_num gb i hi w #[]).1
  have hx2 := fun w es => (ix_num gb i hi w es).2
  clear a1 ht
  unfold LW
  rw [enter_at _ Try.func36 code36_is]
  simp only [Try.ntmps36, ez, Nat.reduceAdd, Nat.reduceSub]
  repeat (first | refine Walk.cx ?_ | (refine Walk.cReg ?_; simp only [z36]) | (refine Walk.oq ?_; try walk_nrm) | (refine Walk.un ?_; walk_nrm))
  refine Walk.callV (x := .int .i64 0) (W := K.w e) ?_ (ho_of (by conv => lhs; whnf) (by kernel_rfl)) (by rfl) (by decide) rfl Try.func74 (by kernel_rfl) (by rfl) ?_
  · walk_nrm
    exact hr
  walk_nrm
  clear hr
  repeat (first | refine Walk.cx ?_ | (refine Walk.cReg ?_; simp only [z36]) | (refine Walk.oq ?_; try walk_nrm) | (refine Walk.un ?_; walk_nrm))
  refine LW.callS (K := K.toLb) (e := e) (l := fr :: l) (f := 69) (Q := fun _ e' => ∃ s : L.Sg, Wrote K e d1 s (R.put s i a) e') ?_ (ho_of (by conv => lhs; whnf) (by kernel_rfl)) (by rfl) (by decide) rfl Try.func69 (by kernel_rfl) (by rfl) ⟨rfl, rfl, _, Try.func36⟩ (plain_cons hp hl) ?_
  · walk_nrm
    exact w1
  rintro x e1 ⟨s1, hs1⟩
  have hkk := hk (.int .i64 0) e1 ⟨rfl, h1 e1 s1 hs1⟩
  clear hk h1 w1
  unfold LW at hkk ⊢
  walk_nrm
  repeat (first | refine Walk.cx ?_ | (refine Walk.cReg ?_; simp only [z36]) | (refine Walk.oq ?_; try walk_nrm) | (refine Walk.un ?_; walk_nrm))
  exact Walk.on1 rfl rfl Try.func36 rfl hkk
theorem gget_s (R : GateIn L gb) (K : Lg L sv) (e : K.E) (i : Nat) (hi : i < 64) (d1 : L.D) (F : L.Sg → Int → Ans ⊕ L.D) (a1 : ∀ s, L.act s d1 = (s, F s ((R.gt s).n i))) (ht : K.tgt e = (K.s e, .inr d1)) :
    SCall K.toLb 71 #[.pointer (some ⟨gb, 0, none⟩), sv, .int .i64 i] e (fun x e' => ∃ n, x = .tuple #[.int .i64 n, .int .i64 0] ∧ K.tgt e' = (K.s e', F (K.s e') n)) := by
  intro fr l hp hl hk
  have hr := ref_yes (main := K.main) (V := K.V e) gb i ⟨by omega, by omega⟩ (K.w e)
  have w1 := R.load_n K i hi e d1 ht
  have hx1 := fun w => (ix_num gb i hi w #[]).1
  have hx2 := fun w es => (ix_num gb i hi w es).2
  unfold LW
  rw [enter_at _ Try.func71 code71_is]
  simp only [Try.ntmps71, ez, Nat.reduceAdd, Nat.reduceSub]
  repeat (first | refine Walk.cx ?_ | (refine Walk.cReg ?_; simp only [z71]) | (refine Walk.oq ?_; try walk_nrm) | (refine Walk.un ?_; walk_nrm))
  refine Walk.callV (x := .int .i64 0) (W := K.w e) ?_ (ho_of (by conv => lhs; whnf) (by kernel_rfl)) (by rfl) (by decide) rfl Try.func74 (by kernel_rfl) (by rfl) ?_
  · walk_nrm
    exact hr
  walk_nrm
  clear hr
  repeat (first | refine Walk.cx ?_ | (refine Walk.cReg ?_; simp only [z71]) | (refine Walk.oq ?_; try walk_nrm) | (refine Walk.un ?_; walk_nrm))
  refine LW.callS (K := K.toLb) (e := e) (l := fr :: l) (f := 95) (Q := fun v e' => Aft K.toLb e d1 e' ∧ v = .int .i64 ((R.gt (K.s e')).n i)) ?_ (ho_of (by conv => lhs; whnf) (by kernel_rfl)) (by rfl) (by decide) rfl Try.func95 (by kernel_rfl) (by rfl) ⟨rfl, rfl, _, Try.func71⟩ (plain_cons hp hl) ?_
  · walk_nrm
    exact w1
  rintro x e1 ⟨ha, rfl⟩
  have hkk := hk (.tuple #[.int .i64 ((R.gt (K.s e1)).n i), .int .i64 0]) e1 ⟨_, rfl, ha.tgt.trans (a1 _)⟩
  generalize (R.gt (K.s e1)).n i = n at *
  clear hk w1 a1 ht
  unfold LW at hkk ⊢
  walk_nrm
  repeat (first | refine Walk.cx ?_ | (refine Walk.cReg ?_; simp only [z71]) | (refine Walk.oq ?_; try walk_nrm) | (refine Walk.un ?_; walk_nrm))
  exact Walk.on2 rfl rfl Try.func71 rfl hkk
end
section
variable {main : Bool} {V : Nat → Option Wait}
theorem gset_no (g : Option Addr) (sv : Value) (p a : Int) (hp : ¬ gOK p) (w : World) : CallV Try.prog main V 36 #[.pointer g, sv, .int .i64 p, .int .i64 a] w (.int .i64 1) w := by
  have hr := ref_no (main := main) (V := V) g p hp w
  clear hp
  refine callW_in Try.func36 code36_is fun fr cs => ?_
  simp only [Try.ntmps36, ez, Nat.reduceAdd, Nat.reduceSub]
  repeat (first | refine Walk.cx ?_ | (refine Walk.cReg ?_; simp only [z36]) | (refine Walk.oq ?_; try walk_nrm) | (refine Walk.un ?_; walk_nrm))
  refine Walk.callV (x := .int .i64 1) (W := w) ?_ (ho_of (by conv => lhs; whnf) (by kernel_rfl)) (by rfl) (by decide) rfl Try.func74 (by kernel_rfl) (by rfl) ?_
  · walk_nrm
    exact hr
  walk_nrm
  clear hr
  repeat (first | refine Walk.cx ?_ | (refine Walk.cReg ?_; simp only [z36]) | (refine Walk.oq ?_; try walk_nrm) | (refine Walk.un ?_; walk_nrm))
  exact Walk.ret1 rfl rfl Try.func36 rfl fun d => ⟨rfl, d, rfl⟩
theorem gget_no (g : Option Addr) (sv : Value) (p : Int) (hp : ¬ gOK p) (w : World) : CallV Try.prog main V 71 #[.pointer g, sv, .int .i64 p] w (.tuple #[.int .i64 0, .int .i64 1]) w := by
  have hr := ref_no (main := main) (V := V) g p hp w
  clear hp
  refine callW_in Try.func71 code71_is fun fr cs => ?_
  simp only [Try.ntmps71, ez, Nat.reduceAdd, Nat.reduceSub]
  repeat (first | refine Walk.cx ?_ | (refine Walk.cReg ?_; simp only [z71]) | (refine Walk.oq ?_; try walk_nrm) | (refine Walk.un ?_; walk_nrm))
  refine Walk.callV (x := .int .i64 1) (W := w) ?_ (ho_of (by conv => lhs; whnf) (by kernel_rfl)) (by rfl) (by decide) rfl Try.func74 (by kernel_rfl) (by rfl) ?_
  · walk_nrm
    exact hr
  walk_nrm
  clear hr
  repeat (first | refine Walk.cx ?_ | (refine Walk.cReg ?_; simp only [z71]) | (refine Walk.oq ?_; try walk_nrm) | (refine Walk.un ?_; walk_nrm))
  exact Walk.on2 rfl rfl Try.func71 rfl (.stop fun d => ⟨_, ⟨rfl, d, rfl⟩, rfl⟩)
end
end
end Go.Proofs.Ytgfajibjedfkdaa
