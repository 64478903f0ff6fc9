/- Part 26. -/
import Derived.Test.YtdcjgmlgmjjogaaJ21
import Derived.Test.YtdcjgmlgmjjogaaJ25
set_option linter.unusedSimpArgs false
set_option linter.unusedVariables false
set_option maxHeartbeats 8000000
set_option maxRecDepth 100000
namespace Go.Proofs.Ytdcjgmlgmjjogaa
open Go.Conc Go.RowKit Go.Relay
open Go.ConcN (upd upd_ne upd_same)
section
noncomputable def reg14_0 := rg Try.f14.body [0]
noncomputable def reg14_1 := rg Try.f14.body [1, 0]
noncomputable def reg14_2 := rg Try.f14.body [1, 1, 0]
noncomputable def reg14_3 := rg Try.f14.body [1, 1, 1, 0, 0]
noncomputable def reg14_5 := rg Try.f14.body [1, 1, 1, 0, 1, 0, 0]
noncomputable def reg14_6 := rg Try.f14.body [1, 1, 1, 0, 1, 0, 1, 0, 0]
noncomputable def reg14_7 := rg Try.f14.body [1, 1, 1, 0, 1, 0, 1, 0, 1, 0]
noncomputable def reg14_8 := rg Try.f14.body [1, 1, 1, 0, 1, 0, 1, 1, 0]
noncomputable def reg14_9 := rg Try.f14.body [1, 1, 1, 0, 1, 0, 1, 1, 1, 0, 0]
noncomputable def reg14_10 := rg Try.f14.body [1, 1, 1, 0, 1, 0, 1, 1, 1, 0, 1, 0]
noncomputable def reg14_11 := rg Try.f14.body [1, 1, 1, 0, 1, 0, 1, 1, 1, 1, 0]
noncomputable def reg14_12 := rg Try.f14.body [1, 1, 1, 0, 1, 0, 1, 1, 1, 1, 1, 0]
theorem size14_12 : reg14_12.size = 13 := by kernel_rfl
noncomputable def reg14_13 := rg Try.f14.body [1, 1, 1, 0, 1, 0, 1, 1, 1, 1, 1, 1, 0]
noncomputable def reg14_14 := rg Try.f14.body [1, 1, 1, 0, 1, 0, 1, 1, 1, 1, 1, 1, 1, 0]
theorem size14_14 : reg14_14.size = 12 := by kernel_rfl
noncomputable def reg14_4 := rg Try.f14.body [1, 1, 1, 0, 1, 0, 1, 1, 1, 1, 1, 1, 1, 1, 0]
noncomputable def reg14_15 := rg Try.f14.body [1, 1, 1, 1, 0]
noncomputable def reg14_16 := rg Try.f14.body [1, 1, 1, 1, 1, 0, 0]
noncomputable def reg14_17 := rg Try.f14.body [1, 1, 1, 1, 1, 0, 1, 0, 0, 0]
noncomputable def reg14_18 := rg Try.f14.body [1, 1, 1, 1, 1, 0, 1, 0, 0, 1, 0, 0]
noncomputable def reg14_19 := rg Try.f14.body [1, 1, 1, 1, 1, 0, 1, 0, 1]
noncomputable def reg14_20 := rg Try.f14.body [1, 1, 1, 1, 1, 1, 0]
theorem z14 : List.range reg14_0.size = [0, 1, 2] ∧ List.range reg14_1.size = [0] ∧ List.range reg14_2.size = [0] ∧ List.range reg14_3.size = [0, 1] ∧ List.range reg14_4.size = [0, 1] ∧ List.range reg14_5.size = [0, 1] ∧ List.range reg14_6.size = [0, 1, 2, 3, 4, 5, 6, 7, 8, 9] ∧ List.range reg14_7.size = [0, 1] ∧ List.range reg14_8.size = [0, 1] ∧ List.range reg14_9.size = [0, 1, 2, 3, 4, 5, 6, 7, 8, 9, 10, 11] ∧ List.range reg14_10.size = [0, 1] ∧ List.range reg14_11.size = [0, 1] ∧ List.range reg14_12.size = [0, 1, 2, 3, 4, 5, 6, 7, 8, 9, 10, 11, 12] ∧ List.range reg14_13.size = [0, 1] ∧ List.range reg14_14.size = [0, 1, 2, 3, 4, 5, 6, 7, 8, 9, 10, 11] ∧ List.range reg14_15.size = [0, 1, 2, 3] ∧ List.range reg14_16.size = [0, 1, 2] ∧ List.range reg14_17.size = [0, 1, 2] ∧ List.range reg14_18.size = [0, 1] ∧ List.range reg14_19.size = [0, 1, 2, 3] ∧ List.range reg14_20.size = [0, 1] := by refine ⟨?_, ?_, ?_, ?_, ?_, ?_, ?_, ?_, ?_, ?_, ?_, ?_, ?_, ?_, ?_, ?_, ?_, ?_, ?_, ?_, ?_⟩ <;> kernel_rfl
theorem code14_is : Try.f14.body = some (.seq (.region 0 reg14_0 false) (.seq (.region 1 reg14_1 false) (.seq (.region 2 reg14_2 false) (.seq (.seq (.region 3 reg14_3 false) (.block 0 (.seq (.region 5 reg14_5 false) (.cond (.tmp 12 ) (.seq (.region 6 reg14_6 false) (.seq (.region 7 reg14_7 false) (.ret))) (.seq (.region 8 reg14_8 false) (.cond (.tmp 23 ) (.seq (.region 9 reg14_9 false) (.seq (.region 10 reg14_10 false) (.ret))) (.seq (.region 11 reg14_11 false) (.cond (.tmp 36 ) (.region 12 reg14_12 true) (.seq (.region 13 reg14_13 false) (.cond (.tmp 49 ) (.region 14 reg14_14 true) (.seq (.region 4 reg14_4 false) (.ret)))))))))))) (.seq (.region 15 reg14_15 false) (.seq (.seq (.region 16 reg14_16 false) (.cond (.tmp 66 ) (.seq (.seq (.region 17 reg14_17 false) (.cond (.tmp 69 ) (.seq (.region 18 reg14_18 false) (.ret)) (.skip))) (.region 19 reg14_19 false)) (.skip))) (.seq (.region 20 reg14_20 false) (.ret)))))))) := by kernel_rfl
def heldC (x : Int) : Int := if x < -1 then -1 else if 2147483647 < x then 2147483647 else x
theorem heldC_tries (x : Int) : triesX (heldC x) = triesX x := by
 unfold triesX heldC
 split
 ·congr 1; omega
 split
 ·congr 1; omega
 ·rfl
def tmK (sv : Value) (N : Nat) (u : Nat → Value) : Array Value := #[u 0, sv, u 2, .pointer (some ⟨N, 0, none⟩), u 4, .pointer (some ⟨N + 1, 0, none⟩), .pointer (some ⟨N + 2, 0, none⟩), .pointer (some ⟨N + 3, 0, none⟩), u 8, u 9, u 10, u 11, u 12, u 13, u 14, u 15, u 16, u 17, u 18, u 19, u 20, u 21, u 22, u 23, u 24, u 25, u 26, u 27, u 28, u 29, u 30, u 31, u 32, u 33, u 34, u 35, u 36, u 37, u 38, u 39, u 40, u 41, u 42, u 43, u 44, u 45, u 46, u 47, u 48, u 49, u 50, u 51, u 52, u 53, u 54, u 55, u 56, u 57, u 58, u 59, u 60, u 61, u 62, u 63, u 64, u 65, u 66, u 67, u 68, u 69, u 70, u 71, u 72, u 73, u 74]
section
variable {cb m : Nat} {sv : Value}
def MkT (K : Lg (onLa cb m) sv) (e : K.E) (y n : Int) : Prop := (n = 0 ∧ K.tgt e = (K.s e, .inl (true, y))) ∨ (n = 4 ∧ y = 0 ∧ K.tgt e = (K.s e, .inl (false, -4))) ∨ (n = 6 ∧ y = 0 ∧ K.tgt e = (K.s e, .inl (false, -6)))
structure CaB (K : Lg (onLa cb m) sv) (N i : Nat) (ok oa ob oc : Int) (e : K.E) : Prop where
 m0 : K.mine e N
 m1 : K.mine e (N + 1)
 m2 : K.mine e (N + 2)
 m3 : K.mine e (N + 3)
 b0 : (K.w e).heap[N]? = some (.cells #[onP cb i] 35)
 b1 : (K.w e).heap[N + 1]? = some (.cells #[.int .i64 ok, .int .i64 oa, .int .i64 ob, .int .i64 oc] 34)
 b2 : (K.w e).heap[N + 2]? = some (.cells #[.bool false, .int .i64 0, .slice none 0 0] 51)
 b3 : (K.w e).heap[N + 3]? = some (.cells #[.bool false, .int .i64 0, .slice none 0 0] 51)
theorem CaB.kept {K : Lg (onLa cb m) sv} {N i : Nat} {ok oa ob oc : Int} {e e' : K.E} (H : CaB K N i ok oa ob oc e) (h : Kept K e e') : CaB K N i ok oa ob oc e' :=
 ⟨(h _ H.m0).1, (h _ H.m1).1, (h _ H.m2).1, (h _ H.m3).1, (h _ H.m0).2.trans H.b0, (h _ H.m1).2.trans H.b1, (h _ H.m2).2.trans H.b2, (h _ H.m3).2.trans H.b3⟩
inductive CaS (K : Lg (onLa cb m) sv) (C T N i : Nat) (q : Bool) (v ok oa ob oc y n : Int) (f : Nat → Bool) (e : K.E) (w : World) : Prop
 | early (hc : f C = false) (ht : f T = false) (B : CaB K N i ok oa ob oc e) (t : K.tgt e = (K.s e, .inr (.m1 q i v (triesX oc)))) (w : ∃ d, w = (K.w e).at d)
 | done (hc : f C = true) (ht : f T = false) (B : CaB K N i ok oa ob oc e) (t : MkT K e y n) (w : ∃ d, w = (K.w e).at d)
 | told (ht : f T = true) (B : CaB K N i ok oa ob oc e) (t : MkT K e y n) (w : ∃ d, w = ((K.w e).setCell ⟨N + 3, 1, none⟩ (.int .i64 y)).at d)
theorem CaS.quiet {K : Lg (onLa cb m) sv} {C T N i : Nat} {q : Bool} {v ok oa ob oc y n : Int} {f : Nat → Bool} {e : K.E} {w : World} (h : CaS K C T N i q v ok oa ob oc y n f e w) {j : Nat} (h1 : j ≠ C) (h2 : j ≠ T) :
  ∃ w0 d, w = w0.at d ∧ w0.cell? ⟨N, 0, none⟩ = some (onP cb i) ∧ w0.cell? ⟨N + 1, 3, none⟩ = some (.int .i64 oc) ∧ CaS K C T N i q v ok oa ob oc y n (upd f j true) e w0 := by
 have nC : upd f j true C = f C := upd_ne _ _ (Ne.symm h1)
 have nT : upd f j true T = f T := upd_ne _ _ (Ne.symm h2)
 cases h with
 | early hc ht B t w =>
  obtain ⟨d, rfl⟩ := w
  exact ⟨_, d, rfl, (cell_of B.b0 0).trans rfl, (cell_of B.b1 3).trans rfl, .early (nC.trans hc) (nT.trans ht) B t ⟨_, rfl⟩⟩
 | done hc ht B t w =>
  obtain ⟨d, rfl⟩ := w
  exact ⟨_, d, rfl, (cell_of B.b0 0).trans rfl, (cell_of B.b1 3).trans rfl, .done (nC.trans hc) (nT.trans ht) B t ⟨_, rfl⟩⟩
 | told ht B t w =>
  obtain ⟨d, rfl⟩ := w
  refine ⟨_, d, rfl, ?_, ?_, .told (nT.trans ht) B t ⟨_, rfl⟩⟩
  ·exact (cell_of ((heap_set_other _ _ _ _ (by show N ≠ N + 3; omega)).trans B.b0) 0).trans rfl
  ·exact (cell_of ((heap_set_other _ _ _ _ (by show N + 1 ≠ N + 3; omega)).trans B.b1) 3).trans rfl
def dscall_mk3 : List Nat := [39, 40, 41, 42, 43, 44, 45, 38, 46, 47, 48, 1000, 8]
def vscall_mk3 (sv : Value) (cb N i : Nat) (oc y n : Int) : List Value := [.pointer (some ⟨cb, i * 3, none⟩), sv, .pointer (some ⟨N + 1, 3, none⟩), .int .i64 oc, .int .i64 (heldC oc), .func (.func 43) #[] #[.pointer (some ⟨N, 0, none⟩), .pointer (some ⟨N + 1, 0, none⟩)], .tuple #[.int .i64 y, .int .i64 n], .tuple #[.int .i64 y, .int .i64 n], .int .i64 y, .int .i64 n, .pointer (some ⟨N + 3, 1, none⟩), undef, .int .i64 n]
theorem vscall_mk3_y (sv : Value) (cb N i : Nat) (oc y n y2 n2 : Int) {j : Nat} (h : j < 6) : (vscall_mk3 sv cb N i oc y n)[j]? = (vscall_mk3 sv cb N i oc y2 n2)[j]? := by
 match j, h with
 | 0, _ => rfl
 | 1, _ => rfl
 | 2, _ => rfl
 | 3, _ => rfl
 | 4, _ => rfl
 | 5, _ => rfl
theorem call_mk3 (K : Lg (onLa cb m) sv) (i : Nat) (hi : i < m) (N : Nat) (ok oa ob oc : Int) (hmk : ∀ e1 : K.E, CaB K N i ok oa ob oc e1 → MkOK (Fz K e1) false i ob 43 #[.pointer (some ⟨N, 0, none⟩), .pointer (some ⟨N + 1, 0, none⟩)]) (e : K.E) (B0 : CaB K N i ok oa ob oc e) (ht : K.tgt e = (K.s e, .inr (.m1 false i ob (triesX oc)))) (fr : Frame) (l : List Frame) (hp : Plain fr) (hl : ∀ f ∈ l, Plain f) (k : List Item) (u0 : Nat → Value)
  (hret : ∀ (u : Nat → Value) (e' : K.E) (y n : Int), u 8 = .int .i64 n → CaB K N i ok oa ob oc e' → MkT K e' y n → Walk Try.prog K.main (DR (K.V e')) (K.Stop e') (G ((base 14).at ⟨tmK sv N u, []⟩ (.inRegion reg14_12 [] :: k)) (fr :: (l ++ K.bot e'))) ((K.w e').setCell ⟨N + 3, 1, none⟩ (.int .i64 y))) :
  LW K.toLb e (G ((base 14).at ⟨tmK sv N u0, []⟩ (.code (.region 12 reg14_12 true) :: k)) (fr :: (l ++ K.bot e))) := by
 unfold LW
 refine Walk.drawnE (E := K.E × World) (V := fun x => K.V x.1) (Stop := fun x => K.Stop x.1) (cs := fun x => fr :: (l ++ K.bot x.1)) (w := fun x => x.2) (Inv := fun f x y => ∃ u yy nn, x = ⟨tmK sv N u, []⟩ ∧ Facts dscall_mk3 (vscall_mk3 sv cb N i oc yy nn) f u ∧ CaS K 6 11 N i false ob ok oa ob oc yy nn f y.1 y.2) (e, K.w e) (by kernel_rfl) (by kernel_rfl)
  ⟨u0, 0, 0, rfl, Facts.none _ _ _, .early rfl rfl B0 ht ⟨(K.w e).drawn, rfl⟩⟩ ?_ ?_
 ·rintro f j op x ⟨e', w'⟩ ⟨u, y, n, rfl, F0, hS⟩ hC hfj ho hdeps rest hr
  dsimp only at hS hr ⊢
  have hj : j < 13 := by have := (Array.getElem?_eq_some_iff.1 ho).1; rw [size14_12] at this; exact this
  match j, hj with
  | 0, _ =>
   obtain ⟨w0, dd, rfl, hc0, hc3, hS2⟩ := hS.quiet (j := 0) (by decide) (by decide)
   refine Walk.back ?_ dd
   clear hdeps hC hmk hret
   unfold onP at hc0
   simp only [tmK] at hr ⊢
   (refine Walk.oq ?_; try walk_nrm)
   refine hr _ (e', w0) ⟨upd u 39 (.pointer (some ⟨cb, i * 3, none⟩)), y, n, ?_, F0.set (by decide) rfl rfl, hS2⟩
   simp [tmK, upd]
  | 1, _ =>
   obtain ⟨w0, dd, rfl, hc0, hc3, hS2⟩ := hS.quiet (j := 1) (by decide) (by decide)
   refine Walk.back ?_ dd
   clear hdeps hC hmk hret
   simp only [tmK] at hr ⊢
   (refine Walk.oq ?_; try walk_nrm)
   refine hr _ (e', w0) ⟨upd u 40 (sv), y, n, ?_, F0.set (by decide) rfl rfl, hS2⟩
   simp [tmK, upd]
  | 2, _ =>
   obtain ⟨w0, dd, rfl, hc0, hc3, hS2⟩ := hS.quiet (j := 2) (by decide) (by decide)
   refine Walk.back ?_ dd
   clear hdeps hC hmk hret
   simp only [tmK] at hr ⊢
   (refine Walk.oq ?_; try walk_nrm)
   refine hr _ (e', w0) ⟨upd u 41 (.pointer (some ⟨N + 1, 3, none⟩)), y, n, ?_, F0.set (by decide) rfl rfl, hS2⟩
   simp [tmK, upd]
  | 3, _ =>
   obtain ⟨w0, dd, rfl, hc0, hc3, hS2⟩ := hS.quiet (j := 3) (by decide) (by decide)
   refine Walk.back ?_ dd
   have hd := deps_of (l := [2]) (by kernel_rfl) ho hdeps
   have e41 := F0 2 41 _ (hd 2 (by simp)) rfl rfl
   clear hdeps hC hmk hret
   simp only [tmK] at hr ⊢
   simp only [e41]
   (refine Walk.oq ?_; try walk_nrm)
   refine hr _ (e', w0) ⟨upd u 42 (.int .i64 oc), y, n, ?_, F0.set (by decide) rfl rfl, hS2⟩
   simp [tmK, upd, e41]
  | 4, _ =>
   obtain ⟨w0, dd, rfl, hc0, hc3, hS2⟩ := hS.quiet (j := 4) (by decide) (by decide)
   refine Walk.back ?_ dd
   have hd := deps_of (l := [3]) (by kernel_rfl) ho hdeps
   have e42 := F0 3 42 _ (hd 3 (by simp)) rfl rfl
   clear hdeps hC hmk hret
   simp only [tmK] at hr ⊢
   simp only [e42]
   refine Walk.callV (x := .int .i64 (heldC oc)) (W := w0) ?_ (ho_of (by conv => lhs; whnf) (by kernel_rfl)) (by rfl) (by decide) rfl Try.func33 (by kernel_rfl) (by rfl) ?_
   ·walk_nrm
    exact held_w oc (-1) 2147483647 w0
   walk_nrm
   refine hr _ (e', w0) ⟨upd u 43 (.int .i64 (heldC oc)), y, n, ?_, F0.set (by decide) rfl rfl, hS2⟩
   simp [tmK, upd, e42]
  | 5, _ =>
   obtain ⟨w0, dd, rfl, hc0, hc3, hS2⟩ := hS.quiet (j := 5) (by decide) (by decide)
   refine Walk.back ?_ dd
   clear hdeps hC hmk hret
   simp only [tmK] at hr ⊢
   (refine Walk.oq ?_; try walk_nrm)
   refine hr _ (e', w0) ⟨upd u 44 (.func (.func 43) #[] #[.pointer (some ⟨N, 0, none⟩), .pointer (some ⟨N + 1, 0, none⟩)]), y, n, ?_, F0.set (by decide) rfl rfl, hS2⟩
   simp [tmK, upd]
  | 6, _ =>
   have hd := deps_of (l := [0, 1, 4, 5]) (by kernel_rfl) ho hdeps
   have e39 := F0 0 39 _ (hd 0 (by simp)) rfl rfl
   have e40 := F0 1 40 _ (hd 1 (by simp)) rfl rfl
   have e43 := F0 4 43 _ (hd 4 (by simp)) rfl rfl
   have e44 := F0 5 44 _ (hd 5 (by simp)) rfl rfl
   have h7 : f 7 = false := by
    cases h : f 7 with
    | false => rfl
    | true => have := hC.deps (i := 7) (l := [6]) h (by kernel_rfl) 6 (by simp); rw [hfj] at this; cases this
   have h8' : f 8 = false := by
    cases h : f 8 with
    | false => rfl
    | true => have := hC.deps (i := 8) (l := [7]) h (by kernel_rfl) 7 (by simp); rw [h7] at this; cases this
   have h9' : f 9 = false := by
    cases h : f 9 with
    | false => rfl
    | true => have := hC.deps (i := 9) (l := [7]) h (by kernel_rfl) 7 (by simp); rw [h7] at this; cases this
   have h10' : f 10 = false := by
    cases h : f 10 with
    | false => rfl
    | true => have := hC.deps (i := 10) (l := [6]) h (by kernel_rfl) 6 (by simp); rw [hfj] at this; cases this
   have h11' : f 11 = false := by
    cases h : f 11 with
    | false => rfl
    | true => have := hC.deps (i := 11) (l := [6]) h (by kernel_rfl) 6 (by simp); rw [hfj] at this; cases this
   have h12' : f 12 = false := by
    cases h : f 12 with
    | false => rfl
    | true => have := hC.deps (i := 12) (l := [6]) h (by kernel_rfl) 6 (by simp); rw [hfj] at this; cases this
   cases hS with
   | done hc => rw [hfj] at hc; cases hc
   | told h => rw [h11'] at h; cases h
   | early hc htt B t hw =>
    obtain ⟨dd, rfl⟩ := hw
    refine Walk.back ?_ dd
    have hmm := SCall.fz K (make_s (Fz K e') false i hi ob 43 Try.f43 #[.pointer (some ⟨N, 0, none⟩), .pointer (some ⟨N + 1, 0, none⟩)] Try.func43 (by kernel_rfl) (by rfl) (hmk e' B) (heldC oc) (fz0 K e') (t.trans (by rw [heldC_tries]; rfl)))
    unfold onP at hmm
    clear hdeps hC
    simp only [tmK] at hr ⊢
    simp only [e39, e40, e43, e44]
    refine LW.callS (K := K.toLb) (e := e') (l := fr :: l) (f := 42) (Q := fun x e2 => ∃ h : Kept K e' e2, MakeOut (Fz K e') x ⟨e2, h⟩) ?_ (ho_of (by conv => lhs; whnf) (by kernel_rfl)) (by rfl) (by decide) rfl Try.func42 (by kernel_rfl) (by rfl) ⟨rfl, rfl, _, Try.func14⟩ (plain_cons hp hl) ?_
    ·walk_nrm
     exact hmm
    rintro x e2 ⟨hkept, y2, n2, rfl, h3⟩
    have h3 : MkT K e2 y2 n2 := h3
    have B2 := B.kept hkept
    unfold LW
    walk_nrm
    refine hr _ (e2, K.w e2) ⟨upd u 45 (.tuple #[.int .i64 y2, .int .i64 n2]), y2, n2, ?_, Facts.set (fun j d x hf hd hx => ?_) (by decide) rfl rfl, .done (upd_same _ _ _) ((upd_ne _ _ (by decide)).trans h11') B2 h3 ⟨(K.w e2).drawn, rfl⟩⟩
    ·simp [tmK, upd, e39, e40, e43, e44]
    ·have hjn : j < 13 := (List.getElem?_eq_some_iff.1 hx).1
     have hjc : j < 6 := by
      refine Classical.byContradiction fun hge => ?_
      have : j = 6 ∨ j = 7 ∨ j = 8 ∨ j = 9 ∨ j = 10 ∨ j = 11 ∨ j = 12 := by omega
      rcases this with rfl | rfl | rfl | rfl | rfl | rfl | rfl
      ·rw [hfj] at hf; cases hf
      ·rw [h7] at hf; cases hf
      ·rw [h8'] at hf; cases hf
      ·rw [h9'] at hf; cases hf
      ·rw [h10'] at hf; cases hf
      ·rw [h11'] at hf; cases hf
      ·rw [h12'] at hf; cases hf
     exact F0 j d x hf hd ((vscall_mk3_y sv cb N i oc y n y2 n2 hjc).trans hx)
  | 7, _ =>
   obtain ⟨w0, dd, rfl, hc0, hc3, hS2⟩ := hS.quiet (j := 7) (by decide) (by decide)
   refine Walk.back ?_ dd
   have hd := deps_of (l := [6]) (by kernel_rfl) ho hdeps
   have e45 := F0 6 45 _ (hd 6 (by simp)) rfl rfl
   clear hdeps hC hmk hret
   simp only [tmK] at hr ⊢
   simp only [e45]
   (refine Walk.oq ?_; try walk_nrm)
   refine hr _ (e', w0) ⟨upd u 38 (.tuple #[.int .i64 y, .int .i64 n]), y, n, ?_, F0.set (by decide) rfl rfl, hS2⟩
   simp [tmK, upd, e45]
  | 8, _ =>
   obtain ⟨w0, dd, rfl, hc0, hc3, hS2⟩ := hS.quiet (j := 8) (by decide) (by decide)
   refine Walk.back ?_ dd
   have hd := deps_of (l := [7]) (by kernel_rfl) ho hdeps
   have e38 := F0 7 38 _ (hd 7 (by simp)) rfl rfl
   clear hdeps hC hmk hret
   simp only [tmK] at hr ⊢
   simp only [e38]
   (refine Walk.oq ?_; try walk_nrm)
   refine hr _ (e', w0) ⟨upd u 46 (.int .i64 y), y, n, ?_, F0.set (by decide) rfl rfl, hS2⟩
   simp [tmK, upd, e38]
  | 9, _ =>
   obtain ⟨w0, dd, rfl, hc0, hc3, hS2⟩ := hS.quiet (j := 9) (by decide) (by decide)
   refine Walk.back ?_ dd
   have hd := deps_of (l := [7]) (by kernel_rfl) ho hdeps
   have e38 := F0 7 38 _ (hd 7 (by simp)) rfl rfl
   clear hdeps hC hmk hret
   simp only [tmK] at hr ⊢
   simp only [e38]
   (refine Walk.oq ?_; try walk_nrm)
   refine hr _ (e', w0) ⟨upd u 47 (.int .i64 n), y, n, ?_, F0.set (by decide) rfl rfl, hS2⟩
   simp [tmK, upd, e38]
  | 10, _ =>
   obtain ⟨w0, dd, rfl, hc0, hc3, hS2⟩ := hS.quiet (j := 10) (by decide) (by decide)
   refine Walk.back ?_ dd
   clear hdeps hC hmk hret
   simp only [tmK] at hr ⊢
   (refine Walk.oq ?_; try walk_nrm)
   refine hr _ (e', w0) ⟨upd u 48 (.pointer (some ⟨N + 3, 1, none⟩)), y, n, ?_, F0.set (by decide) rfl rfl, hS2⟩
   simp [tmK, upd]
  | 11, _ =>
   have hd := deps_of (l := [10, 8, 6]) (by kernel_rfl) ho hdeps
   have eA := F0 10 48 _ (hd 10 (by simp)) rfl rfl
   have eY := F0 8 46 _ (hd 8 (by simp)) rfl rfl
   have fC := hd 6 (by simp)
   cases hS with
   | early hc => rw [fC] at hc; cases hc
   | told h => rw [hfj] at h; cases h
   | done hc htt B t hw =>
    obtain ⟨dd, rfl⟩ := hw
    refine Walk.back ?_ dd
    have hap := (K.mineA e' _ B.m3).1
    have n1 : (K.w e').cell? ⟨N + 3, 1, none⟩ = some (.int .i64 0) := (cell_of B.b3 1).trans rfl
    have y1 := frozen_of B.b3 1
    clear hdeps hC
    simp only [tmK] at hr ⊢
    simp only [eA, eY]
    (have hfr := hap.1 ⟨N + 3, 1, none⟩ rfl; refine Walk.os hfr n1 ?_; clear hfr; try walk_nrm)
    refine hr _ (e', (K.w e').setCell ⟨N + 3, 1, none⟩ (.int .i64 y)) ⟨upd u 1000 undef, y, n, ?_, F0.set (by decide) rfl rfl, .told (upd_same _ _ _) B t ⟨_, rfl⟩⟩
    simp [tmK, upd, eA, eY]
  | 12, _ =>
   obtain ⟨w0, dd, rfl, hc0, hc3, hS2⟩ := hS.quiet (j := 12) (by decide) (by decide)
   refine Walk.back ?_ dd
   have hd := deps_of (l := [9, 11]) (by kernel_rfl) ho hdeps
   have e47 := F0 9 47 _ (hd 9 (by simp)) rfl rfl
   clear hdeps hC hmk hret
   simp only [tmK] at hr ⊢
   simp only [e47]
   (refine Walk.oq ?_; try walk_nrm)
   refine hr _ (e', w0) ⟨upd u 8 (.int .i64 n), y, n, ?_, F0.set (by decide) rfl rfl, hS2⟩
   simp [tmK, upd, e47]
 ·rintro f x ⟨e', w'⟩ ⟨u, y, n, rfl, F0, hS⟩ hall
  have hT : f 11 = true := hall 11 (by rw [size14_12]; decide)
  have hZ : f 12 = true := hall 12 (by rw [size14_12]; decide)
  have e8 := F0 12 8 _ hZ rfl rfl
  dsimp only at hS ⊢
  cases hS with
  | early _ h => rw [hT] at h; cases h
  | done _ h => rw [hT] at h; cases h
  | told _ B t hw =>
   obtain ⟨dd, rfl⟩ := hw
   exact Walk.back (hret u e' y n e8 B t) dd
def dscall_mk4 : List Nat := [52, 53, 54, 55, 56, 57, 51, 58, 59, 60, 1000, 8]
def vscall_mk4 (sv : Value) (cb N i : Nat) (oc y n : Int) : List Value := [.pointer (some ⟨cb, i * 3, none⟩), sv, .pointer (some ⟨N + 1, 3, none⟩), .int .i64 oc, .int .i64 (heldC oc), .tuple #[.int .i64 y, .int .i64 n], .tuple #[.int .i64 y, .int .i64 n], .int .i64 y, .int .i64 n, .pointer (some ⟨N + 3, 1, none⟩), undef, .int .i64 n]
theorem vscall_mk4_y (sv : Value) (cb N i : Nat) (oc y n y2 n2 : Int) {j : Nat} (h : j < 5) : (vscall_mk4 sv cb N i oc y n)[j]? = (vscall_mk4 sv cb N i oc y2 n2)[j]? := by
 match j, h with
 | 0, _ => rfl
 | 1, _ => rfl
 | 2, _ => rfl
 | 3, _ => rfl
 | 4, _ => rfl
theorem call_mk4 (K : Lg (onLa cb m) sv) (i : Nat) (hi : i < m) (N : Nat) (ok oa ob oc : Int) (hmk : ∀ e1 : K.E, CaB K N i ok oa ob oc e1 → MkOK (Fz K e1) true i 0 44 #[]) (e : K.E) (B0 : CaB K N i ok oa ob oc e) (ht : K.tgt e = (K.s e, .inr (.m1 true i 0 (triesX oc)))) (fr : Frame) (l : List Frame) (hp : Plain fr) (hl : ∀ f ∈ l, Plain f) (k : List Item) (u0 : Nat → Value)
  (hret : ∀ (u : Nat → Value) (e' : K.E) (y n : Int), u 8 = .int .i64 n → CaB K N i ok oa ob oc e' → MkT K e' y n → Walk Try.prog K.main (DR (K.V e')) (K.Stop e') (G ((base 14).at ⟨tmK sv N u, []⟩ (.inRegion reg14_14 [] :: k)) (fr :: (l ++ K.bot e'))) ((K.w e').setCell ⟨N + 3, 1, none⟩ (.int .i64 y))) :
  LW K.toLb e (G ((base 14).at ⟨tmK sv N u0, []⟩ (.code (.region 14 reg14_14 true) :: k)) (fr :: (l ++ K.bot e))) := by
 unfold LW
 refine Walk.drawnE (E := K.E × World) (V := fun x => K.V x.1) (Stop := fun x => K.Stop x.1) (cs := fun x => fr :: (l ++ K.bot x.1)) (w := fun x => x.2) (Inv := fun f x y => ∃ u yy nn, x = ⟨tmK sv N u, []⟩ ∧ Facts dscall_mk4 (vscall_mk4 sv cb N i oc yy nn) f u ∧ CaS K 5 10 N i true 0 ok oa ob oc yy nn f y.1 y.2) (e, K.w e) (by kernel_rfl) (by kernel_rfl)
  ⟨u0, 0, 0, rfl, Facts.none _ _ _, .early rfl rfl B0 ht ⟨(K.w e).drawn, rfl⟩⟩ ?_ ?_
 ·rintro f j op x ⟨e', w'⟩ ⟨u, y, n, rfl, F0, hS⟩ hC hfj ho hdeps rest hr
  dsimp only at hS hr ⊢
  have hj : j < 12 := by have := (Array.getElem?_eq_some_iff.1 ho).1; rw [size14_14] at this; exact this
  match j, hj with
  | 0, _ =>
   obtain ⟨w0, dd, rfl, hc0, hc3, hS2⟩ := hS.quiet (j := 0) (by decide) (by decide)
   refine Walk.back ?_ dd
   clear hdeps hC hmk hret
   unfold onP at hc0
   simp only [tmK] at hr ⊢
   (refine Walk.oq ?_; try walk_nrm)
   refine hr _ (e', w0) ⟨upd u 52 (.pointer (some ⟨cb, i * 3, none⟩)), y, n, ?_, F0.set (by decide) rfl rfl, hS2⟩
   simp [tmK, upd]
  | 1, _ =>
   obtain ⟨w0, dd, rfl, hc0, hc3, hS2⟩ := hS.quiet (j := 1) (by decide) (by decide)
   refine Walk.back ?_ dd
   clear hdeps hC hmk hret
   simp only [tmK] at hr ⊢
   (refine Walk.oq ?_; try walk_nrm)
   refine hr _ (e', w0) ⟨upd u 53 (sv), y, n, ?_, F0.set (by decide) rfl rfl, hS2⟩
   simp [tmK, upd]
  | 2, _ =>
   obtain ⟨w0, dd, rfl, hc0, hc3, hS2⟩ := hS.quiet (j := 2) (by decide) (by decide)
   refine Walk.back ?_ dd
   clear hdeps hC hmk hret
   simp only [tmK] at hr ⊢
   (refine Walk.oq ?_; try walk_nrm)
   refine hr _ (e', w0) ⟨upd u 54 (.pointer (some ⟨N + 1, 3, none⟩)), y, n, ?_, F0.set (by decide) rfl rfl, hS2⟩
   simp [tmK, upd]
  | 3, _ =>
   obtain ⟨w0, dd, rfl, hc0, hc3, hS2⟩ := hS.quiet (j := 3) (by decide) (by decide)
   refine Walk.back ?_ dd
   have hd := deps_of (l := [2]) (by kernel_rfl) ho hdeps
   have e54 := F0 2 54 _ (hd 2 (by simp)) rfl rfl
   clear hdeps hC hmk hret
   simp only [tmK] at hr ⊢
   simp only [e54]
   (refine Walk.oq ?_; try walk_nrm)
   refine hr _ (e', w0) ⟨upd u 55 (.int .i64 oc), y, n, ?_, F0.set (by decide) rfl rfl, hS2⟩
   simp [tmK, upd, e54]
  | 4, _ =>
   obtain ⟨w0, dd, rfl, hc0, hc3, hS2⟩ := hS.quiet (j := 4) (by decide) (by decide)
   refine Walk.back ?_ dd
   have hd := deps_of (l := [3]) (by kernel_rfl) ho hdeps
   have e55 := F0 3 55 _ (hd 3 (by simp)) rfl rfl
   clear hdeps hC hmk hret
   simp only [tmK] at hr ⊢
   simp only [e55]
   refine Walk.callV (x := .int .i64 (heldC oc)) (W := w0) ?_ (ho_of (by conv => lhs; whnf) (by kernel_rfl)) (by rfl) (by decide) rfl Try.func33 (by kernel_rfl) (by rfl) ?_
   ·walk_nrm
    exact held_w oc (-1) 2147483647 w0
   walk_nrm
   refine hr _ (e', w0) ⟨upd u 56 (.int .i64 (heldC oc)), y, n, ?_, F0.set (by decide) rfl rfl, hS2⟩
   simp [tmK, upd, e55]
  | 5, _ =>
   have hd := deps_of (l := [0, 1, 4]) (by kernel_rfl) ho hdeps
   have e52 := F0 0 52 _ (hd 0 (by simp)) rfl rfl
   have e53 := F0 1 53 _ (hd 1 (by simp)) rfl rfl
   have e56 := F0 4 56 _ (hd 4 (by simp)) rfl rfl
   have h7 : f 6 = false := by
    cases h : f 6 with
    | false => rfl
    | true => have := hC.deps (i := 6) (l := [5]) h (by kernel_rfl) 5 (by simp); rw [hfj] at this; cases this
   have h7' : f 7 = false := by
    cases h : f 7 with
    | false => rfl
    | true => have := hC.deps (i := 7) (l := [6]) h (by kernel_rfl) 6 (by simp); rw [h7] at this; cases this
   have h8' : f 8 = false := by
    cases h : f 8 with
    | false => rfl
    | true => have := hC.deps (i := 8) (l := [6]) h (by kernel_rfl) 6 (by simp); rw [h7] at this; cases this
   have h9' : f 9 = false := by
    cases h : f 9 with
    | false => rfl
    | true => have := hC.deps (i := 9) (l := [5]) h (by kernel_rfl) 5 (by simp); rw [hfj] at this; cases this
   have h10' : f 10 = false := by
    cases h : f 10 with
    | false => rfl
    | true => have := hC.deps (i := 10) (l := [5]) h (by kernel_rfl) 5 (by simp); rw [hfj] at this; cases this
   have h11' : f 11 = false := by
    cases h : f 11 with
    | false => rfl
    | true => have := hC.deps (i := 11) (l := [5]) h (by kernel_rfl) 5 (by simp); rw [hfj] at this; cases this
   cases hS with
   | done hc => rw [hfj] at hc; cases hc
   | told h => rw [h10'] at h; cases h
   | early hc htt B t hw =>
    obtain ⟨dd, rfl⟩ := hw
    refine Walk.back ?_ dd
    have hmm := SCall.fz K (make_s (Fz K e') true i hi 0 44 Try.f44 #[] Try.func44 (by kernel_rfl) (by rfl) (hmk e' B) (heldC oc) (fz0 K e') (t.trans (by rw [heldC_tries]; rfl)))
    unfold onP at hmm
    clear hdeps hC
    simp only [tmK] at hr ⊢
    simp only [e52, e53, e56]
    refine LW.callS (K := K.toLb) (e := e') (l := fr :: l) (f := 42) (Q := fun x e2 => ∃ h : Kept K e' e2, MakeOut (Fz K e') x ⟨e2, h⟩) ?_ (ho_of (by conv => lhs; whnf) (by kernel_rfl)) (by rfl) (by decide) rfl Try.func42 (by kernel_rfl) (by rfl) ⟨rfl, rfl, _, Try.func14⟩ (plain_cons hp hl) ?_
    ·walk_nrm
     exact hmm
    rintro x e2 ⟨hkept, y2, n2, rfl, h3⟩
    have h3 : MkT K e2 y2 n2 := h3
    have B2 := B.kept hkept
    unfold LW
    walk_nrm
    refine hr _ (e2, K.w e2) ⟨upd u 57 (.tuple #[.int .i64 y2, .int .i64 n2]), y2, n2, ?_, Facts.set (fun j d x hf hd hx => ?_) (by decide) rfl rfl, .done (upd_same _ _ _) ((upd_ne _ _ (by decide)).trans h10') B2 h3 ⟨(K.w e2).drawn, rfl⟩⟩
    ·simp [tmK, upd, e52, e53, e56]
    ·have hjn : j < 12 := (List.getElem?_eq_some_iff.1 hx).1
     have hjc : j < 5 := by
      refine Classical.byContradiction fun hge => ?_
      have : j = 5 ∨ j = 6 ∨ j = 7 ∨ j = 8 ∨ j = 9 ∨ j = 10 ∨ j = 11 := by omega
      rcases this with rfl | rfl | rfl | rfl | rfl | rfl | rfl
      ·rw [hfj] at hf; cases hf
      ·rw [h7] at hf; cases hf
      ·rw [h7'] at hf; cases hf
      ·rw [h8'] at hf; cases hf
      ·rw [h9'] at hf; cases hf
      ·rw [h10'] at hf; cases hf
      ·rw [h11'] at hf; cases hf
     exact F0 j d x hf hd ((vscall_mk4_y sv cb N i oc y n y2 n2 hjc).trans hx)
  | 6, _ =>
   obtain ⟨w0, dd, rfl, hc0, hc3, hS2⟩ := hS.quiet (j := 6) (by decide) (by decide)
   refine Walk.back ?_ dd
   have hd := deps_of (l := [5]) (by kernel_rfl) ho hdeps
   have e57 := F0 5 57 _ (hd 5 (by simp)) rfl rfl
   clear hdeps hC hmk hret
   simp only [tmK] at hr ⊢
   simp only [e57]
   (refine Walk.oq ?_; try walk_nrm)
   refine hr _ (e', w0) ⟨upd u 51 (.tuple #[.int .i64 y, .int .i64 n]), y, n, ?_, F0.set (by decide) rfl rfl, hS2⟩
   simp [tmK, upd, e57]
  | 7, _ =>
   obtain ⟨w0, dd, rfl, hc0, hc3, hS2⟩ := hS.quiet (j := 7) (by decide) (by decide)
   refine Walk.back ?_ dd
   have hd := deps_of (l := [6]) (by kernel_rfl) ho hdeps
   have e51 := F0 6 51 _ (hd 6 (by simp)) rfl rfl
   clear hdeps hC hmk hret
   simp only [tmK] at hr ⊢
   simp only [e51]
   (refine Walk.oq ?_; try walk_nrm)
   refine hr _ (e', w0) ⟨upd u 58 (.int .i64 y), y, n, ?_, F0.set (by decide) rfl rfl, hS2⟩
   simp [tmK, upd, e51]
  | 8, _ =>
   obtain ⟨w0, dd, rfl, hc0, hc3, hS2⟩ := hS.quiet (j := 8) (by decide) (by decide)
   refine Walk.back ?_ dd
   have hd := deps_of (l := [6]) (by kernel_rfl) ho hdeps
   have e51 := F0 6 51 _ (hd 6 (by simp)) rfl rfl
   clear hdeps hC hmk hret
   simp only [tmK] at hr ⊢
   simp only [e51]
   (refine Walk.oq ?_; try walk_nrm)
   refine hr _ (e', w0) ⟨upd u 59 (.int .i64 n), y, n, ?_, F0.set (by decide) rfl rfl, hS2⟩
   simp [tmK, upd, e51]
  | 9, _ =>
   obtain ⟨w0, dd, rfl, hc0, hc3, hS2⟩ := hS.quiet (j := 9) (by decide) (by decide)
   refine Walk.back ?_ dd
   clear hdeps hC hmk hret
   simp only [tmK] at hr ⊢
   (refine Walk.oq ?_; try walk_nrm)
   refine hr _ (e', w0) ⟨upd u 60 (.pointer (some ⟨N + 3, 1, none⟩)), y, n, ?_, F0.set (by decide) rfl rfl, hS2⟩
   simp [tmK, upd]
  | 10, _ =>
   have hd := deps_of (l := [9, 7, 5]) (by kernel_rfl) ho hdeps
   have eA := F0 9 60 _ (hd 9 (by simp)) rfl rfl
   have eY := F0 7 58 _ (hd 7 (by simp)) rfl rfl
   have fC := hd 5 (by simp)
   cases hS with
   | early hc => rw [fC] at hc; cases hc
   | told h => rw [hfj] at h; cases h
   | done hc htt B t hw =>
    obtain ⟨dd, rfl⟩ := hw
    refine Walk.back ?_ dd
    have hap := (K.mineA e' _ B.m3).1
    have n1 : (K.w e').cell? ⟨N + 3, 1, none⟩ = some (.int .i64 0) := (cell_of B.b3 1).trans rfl
    have y1 := frozen_of B.b3 1
    clear hdeps hC
    simp only [tmK] at hr ⊢
    simp only [eA, eY]
    (have hfr := hap.1 ⟨N + 3, 1, none⟩ rfl; refine Walk.os hfr n1 ?_; clear hfr; try walk_nrm)
    refine hr _ (e', (K.w e').setCell ⟨N + 3, 1, none⟩ (.int .i64 y)) ⟨upd u 1000 undef, y, n, ?_, F0.set (by decide) rfl rfl, .told (upd_same _ _ _) B t ⟨_, rfl⟩⟩
    simp [tmK, upd, eA, eY]
  | 11, _ =>
   obtain ⟨w0, dd, rfl, hc0, hc3, hS2⟩ := hS.quiet (j := 11) (by decide) (by decide)
   refine Walk.back ?_ dd
   have hd := deps_of (l := [8, 10]) (by kernel_rfl) ho hdeps
   have e59 := F0 8 59 _ (hd 8 (by simp)) rfl rfl
   clear hdeps hC hmk hret
   simp only [tmK] at hr ⊢
   simp only [e59]
   (refine Walk.oq ?_; try walk_nrm)
   refine hr _ (e', w0) ⟨upd u 8 (.int .i64 n), y, n, ?_, F0.set (by decide) rfl rfl, hS2⟩
   simp [tmK, upd, e59]
 ·rintro f x ⟨e', w'⟩ ⟨u, y, n, rfl, F0, hS⟩ hall
  have hT : f 10 = true := hall 10 (by rw [size14_14]; decide)
  have hZ : f 11 = true := hall 11 (by rw [size14_14]; decide)
  have e8 := F0 11 8 _ hZ rfl rfl
  dsimp only at hS ⊢
  cases hS with
  | early _ h => rw [hT] at h; cases h
  | done _ h => rw [hT] at h; cases h
  | told _ B t hw =>
   obtain ⟨dd, rfl⟩ := hw
   exact Walk.back (hret u e' y n e8 B t) dd
end
end
end Go.Proofs.Ytdcjgmlgmjjogaa
