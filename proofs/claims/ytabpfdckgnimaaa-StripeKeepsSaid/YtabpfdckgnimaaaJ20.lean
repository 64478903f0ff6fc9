/- Part 20. -/
import Derived.Test.YtabpfdckgnimaaaJ14
import Derived.Test.YtabpfdckgnimaaaJ19
set_option linter.unusedSimpArgs false
set_option linter.unusedVariables false
set_option linter.unusedVariables false
set_option maxHeartbeats 8000000
set_option maxRecDepth 100000
namespace Go.Proofs.Ytabpfdckgnimaaa
open Go.Conc Go.RowKit Go.Relay
open Go.ConcN (upd upd_ne upd_same)
section
theorem info2 : ∃ ti : TypeInfo, Try.prog.info? 2 = some ti ∧ ti.zero = some (.int .i64 0) ∧ ti.size = 1 ∧ ti.bytes = 8 := by
  cases h : Try.prog.info? 2 with
  | none => exact absurd (by kernel_rfl : (Try.prog.info? 2).isSome = true) (by rw [h]; decide)
  | some ti =>
    have h1 : ((Try.prog.info? 2).bind fun x => x.zero) = some (.int .i64 0) := by kernel_rfl
    have h2 : (Try.prog.info? 2).map (fun x => x.size) = some 1 := by kernel_rfl
    have h3 : (Try.prog.info? 2).map (fun x => x.bytes) = some 8 := by kernel_rfl
    rw [h] at h1 h2 h3
    simp only [Option.bind_some, Option.map_some, Option.some.injEq] at h1 h2 h3
    exact ⟨ti, rfl, h1, h2, h3⟩
def Told (w : World) (B m : Nat) (l : List Int) : Prop := ∃ arr : Array Value, w.heap[B]? = some (.cells arr 2) ∧ arr.size = m ∧ ∀ (i : Nat) (x : Int), l[i]? = some x → arr[i]? = some (.int .i64 x)
theorem Told.snoc {w : World} {B m : Nat} {l : List Int} (h : Told w B m l) (hl : l.length < m) (x : Int) : Told (w.setCell ⟨B, l.length, none⟩ (.int .i64 x)) B m (l ++ [x]) := by
  obtain ⟨arr, h1, h2, h3⟩ := h
  refine ⟨_, heap_set_self _ _ h1, by simpa using h2, fun i y hy => ?_⟩
  by_cases hi : i < l.length
  · rw [List.getElem?_append_left hi] at hy
    rw [Array.getElem?_setIfInBounds_ne (by omega)]
    exact h3 i y hy
  · rw [List.getElem?_append_right (by omega)] at hy
    obtain ⟨h4, h5⟩ := List.getElem?_eq_some_iff.1 hy
    have h6 : i = l.length := by simp at h4; omega
    subst h6
    simp at h5
    subst h5
    exact Array.getElem?_setIfInBounds_self_of_lt (by omega)
noncomputable def reg22_0 := rg Try.f22.body [0]
noncomputable def reg22_1 := rg Try.f22.body [1, 0]
noncomputable def reg22_2 := rg Try.f22.body [1, 1, 0, 0]
noncomputable def reg22_3 := rg Try.f22.body [1, 1, 0, 1, 0, 0, 0]
noncomputable def reg22_4 := rg Try.f22.body [1, 1, 0, 1, 0, 0, 1, 1, 0, 0, 0]
noncomputable def reg22_5 := rg Try.f22.body [1, 1, 0, 1, 0, 0, 1, 1, 0, 0, 1]
noncomputable def reg22_6 := rg Try.f22.body [1, 1, 0, 1, 0, 0, 1, 1, 1]
noncomputable def reg22_7 := rg Try.f22.body [1, 1, 1, 0]
theorem z22 : List.range reg22_0.size = [0] ∧ List.range reg22_1.size = [0, 1, 2, 3] ∧ List.range reg22_2.size = [0, 1, 2] ∧ List.range reg22_3.size = [0] ∧ List.range reg22_4.size = [0, 1] ∧ List.range reg22_5.size = [0, 1, 2, 3, 4, 5, 6, 7, 8] ∧ List.range reg22_6.size = [0, 1] ∧ List.range reg22_7.size = [0, 1] := by refine ⟨?_, ?_, ?_, ?_, ?_, ?_, ?_, ?_⟩ <;> kernel_rfl
theorem code22_is : Try.f22.body = some (.seq (.region 0 reg22_0 false) (.seq (.region 1 reg22_1 false) (.seq (.seq (.region 2 reg22_2 false) (.block 0 (.loop (.seq (.region 3 reg22_3 false) (.seq (.cond (.tmp 13 ) (.skip) (.exit 0)) (.seq (.block 1 (.seq (.region 4 reg22_4 false) (.region 5 reg22_5 false))) (.region 6 reg22_6 false))))))) (.seq (.region 7 reg22_7 false) (.ret))))) := by kernel_rfl
noncomputable def reg44_0 := rg Try.f44.body [0]
noncomputable def reg44_1 := rg Try.f44.body [1, 0]
theorem z44 : List.range reg44_0.size = [0] ∧ List.range reg44_1.size = [0, 1, 2, 3] := by refine ⟨?_, ?_⟩ <;> kernel_rfl
theorem code44_is : Try.f44.body = some (.seq (.region 0 reg44_0 false) (.seq (.region 1 reg44_1 false) (.ret))) := by kernel_rfl
noncomputable def reg23_0 := rg Try.f23.body [0]
noncomputable def reg23_1 := rg Try.f23.body [1, 0]
theorem z23 : List.range reg23_0.size = [0] ∧ List.range reg23_1.size = [0, 1, 2, 3] := by refine ⟨?_, ?_⟩ <;> kernel_rfl
theorem code23_is : Try.f23.body = some (.seq (.region 0 reg23_0 false) (.seq (.region 1 reg23_1 false) (.ret))) := by kernel_rfl
noncomputable def hdEach (cb : Nat) (fm : FuncId) (caps : Array Value) (B m j : Nat) (u : Nat → Value) : Frame :=
  (base 22).at { tmps := #[.pointer (some ⟨cb, 0, none⟩), .func (.func fm) #[] caps, u 2, u 3, u 4, .slice (some ⟨B, 0, none⟩) m m, u 6, u 7, u 8, u 9, u 10, .int .i64 m, .int .i64 j, u 13, u 14, u 15, u 16, u 17, u 18, u 19, u 20, u 21, u 22, u 23, u 24], defers := [] } [.code (.seq (.region 3 reg22_3 false) (.seq (.cond (.tmp 13 ) (.skip) (.exit 0)) (.seq (.block 1 (.seq (.region 4 reg22_4 false) (.region 5 reg22_5 false))) (.region 6 reg22_6 false)))), .inLoop (.seq (.region 3 reg22_3 false) (.seq (.cond (.tmp 13 ) (.skip) (.exit 0)) (.seq (.block 1 (.seq (.region 4 reg22_4 false) (.region 5 reg22_5 false))) (.region 6 reg22_6 false)))), .inBlock 0, .code (.seq (.region 7 reg22_7 false) (.ret))]
section
variable {cb rb m : Nat} {ra : Option Addr} {rc : Nat} {sv : Value}
def AskOK (K : Lg (spLa cb rb m ra rc) sv) (dk : Nat → List Int → Ans ⊕ SD) (fm : FuncId) (caps : Array Value) : Prop :=
  ∀ (e : K.E) (k : Nat) (l : List Int), k < m → K.tgt e = (K.s e, dk k l) → SCall K.toLb fm (#[] ++ #[spP cb rb k] ++ caps) e (fun v e' => ∃ x, v = .int .i64 x ∧ K.tgt e' = (K.s e', dk (k + 1) (l ++ [x])))
def EachOut (K : Lg (spLa cb rb m ra rc) sv) (dk : Nat → List Int → Ans ⊕ SD) (v : Value) (e' : K.E) : Prop :=
  ∃ B l, v = .slice (some ⟨B, 0, none⟩) m m ∧ l.length = m ∧ K.mine e' B ∧ Told (K.w e') B m l ∧ K.tgt e' = (K.s e', dk m l)
theorem each_round (K : Lg (spLa cb rb m ra rc) sv) (dk : Nat → List Int → Ans ⊕ SD) (fm : FuncId) (fn : Func) (caps : Array Value) (hf : Try.prog.funcs[fm]? = some fn) (hname : (fn.name == "runtime.NumGoroutine") = false) (hb : fn.body.isNone = false) (hask : ∀ e0, AskOK (Fz K e0) dk fm caps)
    (B : Nat) (fr : Frame) (l : List Frame) (hp : Plain fr) (hl : ∀ f ∈ l, Plain f) (ls : List Int) (hj : ls.length < m) (e : K.E) (u : Nat → Value) (hB : K.mine e B) (hT : Told (K.w e) B m ls) (ht : K.tgt e = (K.s e, dk ls.length ls))
    (ih : ∀ (e' : K.E) (u : Nat → Value) (x : Int), K.mine e' B → Told (K.w e') B m (ls ++ [x]) → K.tgt e' = (K.s e', dk (ls.length + 1) (ls ++ [x])) → LW K.toLb e' (G (hdEach cb fm caps B m (ls.length + 1) u) (fr :: (l ++ K.bot e')))) :
    LW K.toLb e (G (hdEach cb fm caps B m ls.length u) (fr :: (l ++ K.bot e))) := by
  have hm := (K.inv e).pos.2
  have hs := stripe_w (main := K.main) (V := K.V e) ls.length hj (K.w e) (K.inv e)
  have ha := SCall.fz K (hask e (fz0 K e) ls.length ls hj ht)
  have hsn := fun (w : World) (h : Told w B m ls) x => h.snoc hj x
  generalize ls.length = j at *
  have hj0 : (0 : Int) ≤ j := by omega
  have hj1 : decide ((j : Int) < m) = true := by simp; omega
  have hj3 : decide (j < m) = true := by simp; omega
  have hj4 : (j : Int) < m := by omega
  have hw1 : IntKind.wrap .i64 ((j : Int) + 1) = ((j + 1 : Nat) : Int) := by rw [IntKind.wrap_i64]; omega
  unfold LW hdEach
  repeat (first | refine Walk.cx ?_ | (refine Walk.cReg ?_; simp only [z22]) | (refine Walk.oq ?_; try walk_nrm) | (refine Walk.un ?_; walk_nrm))
  refine Walk.callV (x := spP cb rb j) (W := K.w e) ?_ (ho_of (by conv => lhs; whnf) (by kernel_rfl)) (by rfl) (by decide) rfl Try.func31 (by kernel_rfl) (by rfl) ?_
  · walk_nrm
    exact hs
  walk_nrm
  repeat (first | refine Walk.cx ?_ | (refine Walk.cReg ?_; simp only [z22]) | (refine Walk.oq ?_; try walk_nrm) | (refine Walk.un ?_; walk_nrm))
  refine Walk.ctl rfl (fun w' => stepG_callValue (ho_of (by conv => lhs; whnf) (by kernel_rfl)) (by rfl) (by decide) rfl rfl hf hname hb) ?_
  walk_nrm
  generalize hX : Frame.at _ _ _ = X
  have hpX : Plain X := by subst hX; exact ⟨rfl, rfl, _, Try.func22⟩
  refine ha X (fr :: l) hpX (plain_cons hp hl) ?_
  rintro v e1 ⟨hkept, x, rfl, ht1⟩
  replace ht1 : K.tgt e1 = (K.s e1, dk (j + 1) (ls ++ [x])) := ht1
  obtain ⟨hm1, hb1⟩ := hkept B hB
  have hT1 : Told (K.w e1) B m ls := by
    obtain ⟨arr, h1, h2⟩ := hT
    exact ⟨arr, hb1.trans h1, h2⟩
  have hT2 := hsn _ hT1 x
  obtain ⟨y, hcy⟩ : ∃ y, (K.w e1).cell? ⟨B, j, none⟩ = some y := by
    obtain ⟨arr, h1, h2, _⟩ := hT1
    exact ⟨_, (cell_of h1 j).trans (Array.getElem?_eq_getElem (by omega))⟩
  have hfz : (K.w e1).frozen? ⟨B, j, none⟩ = false := by
    obtain ⟨arr, h1, _⟩ := hT1
    exact frozen_of h1 j
  have hap := (K.mineA e1 _ hm1).1.1 ⟨B, j, none⟩ rfl
  obtain ⟨e2, m2⟩ := K.own e1 (w' := (K.w e1).setCell ⟨B, j, none⟩ (.int .i64 x)) (by simp) (fun b _ hbm => heap_set_other _ _ _ _ (fun he : b = B => hbm (by rw [he]; exact hm1)))
  have hm2 : K.mine e2 B := (m2.mine B).2 (.inl hm1)
  have ht2 : K.tgt e2 = (K.s e2, dk (j + 1) (ls ++ [x])) := by rw [m2.tgt, m2.s]; exact ht1
  rw [← m2.w] at hT2
  have hih := fun u => ih e2 u x hm2 hT2 ht2
  rw [← hX]
  clear hX hpX ih hs ha hT hT1 hT2 hsn hask
  unfold LW
  refine Walk.finish (ho_of (by conv => lhs; whnf) (by kernel_rfl)) ?_
  walk_nrm
  repeat (first | refine Walk.cx ?_ | (refine Walk.cReg ?_; simp only [z22]) | (refine Walk.oq ?_; try walk_nrm) | (refine Walk.un ?_; walk_nrm))
  (refine Walk.os hap hcy ?_; try walk_nrm)
  refine LW.to (l := fr :: l) m2 ?_
  unfold LW at hih ⊢
  repeat (first | refine Walk.cx ?_ | (refine Walk.cReg ?_; simp only [z22]) | (refine Walk.oq ?_; try walk_nrm) | (refine Walk.un ?_; walk_nrm))
  refine Walk.ctl rfl (fun w => stepG_inLoop) ?_
  refine slots_walk (F := fun u => G (hdEach cb fm caps B m (j + 1) u) (fr :: (l ++ K.bot e2))) hih ?_
  simp only [hdEach]
  rfl
theorem each_end (K : Lg (spLa cb rb m ra rc) sv) (dk : Nat → List Int → Ans ⊕ SD) (fm : FuncId) (caps : Array Value) (B : Nat) (fr : Frame) (l : List Frame) (hk : ∀ x e', EachOut K dk x e' → LW K.toLb e' (G (fr.finish x) (l ++ K.bot e'))) (ls : List Int) (hj : ls.length = m) (e : K.E) (u : Nat → Value) (hB : K.mine e B) (hT : Told (K.w e) B m ls) (ht : K.tgt e = (K.s e, dk m ls)) :
    LW K.toLb e (G (hdEach cb fm caps B m m u) (fr :: (l ++ K.bot e))) := by
  have hj3 : decide (m < m) = false := by simp
  have hkk := hk (.slice (some ⟨B, 0, none⟩) m m) e ⟨B, ls, rfl, hj, hB, hT, ht⟩
  unfold LW hdEach
  unfold LW at hkk
  repeat (first | refine Walk.cx ?_ | (refine Walk.cReg ?_; simp only [z22]) | (refine Walk.oq ?_; try walk_nrm) | (refine Walk.un ?_; walk_nrm))
  exact Walk.on1 rfl rfl Try.func22 rfl hkk
theorem each_loop (K : Lg (spLa cb rb m ra rc) sv) (dk : Nat → List Int → Ans ⊕ SD) (fm : FuncId) (fn : Func) (caps : Array Value) (hf : Try.prog.funcs[fm]? = some fn) (hname : (fn.name == "runtime.NumGoroutine") = false) (hb : fn.body.isNone = false) (hask : ∀ e0, AskOK (Fz K e0) dk fm caps)
    (B : Nat) (fr : Frame) (l : List Frame) (hp : Plain fr) (hl : ∀ f ∈ l, Plain f) (hk : ∀ x e', EachOut K dk x e' → LW K.toLb e' (G (fr.finish x) (l ++ K.bot e'))) :
    ∀ (r : Nat) (ls : List Int) (e : K.E) (u : Nat → Value), ls.length + r = m → K.mine e B → Told (K.w e) B m ls → K.tgt e = (K.s e, dk ls.length ls) → LW K.toLb e (G (hdEach cb fm caps B m ls.length u) (fr :: (l ++ K.bot e))) := by
  intro r
  induction r with
  | zero =>
    intro ls e u hj hB hT ht
    have hj' : ls.length = m := by simpa using hj
    rw [hj'] at ht ⊢
    exact each_end K dk fm caps B fr l hk ls hj' e u hB hT ht
  | succ r ih =>
    intro ls e u hj hB hT ht
    refine each_round K dk fm fn caps hf hname hb hask B fr l hp hl ls (by omega) e u hB hT ht fun e' u' x hB' hT' ht' => ?_
    have hlen : (ls ++ [x]).length = ls.length + 1 := by simp
    have := ih (ls ++ [x]) e' u' (by omega) hB' hT'
    rw [hlen] at this
    exact this ht'
theorem each_s (K : Lg (spLa cb rb m ra rc) sv) (dk : Nat → List Int → Ans ⊕ SD) (fm : FuncId) (fn : Func) (caps : Array Value) (hf : Try.prog.funcs[fm]? = some fn) (hname : (fn.name == "runtime.NumGoroutine") = false) (hb : fn.body.isNone = false) (hask : ∀ e0, AskOK (Fz K e0) dk fm caps)
    (e : K.E) (ht : K.tgt e = (K.s e, dk 0 [])) : SCall K.toLb 22 #[.pointer (some ⟨cb, 0, none⟩), .func (.func fm) #[] caps] e (EachOut K dk) := by
  intro fr l hp hl hk
  have hm := (K.inv e).pos.2
  have h1 := stripes_w (main := K.main) (V := K.V e) (K.w e) (K.inv e)
  have hlp := fun B e' u hB hT ht' => each_loop K dk fm fn caps hf hname hb hask B fr l hp hl hk m [] e' u (by simp) hB hT ht'
  simp only [List.length_nil] at hlp
  clear hask hk
  unfold LW
  rw [enter_at _ Try.func22 code22_is]
  simp only [Try.ntmps22, ez, Nat.reduceAdd, Nat.reduceSub]
  repeat (first | refine Walk.cx ?_ | (refine Walk.cReg ?_; simp only [z22]) | (refine Walk.oq ?_; try walk_nrm) | (refine Walk.un ?_; walk_nrm))
  refine Walk.callV (x := .int .i64 m) (W := K.w e) ?_ (ho_of (by conv => lhs; whnf) (by kernel_rfl)) (by rfl) (by decide) rfl Try.func30 (by kernel_rfl) (by rfl) ?_
  · walk_nrm
    exact h1
  walk_nrm
  obtain ⟨ti, hi1, hz, hsz, hby⟩ := info2
  refine Walk.make 22 (.tmp 8) (.tmp 8) (ho_of (by conv => lhs; whnf) (by kernel_rfl)) (by rfl) (by decide) rfl 2 _ (.int .i64 0) 1 8 (by kernel_rfl) hi1 hz hsz hby m (by rfl) (by rfl) (by omega) (by omega) ?_
  walk_nrm
  simp only [Value.cells]
  have c1 := heap_alloc_new (K.w e) (.cells (madeCells #[.int .i64 0] (m * 1)) 2)
  have s1 : ((K.w e).alloc (.cells (madeCells #[.int .i64 0] (m * 1)) 2)).heap.size = (K.w e).heap.size + 1 := by simp
  obtain ⟨e1, m1⟩ := K.grow e (w' := (K.w e).alloc (.cells (madeCells #[.int .i64 0] (m * 1)) 2)) (by omega) (fun b hb' => heap_new_lt _ _ hb')
  generalize hR : (K.w e).heap.size = R at *
  generalize (K.w e).alloc (.cells (madeCells #[.int .i64 0] (m * 1)) 2) = w1 at *
  have hmR : K.mine e1 R := m1.new (by omega) (by omega)
  have ht1 : K.tgt e1 = (K.s e1, dk 0 []) := by rw [m1.tgt, m1.s]; exact ht
  have hT1 : Told (K.w e1) R m [] := by
    rw [m1.w]
    exact ⟨_, c1, by simp [madeCells], fun i x h => by simp at h⟩
  have hh := fun u => hlp R e1 u hmR hT1 ht1
  unfold LW at hh
  refine LW.to (l := fr :: l) m1 ?_
  unfold LW
  clear hi1 hz hsz hby c1
  repeat (first | refine Walk.cx ?_ | (refine Walk.cReg ?_; simp only [z22]) | (refine Walk.oq ?_; try walk_nrm) | (refine Walk.un ?_; walk_nrm))
  refine Walk.ctl rfl (fun w => stepG_loop) ?_
  refine slots_walk (F := fun u => G (hdEach cb fm caps R m 0 u) (fr :: (l ++ K.bot e1))) hh ?_
  simp only [hdEach]
  rfl
theorem askLoad_ok (K : Lg (spLa cb rb m ra rc) sv) (dk : Nat → List Int → Ans ⊕ SD) (dl : Nat → List Int → SD) (hdk : ∀ k l, k < m → dk k l = .inr (dl k l)) (hact : ∀ s k l, spAct m s (dl k l) = (s, dk (k + 1) (l ++ [s k])))
    (vb : Nat) (hcap : ∀ e : K.E, (K.w e).heap[vb]? = some (.cells #[sv] 63)) : AskOK K dk 44 #[.pointer (some ⟨vb, 0, none⟩)] := by
  intro e k lz hkm ht fr l hp hl hk
  have w1 := word_load K (spW k hkm) e (dl k lz) trivial (by rw [ht, hdk k lz hkm]; rfl)
  unfold Wd.p at w1
  have ha : (#[] ++ #[spP cb rb k] ++ #[.pointer (some ⟨vb, 0, none⟩)] : Array Value) = #[spP cb rb k, .pointer (some ⟨vb, 0, none⟩)] := rfl
  have c1 := (cell_of (hcap e) 0).trans rfl
  rw [ha]
  unfold LW
  rw [enter_at _ Try.func44 code44_is]
  simp only [Try.ntmps44, ez, Nat.reduceAdd, Nat.reduceSub]
  repeat (first | refine Walk.cx ?_ | (refine Walk.cReg ?_; simp only [z44]) | (refine Walk.oq ?_; try walk_nrm) | (refine Walk.un ?_; walk_nrm))
  refine LW.callS (K := K.toLb) (e := e) (l := fr :: l) (f := 43) (Q := fun v e' => Aft K.toLb e (dl k lz) e' ∧ v = .int .i64 ((K.s e' : Sp) k)) ?_ (ho_of (by conv => lhs; whnf) (by kernel_rfl)) (by rfl) (by decide) rfl Try.func43 (by kernel_rfl) (by rfl) ⟨rfl, rfl, _, Try.func44⟩ (plain_cons hp hl) ?_
  · walk_nrm
    exact w1
  rintro v e1 ⟨ha1, rfl⟩
  have hkk := hk (.int .i64 ((K.s e1 : Sp) k)) e1 ⟨_, rfl, ha1.tgt.trans (hact _ k lz)⟩
  generalize (K.s e1 : Sp) k = x at *
  unfold LW at hkk ⊢
  walk_nrm
  repeat (first | refine Walk.cx ?_ | (refine Walk.cReg ?_; simp only [z44]) | (refine Walk.oq ?_; try walk_nrm) | (refine Walk.un ?_; walk_nrm))
  exact Walk.on1 rfl rfl Try.func44 rfl hkk
theorem askTake_ok (K : Lg (spLa cb rb m ra rc) sv) (dk : Nat → List Int → Ans ⊕ SD) (dl : Nat → List Int → SD) (hdk : ∀ k l, k < m → dk k l = .inr (dl k l)) (hact : ∀ s k l, spAct m s (dl k l) = (spPut s k 0, dk (k + 1) (l ++ [s k])))
    (vb : Nat) (hcap : ∀ e : K.E, (K.w e).heap[vb]? = some (.cells #[sv] 63)) : AskOK K dk 23 #[.pointer (some ⟨vb, 0, none⟩)] := by
  intro e k lz hkm ht fr l hp hl hk
  have w1 := word_swap K (spW k hkm) e (dl k lz) 0 (fun _ => trivial) trivial (by rw [ht, hdk k lz hkm]; rfl)
  unfold Wd.p at w1
  have ha : (#[] ++ #[spP cb rb k] ++ #[.pointer (some ⟨vb, 0, none⟩)] : Array Value) = #[spP cb rb k, .pointer (some ⟨vb, 0, none⟩)] := rfl
  have c1 := (cell_of (hcap e) 0).trans rfl
  rw [ha]
  unfold LW
  rw [enter_at _ Try.func23 code23_is]
  simp only [Try.ntmps23, ez, Nat.reduceAdd, Nat.reduceSub]
  repeat (first | refine Walk.cx ?_ | (refine Walk.cReg ?_; simp only [z23]) | (refine Walk.oq ?_; try walk_nrm) | (refine Walk.un ?_; walk_nrm))
  refine LW.callS (K := K.toLb) (e := e) (l := fr :: l) (f := 24) (Q := fun v e' => ∃ s : Sp, v = .int .i64 (s k) ∧ Wrote K e (dl k lz) s (spPut s k 0) e') ?_ (ho_of (by conv => lhs; whnf) (by kernel_rfl)) (by rfl) (by decide) rfl Try.func24 (by kernel_rfl) (by rfl) ⟨rfl, rfl, _, Try.func23⟩ (plain_cons hp hl) ?_
  · walk_nrm
    exact w1
  rintro v e1 ⟨s, rfl, hw⟩
  have ht1 : K.tgt e1 = (K.s e1, dk (k + 1) (lz ++ [s k])) := by rw [hw.s]; exact hw.tgt.trans (hact s k lz)
  have hkk := hk (.int .i64 (s k)) e1 ⟨_, rfl, ht1⟩
  generalize s k = x at *
  unfold LW at hkk ⊢
  walk_nrm
  repeat (first | refine Walk.cx ?_ | (refine Walk.cReg ?_; simp only [z23]) | (refine Walk.oq ?_; try walk_nrm) | (refine Walk.un ?_; walk_nrm))
  exact Walk.on1 rfl rfl Try.func23 rfl hkk
end
end
section
theorem Told.cell {w : World} {B m : Nat} {l : List Int} (h : Told w B m l) (j : Nat) (x : Int) (hx : l[j]? = some x) : w.cell? ⟨B, j, none⟩ = some (.int .i64 x) := by
  obtain ⟨arr, h1, _, h3⟩ := h
  exact (cell_of h1 j).trans (h3 j x hx)
noncomputable def reg29_0 := rg Try.f29.body [0]
noncomputable def reg29_1 := rg Try.f29.body [1, 0]
theorem z29 : List.range reg29_0.size = [0, 1] ∧ List.range reg29_1.size = [0, 1, 2, 3] := by refine ⟨?_, ?_⟩ <;> kernel_rfl
theorem code29_is : Try.f29.body = some (.seq (.region 0 reg29_0 false) (.seq (.region 1 reg29_1 false) (.ret))) := by kernel_rfl
noncomputable def reg20_0 := rg Try.f20.body [0]
noncomputable def reg20_1 := rg Try.f20.body [1, 0]
theorem z20 : List.range reg20_0.size = [0] ∧ List.range reg20_1.size = [0, 1, 2, 3, 4] := by refine ⟨?_, ?_⟩ <;> kernel_rfl
theorem code20_is : Try.f20.body = some (.seq (.region 0 reg20_0 false) (.seq (.region 1 reg20_1 false) (.ret))) := by kernel_rfl
noncomputable def reg12_0 := rg Try.f12.body [0]
noncomputable def reg12_1 := rg Try.f12.body [1, 0]
theorem z12 : List.range reg12_0.size = [0, 1] ∧ List.range reg12_1.size = [0, 1, 2, 3, 4] := by refine ⟨?_, ?_⟩ <;> kernel_rfl
theorem code12_is : Try.f12.body = some (.seq (.region 0 reg12_0 false) (.seq (.region 1 reg12_1 false) (.ret))) := by kernel_rfl
noncomputable def reg10_0 := rg Try.f10.body [0]
noncomputable def reg10_1 := rg Try.f10.body [1, 0]
theorem z10 : List.range reg10_0.size = [0] ∧ List.range reg10_1.size = [0, 1, 2, 3, 4, 5, 6] := by refine ⟨?_, ?_⟩ <;> kernel_rfl
theorem code10_is : Try.f10.body = some (.seq (.region 0 reg10_0 false) (.seq (.region 1 reg10_1 false) (.ret))) := by kernel_rfl
noncomputable def reg27_0 := rg Try.f27.body [0]
noncomputable def reg27_1 := rg Try.f27.body [1]
theorem z27 : List.range reg27_0.size = [0, 1, 2, 3, 4, 5] ∧ List.range reg27_1.size = [0, 1, 2, 3, 4] := by refine ⟨?_, ?_⟩ <;> kernel_rfl
theorem code27_is : Try.f27.body = some (.seq (.region 0 reg27_0 false) (.region 1 reg27_1 false)) := by kernel_rfl
noncomputable def reg28_0 := rg Try.f28.body [0]
noncomputable def reg28_1 := rg Try.f28.body [1, 0, 0]
noncomputable def reg28_2 := rg Try.f28.body [1, 0, 1, 0, 0]
noncomputable def reg28_3 := rg Try.f28.body [1, 1, 0]
noncomputable def reg28_4 := rg Try.f28.body [1, 1, 1, 0, 0]
noncomputable def reg28_5 := rg Try.f28.body [1, 1, 1, 0, 1, 0, 0, 0]
noncomputable def reg28_6 := rg Try.f28.body [1, 1, 1, 0, 1, 0, 0, 1, 1, 0, 0, 0]
noncomputable def reg28_7 := rg Try.f28.body [1, 1, 1, 0, 1, 0, 0, 1, 1, 0, 0, 1, 0]
noncomputable def reg28_8 := rg Try.f28.body [1, 1, 1, 0, 1, 0, 0, 1, 1, 0, 0, 1, 1, 0, 0]
noncomputable def reg28_9 := rg Try.f28.body [1, 1, 1, 0, 1, 0, 0, 1, 1, 1]
noncomputable def reg28_10 := rg Try.f28.body [1, 1, 1, 1, 0]
theorem z28 : List.range reg28_0.size = [0, 1] ∧ List.range reg28_1.size = [0, 1] ∧ List.range reg28_2.size = [0, 1] ∧ List.range reg28_3.size = [0, 1, 2, 3] ∧ List.range reg28_4.size = [0, 1, 2] ∧ List.range reg28_5.size = [0] ∧ List.range reg28_6.size = [0, 1, 2, 3, 4] ∧ List.range reg28_7.size = [0, 1, 2, 3, 4, 5, 6] ∧ List.range reg28_8.size = [0, 1] ∧ List.range reg28_9.size = [0, 1] ∧ List.range reg28_10.size = [0, 1, 2, 3] := by refine ⟨?_, ?_, ?_, ?_, ?_, ?_, ?_, ?_, ?_, ?_, ?_⟩ <;> kernel_rfl
theorem code28_is : Try.f28.body = some (.seq (.region 0 reg28_0 false) (.seq (.seq (.region 1 reg28_1 false) (.cond (.tmp 10 ) (.seq (.region 2 reg28_2 false) (.ret)) (.skip))) (.seq (.region 3 reg28_3 false) (.seq (.seq (.region 4 reg28_4 false) (.block 0 (.loop (.seq (.region 5 reg28_5 false) (.seq (.cond (.tmp 17 ) (.skip) (.exit 0)) (.seq (.block 1 (.seq (.region 6 reg28_6 false) (.seq (.region 7 reg28_7 false) (.cond (.tmp 27 ) (.seq (.region 8 reg28_8 false) (.ret)) (.skip))))) (.region 9 reg28_9 false))))))) (.seq (.region 10 reg28_10 false) (.ret)))))) := by kernel_rfl
noncomputable def hdEven (cb : Nat) (sv : Value) (B m j : Nat) (u : Nat → Value) : Frame :=
  (base 28).at { tmps := #[.pointer (some ⟨cb, 0, none⟩), sv, u 2, u 3, .int .i64 0, .bool false, .slice (some ⟨B, 0, none⟩) m m, u 7, u 8, u 9, u 10, u 11, u 12, u 13, .slice (some ⟨B, 0, none⟩) m m, .int .i64 m, .int .i64 j, u 17, u 18, u 19, u 20, u 21, u 22, u 23, u 24, u 25, u 26, u 27, u 28, u 29, u 30], defers := [] } [.code (.seq (.region 5 reg28_5 false) (.seq (.cond (.tmp 17 ) (.skip) (.exit 0)) (.seq (.block 1 (.seq (.region 6 reg28_6 false) (.seq (.region 7 reg28_7 false) (.cond (.tmp 27 ) (.seq (.region 8 reg28_8 false) (.ret)) (.skip))))) (.region 9 reg28_9 false)))), .inLoop (.seq (.region 5 reg28_5 false) (.seq (.cond (.tmp 17 ) (.skip) (.exit 0)) (.seq (.block 1 (.seq (.region 6 reg28_6 false) (.seq (.region 7 reg28_7 false) (.cond (.tmp 27 ) (.seq (.region 8 reg28_8 false) (.ret)) (.skip))))) (.region 9 reg28_9 false)))), .inBlock 0, .code (.seq (.region 10 reg28_10 false) (.ret))]
def dU (m : Nat) (k : Nat) (l : List Int) : Ans ⊕ SD := if k = m then .inl ⟨true, sumZ l, []⟩ else .inr (.u1 k l)
def dT (m : Nat) (k : Nat) (l : List Int) : Ans ⊕ SD := if k = m then .inl ⟨true, sumZ l, []⟩ else .inr (.t1 k l)
def dE (m : Nat) (k : Nat) (l : List Int) : Ans ⊕ SD := if k = m then .inr (.e2 0 l) else .inr (.e1 k l)
def dF (m : Nat) (k : Nat) (l : List Int) : Ans ⊕ SD := if k = m then .inl ⟨true, sumZ l, []⟩ else .inr (.e2 k l)
section
variable {cb rb m : Nat} {ra : Option Addr} {rc : Nat} {sv : Value}
theorem loadAll_s (K : Lg (spLa cb rb m ra rc) sv) (dk : Nat → List Int → Ans ⊕ SD) (dl : Nat → List Int → SD) (hdk : ∀ k l, k < m → dk k l = .inr (dl k l)) (hact : ∀ s k l, spAct m s (dl k l) = (s, dk (k + 1) (l ++ [s k])))
    (e : K.E) (ht : K.tgt e = (K.s e, dk 0 [])) : SCall K.toLb 29 #[.pointer (some ⟨cb, 0, none⟩), sv] e (EachOut K dk) := by
  intro fr l hp hl hk
  have he := fun (e1 : K.E) (N : Nat) (hN : K.mine e1 N) (hc : (K.w e1).heap[N]? = some (.cells #[sv] 63)) (h : K.tgt e1 = (K.s e1, dk 0 [])) =>
    SCall.fz K (each_s (Fz K e1) dk 44 _ #[.pointer (some ⟨N, 0, none⟩)] Try.func44 (by kernel_rfl) (by rfl) (fun e0 => askLoad_ok (Fz (Fz K e1) e0) dk dl hdk hact N (fun e2 => ((e2.1.2 N hN).2).trans hc)) (fz0 K e1) h)
  unfold LW
  rw [enter_at _ Try.func29 code29_is]
  simp only [Try.ntmps29, ez, Nat.reduceAdd, Nat.reduceSub]
  repeat (first | refine Walk.cx ?_ | (refine Walk.cReg ?_; simp only [z29]) | (refine Walk.oq ?_; try walk_nrm) | (refine Walk.un ?_; walk_nrm))
  (refine Walk.oa ?_; try walk_nrm)
  change Walk Try.prog K.main (DR (K.V e)) (K.Stop e) _ ((K.w e).alloc (.cells sv.cells 63))
  rw [K.one]
  have c1 := heap_alloc_new (K.w e) (.cells #[sv] 63)
  have s1 : ((K.w e).alloc (.cells #[sv] 63)).heap.size = (K.w e).heap.size + 1 := by simp
  obtain ⟨e1, m1⟩ := K.grow e (w' := (K.w e).alloc (.cells #[sv] 63)) (by omega) (fun b hb' => heap_new_lt _ _ hb')
  generalize hR : (K.w e).heap.size = R at *
  generalize (K.w e).alloc (.cells #[sv] 63) = w1 at *
  have hmR : K.mine e1 R := m1.new (by omega) (by omega)
  have ht1 : K.tgt e1 = (K.s e1, dk 0 []) := by rw [m1.tgt, m1.s]; exact ht
  have hw1 := m1.w
  rw [← hw1] at c1
  have h1 := he e1 R hmR c1 ht1
  clear he hw1 c1
  repeat (first | refine Walk.cx ?_ | (refine Walk.cReg ?_; simp only [z29]) | (refine Walk.oq ?_; try walk_nrm) | (refine Walk.un ?_; walk_nrm))
  refine LW.to (l := fr :: l) m1 ?_
  refine LW.callS (K := K.toLb) (e := e1) (l := fr :: l) (f := 22) (Q := fun x e' => ∃ h : Kept K e1 e', EachOut (Fz K e1) dk x ⟨e', h⟩) ?_ (ho_of (by conv => lhs; whnf) (by kernel_rfl)) (by rfl) (by decide) rfl Try.func22 (by kernel_rfl) (by rfl) ⟨rfl, rfl, _, Try.func29⟩ (plain_cons hp hl) ?_
  · walk_nrm
    exact h1
  rintro x e2 ⟨hkept, B, ls, rfl, hlen, hmB, hT, ht2⟩
  have hkk := hk (.slice (some ⟨B, 0, none⟩) m m) e2 ⟨B, ls, rfl, hlen, hmB.1, hT, ht2⟩
  unfold LW at hkk ⊢
  walk_nrm
  repeat (first | refine Walk.cx ?_ | (refine Walk.cReg ?_; simp only [z29]) | (refine Walk.oq ?_; try walk_nrm) | (refine Walk.un ?_; walk_nrm))
  exact Walk.on1 rfl rfl Try.func29 rfl hkk
theorem ssum_s (K : Lg (spLa cb rb m ra rc) sv) (dk : Nat → List Int → Ans ⊕ SD) (dl : Nat → List Int → SD) (hdk : ∀ k l, k < m → dk k l = .inr (dl k l)) (hact : ∀ s k l, spAct m s (dl k l) = (s, dk (k + 1) (l ++ [s k])))
    (e : K.E) (ht : K.tgt e = (K.s e, dk 0 [])) : SCall K.toLb 20 #[.pointer (some ⟨cb, 0, none⟩), sv] e (fun v e' => ∃ l, l.length = m ∧ v = .int .i64 (sumZ l) ∧ K.tgt e' = (K.s e', dk m l)) := by
  intro fr l hp hl hk
  have h1 := loadAll_s K dk dl hdk hact e ht
  have hm := (K.inv e).pos.2
  unfold LW
  rw [enter_at _ Try.func20 code20_is]
  simp only [Try.ntmps20, ez, Nat.reduceAdd, Nat.reduceSub]
  repeat (first | refine Walk.cx ?_ | (refine Walk.cReg ?_; simp only [z20]) | (refine Walk.oq ?_; try walk_nrm) | (refine Walk.un ?_; walk_nrm))
  refine LW.callS (K := K.toLb) (e := e) (l := fr :: l) (f := 29) (Q := EachOut K dk) ?_ (ho_of (by conv => lhs; whnf) (by kernel_rfl)) (by rfl) (by decide) rfl Try.func29 (by kernel_rfl) (by rfl) ⟨rfl, rfl, _, Try.func20⟩ (plain_cons hp hl) ?_
  · walk_nrm
    exact h1
  rintro x e2 ⟨B, ls, rfl, hlen, hmB, hT, ht2⟩
  have hkk := hk (.int .i64 (sumZ ls)) e2 ⟨ls, hlen, rfl, ht2⟩
  have hs := sum_w (main := K.main) (V := K.V e2) B m m ls hlen hm (K.w e2) hT.cell
  generalize sumZ ls = y at *
  unfold LW at hkk ⊢
  walk_nrm
  repeat (first | refine Walk.cx ?_ | (refine Walk.cReg ?_; simp only [z20]) | (refine Walk.oq ?_; try walk_nrm) | (refine Walk.un ?_; walk_nrm))
  refine Walk.callV (x := .int .i64 y) (W := K.w e2) ?_ (ho_of (by conv => lhs; whnf) (by kernel_rfl)) (by rfl) (by decide) rfl Try.func21 (by kernel_rfl) (by rfl) ?_
  · walk_nrm
    exact hs
  walk_nrm
  repeat (first | refine Walk.cx ?_ | (refine Walk.cReg ?_; simp only [z20]) | (refine Walk.oq ?_; try walk_nrm) | (refine Walk.un ?_; walk_nrm))
  exact Walk.on1 rfl rfl Try.func20 rfl hkk
theorem stake_s (K : Lg (spLa cb rb m ra rc) sv) (e : K.E) (ht : K.tgt e = (K.s e, dT m 0 [])) : SCall K.toLb 12 #[.pointer (some ⟨cb, 0, none⟩), sv] e (fun v e' => ∃ l, l.length = m ∧ v = .int .i64 (sumZ l) ∧ K.tgt e' = (K.s e', dT m m l)) := by
  intro fr l hp hl hk
  have hm := (K.inv e).pos.2
  have he := fun (e1 : K.E) (N : Nat) (hN : K.mine e1 N) (hc : (K.w e1).heap[N]? = some (.cells #[sv] 63)) (h : K.tgt e1 = (K.s e1, dT m 0 [])) =>
    SCall.fz K (each_s (Fz K e1) (dT m) 23 _ #[.pointer (some ⟨N, 0, none⟩)] Try.func23 (by kernel_rfl) (by rfl) (fun e0 => askTake_ok (Fz (Fz K e1) e0) (dT m) .t1 (fun k l hk => if_neg (by omega)) (fun _ _ _ => rfl) N (fun e2 => ((e2.1.2 N hN).2).trans hc)) (fz0 K e1) h)
  unfold LW
  rw [enter_at _ Try.func12 code12_is]
  simp only [Try.ntmps12, ez, Nat.reduceAdd, Nat.reduceSub]
  repeat (first | refine Walk.cx ?_ | (refine Walk.cReg ?_; simp only [z12]) | (refine Walk.oq ?_; try walk_nrm) | (refine Walk.un ?_; walk_nrm))
  (refine Walk.oa ?_; try walk_nrm)
  change Walk Try.prog K.main (DR (K.V e)) (K.Stop e) _ ((K.w e).alloc (.cells sv.cells 63))
  rw [K.one]
  have c1 := heap_alloc_new (K.w e) (.cells #[sv] 63)
  have s1 : ((K.w e).alloc (.cells #[sv] 63)).heap.size = (K.w e).heap.size + 1 := by simp
  obtain ⟨e1, m1⟩ := K.grow e (w' := (K.w e).alloc (.cells #[sv] 63)) (by omega) (fun b hb' => heap_new_lt _ _ hb')
  generalize hR : (K.w e).heap.size = R at *
  generalize (K.w e).alloc (.cells #[sv] 63) = w1 at *
  have hmR : K.mine e1 R := m1.new (by omega) (by omega)
  have ht1 : K.tgt e1 = (K.s e1, dT m 0 []) := by rw [m1.tgt, m1.s]; exact ht
  have hw1 := m1.w
  rw [← hw1] at c1
  have h1 := he e1 R hmR c1 ht1
  clear he hw1 c1
  repeat (first | refine Walk.cx ?_ | (refine Walk.cReg ?_; simp only [z12]) | (refine Walk.oq ?_; try walk_nrm) | (refine Walk.un ?_; walk_nrm))
  refine LW.to (l := fr :: l) m1 ?_
  refine LW.callS (K := K.toLb) (e := e1) (l := fr :: l) (f := 22) (Q := fun x e' => ∃ h : Kept K e1 e', EachOut (Fz K e1) (dT m) x ⟨e', h⟩) ?_ (ho_of (by conv => lhs; whnf) (by kernel_rfl)) (by rfl) (by decide) rfl Try.func22 (by kernel_rfl) (by rfl) ⟨rfl, rfl, _, Try.func12⟩ (plain_cons hp hl) ?_
  · walk_nrm
    exact h1
  rintro x e2 ⟨hkept, B, ls, rfl, hlen, hmB, hT, ht2⟩
  replace hT : Told (K.w e2) B m ls := hT
  have hkk := hk (.int .i64 (sumZ ls)) e2 ⟨ls, hlen, rfl, ht2⟩
  have hs := sum_w (main := K.main) (V := K.V e2) B m m ls hlen hm (K.w e2) hT.cell
  generalize sumZ ls = y at *
  unfold LW at hkk ⊢
  walk_nrm
  repeat (first | refine Walk.cx ?_ | (refine Walk.cReg ?_; simp only [z12]) | (refine Walk.oq ?_; try walk_nrm) | (refine Walk.un ?_; walk_nrm))
  refine Walk.callV (x := .int .i64 y) (W := K.w e2) ?_ (ho_of (by conv => lhs; whnf) (by kernel_rfl)) (by rfl) (by decide) rfl Try.func21 (by kernel_rfl) (by rfl) ?_
  · walk_nrm
    exact hs
  walk_nrm
  repeat (first | refine Walk.cx ?_ | (refine Walk.cReg ?_; simp only [z12]) | (refine Walk.oq ?_; try walk_nrm) | (refine Walk.un ?_; walk_nrm))
  exact Walk.on1 rfl rfl Try.func12 rfl hkk
theorem sadd_s (K : Lg (spLa cb rb m ra rc) sv) (a v : Int) (d : SD) (Z : Int → Ans ⊕ SD) (hact : ∀ s : Sp, spAct m s d = (spPut s (stAt m a) (IntKind.i64.wrap (s (stAt m a) + v)), Z (IntKind.i64.wrap (s (stAt m a) + v)))) (e : K.E) (ht : K.tgt e = (K.s e, .inr d)) :
    SCall K.toLb 10 #[.pointer (some ⟨cb, 0, none⟩), sv, .int .i64 a, .int .i64 v] e (fun x e' => ∃ y, x = .int .i64 y ∧ K.tgt e' = (K.s e', Z y)) := by
  intro fr l hp hl hk
  have h1 := at_w (main := K.main) (V := K.V e) a (K.w e) (K.inv e)
  have hlt := stAt_lt (K.inv e).pos.1 a
  generalize stAt m a = i at *
  have w1 := word_add K (spW i hlt) e d v (fun _ => trivial) trivial ht
  unfold Wd.p at w1
  unfold LW
  rw [enter_at _ Try.func10 code10_is]
  simp only [Try.ntmps10, ez, Nat.reduceAdd, Nat.reduceSub]
  repeat (first | refine Walk.cx ?_ | (refine Walk.cReg ?_; simp only [z10]) | (refine Walk.oq ?_; try walk_nrm) | (refine Walk.un ?_; walk_nrm))
  refine Walk.callV (x := spP cb rb i) (W := K.w e) ?_ (ho_of (by conv => lhs; whnf) (by kernel_rfl)) (by rfl) (by decide) rfl Try.func18 (by kernel_rfl) (by rfl) ?_
  · walk_nrm
    exact h1
  walk_nrm
  repeat (first | refine Walk.cx ?_ | (refine Walk.cReg ?_; simp only [z10]) | (refine Walk.oq ?_; try walk_nrm) | (refine Walk.un ?_; walk_nrm))
  refine LW.callS (K := K.toLb) (e := e) (l := fr :: l) (f := 19) (Q := fun x e' => ∃ s : Sp, x = .int .i64 (IntKind.i64.wrap (s i + v)) ∧ Wrote K e d s (spPut s i (IntKind.i64.wrap (s i + v))) e') ?_ (ho_of (by conv => lhs; whnf) (by kernel_rfl)) (by rfl) (by decide) rfl Try.func19 (by kernel_rfl) (by rfl) ⟨rfl, rfl, _, Try.func10⟩ (plain_cons hp hl) ?_
  · walk_nrm
    exact w1
  rintro x e1 ⟨s, rfl, hw⟩
  have ht1 : K.tgt e1 = (K.s e1, Z (IntKind.i64.wrap (s i + v))) := by rw [hw.s]; exact hw.tgt.trans (hact s)
  have hkk := hk (.int .i64 (IntKind.i64.wrap (s i + v))) e1 ⟨_, rfl, ht1⟩
  generalize IntKind.i64.wrap (s i + v) = y at *
  unfold LW at hkk ⊢
  walk_nrm
  repeat (first | refine Walk.cx ?_ | (refine Walk.cReg ?_; simp only [z10]) | (refine Walk.oq ?_; try walk_nrm) | (refine Walk.un ?_; walk_nrm))
  exact Walk.on1 rfl rfl Try.func10 rfl hkk
theorem smove_s (K : Lg (spLa cb rb m ra rc) sv) (a b v : Int) (e : K.E) (ht : K.tgt e = (K.s e, .inr (.m1 (stAt m a) (stAt m b) v))) :
    SCall K.toLb 27 #[.pointer (some ⟨cb, 0, none⟩), sv, .int .i64 a, .int .i64 b, .int .i64 v] e (fun _ e' => K.tgt e' = (K.s e', .inl ⟨true, 0, []⟩)) := by
  intro fr l hp hl hk
  have h1 := sadd_s K a (IntKind.i64.wrap (-v)) (.m1 (stAt m a) (stAt m b) v) (fun _ => .inr (.m2 (stAt m b) v)) (fun _ => rfl) e ht
  have h2 := fun e1 => sadd_s K b v (.m2 (stAt m b) v) (fun _ => .inl ⟨true, 0, []⟩) (fun _ => rfl) e1
  unfold LW
  rw [enter_at _ Try.func27 code27_is]
  simp only [Try.ntmps27, ez, Nat.reduceAdd, Nat.reduceSub]
  repeat (first | refine Walk.cx ?_ | (refine Walk.cReg ?_; simp only [z27]) | (refine Walk.oq ?_; try walk_nrm) | (refine Walk.un ?_; walk_nrm))
  refine LW.callS (K := K.toLb) (e := e) (l := fr :: l) (f := 10) (Q := fun x e' => ∃ y, x = .int .i64 y ∧ K.tgt e' = (K.s e', .inr (.m2 (stAt m b) v))) ?_ (ho_of (by conv => lhs; whnf) (by kernel_rfl)) (by rfl) (by decide) rfl Try.func10 (by kernel_rfl) (by rfl) ⟨rfl, rfl, _, Try.func27⟩ (plain_cons hp hl) ?_
  · walk_nrm
    exact h1
  rintro x1 e1 ⟨y1, rfl, ht1⟩
  unfold LW
  walk_nrm
  repeat (first | refine Walk.cx ?_ | (refine Walk.cReg ?_; simp only [z27]) | (refine Walk.oq ?_; try walk_nrm) | (refine Walk.un ?_; walk_nrm))
  refine LW.callS (K := K.toLb) (e := e1) (l := fr :: l) (f := 10) (Q := fun x e' => ∃ y, x = .int .i64 y ∧ K.tgt e' = (K.s e', .inl ⟨true, 0, []⟩)) ?_ (ho_of (by conv => lhs; whnf) (by kernel_rfl)) (by rfl) (by decide) rfl Try.func10 (by kernel_rfl) (by rfl) ⟨rfl, rfl, _, Try.func27⟩ (plain_cons hp hl) ?_
  · walk_nrm
    exact h2 e1 ht1
  rintro x2 e2 ⟨y2, rfl, ht2⟩
  unfold LW
  walk_nrm
  repeat (first | refine Walk.cx ?_ | (refine Walk.cReg ?_; simp only [z27]) | (refine Walk.oq ?_; try walk_nrm) | (refine Walk.un ?_; walk_nrm))
  exact Walk.on0 rfl rfl Try.func27 rfl (hk _ e2 ht2)
def EvenOut (K : Lg (spLa cb rb m ra rc) sv) (v : Value) (e' : K.E) : Prop := ∃ b y, v = .tuple #[.int .i64 y, .bool b] ∧ K.tgt e' = (K.s e', .inl ⟨b, y, []⟩)
theorem even_round (K : Lg (spLa cb rb m ra rc) sv) (B : Nat) (ls : List Int) (hlen : ls.length = m) (fr : Frame) (l : List Frame) (hp : Plain fr) (hl : ∀ f ∈ l, Plain f) (hk : ∀ x e', EvenOut K x e' → LW K.toLb e' (G (fr.finish x) (l ++ K.bot e'))) (j : Nat) (hj : j < m) (e : K.E) (u : Nat → Value) (hB : K.mine e B) (hT : Told (K.w e) B m ls) (ht : K.tgt e = (K.s e, dF m j ls))
    (ih : ∀ (e' : K.E) (u : Nat → Value), K.mine e' B → Told (K.w e') B m ls → K.tgt e' = (K.s e', dF m (j + 1) ls) → LW K.toLb e' (G (hdEven cb sv B m (j + 1) u) (fr :: (l ++ K.bot e')))) :
    LW K.toLb e (G (hdEven cb sv B m j u) (fr :: (l ++ K.bot e))) := by
  have hm := (K.inv e).pos.2
  have hs := stripe_w (main := K.main) (V := K.V e) j hj (K.w e) (K.inv e)
  have ht0 : K.tgt e = (K.s e, .inr (.e2 j ls)) := ht.trans (by unfold dF; rw [if_neg (by omega)]; rfl)
  have w1 := SCall.fz K (word_load (Fz K e) (spW j hj) (fz0 K e) (.e2 j ls) trivial ht0)
  unfold Wd.p at w1
  have hx0 : ls[j]? = some (ls.getD j 0) := by rw [List.getD_eq_getElem?_getD, List.getElem?_eq_getElem (by omega)]; rfl
  have c1 := hT.cell j _ hx0
  have hact : ∀ s : Sp, spAct m s (.e2 j ls) = (s, if s j ≠ ls.getD j 0 then .inl ⟨false, 0, []⟩ else dF m (j + 1) ls) := fun _ => rfl
  generalize ls.getD j 0 = n at *
  have hj0 : (0 : Int) ≤ j := by omega
  have hj1 : decide ((j : Int) < m) = true := by simp; omega
  have hj3 : decide (j < m) = true := by simp; omega
  have hj4 : (j : Int) < m := by omega
  have hw1 : IntKind.wrap .i64 ((j : Int) + 1) = ((j + 1 : Nat) : Int) := by rw [IntKind.wrap_i64]; omega
  unfold LW hdEven
  repeat (first | refine Walk.cx ?_ | (refine Walk.cReg ?_; simp only [z28]) | (refine Walk.oq ?_; try walk_nrm) | (refine Walk.un ?_; walk_nrm))
  refine Walk.callV (x := spP cb rb j) (W := K.w e) ?_ (ho_of (by conv => lhs; whnf) (by kernel_rfl)) (by rfl) (by decide) rfl Try.func31 (by kernel_rfl) (by rfl) ?_
  · walk_nrm
    exact hs
  walk_nrm
  repeat (first | refine Walk.cx ?_ | (refine Walk.cReg ?_; simp only [z28]) | (refine Walk.oq ?_; try walk_nrm) | (refine Walk.un ?_; walk_nrm))
  refine LW.callS (K := K.toLb) (e := e) (l := fr :: l) (f := 43) (Q := fun v e' => ∃ h : Kept K e e', Aft (Fz K e).toLb (fz0 K e) (.e2 j ls) ⟨e', h⟩ ∧ v = .int .i64 ((K.s e' : Sp) j)) ?_ (ho_of (by conv => lhs; whnf) (by kernel_rfl)) (by rfl) (by decide) rfl Try.func43 (by kernel_rfl) (by rfl) ⟨rfl, rfl, _, Try.func28⟩ (plain_cons hp hl) ?_
  · walk_nrm
    exact w1
  rintro v e1 ⟨hkept, ha, rfl⟩
  obtain ⟨hm1, hb1⟩ := hkept B hB
  have hT1 : Told (K.w e1) B m ls := by
    obtain ⟨arr, h1, h2⟩ := hT
    exact ⟨arr, hb1.trans h1, h2⟩
  have ht1 : K.tgt e1 = (K.s e1, if (K.s e1 : Sp) j ≠ n then .inl ⟨false, 0, []⟩ else dF m (j + 1) ls) := ha.tgt.trans (hact _)
  generalize (K.s e1 : Sp) j = x at *
  clear hact hs w1 hT c1 ha
  unfold LW
  walk_nrm
  by_cases h : x = n
  · subst h
    rw [if_neg (by simp)] at ht1
    have hih := fun u => ih e1 u hm1 hT1 ht1
    have hb : (x == x) = true := by simp
    have hb2 : (x != x) = false := by simp
    unfold LW at hih
    clear ih
    repeat (first | refine Walk.cx ?_ | (refine Walk.cReg ?_; simp only [z28]) | (refine Walk.oq ?_; try walk_nrm) | (refine Walk.un ?_; walk_nrm))
    refine Walk.ctl rfl (fun w => stepG_inLoop) ?_
    refine slots_walk (F := fun u => G (hdEven cb sv B m (j + 1) u) (fr :: (l ++ K.bot e1))) hih ?_
    simp only [hdEven]
    rfl
  · rw [if_pos h] at ht1
    have hb : (x == n) = false := by simp [h]
    have hb2 : (x != n) = true := by simp [h]
    have hkk := hk (.tuple #[.int .i64 0, .bool false]) e1 ⟨_, _, rfl, ht1⟩
    unfold LW at hkk
    clear ih
    repeat (first | refine Walk.cx ?_ | (refine Walk.cReg ?_; simp only [z28]) | (refine Walk.oq ?_; try walk_nrm) | (refine Walk.un ?_; walk_nrm))
    exact Walk.on2 rfl rfl Try.func28 rfl hkk
theorem even_end (K : Lg (spLa cb rb m ra rc) sv) (B : Nat) (ls : List Int) (hlen : ls.length = m) (fr : Frame) (l : List Frame) (hk : ∀ x e', EvenOut K x e' → LW K.toLb e' (G (fr.finish x) (l ++ K.bot e'))) (e : K.E) (u : Nat → Value) (hT : Told (K.w e) B m ls) (ht : K.tgt e = (K.s e, dF m m ls)) :
    LW K.toLb e (G (hdEven cb sv B m m u) (fr :: (l ++ K.bot e))) := by
  have hm := (K.inv e).pos.2
  have hj3 : decide (m < m) = false := by simp
  have ht0 : K.tgt e = (K.s e, .inl ⟨true, sumZ ls, []⟩) := ht.trans (by unfold dF; rw [if_pos rfl]; rfl)
  have hs := sum_w (main := K.main) (V := K.V e) B m m ls hlen hm (K.w e) hT.cell
  have hkk := hk (.tuple #[.int .i64 (sumZ ls), .bool true]) e ⟨_, _, rfl, ht0⟩
  generalize sumZ ls = y at *
  unfold LW hdEven
  unfold LW at hkk
  repeat (first | refine Walk.cx ?_ | (refine Walk.cReg ?_; simp only [z28]) | (refine Walk.oq ?_; try walk_nrm) | (refine Walk.un ?_; walk_nrm))
  refine Walk.callV (x := .int .i64 y) (W := K.w e) ?_ (ho_of (by conv => lhs; whnf) (by kernel_rfl)) (by rfl) (by decide) rfl Try.func21 (by kernel_rfl) (by rfl) ?_
  · walk_nrm
    exact hs
  walk_nrm
  repeat (first | refine Walk.cx ?_ | (refine Walk.cReg ?_; simp only [z28]) | (refine Walk.oq ?_; try walk_nrm) | (refine Walk.un ?_; walk_nrm))
  exact Walk.on2 rfl rfl Try.func28 rfl hkk
theorem even_loop (K : Lg (spLa cb rb m ra rc) sv) (B : Nat) (ls : List Int) (hlen : ls.length = m) (fr : Frame) (l : List Frame) (hp : Plain fr) (hl : ∀ f ∈ l, Plain f) (hk : ∀ x e', EvenOut K x e' → LW K.toLb e' (G (fr.finish x) (l ++ K.bot e'))) :
    ∀ (r j : Nat) (e : K.E) (u : Nat → Value), j + r = m → K.mine e B → Told (K.w e) B m ls → K.tgt e = (K.s e, dF m j ls) → LW K.toLb e (G (hdEven cb sv B m j u) (fr :: (l ++ K.bot e))) := by
  intro r
  induction r with
  | zero =>
    intro j e u hj hB hT ht
    have hj' : j = m := by omega
    rw [hj'] at ht ⊢
    exact even_end K B ls hlen fr l hk e u hT ht
  | succ r ih =>
    intro j e u hj hB hT ht
    exact even_round K B ls hlen fr l hp hl hk j (by omega) e u hB hT ht fun e' u' hB' hT' ht' => ih (j + 1) e' u' (by omega) hB' hT' ht'
theorem even_s (K : Lg (spLa cb rb m ra rc) sv) (e : K.E) (ht : K.tgt e = (K.s e, dE m 0 [])) : SCall K.toLb 28 #[.pointer (some ⟨cb, 0, none⟩), sv] e (EvenOut K) := by
  intro fr l hp hl hk
  have hm0 := (K.inv e).pos.1
  have h1 := loadAll_s K (dE m) .e1 (fun k l hk => if_neg (by omega)) (fun _ _ _ => rfl) e ht
  have hlp := fun B ls hlen e' u hB hT ht' => even_loop K B ls hlen fr l hp hl hk m 0 e' u (by omega) hB hT ht'
  clear hk
  unfold LW
  have hp1 := fun w => run_eql_ptr (P := Try.prog) 42 undCtr (some ⟨cb, 0, none⟩) w
  have hp2 := fun w es => ev_eql_ptr (P := Try.prog) 42 undCtr (some ⟨cb, 0, none⟩) w es
  simp only [Option.isNone_some] at hp1
  rw [enter_at _ Try.func28 code28_is]
  simp only [Try.ntmps28, ez, Nat.reduceAdd, Nat.reduceSub]
  repeat (first | refine Walk.cx ?_ | (refine Walk.cReg ?_; simp only [z28]) | (refine Walk.oq ?_; try walk_nrm) | (refine Walk.un ?_; walk_nrm))
  refine LW.callS (K := K.toLb) (e := e) (l := fr :: l) (f := 29) (Q := EachOut K (dE m)) ?_ (ho_of (by conv => lhs; whnf) (by kernel_rfl)) (by rfl) (by decide) rfl Try.func29 (by kernel_rfl) (by rfl) ⟨rfl, rfl, _, Try.func28⟩ (plain_cons hp hl) ?_
  · walk_nrm
    exact h1
  rintro x e2 ⟨B, ls, rfl, hlen, hmB, hT, ht2⟩
  have ht3 : K.tgt e2 = (K.s e2, dF m 0 ls) := ht2.trans (by unfold dF dE; rw [if_pos rfl, if_neg (by omega)])
  have hh := fun u => hlp B ls hlen e2 u hmB hT ht3
  clear hlp h1
  unfold LW at hh ⊢
  walk_nrm
  repeat (first | refine Walk.cx ?_ | (refine Walk.cReg ?_; simp only [z28]) | (refine Walk.oq ?_; try walk_nrm) | (refine Walk.un ?_; walk_nrm))
  refine Walk.ctl rfl (fun w => stepG_loop) ?_
  refine slots_walk (F := fun u => G (hdEven cb sv B m 0 u) (fr :: (l ++ K.bot e2))) hh ?_
  simp only [hdEven]
  rfl
end
end
end Go.Proofs.Ytabpfdckgnimaaa
