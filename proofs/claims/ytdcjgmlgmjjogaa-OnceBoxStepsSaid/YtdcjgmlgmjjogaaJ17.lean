/- Part 17. -/
import Derived.Test.YtdcjgmlgmjjogaaJ5
import Derived.Test.YtdcjgmlgmjjogaaJ13
import Derived.Test.YtdcjgmlgmjjogaaJ16
import Derived.Conc.AtomicLaws2
set_option linter.unusedSimpArgs false
set_option linter.unusedVariables false
set_option maxHeartbeats 8000000
set_option maxRecDepth 100000
namespace Go.Proofs.Ytdcjgmlgmjjogaa
open Go.Conc Go.RowKit Go.Relay
open Go.ConcN (upd upd_ne upd_same)
section
inductive Whole (L : La) (N : Nat) : Nat → L.Sg → List OpV → List Ans → Nat → L.Sg → List Ans → Prop
 | nil (c : Nat) (s : L.Sg) (az : List Ans) : Whole L N c s [] az c s az
 | cons {c c1 c2 : Nat} {s s1 s2 : L.Sg} {o : OpV} {l : List OpV} {az az2 : List Ans} {a : Ans} (h : lonC L N c (L.enter s o) = some (c1, s1, a)) (k : Whole L N c1 s1 l (az ++ [a]) c2 s2 az2) : Whole L N c s (o :: l) az c2 s2 az2
section
variable {L : La}
structure At1 (x : OX L) (r : L.Sg × Tst L) : Prop where
 s : x.s = r.1
 th : x.th 0 = r.2
 out : x.out 0 = (match r.2.d with | none => some false | some _ => none)
theorem At1.put (x : OX L) (r : L.Sg × Tst L) (c : Nat) : At1 (putO x 0 r c) r := ⟨rfl, (upd_same x.th 0 r.2 : _), (upd_same x.out 0 _ : _)⟩
theorem At1.next {x : OX L} {s : L.Sg} {left : List OpV} {d : L.D} {az : List Ans} (h : At1 x (s, ⟨left, some d, az⟩)) : At1 (nextO x 0) (landO L (L.act s d) left az) := by
 have hd : (x.th 0).d = some d := by rw [h.th]
 have e : nextO x 0 = putO x 0 (landO L (L.act x.s d) (x.th 0).left (x.th 0).ans) (x.cnt + 1) := by
  unfold nextO
  rw [hd]
 rw [e, h.th, h.s]
 exact At1.put _ _ _
inductive Go1 : Nat → OX L → OX L → Prop
 | refl (x : OX L) : Go1 0 x x
 | step {m : Nat} {x y : OX L} (h : x.out 0 = none) (k : Go1 m (nextO x 0) y) : Go1 (m + 1) x y
theorem Go1.trans {m n : Nat} {x y z : OX L} (h : Go1 m x y) (k : Go1 n y z) : Go1 (m + n) x z := by
 induction h with
 | refl => rw [Nat.zero_add]; exact k
 | step h _ ih =>
  rw [Nat.add_right_comm]
  exact .step h (ih k)
theorem go_call {N : Nat} : ∀ {c c1 : Nat} {s s1 : L.Sg} {r : Ans ⊕ L.D} {a : Ans}, lonC L N c (s, r) = some (c1, s1, a) → ∀ (left : List OpV) (az : List Ans) (x : OX L), At1 x (landO L (s, r) left az) → c ≤ c1 ∧ ∃ y, Go1 (c1 - c) x y ∧ At1 y (settleO L s1 left (az ++ [a])) := by
 induction N with
 | zero =>
  intro c c1 s s1 r a h left az x hx
  cases r with
  | inl a' =>
   rw [lonC_inl] at h
   simp only [Option.some.injEq, Prod.mk.injEq] at h
   obtain ⟨rfl, rfl, rfl⟩ := h
   exact ⟨Nat.le_refl _, x, by rw [Nat.sub_self]; exact .refl x, hx⟩
  | inr d => exact absurd h (by simp [lonC])
 | succ N ih =>
  intro c c1 s s1 r a h left az x hx
  cases r with
  | inl a' =>
   rw [lonC_inl] at h
   simp only [Option.some.injEq, Prod.mk.injEq] at h
   obtain ⟨rfl, rfl, rfl⟩ := h
   exact ⟨Nat.le_refl _, x, by rw [Nat.sub_self]; exact .refl x, hx⟩
  | inr d =>
   have h' : lonC L N (c + 1) ((L.act s d).1, (L.act s d).2) = some (c1, s1, a) := h
   have hx' : At1 x (s, ⟨left, some d, az⟩) := hx
   obtain ⟨h1, y, h2, h3⟩ := ih h' left az (nextO x 0) hx'.next
   refine ⟨by omega, y, ?_, h3⟩
   have e : c1 - c = (c1 - (c + 1)) + 1 := by omega
   rw [e]
   exact .step hx'.out h2
theorem go_whole {N c c2 : Nat} {s s2 : L.Sg} {l : List OpV} {az az2 : List Ans} (h : Whole L N c s l az c2 s2 az2) : ∀ x : OX L, At1 x (settleO L s l az) → c ≤ c2 ∧ ∃ y, Go1 (c2 - c) x y ∧ At1 y (s2, ⟨[], none, az2⟩) := by
 induction h with
 | nil c s az => exact fun x hx => ⟨Nat.le_refl _, x, by rw [Nat.sub_self]; exact .refl x, hx⟩
 | @cons c c1 c2 s s1 s2 o l az az2 a h _ ih =>
  intro x hx
  rw [settleO_cons] at hx
  have h' : lonC L N c ((L.enter s o).1, (L.enter s o).2) = some (c1, s1, a) := h
  obtain ⟨h1, y, h2, h3⟩ := go_call h' l az x hx
  obtain ⟨k1, z, k2, k3⟩ := ih y h3
  refine ⟨by omega, z, ?_, k3⟩
  have e : c2 - c = (c1 - c) + (c2 - c1) := by omega
  rw [e]
  exact h2.trans k2
theorem rest_alone (most : Int) (ops : Nat → List OpV) {m : Nat} {x y : OX L} (h : Go1 m x y) (hy : y.out 0 ≠ none) : ∀ (f : Nat) (ord : List Nat), (restA (absO L 1 most ops) f (x, ord)).1.out 0 ≠ none → restA (absO L 1 most ops) f (x, ord) = (y, ord ++ List.replicate m 0) := by
 induction h with
 | refl x =>
  intro f ord _
  have hov : overA (absO L 1 most ops) (x, ord) = true := by
   unfold overA goingA
   have hn : (x.out 0).isNone = false := by
    cases h : x.out 0 with
    | none => exact absurd h hy
    | some _ => rfl
   have : (List.range 1).countP (fun i => (x.out i).isNone) = 0 := by
    show List.countP (fun i => (x.out i).isNone) [0] = 0
    simp [hn]
   show (decide ((List.range 1).countP (fun i => (x.out i).isNone) = 0) || _) = true
   rw [this]
   rfl
  cases f with
  | zero => simp [restA]
  | succ f =>
   unfold restA
   rw [hov]
   simp
 | @step m x y hx _ ih =>
  intro f ord hF
  cases f with
  | zero => exact absurd hx hF
  | succ f =>
   unfold restA at hF ⊢
   cases hov : overA (absO L 1 most ops) (x, ord) with
   | true =>
    rw [hov] at hF
    exact absurd hx hF
   | false =>
    rw [hov] at hF
    have hr : roundA (absO L 1 most ops) (x, ord) = (nextO x 0, ord ++ [0]) := by
     show stepA (absO L 1 most ops) (x, ord) (0 : Nat) = _
     unfold stepA
     rw [if_pos ⟨hov, by decide, by show ((0 : Nat) : Int) < ((1 : Nat) : Int); decide, hx⟩]
     rfl
    simp only [Bool.false_eq_true, if_false] at hF ⊢
    rw [hr] at hF ⊢
    rw [ih hy f (ord ++ [0]) hF]
    simp [List.replicate_succ]
theorem play_alone {N c2 : Nat} {s0 s2 : L.Sg} {ops : Nat → List OpV} {az2 : List Ans} (most : Int) (h : Whole L N 0 s0 (ops 0) [] c2 s2 az2) (hs : stuckO 1 (playO L s0 ops 1 most []).1 = false) :
  (playO L s0 ops 1 most []).1.s = s2 ∧ ((playO L s0 ops 1 most []).1.th 0).ans = az2 ∧ (playO L s0 ops 1 most []).2.length = c2 := by
 have hb : At1 (bornO ops (x0O L s0) 0) (settleO L s0 (ops 0) []) := At1.put _ _ _
 obtain ⟨_, y, h1, h2⟩ := go_whole h _ hb
 have hy : y.out 0 ≠ none := by rw [h2.out]; exact fun e => by cases e
 have e : playO L s0 ops 1 most [] = restA (absO L 1 (min (max most 0) 1048576) ops) (min (max most 0) 1048576).toNat (bornO ops (x0O L s0) 0, []) := rfl
 have ho : (playO L s0 ops 1 most []).1.out 0 ≠ none := fun hn => by
  have : stuckO 1 (playO L s0 ops 1 most []).1 = true := by
   show decide (0 < List.countP (fun i => ((playO L s0 ops 1 most []).1.out i).isNone) [0]) = true
   simp [hn]
  rw [this] at hs
  cases hs
 rw [e] at ho
 have hF := rest_alone _ ops h1 hy _ [] ho
 rw [e, hF]
 exact ⟨h2.s, by rw [h2.th], by simp⟩
end
end
section
section
variable {main : Bool} {V : Nat → Option Wait}
theorem Walk.turn {P : Program} {Stop : Goroutine → World → Prop} {g g' : Goroutine} {w W : World} {es : Array Event} (hr : g.status = .running) (hs : ∀ d, stepG P main g (w.at d) = .go g' (W.at d) es) (hd : ∀ d, DR V (w.at d) (W.at d) es) (h : Walk P main (DR V) Stop g' W) : Walk P main (DR V) Stop g w :=
 Walk.step hr (fun _ => g') (fun d => W.at d) (fun _ => es) hs hd (fun d => h.back d)
theorem evR_rw {ad : Addr} (hf : Free V ad) : ∀ e ∈ (#[⟨.cell ad, false, true⟩, ⟨.cell ad, true, true⟩] : Array Event), EvR V e := by
 intro e he
 simp only [List.mem_toArray, List.mem_cons, List.not_mem_nil, or_false] at he
 rcases he with rfl | rfl
 ·exact evR_read _ _
 ·exact evR_write _ _ hf
theorem atLoad (b q : Nat) (v : Int) (w : World) (hc : w.cell? ⟨b, q, none⟩ = some (.int .i64 v)) : CallV Try.prog main V 152 #[.pointer (some ⟨b, q, none⟩)] w (.int .i64 v) w := by
 refine callW_in Try.func152 rfl fun fr cs => ?_
 simp only [Try.ntmps152, ez, Nat.reduceAdd, Nat.reduceSub]
 repeat (first | refine Walk.cx ?_ | refine Walk.cR ?_ | (refine Walk.oq ?_; try walk_nrm) | (refine Walk.un ?_; walk_nrm))
 refine Walk.evs (fun _ => #[⟨.cell ⟨b, q, none⟩, false, true⟩]) rfl (fun d => stepG_load_atomic (w := w.at d) rfl (by rfl) (by decide) rfl Try.func153 (by kernel_rfl) (by rfl) (by kernel_rfl) .i64 (by kernel_rfl) rfl hc) (fun d e he => by simp at he; subst he; exact evR_read _ _) ?_
 walk_nrm
 repeat (first | refine Walk.cx ?_ | refine Walk.cR ?_ | (refine Walk.oq ?_; try walk_nrm) | (refine Walk.un ?_; walk_nrm))
 exact Walk.ret1 rfl rfl Try.func152 rfl fun d => ⟨rfl, d, rfl⟩
theorem atStore (b q : Nat) (u : Value) (v : Int) (w : World) (hc : w.cell? ⟨b, q, none⟩ = some u) (hz : w.frozen? ⟨b, q, none⟩ = false) (hf : Free V ⟨b, q, none⟩) : CallV Try.prog main V 98 #[.pointer (some ⟨b, q, none⟩), .int .i64 v] w (.tuple #[]) (w.setCell ⟨b, q, none⟩ (.int .i64 v)) := by
 refine callW_in Try.func98 rfl fun fr cs => ?_
 simp only [Try.ntmps98, ez, Nat.reduceAdd, Nat.reduceSub]
 repeat (first | refine Walk.cx ?_ | refine Walk.cR ?_ | (refine Walk.oq ?_; try walk_nrm) | (refine Walk.un ?_; walk_nrm))
 refine Walk.turn (W := w.setCell ⟨b, q, none⟩ (.int .i64 v)) rfl (fun d => stepG_store_atomic (w := w.at d) rfl (by rfl) (by decide) rfl Try.func116 (by kernel_rfl) (by rfl) (by kernel_rfl) (by kernel_rfl) rfl rfl hc hz) (fun d => DR.set' hf hc d _ (fun e he => by simp at he; subst he; exact evR_write _ _ hf)) ?_
 walk_nrm
 repeat (first | refine Walk.cx ?_ | refine Walk.cR ?_ | (refine Walk.oq ?_; try walk_nrm) | (refine Walk.un ?_; walk_nrm))
 exact Walk.ret0 rfl rfl Try.func98 rfl fun d => ⟨rfl, d, rfl⟩
theorem atCas_hit (b q : Nat) (v x : Int) (w : World) (hc : w.cell? ⟨b, q, none⟩ = some (.int .i64 v)) (hz : w.frozen? ⟨b, q, none⟩ = false) (hf : Free V ⟨b, q, none⟩) : CallV Try.prog main V 97 #[.pointer (some ⟨b, q, none⟩), .int .i64 v, .int .i64 x] w (.bool true) (w.setCell ⟨b, q, none⟩ (.int .i64 x)) := by
 refine callW_in Try.func97 rfl fun fr cs => ?_
 simp only [Try.ntmps97, ez, Nat.reduceAdd, Nat.reduceSub]
 repeat (first | refine Walk.cx ?_ | refine Walk.cR ?_ | (refine Walk.oq ?_; try walk_nrm) | (refine Walk.un ?_; walk_nrm))
 refine Walk.turn (W := w.setCell ⟨b, q, none⟩ (.int .i64 x)) rfl (fun d => stepG_cas_hit (w := w.at d) rfl (by rfl) (by decide) rfl Try.func115 (by kernel_rfl) (by rfl) (by kernel_rfl) .i64 (by kernel_rfl) rfl rfl rfl hc hz) (fun d => DR.set' hf hc d _ (evR_rw hf)) ?_
 walk_nrm
 repeat (first | refine Walk.cx ?_ | refine Walk.cR ?_ | (refine Walk.oq ?_; try walk_nrm) | (refine Walk.un ?_; walk_nrm))
 exact Walk.ret1 rfl rfl Try.func97 rfl fun d => ⟨rfl, d, rfl⟩
theorem atCas_miss (b q : Nat) (v old x : Int) (w : World) (hc : w.cell? ⟨b, q, none⟩ = some (.int .i64 v)) (hz : w.frozen? ⟨b, q, none⟩ = false) (hne : ¬ v = old) : CallV Try.prog main V 97 #[.pointer (some ⟨b, q, none⟩), .int .i64 old, .int .i64 x] w (.bool false) w := by
 refine callW_in Try.func97 rfl fun fr cs => ?_
 simp only [Try.ntmps97, ez, Nat.reduceAdd, Nat.reduceSub]
 repeat (first | refine Walk.cx ?_ | refine Walk.cR ?_ | (refine Walk.oq ?_; try walk_nrm) | (refine Walk.un ?_; walk_nrm))
 refine Walk.evs (fun _ => #[⟨.cell ⟨b, q, none⟩, false, true⟩]) rfl (fun d => stepG_cas_miss (w := w.at d) rfl (by rfl) (by decide) rfl Try.func115 (by kernel_rfl) (by rfl) (by kernel_rfl) .i64 (by kernel_rfl) rfl rfl rfl hc hz hne) (fun d e he => by simp at he; subst he; exact evR_read _ _) ?_
 walk_nrm
 repeat (first | refine Walk.cx ?_ | refine Walk.cR ?_ | (refine Walk.oq ?_; try walk_nrm) | (refine Walk.un ?_; walk_nrm))
 exact Walk.ret1 rfl rfl Try.func97 rfl fun d => ⟨rfl, d, rfl⟩
end
structure Wd (L : La) where
 b : Nat
 q : Nat
 get : L.Sg → Int
 put : L.Sg → Int → L.Sg
 ok : Int → Prop
 sh : L.sh b
 rd : ∀ s w, L.I s w → w.cell? ⟨b, q, none⟩ = some (.int .i64 (get s)) ∧ w.frozen? ⟨b, q, none⟩ = false
 wr : ∀ s w v, ok v → L.I s w → L.I (put s v) (w.setCell ⟨b, q, none⟩ (.int .i64 v))
def Wd.p {L : La} (W : Wd L) : Value := .pointer (some ⟨W.b, W.q, none⟩)
noncomputable def reg86_0 := rg Try.f86.body [0]
noncomputable def reg86_1 := rg Try.f86.body [1, 0]
noncomputable def reg86_2 := rg Try.f86.body [1, 1, 0]
theorem z86 : List.range reg86_0.size = [0] ∧ List.range reg86_1.size = [0, 1] ∧ List.range reg86_2.size = [0, 1, 2, 3] := by refine ⟨?_, ?_, ?_⟩ <;> kernel_rfl
theorem code86_is : Try.f86.body = some (.seq (.region 0 reg86_0 false) (.seq (.region 1 reg86_1 false) (.seq (.region 2 reg86_2 false) (.ret)))) := by kernel_rfl
noncomputable def reg65_0 := rg Try.f65.body [0]
noncomputable def reg65_1 := rg Try.f65.body [1, 0, 0]
noncomputable def reg65_2 := rg Try.f65.body [1, 0, 1, 0, 0]
noncomputable def reg65_3 := rg Try.f65.body [1, 1, 0]
theorem z65 : List.range reg65_0.size = [0] ∧ List.range reg65_1.size = [0, 1] ∧ List.range reg65_2.size = [0] ∧ List.range reg65_3.size = [0, 1, 2, 3, 4, 5] := by refine ⟨?_, ?_, ?_, ?_⟩ <;> kernel_rfl
theorem code65_is : Try.f65.body = some (.seq (.region 0 reg65_0 false) (.seq (.seq (.region 1 reg65_1 false) (.cond (.tmp 6 ) (.seq (.region 2 reg65_2 false) (.ret)) (.skip))) (.seq (.region 3 reg65_3 false) (.ret)))) := by kernel_rfl
noncomputable def reg88_0 := rg Try.f88.body [0, 0]
noncomputable def reg88_1 := rg Try.f88.body [1, 0]
noncomputable def reg88_2 := rg Try.f88.body [1, 1]
theorem z88 : List.range reg88_0.size = [0, 1] ∧ List.range reg88_1.size = [0, 1] ∧ List.range reg88_2.size = [0, 1, 2, 3, 4] := by refine ⟨?_, ?_, ?_⟩ <;> kernel_rfl
theorem code88_is : Try.f88.body = some (.seq (.seq (.region 0 reg88_0 false) (.cond (.tmp 7 ) (.ret) (.skip))) (.seq (.region 1 reg88_1 false) (.region 2 reg88_2 false))) := by kernel_rfl
noncomputable def reg87_0 := rg Try.f87.body [0]
noncomputable def reg87_1 := rg Try.f87.body [1, 0, 0]
noncomputable def reg87_2 := rg Try.f87.body [1, 0, 1, 0, 0]
noncomputable def reg87_3 := rg Try.f87.body [1, 1, 0]
noncomputable def reg87_4 := rg Try.f87.body [1, 1, 1, 0]
theorem z87 : List.range reg87_0.size = [0] ∧ List.range reg87_1.size = [0, 1] ∧ List.range reg87_2.size = [0] ∧ List.range reg87_3.size = [0, 1] ∧ List.range reg87_4.size = [0, 1, 2, 3, 4, 5, 6] := by refine ⟨?_, ?_, ?_, ?_, ?_⟩ <;> kernel_rfl
theorem code87_is : Try.f87.body = some (.seq (.region 0 reg87_0 false) (.seq (.seq (.region 1 reg87_1 false) (.cond (.tmp 10 ) (.seq (.region 2 reg87_2 false) (.ret)) (.skip))) (.seq (.region 3 reg87_3 false) (.seq (.region 4 reg87_4 false) (.ret))))) := by kernel_rfl
section
variable {L : La} {sv : Value}
theorem step_s (K : Lg L sv) (e : K.E) (d : L.D) (ht : K.tgt e = (K.s e, .inr d)) : SCall K.toLb 96 #[sv] e (fun _ e' => Aft K.toLb e d e') := fun fr l hp hl hk => K.step e d ht fr l hp hl fun e' ha => hk _ e' ha
theorem plain_cons {fr : Frame} {l : List Frame} (hp : Plain fr) (hl : ∀ f ∈ l, Plain f) : ∀ f ∈ fr :: l, Plain f := fun x hx => by
 rcases List.mem_cons.1 hx with rfl | hx
 ·exact hp
 ·exact hl x hx
theorem Wd.put_mv (W : Wd L) (K : Lg L sv) (e : K.E) (v : Int) (hv : W.ok v) : ∃ e', Mv K.toLb e e' (W.put (K.s e) v) ((K.w e).setCell ⟨W.b, W.q, none⟩ (.int .i64 v)) :=
 K.mv e _ _ (Nat.le_of_eq (size_set ..).symm) (fun b _ _ hs => heap_set_other _ _ _ _ fun he : b = W.b => hs (by rw [he]; exact W.sh)) (W.wr _ _ v hv (K.inv e))
theorem holds_s (K : Lg L sv) (W : Wd L) (e : K.E) (d : L.D) (ht : K.tgt e = (K.s e, .inr d)) : SCall K.toLb 86 #[sv, W.p] e (fun v e' => Aft K.toLb e d e' ∧ v = .int .i64 (W.get (K.s e'))) := by
 intro fr l hp hl hk
 unfold LW Wd.p
 rw [enter_at _ Try.func86 code86_is]
 simp only [Try.ntmps86, ez, Nat.reduceAdd, Nat.reduceSub]
 repeat (first | refine Walk.cx ?_ | (refine Walk.cReg ?_; simp only [z86]) | (refine Walk.oq ?_; try walk_nrm) | (refine Walk.un ?_; walk_nrm))
 refine LW.callS (K := K.toLb) (e := e) (l := fr :: l) (f := 96) (Q := fun _ e' => Aft K.toLb e d e') ?_ (ho_of (by conv => lhs; whnf) (by kernel_rfl)) (by rfl) (by decide) rfl Try.func96 (by kernel_rfl) (by rfl) ⟨rfl, rfl, _, Try.func86⟩ (plain_cons hp hl) ?_
 ·walk_nrm
  exact step_s K e d ht
 intro v e' ha
 have hc := (W.rd _ _ (K.inv e')).1
 have hi1 := run_ifaceAtomic
 have hi2 := ev_ifaceAtomic
 unfold LW
 walk_nrm
 repeat (first | refine Walk.cx ?_ | (refine Walk.cReg ?_; simp only [z86]) | (refine Walk.oq ?_; try walk_nrm) | (refine Walk.un ?_; walk_nrm))
 refine Walk.invokeLoad W.b W.q (ho_of (by conv => lhs; whnf) (by kernel_rfl)) (by rfl) (by decide) rfl rfl ?_
 refine (atLoad W.b W.q _ (K.w e') hc _ _).then ?_
 rintro g' w' ⟨v', ⟨rfl, dd, rfl⟩, rfl⟩
 refine Walk.back ?_ dd
 refine Walk.finish (ho_of (by conv => lhs; whnf) (by kernel_rfl)) ?_
 walk_nrm
 repeat (first | refine Walk.cx ?_ | (refine Walk.cReg ?_; simp only [z86]) | (refine Walk.oq ?_; try walk_nrm) | (refine Walk.un ?_; walk_nrm))
 exact Walk.on1 rfl rfl Try.func86 rfl (hk _ e' ⟨ha, rfl⟩)
theorem word_load (K : Lg L sv) (W : Wd L) (e : K.E) (d : L.D) (ht : K.tgt e = (K.s e, .inr d)) : SCall K.toLb 65 #[W.p, sv] e (fun v e' => Aft K.toLb e d e' ∧ v = .int .i64 (W.get (K.s e'))) := by
 intro fr l hp hl hk
 have hh := holds_s K W e d ht
 unfold Wd.p at *
 unfold LW
 have hp1 := fun w => run_eql_ptr (P := Try.prog) 171 undWord (some ⟨W.b, W.q, none⟩) w
 have hp2 := fun w es => ev_eql_ptr (P := Try.prog) 171 undWord (some ⟨W.b, W.q, none⟩) w es
 simp only [Option.isNone_some] at hp1
 rw [enter_at _ Try.func65 code65_is]
 simp only [Try.ntmps65, ez, Nat.reduceAdd, Nat.reduceSub]
 repeat (first | refine Walk.cx ?_ | (refine Walk.cReg ?_; simp only [z65]) | (refine Walk.oq ?_; try walk_nrm) | (refine Walk.un ?_; walk_nrm))
 refine LW.callS (K := K.toLb) (e := e) (l := fr :: l) (f := 86) (Q := fun v e' => Aft K.toLb e d e' ∧ v = .int .i64 (W.get (K.s e'))) ?_ (ho_of (by conv => lhs; whnf) (by kernel_rfl)) (by rfl) (by decide) rfl Try.func86 (by kernel_rfl) (by rfl) ⟨rfl, rfl, _, Try.func65⟩ (plain_cons hp hl) ?_
 ·walk_nrm
  exact hh
 rintro v e' ⟨ha, rfl⟩
 unfold LW
 walk_nrm
 repeat (first | refine Walk.cx ?_ | (refine Walk.cReg ?_; simp only [z65]) | (refine Walk.oq ?_; try walk_nrm) | (refine Walk.un ?_; walk_nrm))
 exact Walk.on1 rfl rfl Try.func65 rfl (hk _ e' ⟨ha, rfl⟩)
structure Wrote (K : Lg L sv) (e : K.E) (d : L.D) (s : L.Sg) (s' : L.Sg) (e' : K.E) : Prop where
 tgt : K.tgt e' = L.act s d
 fuel : K.fuel e' < K.fuel e
 s : K.s e' = s'
 size : (K.w e).heap.size ≤ (K.w e').heap.size
 mine : ∀ b, K.mine e b → K.mine e' b ∧ (K.w e').heap[b]? = (K.w e).heap[b]?
theorem Wrote.of {K : Lg L sv} {e e1 e' : K.E} {d : L.D} {s' : L.Sg} {W : Wd L} {v : Int} (ha : Aft K.toLb e d e1) (m : Mv K.toLb e1 e' s' ((K.w e1).setCell ⟨W.b, W.q, none⟩ (.int .i64 v))) : Wrote K e d (K.s e1) s' e' :=
 ⟨m.tgt.trans ha.tgt, by rw [m.fuel]; exact ha.fuel, m.s, by rw [m.w, size_set]; exact ha.size, fun b hb => by
  obtain ⟨h1, h2⟩ := ha.mine b hb
  have hne : b ≠ W.b := fun he => (K.mineA e1 b h1).2.1 (by rw [he]; exact W.sh)
  refine ⟨(m.mine b).2 (.inl h1), ?_⟩
  rw [m.w, heap_set_other _ _ _ _ hne]
  exact h2⟩
theorem Wrote.same {K : Lg L sv} {e e1 : K.E} {d : L.D} (ha : Aft K.toLb e d e1) : Wrote K e d (K.s e1) (K.s e1) e1 := ⟨ha.tgt, ha.fuel, rfl, ha.size, ha.mine⟩
theorem word_store (K : Lg L sv) (W : Wd L) (e : K.E) (d : L.D) (x : Int) (hx : W.ok x) (ht : K.tgt e = (K.s e, .inr d)) : SCall K.toLb 88 #[W.p, sv, .int .i64 x] e (fun _ e' => ∃ s, Wrote K e d s (W.put s x) e') := by
 intro fr l hp hl hk
 unfold Wd.p
 unfold LW
 have hp1 := fun w => run_eql_ptr (P := Try.prog) 171 undWord (some ⟨W.b, W.q, none⟩) w
 have hp2 := fun w es => ev_eql_ptr (P := Try.prog) 171 undWord (some ⟨W.b, W.q, none⟩) w es
 simp only [Option.isNone_some] at hp1
 rw [enter_at _ Try.func88 code88_is]
 simp only [Try.ntmps88, ez, Nat.reduceAdd, Nat.reduceSub]
 repeat (first | refine Walk.cx ?_ | (refine Walk.cReg ?_; simp only [z88]) | (refine Walk.oq ?_; try walk_nrm) | (refine Walk.un ?_; walk_nrm))
 refine LW.callS (K := K.toLb) (e := e) (l := fr :: l) (f := 96) (Q := fun _ e' => Aft K.toLb e d e') ?_ (ho_of (by conv => lhs; whnf) (by kernel_rfl)) (by rfl) (by decide) rfl Try.func96 (by kernel_rfl) (by rfl) ⟨rfl, rfl, _, Try.func88⟩ (plain_cons hp hl) ?_
 ·walk_nrm
  exact step_s K e d ht
 intro v e1 ha
 obtain ⟨hc, hz⟩ := W.rd _ _ (K.inv e1)
 obtain ⟨e', m⟩ := W.put_mv K e1 x hx
 unfold LW
 walk_nrm
 repeat (first | refine Walk.cx ?_ | (refine Walk.cReg ?_; simp only [z88]) | (refine Walk.oq ?_; try walk_nrm) | (refine Walk.un ?_; walk_nrm))
 refine Walk.callV (x := .tuple #[]) (W := (K.w e1).setCell ⟨W.b, W.q, none⟩ (.int .i64 x)) ?_ (ho_of (by conv => lhs; whnf) (by kernel_rfl)) (by rfl) (by decide) rfl Try.func98 (by kernel_rfl) (by rfl) ?_
 ·walk_nrm
  exact atStore W.b W.q _ x (K.w e1) hc hz ((K.shA e1 _ W.sh).1 _ rfl)
 walk_nrm
 repeat (first | refine Walk.cx ?_ | (refine Walk.cReg ?_; simp only [z88]) | (refine Walk.oq ?_; try walk_nrm) | (refine Walk.un ?_; walk_nrm))
 exact Walk.on0 rfl rfl Try.func88 rfl (LW.to m (hk _ e' ⟨K.s e1, Wrote.of ha m⟩))
theorem word_cas (K : Lg L sv) (W : Wd L) (e : K.E) (d : L.D) (old x : Int) (hx : W.ok x) (ht : K.tgt e = (K.s e, .inr d)) : SCall K.toLb 87 #[W.p, sv, .int .i64 old, .int .i64 x] e (fun v e' => ∃ s, (W.get s = old ∧ v = .bool true ∧ Wrote K e d s (W.put s x) e') ∨ (W.get s ≠ old ∧ v = .bool false ∧ Wrote K e d s s e')) := by
 intro fr l hp hl hk
 unfold Wd.p
 unfold LW
 have hp1 := fun w => run_eql_ptr (P := Try.prog) 171 undWord (some ⟨W.b, W.q, none⟩) w
 have hp2 := fun w es => ev_eql_ptr (P := Try.prog) 171 undWord (some ⟨W.b, W.q, none⟩) w es
 simp only [Option.isNone_some] at hp1
 rw [enter_at _ Try.func87 code87_is]
 simp only [Try.ntmps87, ez, Nat.reduceAdd, Nat.reduceSub]
 repeat (first | refine Walk.cx ?_ | (refine Walk.cReg ?_; simp only [z87]) | (refine Walk.oq ?_; try walk_nrm) | (refine Walk.un ?_; walk_nrm))
 refine LW.callS (K := K.toLb) (e := e) (l := fr :: l) (f := 96) (Q := fun _ e' => Aft K.toLb e d e') ?_ (ho_of (by conv => lhs; whnf) (by kernel_rfl)) (by rfl) (by decide) rfl Try.func96 (by kernel_rfl) (by rfl) ⟨rfl, rfl, _, Try.func87⟩ (plain_cons hp hl) ?_
 ·walk_nrm
  exact step_s K e d ht
 intro v e1 ha
 obtain ⟨hc, hz⟩ := W.rd _ _ (K.inv e1)
 unfold LW
 walk_nrm
 repeat (first | refine Walk.cx ?_ | (refine Walk.cReg ?_; simp only [z87]) | (refine Walk.oq ?_; try walk_nrm) | (refine Walk.un ?_; walk_nrm))
 by_cases hv : W.get (K.s e1) = old
 ·obtain ⟨e', m⟩ := W.put_mv K e1 x hx
  refine Walk.callV (x := .bool true) (W := (K.w e1).setCell ⟨W.b, W.q, none⟩ (.int .i64 x)) ?_ (ho_of (by conv => lhs; whnf) (by kernel_rfl)) (by rfl) (by decide) rfl Try.func97 (by kernel_rfl) (by rfl) ?_
  ·walk_nrm
   rw [hv] at hc
   exact atCas_hit W.b W.q old x (K.w e1) hc hz ((K.shA e1 _ W.sh).1 _ rfl)
  walk_nrm
  repeat (first | refine Walk.cx ?_ | (refine Walk.cReg ?_; simp only [z87]) | (refine Walk.oq ?_; try walk_nrm) | (refine Walk.un ?_; walk_nrm))
  exact Walk.on1 rfl rfl Try.func87 rfl (LW.to m (hk _ e' ⟨K.s e1, .inl ⟨hv, rfl, Wrote.of ha m⟩⟩))
 ·refine Walk.callV (x := .bool false) (W := K.w e1) ?_ (ho_of (by conv => lhs; whnf) (by kernel_rfl)) (by rfl) (by decide) rfl Try.func97 (by kernel_rfl) (by rfl) ?_
  ·walk_nrm
   exact atCas_miss W.b W.q _ old x (K.w e1) hc hz hv
  walk_nrm
  repeat (first | refine Walk.cx ?_ | (refine Walk.cReg ?_; simp only [z87]) | (refine Walk.oq ?_; try walk_nrm) | (refine Walk.un ?_; walk_nrm))
  exact Walk.on1 rfl rfl Try.func87 rfl (hk _ e1 ⟨K.s e1, .inr ⟨hv, rfl, Wrote.same ha⟩⟩)
end
end
section
section
variable {main : Bool} {V : Nat → Option Wait}
theorem atAdd (b q : Nat) (v x : Int) (w : World) (hc : w.cell? ⟨b, q, none⟩ = some (.int .i64 v)) (hz : w.frozen? ⟨b, q, none⟩ = false) (hf : Free V ⟨b, q, none⟩) : CallV Try.prog main V 99 #[.pointer (some ⟨b, q, none⟩), .int .i64 x] w (.int .i64 (IntKind.i64.wrap (v + x))) (w.setCell ⟨b, q, none⟩ (.int .i64 (IntKind.i64.wrap (v + x)))) := by
 refine callW_in Try.func99 rfl fun fr cs => ?_
 simp only [Try.ntmps99, ez, Nat.reduceAdd, Nat.reduceSub]
 repeat (first | refine Walk.cx ?_ | refine Walk.cR ?_ | (refine Walk.oq ?_; try walk_nrm) | (refine Walk.un ?_; walk_nrm))
 refine Walk.turn (W := w.setCell ⟨b, q, none⟩ (.int .i64 (IntKind.i64.wrap (v + x)))) rfl (fun d => stepG_add_atomic (w := w.at d) rfl (by rfl) (by decide) rfl Try.func117 (by kernel_rfl) (by rfl) (by kernel_rfl) .i64 (by kernel_rfl) rfl rfl hc hz) (fun d => DR.set' hf hc d _ (evR_rw hf)) ?_
 walk_nrm
 repeat (first | refine Walk.cx ?_ | refine Walk.cR ?_ | (refine Walk.oq ?_; try walk_nrm) | (refine Walk.un ?_; walk_nrm))
 exact Walk.ret1 rfl rfl Try.func99 rfl fun d => ⟨rfl, d, rfl⟩
end
noncomputable def reg89_0 := rg Try.f89.body [0]
noncomputable def reg89_1 := rg Try.f89.body [1, 0, 0]
noncomputable def reg89_2 := rg Try.f89.body [1, 0, 1, 0, 0]
noncomputable def reg89_3 := rg Try.f89.body [1, 1, 0]
noncomputable def reg89_4 := rg Try.f89.body [1, 1, 1, 0]
theorem z89 : List.range reg89_0.size = [0] ∧ List.range reg89_1.size = [0, 1] ∧ List.range reg89_2.size = [0] ∧ List.range reg89_3.size = [0, 1] ∧ List.range reg89_4.size = [0, 1, 2, 3, 4, 5] := by refine ⟨?_, ?_, ?_, ?_, ?_⟩ <;> kernel_rfl
theorem code89_is : Try.f89.body = some (.seq (.region 0 reg89_0 false) (.seq (.seq (.region 1 reg89_1 false) (.cond (.tmp 8 ) (.seq (.region 2 reg89_2 false) (.ret)) (.skip))) (.seq (.region 3 reg89_3 false) (.seq (.region 4 reg89_4 false) (.ret))))) := by kernel_rfl
section
variable {L : La} {sv : Value}
theorem word_add (K : Lg L sv) (W : Wd L) (e : K.E) (d : L.D) (x : Int) (hx : ∀ y, W.ok y) (ht : K.tgt e = (K.s e, .inr d)) : SCall K.toLb 89 #[W.p, sv, .int .i64 x] e (fun v e' => ∃ s, v = .int .i64 (IntKind.i64.wrap (W.get s + x)) ∧ Wrote K e d s (W.put s (IntKind.i64.wrap (W.get s + x))) e') := by
 intro fr l hp hl hk
 unfold Wd.p
 unfold LW
 have hp1 := fun w => run_eql_ptr (P := Try.prog) 171 undWord (some ⟨W.b, W.q, none⟩) w
 have hp2 := fun w es => ev_eql_ptr (P := Try.prog) 171 undWord (some ⟨W.b, W.q, none⟩) w es
 simp only [Option.isNone_some] at hp1
 rw [enter_at _ Try.func89 code89_is]
 simp only [Try.ntmps89, ez, Nat.reduceAdd, Nat.reduceSub]
 repeat (first | refine Walk.cx ?_ | (refine Walk.cReg ?_; simp only [z89]) | (refine Walk.oq ?_; try walk_nrm) | (refine Walk.un ?_; walk_nrm))
 refine LW.callS (K := K.toLb) (e := e) (l := fr :: l) (f := 96) (Q := fun _ e' => Aft K.toLb e d e') ?_ (ho_of (by conv => lhs; whnf) (by kernel_rfl)) (by rfl) (by decide) rfl Try.func96 (by kernel_rfl) (by rfl) ⟨rfl, rfl, _, Try.func89⟩ (plain_cons hp hl) ?_
 ·walk_nrm
  exact step_s K e d ht
 intro v e1 ha
 obtain ⟨hc, hz⟩ := W.rd _ _ (K.inv e1)
 obtain ⟨e', m⟩ := W.put_mv K e1 (IntKind.i64.wrap (W.get (K.s e1) + x)) (hx _)
 have hkk := hk (.int .i64 (IntKind.i64.wrap (W.get (K.s e1) + x))) e' ⟨K.s e1, rfl, Wrote.of ha m⟩
 generalize hg : W.get (K.s e1) = gv at *
 unfold LW
 walk_nrm
 repeat (first | refine Walk.cx ?_ | (refine Walk.cReg ?_; simp only [z89]) | (refine Walk.oq ?_; try walk_nrm) | (refine Walk.un ?_; walk_nrm))
 refine Walk.callV (x := .int .i64 (IntKind.i64.wrap (gv + x))) (W := (K.w e1).setCell ⟨W.b, W.q, none⟩ (.int .i64 (IntKind.i64.wrap (gv + x)))) ?_ (ho_of (by conv => lhs; whnf) (by kernel_rfl)) (by rfl) (by decide) rfl Try.func99 (by kernel_rfl) (by rfl) ?_
 ·walk_nrm
  exact atAdd W.b W.q gv x (K.w e1) hc hz ((K.shA e1 _ W.sh).1 _ rfl)
 walk_nrm
 repeat (first | refine Walk.cx ?_ | (refine Walk.cReg ?_; simp only [z89]) | (refine Walk.oq ?_; try walk_nrm) | (refine Walk.un ?_; walk_nrm))
 exact Walk.on1 rfl rfl Try.func89 rfl (LW.to m hkk)
end
end
section
structure Oz where
 st : Nat → Int
 vl : Nat → Int
 ct : Nat → Int
inductive OD where
 | g1 (c : Nat) | g2 (c : Nat)
 | s1 (c : Nat) (v : Int) | s2 (c : Nat) (v : Int) | s3 (c : Nat) (v : Int) | s4 (c : Nat) | s5 (c : Nat)
 | m1 (q : Bool) (c : Nat) (v : Int) (n : Nat) | m2 (c : Nat) | m3 (q : Bool) (c : Nat) (v : Int) (n : Nat) | m4 (q : Bool) (c : Nat) (v : Int) | m5 (c : Nat) (v : Int) | m6 (c : Nat) (x : Int) | m7 (c : Nat) (x : Int) | m8 (c : Nat)
def triesX (c : Int) : Nat := (min (max c 1) 1024).toNat
def onEnter (m : Nat) (s : Oz) (o : OpV) : Oz × (Ans ⊕ OD) :=
 if o.a < 0 ∨ (m : Int) ≤ o.a then (s, .inl (false, 0)) else if o.k = 1 then (s, .inr (.g1 o.a.toNat)) else if o.k = 2 then (s, .inr (.s1 o.a.toNat o.b))
 else if o.k = 3 then (s, .inr (.m1 false o.a.toNat o.b (triesX o.c))) else if o.k = 4 then (s, .inr (.m1 true o.a.toNat 0 (triesX o.c))) else (s, .inl (false, 0))
def onAct (s : Oz) : OD → Oz × (Ans ⊕ OD)
 | .g1 c => if s.st c = 2 then (s, .inr (.g2 c)) else (s, .inl (false, 0))
 | .g2 c => (s, .inl (true, s.vl c))
 | .s1 c v => if s.st c = 0 then ({ s with st := upd s.st c 1 }, .inr (.s2 c v)) else (s, .inr (.s4 c))
 | .s2 c v => ({ s with vl := upd s.vl c v }, .inr (.s3 c v))
 | .s3 c v => ({ s with st := upd s.st c 2 }, .inl (true, v))
 | .s4 c => if s.st c = 2 then (s, .inr (.s5 c)) else (s, .inl (false, 0))
 | .s5 c => (s, .inl (false, s.vl c))
 | .m1 q c v n => if s.st c = 2 then (s, .inr (.m2 c)) else (s, .inr (.m3 q c v n))
 | .m2 c => (s, .inl (true, s.vl c))
 | .m3 q c v n => if s.st c = 0 then ({ s with st := upd s.st c 1 }, .inr (.m4 q c v)) else if n ≤ 1 then (s, .inl (false, -4)) else (s, .inr (.m1 q c v (n - 1)))
 | .m4 q c v => ({ s with ct := upd s.ct c (IntKind.i64.wrap (s.ct c + 1)) }, .inr (if q then .m8 c else .m5 c v))
 | .m5 c v => (s, .inr (.m6 c (IntKind.i64.wrap (v + s.ct c))))
 | .m6 c x => ({ s with vl := upd s.vl c x }, .inr (.m7 c x))
 | .m7 c x => ({ s with st := upd s.st c 2 }, .inl (true, x))
 | .m8 c => ({ s with st := upd s.st c 0 }, .inl (false, -6))
structure OzI (cb m : Nat) (s : Oz) (w : World) : Prop where
 blk : ∃ arr : Array Value, w.heap[cb]? = some (.cells arr 45) ∧ ∀ i, i < m → arr[i * 3]? = some (.int .i64 (s.st i)) ∧ arr[i * 3 + 1]? = some (.int .i64 (s.vl i)) ∧ arr[i * 3 + 2]? = some (.int .i64 (s.ct i))
theorem OzI.old {cb m : Nat} {s : Oz} {w w' : World} (h : OzI cb m s w) (hb : w'.heap[cb]? = w.heap[cb]?) : OzI cb m s w' := by
 obtain ⟨arr, h1, h2⟩ := h.blk
 exact ⟨arr, hb.trans h1, h2⟩
theorem OzI.lt {cb m : Nat} {s : Oz} {w : World} (h : OzI cb m s w) : cb < w.heap.size := by
 obtain ⟨arr, h1, _⟩ := h.blk
 exact (Array.getElem?_eq_some_iff.1 h1).1
def onLa (cb m : Nat) : La where
 Sg := Oz
 D := OD
 enter := onEnter m
 act := onAct
 sh := fun b => b = cb
 I := OzI cb m
 stable := fun h hb => h.old (hb cb rfl)
 lt := fun h hb => by rw [hb]; exact h.lt
section
variable {cb m : Nat}
theorem arr_put {arr : Array Value} {j k : Nat} {v x : Value} (h : arr[j]? = some x) (hne : j ≠ k) : (arr.setIfInBounds k v)[j]? = some x := by rw [Array.getElem?_setIfInBounds_ne (Ne.symm hne)]; exact h
theorem arr_put_self {arr : Array Value} {j : Nat} {v x : Value} (h : arr[j]? = some x) : (arr.setIfInBounds j v)[j]? = some v := Array.getElem?_setIfInBounds_self_of_lt (Array.getElem?_eq_some_iff.1 h).1
def stW (i : Nat) (hi : i < m) : Wd (onLa cb m) where
 b := cb
 q := i * 3
 get := fun s => Oz.st s i
 put := fun s v => { (s : Oz) with st := upd (Oz.st s) i v }
 ok := fun _ => True
 sh := rfl
 rd := fun s w h => by
  obtain ⟨arr, h1, h2⟩ := OzI.blk h
  exact ⟨(cell_of h1 _).trans (h2 i hi).1, frozen_of h1 _⟩
 wr := fun s w v hv h => by
  obtain ⟨arr, h1, h2⟩ := OzI.blk h
  refine ⟨_, heap_set_self _ _ h1, fun j hj => ?_⟩
  obtain ⟨k0, k1, k2⟩ := h2 j hj
  by_cases e : j = i
  ·subst e
   exact ⟨by simp only [upd_same]; exact arr_put_self k0, arr_put k1 (by omega), arr_put k2 (by omega)⟩
  ·exact ⟨by simp only [upd_ne _ _ e]; exact arr_put k0 (by omega), arr_put k1 (by omega), arr_put k2 (by omega)⟩
def vlW (i : Nat) (hi : i < m) : Wd (onLa cb m) where
 b := cb
 q := i * 3 + 1
 get := fun s => Oz.vl s i
 put := fun s v => { (s : Oz) with vl := upd (Oz.vl s) i v }
 ok := fun _ => True
 sh := rfl
 rd := fun s w h => by
  obtain ⟨arr, h1, h2⟩ := OzI.blk h
  exact ⟨(cell_of h1 _).trans (h2 i hi).2.1, frozen_of h1 _⟩
 wr := fun s w v hv h => by
  obtain ⟨arr, h1, h2⟩ := OzI.blk h
  refine ⟨_, heap_set_self _ _ h1, fun j hj => ?_⟩
  obtain ⟨k0, k1, k2⟩ := h2 j hj
  by_cases e : j = i
  ·subst e
   exact ⟨arr_put k0 (by omega), by simp only [upd_same]; exact arr_put_self k1, arr_put k2 (by omega)⟩
  ·exact ⟨arr_put k0 (by omega), by simp only [upd_ne _ _ e]; exact arr_put k1 (by omega), arr_put k2 (by omega)⟩
def ctW (i : Nat) (hi : i < m) : Wd (onLa cb m) where
 b := cb
 q := i * 3 + 2
 get := fun s => Oz.ct s i
 put := fun s v => { (s : Oz) with ct := upd (Oz.ct s) i v }
 ok := fun _ => True
 sh := rfl
 rd := fun s w h => by
  obtain ⟨arr, h1, h2⟩ := OzI.blk h
  exact ⟨(cell_of h1 _).trans (h2 i hi).2.2, frozen_of h1 _⟩
 wr := fun s w v hv h => by
  obtain ⟨arr, h1, h2⟩ := OzI.blk h
  refine ⟨_, heap_set_self _ _ h1, fun j hj => ?_⟩
  obtain ⟨k0, k1, k2⟩ := h2 j hj
  by_cases e : j = i
  ·subst e
   exact ⟨arr_put k0 (by omega), arr_put k1 (by omega), by simp only [upd_same]; exact arr_put_self k2⟩
  ·exact ⟨arr_put k0 (by omega), arr_put k1 (by omega), by simp only [upd_ne _ _ e]; exact arr_put k2 (by omega)⟩
end
end
end Go.Proofs.Ytdcjgmlgmjjogaa
