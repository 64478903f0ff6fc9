/- Part 18. -/
import Derived.Test.YtdmpmoggacjgcaaJ17
set_option linter.unusedSimpArgs false
set_option linter.unusedVariables false
set_option maxHeartbeats 8000000
set_option maxRecDepth 100000
namespace Go.Proofs.Ytdmpmoggacjgcaa
open Go.Conc Go.RowKit Go.Relay
open Go.ConcN (upd upd_ne upd_same)
section
section
variable {kb nb n : Nat} {tg : Bool} {sv : Value}
structure TakeD (tg : Bool) (get : Sk → Int) (put : Sk → Int → Sk) (D1 : SD) (D2 : Int → SD) (D3 : Int → Int → SD) (fail : Ans ⊕ SD) (don : Int → Ans ⊕ SD) : Prop where
 a1 : ∀ s, skAct tg s D1 = if nodeX (get s) = -1 then (s, fail) else (s, .inr (D2 (get s)))
 a2 : ∀ s top, skAct tg s (D2 top) = (s, .inr (D3 top (s.nx (nodeX top).toNat)))
 a3 : ∀ s top nx, skAct tg s (D3 top nx) = if get s = top then (put s (heldX nx (turnTag tg top)), don (nodeX top)) else (s, .inr D1)
def TakeOut (K : Lg (skLa kb nb n tg) sv) (fail : Ans ⊕ SD) (don : Int → Ans ⊕ SD) (v : Value) (e' : K.E) : Prop :=
 (v = .tuple #[.int .i64 0, .bool false] ∧ K.tgt e' = (K.s e', fail)) ∨ ∃ i : Nat, i < n ∧ v = .tuple #[.int .i64 (i : Nat), .bool true] ∧ K.tgt e' = (K.s e', don i)
noncomputable def reg51_0 := rg Try.f51.body [0]
noncomputable def reg51_1 := rg Try.f51.body [1, 0, 0, 0, 0]
noncomputable def reg51_2 := rg Try.f51.body [1, 0, 0, 0, 1, 0, 0]
noncomputable def reg51_3 := rg Try.f51.body [1, 0, 0, 0, 1, 0, 1, 0, 0]
noncomputable def reg51_4 := rg Try.f51.body [1, 0, 0, 0, 1, 1, 0]
theorem size51_4 : reg51_4.size = 11 := by kernel_rfl
noncomputable def reg51_5 := rg Try.f51.body [1, 0, 0, 0, 1, 1, 1, 0]
noncomputable def reg51_6 := rg Try.f51.body [1, 0, 0, 0, 1, 1, 1, 1, 0, 0]
theorem z51 : List.range reg51_0.size = [0, 1] ∧ List.range reg51_1.size = [0, 1, 2, 3] ∧ List.range reg51_2.size = [0, 1] ∧ List.range reg51_3.size = [0, 1] ∧ List.range reg51_4.size = [0, 1, 2, 3, 4, 5, 6, 7, 8, 9, 10] ∧ List.range reg51_5.size = [0, 1, 2, 3, 4] ∧ List.range reg51_6.size = [0, 1, 2, 3] := by refine ⟨?_, ?_, ?_, ?_, ?_, ?_, ?_⟩ <;> kernel_rfl
theorem code51_is : Try.f51.body = some (.seq (.region 0 reg51_0 false) (.block 0 (.loop (.block 1 (.seq (.region 1 reg51_1 false) (.seq (.seq (.region 2 reg51_2 false) (.cond (.tmp 14 ) (.seq (.region 3 reg51_3 false) (.ret)) (.skip))) (.seq (.region 4 reg51_4 true) (.seq (.region 5 reg51_5 false) (.cond (.tmp 29 ) (.seq (.region 6 reg51_6 false) (.ret)) (.skip)))))))))) := by kernel_rfl
noncomputable def hdTake (k sv hp : Value) (u : Nat → Value) : Frame :=
 (base 51).at { tmps := #[k, sv, hp, u 3, u 4, u 5, .int .i64 0, .bool false, u 8, u 9, u 10, u 11, u 12, u 13, u 14, u 15, u 16, u 17, u 18, u 19, u 20, u 21, u 22, u 23, u 24, u 25, u 26, u 27, u 28, u 29, u 30, u 31], defers := [] } [.code (.block 1 (.seq (.region 1 reg51_1 false) (.seq (.seq (.region 2 reg51_2 false) (.cond (.tmp 14 ) (.seq (.region 3 reg51_3 false) (.ret)) (.skip))) (.seq (.region 4 reg51_4 true) (.seq (.region 5 reg51_5 false) (.cond (.tmp 29 ) (.seq (.region 6 reg51_6 false) (.ret)) (.skip))))))), .inLoop (.block 1 (.seq (.region 1 reg51_1 false) (.seq (.seq (.region 2 reg51_2 false) (.cond (.tmp 14 ) (.seq (.region 3 reg51_3 false) (.ret)) (.skip))) (.seq (.region 4 reg51_4 true) (.seq (.region 5 reg51_5 false) (.cond (.tmp 29 ) (.seq (.region 6 reg51_6 false) (.ret)) (.skip))))))), .inBlock 0]
theorem take_round (K : Lg (skLa kb nb n tg) sv) (hne : kb ≠ nb) (H : Hd kb nb n tg) (hn : n ≤ 65536) {D1 : SD} {D2 : Int → SD} {D3 : Int → Int → SD} {fail : Ans ⊕ SD} {don : Int → Ans ⊕ SD} (T : TakeD tg H.W.get H.W.put D1 D2 D3 fail don)
  (e : K.E) (ht : K.tgt e = (K.s e, .inr D1)) (fr : Frame) (l : List Frame) (hp : Plain fr) (hl : ∀ f ∈ l, Plain f) (hk : ∀ v e', TakeOut K fail don v e' → LW K.toLb e' (G (fr.finish v) (l ++ K.bot e')))
  (ih : ∀ e' u, K.fuel e' < K.fuel e → K.tgt e' = (K.s e', .inr D1) → LW K.toLb e' (G (hdTake (.pointer (some ⟨kb, 0, none⟩)) sv H.p u) (fr :: (l ++ K.bot e')))) (u : Nat → Value) :
  LW K.toLb e (G (hdTake (.pointer (some ⟨kb, 0, none⟩)) sv H.p u) (fr :: (l ++ K.bot e))) := by
 unfold LW hdTake
 refine Walk.gz z51 ?_
 refine LW.callS (K := K.toLb) (e := e) (l := fr :: l) (f := 45) (Q := fun v e' => Aft K.toLb e D1 e' ∧ v = .int .i64 (H.W.get (K.s e'))) ?_ hoA (by rfl) (by decide) rfl Try.func45 (by kernel_rfl) (by rfl) ⟨rfl, rfl, _, Try.func51⟩ (plain_cons hp hl) ?_
 ·walk_nrm
  exact hload_s K H e D1 ht
 rintro v e1 ⟨ha1, rfl⟩
 have ht1 : K.tgt e1 = if nodeX (H.W.get (K.s e1)) = -1 then (K.s e1, fail) else (K.s e1, .inr (D2 (H.W.get (K.s e1)))) := ha1.tgt.trans (T.a1 _)
 have hok := H.okg _ _ (K.inv e1)
 generalize htop : H.W.get (K.s e1) = top at *
 unfold LW
 walk_nrm
 refine Walk.gz z51 ?_
 refine Walk.callV (x := .bool (nodeX top == -1)) (W := K.w e1) ?_ hoA (by rfl) (by decide) rfl Try.func54 (by kernel_rfl) (by rfl) ?_
 ·walk_nrm
  exact empty_w top _
 walk_nrm
 by_cases hem : nodeX top = -1
 ·rw [if_pos hem] at ht1
  have hb : (nodeX top == -1) = true := by simp [hem]
  rw [hb]
  refine Walk.gz z51 ?_
  exact Walk.on2 rfl rfl Try.func51 rfl (hk _ e1 (.inl ⟨rfl, ht1⟩))
 ·rw [if_neg hem] at ht1
  have hb : (nodeX top == -1) = false := by simp [hem]
  rw [hb]
  obtain ⟨i, hi⟩ : ∃ i : Nat, nodeX top = i := ⟨(nodeX top).toNat, by have := hok.nlo; omega⟩
  have hin : i < n := by have := hok.nhi; omega
  have hsl := sk_nodes (K.inv e1)
  have hi0 : (0 : Int) ≤ i := by omega
  have hi1 : decide ((i : Int) < n) = true := by simp; omega
  have hi3 : decide (i < n) = true := by simp; omega
  refine Walk.gz z51 ?_
  (refine LW.drawnS (K := K.toLb) (l := fr :: l) (m := 9) (f := 52) (Q := fun v e' => Aft K.toLb e1 (D2 top) e' ∧ v = .int .i64 (Sk.nx (K.s e') i)) (by kernel_rfl) size51_4 (by kernel_rfl) (by kernel_rfl) (by kernel_rfl) (by kernel_rfl) (by decide) hoA rfl rfl Try.func52 (by kernel_rfl) (by rfl) (plain_cons hp hl) ?_; simp only [List.range, List.range.loop]; repeat (first | (refine Cm.oq ?_) | (refine Cm.unw hoA (by rfl) ?_; walk_nrm)))
  refine Cm.callV (x := .int .i64 (i : Nat)) ?_ hoA (by rfl) rfl Try.func46 (by kernel_rfl) (by rfl) ?_
  ·intro w' he
   subst he
   walk_nrm
   rw [← hi]
   exact node_w top _
  walk_nrm
  repeat (first | (refine Cm.oq ?_) | (refine Cm.unw hoA (by rfl) ?_; walk_nrm))
  refine Cm.done ⟨fun rest => ⟨rfl, rfl, _, Try.func51⟩, ?_, ?finA, ?hA1, ?hA2⟩
  ·walk_nrm
   exact word_load K (nxW hne i hin) e1 (D2 top) ht1
  case hA1 =>
   intro v e' rest hq hr
   clear hq
   unfold LW at hr ⊢
   walk_nrm
   (refine Walk.oq ?_; try walk_nrm)
   exact hr
  case hA2 =>
   rintro v e2 ⟨ha2, rfl⟩
   have ht2 : K.tgt e2 = (K.s e2, .inr (D3 top (Sk.nx (K.s e2) i))) := by
    have h := ha2.tgt.trans (T.a2 (K.s e2) top)
    rw [hi] at h
    exact h
   obtain ⟨hx1, hx2⟩ := (K.inv e2).nx i hin
   generalize hnx : Sk.nx (K.s e2) i = nx at *
   unfold LW
   refine Walk.gz z51 ?_
   refine LW.callS (K := K.toLb) (e := e2) (l := fr :: l) (f := 65) (Q := Turned K H.W e2 (D3 top nx) top (heldX nx (turnTag tg top))) ?_ hoA (by rfl) (by decide) rfl Try.func65 (by kernel_rfl) (by rfl) ⟨rfl, rfl, _, Try.func51⟩ (plain_cons hp hl) ?_
   ·walk_nrm
    exact hturn_s K H e2 (D3 top nx) top nx hok hx1 hx2 hn ht2
   rintro v e3 ⟨s, ⟨h1, rfl, hW⟩ | ⟨h1, rfl, hW⟩⟩
   ·have ht3 : K.tgt e3 = (K.s e3, don i) := by
     rw [hW.s, ← hi]
     exact hW.tgt.trans ((T.a3 s top nx).trans (if_pos h1))
    unfold LW
    walk_nrm
    refine Walk.gz z51 ?_
    refine Walk.callV (x := .int .i64 (i : Nat)) (W := K.w e3) ?_ hoA (by rfl) (by decide) rfl Try.func46 (by kernel_rfl) (by rfl) ?_
    ·walk_nrm
     rw [← hi]
     exact node_w top _
    walk_nrm
    refine Walk.gz z51 ?_
    exact Walk.on2 rfl rfl Try.func51 rfl (hk _ e3 (.inr ⟨i, hin, rfl, ht3⟩))
   ·have ht3 : K.tgt e3 = (K.s e3, .inr D1) := by
     rw [hW.s]
     exact hW.tgt.trans ((T.a3 s top nx).trans (if_neg h1))
    have hfu : K.fuel e3 < K.fuel e := Nat.lt_trans hW.fuel (Nat.lt_trans ha2.fuel ha1.fuel)
    unfold LW
    walk_nrm
    refine Walk.gz z51 ?_
    refine Walk.ctl rfl (fun w => stepG_inLoop) ?_
    refine slots_walk (F := fun u => G (hdTake (.pointer (some ⟨kb, 0, none⟩)) sv H.p u) (fr :: (l ++ K.bot e3))) (fun u => ih e3 u hfu ht3) ?_
    simp only [hdTake]
    rfl
theorem take_loop (K : Lg (skLa kb nb n tg) sv) (hne : kb ≠ nb) (H : Hd kb nb n tg) (hn : n ≤ 65536) {D1 : SD} {D2 : Int → SD} {D3 : Int → Int → SD} {fail : Ans ⊕ SD} {don : Int → Ans ⊕ SD} (T : TakeD tg H.W.get H.W.put D1 D2 D3 fail don)
  (fr : Frame) (l : List Frame) (hp : Plain fr) (hl : ∀ f ∈ l, Plain f) (hk : ∀ v e', TakeOut K fail don v e' → LW K.toLb e' (G (fr.finish v) (l ++ K.bot e'))) :
  ∀ (N : Nat) (e : K.E) (u : Nat → Value), K.fuel e < N → K.tgt e = (K.s e, .inr D1) → LW K.toLb e (G (hdTake (.pointer (some ⟨kb, 0, none⟩)) sv H.p u) (fr :: (l ++ K.bot e))) := by
 intro N
 induction N with
 | zero => intro e u h; omega
 | succ N ih => exact fun e u hf ht => take_round K hne H hn T e ht fr l hp hl hk (fun e' u' hf' ht' => ih e' u' (by omega) ht') u
theorem take_s (K : Lg (skLa kb nb n tg) sv) (hne : kb ≠ nb) (H : Hd kb nb n tg) (hn : n ≤ 65536) {D1 : SD} {D2 : Int → SD} {D3 : Int → Int → SD} {fail : Ans ⊕ SD} {don : Int → Ans ⊕ SD} (T : TakeD tg H.W.get H.W.put D1 D2 D3 fail don)
  (e : K.E) (ht : K.tgt e = (K.s e, .inr D1)) : SCall K.toLb 51 #[.pointer (some ⟨kb, 0, none⟩), sv, H.p] e (TakeOut K fail don) := by
 intro fr l hp hl hk
 have hh := fun u => take_loop K hne H hn T fr l hp hl hk (K.fuel e + 1) e u (Nat.lt_succ_self _) ht
 unfold LW at hh ⊢
 rw [enter_at _ Try.func51 code51_is]
 simp only [Try.ntmps51, ez, Nat.reduceAdd, Nat.reduceSub]
 refine Walk.gz z51 ?_
 refine Walk.ctl rfl (fun w => stepG_loop) ?_
 refine slots_walk (F := fun u => G (hdTake (.pointer (some ⟨kb, 0, none⟩)) sv H.p u) (fr :: (l ++ K.bot e))) hh ?_
 simp only [hdTake]
 rfl
end
end
section
section
variable {L : La} {K : Lb L} {e : K.E} {b : Frame} {k : List Item} {l : List Frame} {ops : Array Oper} {a : Act}
theorem LW.drawnS0 {id m : Nat} {o : Oper} {f : FuncId} {fn : Func} {args : Array Operand} {ats : Array TypeId} {Q : Value → K.E → Prop} (hm : Try.prog.follows .mixedOrders = true) (hsz : ops.size = m + 1) (hlow : lowW ops = true) (hc : calmB ops m = true) (hl : lastB ops m = true) (hk : b.kind ≠ .early)
  (ho : ops[m]? = some o) (hop : o.op = .call { callee := .value (.func f), args, argTypes := ats }) (hg : o.guard = none) (hf : Try.prog.funcs[f]? = some fn) (hname : (fn.name == "runtime.NumGoroutine") = false) (hb : fn.body.isNone = false) (hpl : ∀ f ∈ l, Plain f)
  (h : Cm Try.prog K.main (K.V e) ops (· = K.w e) (fun a => (∀ rest, Plain (b.at a (.inRegion ops (m :: rest) :: k))) ∧ SCall K f (args.map a.eval) e Q ∧
   ∀ v e', Q v e' → LW K e' (G (b.at (a.put o.dst v) (.inRegion ops [] :: k)) (l ++ K.bot e'))) (List.range m) a) :
  LW K e (G (b.at a (.code (.region id ops true) :: k)) (l ++ K.bot e)) := by
 rw [List.range_eq_range'] at h
 obtain ⟨P, hP⟩ : ∃ P : Act → Prop, P = fun a => (∀ rest, Plain (b.at a (.inRegion ops (m :: rest) :: k))) ∧ SCall K f (args.map a.eval) e Q ∧
   ∀ v e', Q v e' → LW K e' (G (b.at (a.put o.dst v) (.inRegion ops [] :: k)) (l ++ K.bot e')) := ⟨_, rfl⟩
 rw [← hP] at h
 have h0 : Cm Try.prog K.main (K.V e) ops (· = K.w e) P (List.range' 0 m) (puts ops (fun _ => undef) (fun j => decide (j < 0)) a) := by
  have : puts ops (fun _ => undef) (fun j => decide (j < 0)) a = a := putsL_none _ a fun j _ => decide_eq_false (Nat.not_lt_zero j)
  rw [this]; exact h
 obtain ⟨vals, _, hcond, hend⟩ := cm_vals (Z := (· = K.w e)) (ops := ops) (m := m) (w := K.w e) rfl (by omega) m 0 (fun _ => undef) a (by omega) h0
 rw [hP] at hend
 obtain ⟨hpa, hcall, h2⟩ := hend
 refine Walk.drawnE (E := K.E × World) (V := fun x => K.V x.1) (Stop := fun x => K.Stop x.1) (cs := fun x => l ++ K.bot x.1) (w := fun x => x.2)
  (Inv := fun f x y => (f m = false ∧ x = puts ops vals f a ∧ y.1 = e ∧ ∃ d, y.2 = (K.w e).at d) ∨
   (f m = true ∧ (∀ j, j < m → f j = true) ∧ ∃ v, Q v y.1 ∧ x = (puts ops vals (fun j => decide (j < m)) a).put o.dst v ∧ ∃ d, y.2 = (K.w y.1).at d)) (e, K.w e) hm hlow (.inl ⟨rfl, (puts_zero vals a).symm, rfl, (K.w e).drawn, rfl⟩) ?_ ?_
 ·rintro f' i oi x ⟨e', w'⟩ hI hC hfi hoi hd rest hr
  dsimp only at hI hr ⊢
  have hi : i < m + 1 := by have := (Array.getElem?_eq_some_iff.1 hoi).1; omega
  rcases hI with ⟨f1, rfl, rfl, d, rfl⟩ | ⟨f1, f3, _⟩
  ·refine Walk.back ?_ d
   by_cases e1 : i = m
   ·subst e1
    rw [ho] at hoi
    cases hoi
    have hall := last_all hl hC ho hd
    have hpe : puts ops vals f' a = puts ops vals (fun j => decide (j < i)) a := puts_congr (fun j hj => ⟨by
     by_cases hji : j < i
     ·rw [hall (i - j) j (by omega) (by omega)]; exact (decide_eq_true hji).symm
     ·have hji2 : j = i := by omega
      rw [hji2, hfi]; simp, fun _ => rfl⟩) a
    rw [hpe]
    refine LW.callS (Q := Q) hcall ho ?_ hk hop hf hname hb (hpa _) hpl fun v e1 hq => ?_
    ·unfold Region.wanted; rw [hg]
    ·exact hr _ (e1, K.w e1) (.inr ⟨upd_same _ _ _, fun j hj => by rw [upd_ne _ _ (by omega)]; exact hall (i - j) j (by omega) (by omega), v, hq, rfl, (K.w e1).drawn, rfl⟩)
   ·have him : i < m := by omega
    refine Walk.calmOp (Z := (· = K.w _)) rfl hc hk him hoi hd (hcond i oi (Nat.zero_le _) him hoi) ?_
    rw [← puts_upd hc him vals hfi hoi a]
    exact hr _ (_, (K.w _).at (K.w _).drawn) (.inl ⟨by rw [upd_ne _ _ (by omega)]; exact f1, rfl, rfl, (K.w _).drawn, rfl⟩)
  ·exfalso
   by_cases e1 : i = m
   ·rw [e1, f1] at hfi; cases hfi
   ·rw [f3 i (by omega)] at hfi; cases hfi
 ·rintro f' x ⟨e', w'⟩ hI hall
  dsimp only at hI ⊢
  rcases hI with ⟨f1, _⟩ | ⟨_, _, v, hq, rfl, d, rfl⟩
  ·rw [hall m (by omega)] at f1; cases f1
  ·exact Walk.back (h2 v e' hq) d
end
section
variable {kb nb n : Nat} {tg : Bool} {sv : Value}
structure LayD (tg : Bool) (get : Sk → Int) (put : Sk → Int → Sk) (i : Nat) (D5 : SD) (D6 D7 : Int → SD) (don : Ans ⊕ SD) : Prop where
 a5 : ∀ s, skAct tg s D5 = (s, .inr (D6 (get s)))
 a6 : ∀ s top, skAct tg s (D6 top) = ({ s with nx := upd s.nx i (nodeX top) }, .inr (D7 top))
 a7 : ∀ s top, skAct tg s (D7 top) = if get s = top then (put s (heldX (i : Nat) (turnTag tg top)), don) else (s, .inr D5)
noncomputable def reg53_0 := rg Try.f53.body [0, 0, 0, 0]
noncomputable def reg53_1 := rg Try.f53.body [0, 0, 0, 1, 0]
theorem size53_1 : reg53_1.size = 11 := by kernel_rfl
noncomputable def reg53_2 := rg Try.f53.body [0, 0, 0, 1, 1, 0]
theorem z53 : List.range reg53_0.size = [0, 1, 2, 3] ∧ List.range reg53_1.size = [0, 1, 2, 3, 4, 5, 6, 7, 8, 9, 10] ∧ List.range reg53_2.size = [0, 1, 2, 3, 4] := by refine ⟨?_, ?_, ?_⟩ <;> kernel_rfl
theorem code53_is : Try.f53.body = some (.block 0 (.loop (.block 1 (.seq (.region 0 reg53_0 false) (.seq (.region 1 reg53_1 true) (.seq (.region 2 reg53_2 false) (.cond (.tmp 27 ) (.ret) (.skip)))))))) := by kernel_rfl
noncomputable def hdLay (k sv hp : Value) (i : Nat) (u : Nat → Value) : Frame :=
 (base 53).at { tmps := #[k, sv, hp, .int .i64 i, u 4, u 5, u 6, u 7, u 8, u 9, u 10, u 11, u 12, u 13, u 14, u 15, u 16, u 17, u 18, u 19, u 20, u 21, u 22, u 23, u 24, u 25, u 26, u 27], defers := [] } [.code (.block 1 (.seq (.region 0 reg53_0 false) (.seq (.region 1 reg53_1 true) (.seq (.region 2 reg53_2 false) (.cond (.tmp 27 ) (.ret) (.skip)))))), .inLoop (.block 1 (.seq (.region 0 reg53_0 false) (.seq (.region 1 reg53_1 true) (.seq (.region 2 reg53_2 false) (.cond (.tmp 27 ) (.ret) (.skip)))))), .inBlock 0]
theorem lay_round (K : Lg (skLa kb nb n tg) sv) (hne : kb ≠ nb) (H : Hd kb nb n tg) (hn : n ≤ 65536) (i : Nat) (hin : i < n) {D5 : SD} {D6 D7 : Int → SD} {don : Ans ⊕ SD} (T : LayD tg H.W.get H.W.put i D5 D6 D7 don)
  (e : K.E) (ht : K.tgt e = (K.s e, .inr D5)) (fr : Frame) (l : List Frame) (hp : Plain fr) (hl : ∀ f ∈ l, Plain f) (hk : ∀ e', K.tgt e' = (K.s e', don) → LW K.toLb e' (G (fr.finish (.tuple #[])) (l ++ K.bot e')))
  (ih : ∀ e' u, K.fuel e' < K.fuel e → K.tgt e' = (K.s e', .inr D5) → LW K.toLb e' (G (hdLay (.pointer (some ⟨kb, 0, none⟩)) sv H.p i u) (fr :: (l ++ K.bot e')))) (u : Nat → Value) :
  LW K.toLb e (G (hdLay (.pointer (some ⟨kb, 0, none⟩)) sv H.p i u) (fr :: (l ++ K.bot e))) := by
 unfold LW hdLay
 refine Walk.gz z53 ?_
 refine LW.callS (K := K.toLb) (e := e) (l := fr :: l) (f := 45) (Q := fun v e' => Aft K.toLb e D5 e' ∧ v = .int .i64 (H.W.get (K.s e'))) ?_ hoA (by rfl) (by decide) rfl Try.func45 (by kernel_rfl) (by rfl) ⟨rfl, rfl, _, Try.func53⟩ (plain_cons hp hl) ?_
 ·walk_nrm
  exact hload_s K H e D5 ht
 rintro v e1 ⟨ha1, rfl⟩
 have ht1 : K.tgt e1 = (K.s e1, .inr (D6 (H.W.get (K.s e1)))) := ha1.tgt.trans (T.a5 _)
 have hok := H.okg _ _ (K.inv e1)
 generalize htop : H.W.get (K.s e1) = top at *
 have hsl := sk_nodes (K.inv e1)
 have hi0 : (0 : Int) ≤ i := by omega
 have hi1 : decide ((i : Int) < n) = true := by simp; omega
 have hi3 : decide (i < n) = true := by simp; omega
 unfold LW
 walk_nrm
 refine Walk.gz z53 ?_
 (refine LW.drawnS0 (K := K.toLb) (l := fr :: l) (m := 10) (f := 43) (Q := fun _ e' => ∃ s, Wrote K e1 (D6 top) s ((nxW (tg := tg) hne i hin).put s (nodeX top)) e') (by kernel_rfl) size53_1 (by kernel_rfl) (by kernel_rfl) (by kernel_rfl) (by decide) hoA rfl rfl Try.func43 (by kernel_rfl) (by rfl) (plain_cons hp hl) ?_; simp only [List.range, List.range.loop])
 repeat (first | (refine Cm.oq ?_) | (refine Cm.unw hoA (by rfl) ?_; walk_nrm))
 refine Cm.callV (x := .int .i64 (nodeX top)) ?_ hoA (by rfl) rfl Try.func46 (by kernel_rfl) (by rfl) ?_
 ·intro w' he
  subst he
  walk_nrm
  exact node_w top _
 walk_nrm
 refine Cm.done ⟨fun rest => ⟨rfl, rfl, _, Try.func53⟩, ?_, ?_⟩
 ·walk_nrm
  exact word_store K (nxW hne i hin) e1 (D6 top) (nodeX top) ⟨hok.nlo, hok.nhi⟩ ht1
 rintro v e2 ⟨s, hW⟩
 have ht2 : K.tgt e2 = (K.s e2, .inr (D7 top)) := by
  rw [hW.s]
  exact hW.tgt.trans (T.a6 s top)
 unfold LW
 walk_nrm
 refine Walk.gz z53 ?_
 refine LW.callS (K := K.toLb) (e := e2) (l := fr :: l) (f := 65) (Q := Turned K H.W e2 (D7 top) top (heldX (i : Nat) (turnTag tg top))) ?_ hoA (by rfl) (by decide) rfl Try.func65 (by kernel_rfl) (by rfl) ⟨rfl, rfl, _, Try.func53⟩ (plain_cons hp hl) ?_
 ·walk_nrm
  exact hturn_s K H e2 (D7 top) top i hok (by omega) (by omega) hn ht2
 rintro v e3 ⟨s3, ⟨h1, rfl, hW3⟩ | ⟨h1, rfl, hW3⟩⟩
 ·have ht3 : K.tgt e3 = (K.s e3, don) := by
   rw [hW3.s]
   exact hW3.tgt.trans ((T.a7 s3 top).trans (if_pos h1))
  unfold LW
  walk_nrm
  refine Walk.gz z53 ?_
  exact Walk.on0 rfl rfl Try.func53 rfl (hk e3 ht3)
 ·have ht3 : K.tgt e3 = (K.s e3, .inr D5) := by
   rw [hW3.s]
   exact hW3.tgt.trans ((T.a7 s3 top).trans (if_neg h1))
  have hfu : K.fuel e3 < K.fuel e := Nat.lt_trans hW3.fuel (Nat.lt_trans hW.fuel ha1.fuel)
  unfold LW
  walk_nrm
  refine Walk.gz z53 ?_
  refine Walk.ctl rfl (fun w => stepG_inLoop) ?_
  refine slots_walk (F := fun u => G (hdLay (.pointer (some ⟨kb, 0, none⟩)) sv H.p i u) (fr :: (l ++ K.bot e3))) (fun u => ih e3 u hfu ht3) ?_
  simp only [hdLay]
  rfl
theorem lay_loop (K : Lg (skLa kb nb n tg) sv) (hne : kb ≠ nb) (H : Hd kb nb n tg) (hn : n ≤ 65536) (i : Nat) (hin : i < n) {D5 : SD} {D6 D7 : Int → SD} {don : Ans ⊕ SD} (T : LayD tg H.W.get H.W.put i D5 D6 D7 don)
  (fr : Frame) (l : List Frame) (hp : Plain fr) (hl : ∀ f ∈ l, Plain f) (hk : ∀ e', K.tgt e' = (K.s e', don) → LW K.toLb e' (G (fr.finish (.tuple #[])) (l ++ K.bot e'))) :
  ∀ (N : Nat) (e : K.E) (u : Nat → Value), K.fuel e < N → K.tgt e = (K.s e, .inr D5) → LW K.toLb e (G (hdLay (.pointer (some ⟨kb, 0, none⟩)) sv H.p i u) (fr :: (l ++ K.bot e))) := by
 intro N
 induction N with
 | zero => intro e u h; omega
 | succ N ih => exact fun e u hf ht => lay_round K hne H hn i hin T e ht fr l hp hl hk (fun e' u' hf' ht' => ih e' u' (by omega) ht') u
theorem lay_s (K : Lg (skLa kb nb n tg) sv) (hne : kb ≠ nb) (H : Hd kb nb n tg) (hn : n ≤ 65536) (i : Nat) (hin : i < n) {D5 : SD} {D6 D7 : Int → SD} {don : Ans ⊕ SD} (T : LayD tg H.W.get H.W.put i D5 D6 D7 don)
  (e : K.E) (ht : K.tgt e = (K.s e, .inr D5)) : SCall K.toLb 53 #[.pointer (some ⟨kb, 0, none⟩), sv, H.p, .int .i64 (i : Nat)] e (fun _ e' => K.tgt e' = (K.s e', don)) := by
 intro fr l hp hl hk
 have hh := fun u => lay_loop K hne H hn i hin T fr l hp hl (fun e' h => hk _ e' h) (K.fuel e + 1) e u (Nat.lt_succ_self _) ht
 unfold LW at hh ⊢
 rw [enter_at _ Try.func53 code53_is]
 simp only [Try.ntmps53, ez, Nat.reduceAdd, Nat.reduceSub]
 refine Walk.gz z53 ?_
 refine Walk.ctl rfl (fun w => stepG_loop) ?_
 refine slots_walk (F := fun u => G (hdLay (.pointer (some ⟨kb, 0, none⟩)) sv H.p i u) (fr :: (l ++ K.bot e))) hh ?_
 simp only [hdLay]
 rfl
end
end
section
theorem undStack : Try.prog.underlying 38 = some (.pointer 70) := by kernel_rfl
noncomputable def reg28_0 := rg Try.f28.body [0]
noncomputable def reg28_1 := rg Try.f28.body [1, 0, 0]
noncomputable def reg28_2 := rg Try.f28.body [1, 0, 1, 0, 0]
noncomputable def reg28_3 := rg Try.f28.body [1, 1, 0]
noncomputable def reg28_4 := rg Try.f28.body [1, 1, 1, 0, 0]
noncomputable def reg28_5 := rg Try.f28.body [1, 1, 1, 0, 1, 0, 0]
noncomputable def reg28_6 := rg Try.f28.body [1, 1, 1, 1, 0]
noncomputable def reg28_7 := rg Try.f28.body [1, 1, 1, 1, 1, 0]
noncomputable def reg28_8 := rg Try.f28.body [1, 1, 1, 1, 1, 1, 0]
theorem z28 : List.range reg28_0.size = [0] ∧ List.range reg28_1.size = [0, 1] ∧ List.range reg28_2.size = [0] ∧ List.range reg28_3.size = [0, 1, 2, 3, 4, 5, 6, 7, 8, 9, 10] ∧ List.range reg28_4.size = [0, 1] ∧ List.range reg28_5.size = [0] ∧ List.range reg28_6.size = [0, 1, 2, 3, 4, 5, 6, 7, 8, 9] ∧ List.range reg28_7.size = [0, 1, 2, 3, 4, 5, 6] ∧ List.range reg28_8.size = [0] := by refine ⟨?_, ?_, ?_, ?_, ?_, ?_, ?_, ?_, ?_⟩ <;> kernel_rfl
theorem code28_is : Try.f28.body = some (.seq (.region 0 reg28_0 false) (.seq (.seq (.region 1 reg28_1 false) (.cond (.tmp 10 ) (.seq (.region 2 reg28_2 false) (.ret)) (.skip))) (.seq (.region 3 reg28_3 false) (.seq (.seq (.region 4 reg28_4 false) (.cond (.tmp 21 ) (.seq (.region 5 reg28_5 false) (.ret)) (.skip))) (.seq (.region 6 reg28_6 false) (.seq (.region 7 reg28_7 false) (.seq (.region 8 reg28_8 false) (.ret)))))))) := by kernel_rfl
noncomputable def reg26_0 := rg Try.f26.body [0]
noncomputable def reg26_1 := rg Try.f26.body [1, 0, 0]
noncomputable def reg26_2 := rg Try.f26.body [1, 0, 1, 0, 0]
noncomputable def reg26_3 := rg Try.f26.body [1, 1, 0]
noncomputable def reg26_4 := rg Try.f26.body [1, 1, 1, 0, 0]
noncomputable def reg26_5 := rg Try.f26.body [1, 1, 1, 0, 1, 0, 0]
noncomputable def reg26_6 := rg Try.f26.body [1, 1, 1, 1, 0]
noncomputable def reg26_7 := rg Try.f26.body [1, 1, 1, 1, 1, 0]
noncomputable def reg26_8 := rg Try.f26.body [1, 1, 1, 1, 1, 1, 0]
theorem z26 : List.range reg26_0.size = [0, 1] ∧ List.range reg26_1.size = [0, 1] ∧ List.range reg26_2.size = [0, 1] ∧ List.range reg26_3.size = [0, 1, 2, 3, 4, 5, 6, 7, 8, 9, 10] ∧ List.range reg26_4.size = [0, 1] ∧ List.range reg26_5.size = [0, 1] ∧ List.range reg26_6.size = [0, 1, 2, 3, 4, 5, 6, 7, 8, 9] ∧ List.range reg26_7.size = [0, 1, 2, 3, 4, 5, 6] ∧ List.range reg26_8.size = [0, 1, 2] := by refine ⟨?_, ?_, ?_, ?_, ?_, ?_, ?_, ?_, ?_⟩ <;> kernel_rfl
theorem code26_is : Try.f26.body = some (.seq (.region 0 reg26_0 false) (.seq (.seq (.region 1 reg26_1 false) (.cond (.tmp 10 ) (.seq (.region 2 reg26_2 false) (.ret)) (.skip))) (.seq (.region 3 reg26_3 false) (.seq (.seq (.region 4 reg26_4 false) (.cond (.tmp 21 ) (.seq (.region 5 reg26_5 false) (.ret)) (.skip))) (.seq (.region 6 reg26_6 false) (.seq (.region 7 reg26_7 false) (.seq (.region 8 reg26_8 false) (.ret)))))))) := by kernel_rfl
section
variable {kb nb n : Nat} {tg : Bool} {sv : Value}
theorem push_s (K : Lg (skLa kb nb n tg) sv) (hne : kb ≠ nb) (hn : n ≤ 65536) (v : Int) (e : K.E) (ht : K.tgt e = (K.s e, .inr (.pu1 v))) : SCall K.toLb 28 #[.pointer (some ⟨kb, 0, none⟩), sv, .int .i64 v] e (fun x e' => ∃ b, x = .bool b ∧ K.tgt e' = (K.s e', .inl (b, 0))) := by
 intro fr l hp hl hk
 have hp1 := fun w => run_eql_ptr (P := Try.prog) 38 undStack (some ⟨kb, 0, none⟩) w
 have hp2 := fun w es => ev_eql_ptr (P := Try.prog) 38 undStack (some ⟨kb, 0, none⟩) w es
 simp only [Option.isNone_some] at hp1
 have hT := take_s K hne (frH hne) hn (D1 := .pu1 v) (D2 := fun top => .pu2 v top) (D3 := fun top nx => .pu3 v top nx) (fail := .inl (false, 0)) (don := fun i => .inr (.pu4 v i)) ⟨fun _ => rfl, fun _ _ => rfl, fun _ _ _ => rfl⟩ e ht
 unfold LW
 rw [enter_at _ Try.func28 code28_is]
 simp only [Try.ntmps28, ez, Nat.reduceAdd, Nat.reduceSub]
 refine Walk.gz z28 ?_
 refine LW.callS (K := K.toLb) (e := e) (l := fr :: l) (f := 51) (Q := TakeOut K (.inl (false, 0)) (fun i => .inr (.pu4 v i))) ?_ hoA (by rfl) (by decide) rfl Try.func51 (by kernel_rfl) (by rfl) ⟨rfl, rfl, _, Try.func28⟩ (plain_cons hp hl) ?_
 ·walk_nrm
  exact hT
 rintro x e1 (⟨rfl, ht1⟩ | ⟨i, hin, rfl, ht1⟩)
 ·unfold LW
  walk_nrm
  refine Walk.gz z28 ?_
  exact Walk.on1 rfl rfl Try.func28 rfl (hk _ e1 ⟨_, rfl, ht1⟩)
 ·have hsl := sk_nodes (K.inv e1)
  have hi0 : (0 : Int) ≤ i := by omega
  have hi1 : decide ((i : Int) < n) = true := by simp; omega
  have hi3 : decide (i < n) = true := by simp; omega
  unfold LW
  walk_nrm
  refine Walk.gz z28 ?_
  refine LW.callS (K := K.toLb) (e := e1) (l := fr :: l) (f := 43) (Q := fun _ e' => ∃ s, Wrote K e1 (.pu4 v i) s ((vlW (tg := tg) hne i hin).put s v) e') ?_ hoA (by rfl) (by decide) rfl Try.func43 (by kernel_rfl) (by rfl) ⟨rfl, rfl, _, Try.func28⟩ (plain_cons hp hl) ?_
  ·walk_nrm
   exact word_store K (vlW hne i hin) e1 (.pu4 v i) v trivial ht1
  rintro x e2 ⟨s, hW⟩
  have ht2 : K.tgt e2 = (K.s e2, .inr (.pu5 i)) := by
   rw [hW.s]
   exact hW.tgt
  have hL := lay_s K hne (hdH hne) hn i hin (D5 := .pu5 i) (D6 := fun top => .pu6 i top) (D7 := fun top => .pu7 i top) (don := .inl (true, 0)) ⟨fun _ => rfl, fun _ _ => rfl, fun _ _ => rfl⟩ e2 ht2
  unfold LW
  walk_nrm
  refine Walk.gz z28 ?_
  refine LW.callS (K := K.toLb) (e := e2) (l := fr :: l) (f := 53) (Q := fun _ e' => K.tgt e' = (K.s e', .inl (true, 0))) ?_ hoA (by rfl) (by decide) rfl Try.func53 (by kernel_rfl) (by rfl) ⟨rfl, rfl, _, Try.func28⟩ (plain_cons hp hl) ?_
  ·walk_nrm
   exact hL
  rintro x e3 ht3
  unfold LW
  walk_nrm
  refine Walk.gz z28 ?_
  exact Walk.on1 rfl rfl Try.func28 rfl (hk _ e3 ⟨_, rfl, ht3⟩)
theorem pop_s (K : Lg (skLa kb nb n tg) sv) (hne : kb ≠ nb) (hn : n ≤ 65536) (e : K.E) (ht : K.tgt e = (K.s e, .inr .po1)) : SCall K.toLb 26 #[.pointer (some ⟨kb, 0, none⟩), sv] e (fun x e' => ∃ b y, x = .tuple #[.int .i64 y, .bool b] ∧ K.tgt e' = (K.s e', .inl (b, y))) := by
 intro fr l hp hl hk
 have hp1 := fun w => run_eql_ptr (P := Try.prog) 38 undStack (some ⟨kb, 0, none⟩) w
 have hp2 := fun w es => ev_eql_ptr (P := Try.prog) 38 undStack (some ⟨kb, 0, none⟩) w es
 simp only [Option.isNone_some] at hp1
 have hT := take_s K hne (hdH hne) hn (D1 := .po1) (D2 := fun top => .po2 top) (D3 := fun top nx => .po3 top nx) (fail := .inl (false, 0)) (don := fun i => .inr (.po4 i)) ⟨fun _ => rfl, fun _ _ => rfl, fun _ _ _ => rfl⟩ e ht
 unfold LW
 rw [enter_at _ Try.func26 code26_is]
 simp only [Try.ntmps26, ez, Nat.reduceAdd, Nat.reduceSub]
 refine Walk.gz z26 ?_
 refine LW.callS (K := K.toLb) (e := e) (l := fr :: l) (f := 51) (Q := TakeOut K (.inl (false, 0)) (fun i => .inr (.po4 i))) ?_ hoA (by rfl) (by decide) rfl Try.func51 (by kernel_rfl) (by rfl) ⟨rfl, rfl, _, Try.func26⟩ (plain_cons hp hl) ?_
 ·walk_nrm
  exact hT
 rintro x e1 (⟨rfl, ht1⟩ | ⟨i, hin, rfl, ht1⟩)
 ·unfold LW
  walk_nrm
  refine Walk.gz z26 ?_
  exact Walk.on2 rfl rfl Try.func26 rfl (hk _ e1 ⟨_, _, rfl, ht1⟩)
 ·have hsl := sk_nodes (K.inv e1)
  have hi0 : (0 : Int) ≤ i := by omega
  have hi1 : decide ((i : Int) < n) = true := by simp; omega
  have hi3 : decide (i < n) = true := by simp; omega
  unfold LW
  walk_nrm
  refine Walk.gz z26 ?_
  refine LW.callS (K := K.toLb) (e := e1) (l := fr :: l) (f := 52) (Q := fun v e' => Aft K.toLb e1 (.po4 i) e' ∧ v = .int .i64 (Sk.vl (K.s e') i)) ?_ hoA (by rfl) (by decide) rfl Try.func52 (by kernel_rfl) (by rfl) ⟨rfl, rfl, _, Try.func26⟩ (plain_cons hp hl) ?_
  ·walk_nrm
   exact word_load K (vlW hne i hin) e1 (.po4 i) ht1
  rintro x e2 ⟨ha, rfl⟩
  have ht2 : K.tgt e2 = (K.s e2, .inr (.po5 i (Sk.vl (K.s e2) i))) := ha.tgt
  generalize hy : Sk.vl (K.s e2) i = y at *
  have hL := lay_s K hne (frH hne) hn i hin (D5 := .po5 i y) (D6 := fun top => .po6 i y top) (D7 := fun top => .po7 i y top) (don := .inl (true, y)) ⟨fun _ => rfl, fun _ _ => rfl, fun _ _ => rfl⟩ e2 ht2
  unfold LW
  walk_nrm
  refine Walk.gz z26 ?_
  refine LW.callS (K := K.toLb) (e := e2) (l := fr :: l) (f := 53) (Q := fun _ e' => K.tgt e' = (K.s e', .inl (true, y))) ?_ hoA (by rfl) (by decide) rfl Try.func53 (by kernel_rfl) (by rfl) ⟨rfl, rfl, _, Try.func26⟩ (plain_cons hp hl) ?_
  ·walk_nrm
   exact hL
  rintro x e3 ht3
  unfold LW
  walk_nrm
  refine Walk.gz z26 ?_
  exact Walk.on2 rfl rfl Try.func26 rfl (hk _ e3 ⟨_, _, rfl, ht3⟩)
end
end
section
noncomputable def reg27_0 := rg Try.f27.body [0]
noncomputable def reg27_1 := rg Try.f27.body [1, 0, 0]
noncomputable def reg27_2 := rg Try.f27.body [1, 0, 1, 0, 0]
noncomputable def reg27_3 := rg Try.f27.body [1, 1, 0]
noncomputable def reg27_4 := rg Try.f27.body [1, 1, 1, 0, 0, 0, 0, 0]
noncomputable def reg27_5 := rg Try.f27.body [1, 1, 1, 0, 0, 0, 1, 0, 0]
theorem size27_5 : reg27_5.size = 11 := by kernel_rfl
noncomputable def reg27_6 := rg Try.f27.body [1, 1, 1, 0, 0, 0, 1, 0, 1, 0]
noncomputable def reg27_7 := rg Try.f27.body [1, 1, 1, 0, 0, 0, 1, 0, 1, 1, 0, 0]
noncomputable def reg27_8 := rg Try.f27.body [1, 1, 1, 0, 0, 0, 1, 0, 1, 1, 0, 1, 0, 0]
noncomputable def reg27_9 := rg Try.f27.body [1, 1, 1, 0, 0, 0, 1, 0, 1, 1, 1]
noncomputable def reg27_10 := rg Try.f27.body [1, 1, 1, 1, 0]
theorem z27 : List.range reg27_0.size = [0, 1] ∧ List.range reg27_1.size = [0, 1] ∧ List.range reg27_2.size = [0, 1] ∧ List.range reg27_3.size = [0, 1, 2, 3, 4, 5] ∧ List.range reg27_4.size = [0, 1, 2] ∧ List.range reg27_5.size = [0, 1, 2, 3, 4, 5, 6, 7, 8, 9, 10] ∧ List.range reg27_6.size = [0, 1, 2, 3, 4, 5] ∧ List.range reg27_7.size = [0, 1, 2] ∧ List.range reg27_8.size = [0, 1, 2] ∧ List.range reg27_9.size = [0, 1] ∧ List.range reg27_10.size = [0, 1] := by refine ⟨?_, ?_, ?_, ?_, ?_, ?_, ?_, ?_, ?_, ?_, ?_⟩ <;> kernel_rfl
theorem code27_is : Try.f27.body = some (.seq (.region 0 reg27_0 false) (.seq (.seq (.region 1 reg27_1 false) (.cond (.tmp 10 ) (.seq (.region 2 reg27_2 false) (.ret)) (.skip))) (.seq (.region 3 reg27_3 false) (.seq (.block 0 (.loop (.seq (.seq (.region 4 reg27_4 false) (.cond (.tmp 18 ) (.skip) (.exit 0))) (.block 1 (.seq (.region 5 reg27_5 true) (.seq (.region 6 reg27_6 false) (.seq (.seq (.region 7 reg27_7 false) (.cond (.tmp 36 ) (.seq (.region 8 reg27_8 false) (.ret)) (.skip))) (.region 9 reg27_9 false)))))))) (.seq (.region 10 reg27_10 false) (.ret)))))) := by kernel_rfl
noncomputable def reg29_0 := rg Try.f29.body [0]
noncomputable def reg29_1 := rg Try.f29.body [1, 0]
theorem z29 : List.range reg29_0.size = [0] ∧ List.range reg29_1.size = [0, 1, 2, 3, 4, 5, 6, 7, 8, 9, 10] := by refine ⟨?_, ?_⟩ <;> kernel_rfl
theorem code29_is : Try.f29.body = some (.seq (.region 0 reg29_0 false) (.seq (.region 1 reg29_1 false) (.ret))) := by kernel_rfl
noncomputable def hdPeek (k sv : Value) (top : Int) (u : Nat → Value) : Frame :=
 (base 27).at { tmps := #[k, sv, u 2, u 3, .int .i64 0, .bool false, .int .i64 top, u 7, u 8, u 9, u 10, u 11, u 12, u 13, u 14, u 15, u 16, u 17, u 18, u 19, u 20, u 21, u 22, u 23, u 24, u 25, u 26, u 27, u 28, u 29, u 30, u 31, u 32, u 33, u 34, u 35, u 36, u 37, u 38], defers := [] } [.code (.seq (.seq (.region 4 reg27_4 false) (.cond (.tmp 18 ) (.skip) (.exit 0))) (.block 1 (.seq (.region 5 reg27_5 true) (.seq (.region 6 reg27_6 false) (.seq (.seq (.region 7 reg27_7 false) (.cond (.tmp 36 ) (.seq (.region 8 reg27_8 false) (.ret)) (.skip))) (.region 9 reg27_9 false)))))), .inLoop (.seq (.seq (.region 4 reg27_4 false) (.cond (.tmp 18 ) (.skip) (.exit 0))) (.block 1 (.seq (.region 5 reg27_5 true) (.seq (.region 6 reg27_6 false) (.seq (.seq (.region 7 reg27_7 false) (.cond (.tmp 36 ) (.seq (.region 8 reg27_8 false) (.ret)) (.skip))) (.region 9 reg27_9 false)))))), .inBlock 0, .code (.seq (.region 10 reg27_10 false) (.ret))]
section
variable {kb nb n : Nat} {tg : Bool} {sv : Value}
def peekAt (s : Sk) (top : Int) : Sk × (Ans ⊕ SD) := if nodeX top = -1 then (s, .inl (false, 0)) else (s, .inr (.pe2 top))
def PeekOut (K : Lg (skLa kb nb n tg) sv) (x : Value) (e' : K.E) : Prop := ∃ b y, x = .tuple #[.int .i64 y, .bool b] ∧ K.tgt e' = (K.s e', .inl (b, y))
theorem peek_round (K : Lg (skLa kb nb n tg) sv) (hne : kb ≠ nb) (top : Int) (hok : OkH n top) (e : K.E) (ht : K.tgt e = peekAt (K.s e) top) (fr : Frame) (l : List Frame) (hp : Plain fr) (hl : ∀ f ∈ l, Plain f) (hk : ∀ v e', PeekOut K v e' → LW K.toLb e' (G (fr.finish v) (l ++ K.bot e')))
  (ih : ∀ e' u top', K.fuel e' < K.fuel e → OkH n top' → K.tgt e' = peekAt (K.s e') top' → LW K.toLb e' (G (hdPeek (.pointer (some ⟨kb, 0, none⟩)) sv top' u) (fr :: (l ++ K.bot e')))) (u : Nat → Value) :
  LW K.toLb e (G (hdPeek (.pointer (some ⟨kb, 0, none⟩)) sv top u) (fr :: (l ++ K.bot e))) := by
 unfold LW hdPeek
 refine Walk.gz z27 ?_
 refine Walk.callV (x := .bool (nodeX top == -1)) (W := K.w e) ?_ hoA (by rfl) (by decide) rfl Try.func54 (by kernel_rfl) (by rfl) ?_
 ·walk_nrm
  exact empty_w top _
 walk_nrm
 unfold peekAt at ht
 by_cases hem : nodeX top = -1
 ·rw [if_pos hem] at ht
  have hb : (nodeX top == -1) = true := by simp [hem]
  rw [hb]
  refine Walk.gz z27 ?_
  exact Walk.on2 rfl rfl Try.func27 rfl (hk _ e ⟨_, _, rfl, ht⟩)
 ·rw [if_neg hem] at ht
  have hb : (nodeX top == -1) = false := by simp [hem]
  rw [hb]
  obtain ⟨i, hi⟩ : ∃ i : Nat, nodeX top = i := ⟨(nodeX top).toNat, by have := hok.nlo; omega⟩
  have hin : i < n := by have := hok.nhi; omega
  have hsl := sk_nodes (K.inv e)
  have hi0 : (0 : Int) ≤ i := by omega
  have hi1 : decide ((i : Int) < n) = true := by simp; omega
  have hi3 : decide (i < n) = true := by simp; omega
  refine Walk.gz z27 ?_
  (refine LW.drawnS (K := K.toLb) (l := fr :: l) (m := 9) (f := 52) (Q := fun v e' => Aft K.toLb e (.pe2 top) e' ∧ v = .int .i64 (Sk.vl (K.s e') i)) (by kernel_rfl) size27_5 (by kernel_rfl) (by kernel_rfl) (by kernel_rfl) (by kernel_rfl) (by decide) hoA rfl rfl Try.func52 (by kernel_rfl) (by rfl) (plain_cons hp hl) ?_; simp only [List.range, List.range.loop]; repeat (first | (refine Cm.oq ?_) | (refine Cm.unw hoA (by rfl) ?_; walk_nrm)))
  refine Cm.callV (x := .int .i64 (i : Nat)) ?_ hoA (by rfl) rfl Try.func46 (by kernel_rfl) (by rfl) ?_
  ·intro w' he
   subst he
   walk_nrm
   rw [← hi]
   exact node_w top _
  walk_nrm
  repeat (first | (refine Cm.oq ?_) | (refine Cm.unw hoA (by rfl) ?_; walk_nrm))
  refine Cm.done ⟨fun rest => ⟨rfl, rfl, _, Try.func27⟩, ?_, ?finA, ?hA1, ?hA2⟩
  ·walk_nrm
   exact word_load K (vlW hne i hin) e (.pe2 top) ht
  case hA1 =>
   intro v e' rest hq hr
   clear hq
   unfold LW at hr ⊢
   walk_nrm
   (refine Walk.oq ?_; try walk_nrm)
   exact hr
  case hA2 =>
   rintro v e2 ⟨ha2, rfl⟩
   have ht2 : K.tgt e2 = (K.s e2, .inr (.pe3 top (Sk.vl (K.s e2) i))) := by
    have h : K.tgt e2 = (K.s e2, .inr (.pe3 top (Sk.vl (K.s e2) (nodeX top).toNat))) := ha2.tgt
    rw [hi] at h
    exact h
   generalize hy : Sk.vl (K.s e2) i = y at *
   unfold LW
   refine Walk.gz z27 ?_
   refine LW.callS (K := K.toLb) (e := e2) (l := fr :: l) (f := 45) (Q := fun v e' => Aft K.toLb e2 (.pe3 top y) e' ∧ v = .int .i64 (Sk.hd (K.s e'))) ?_ hoA (by rfl) (by decide) rfl Try.func45 (by kernel_rfl) (by rfl) ⟨rfl, rfl, _, Try.func27⟩ (plain_cons hp hl) ?_
   ·walk_nrm
    exact hload_s K (hdH hne) e2 (.pe3 top y) ht2
   rintro v e3 ⟨ha3, rfl⟩
   have hok3 : OkH n (Sk.hd (K.s e3)) := (K.inv e3).hd
   have ht3 : K.tgt e3 = if Sk.hd (K.s e3) = top then (K.s e3, .inl (true, y)) else peekAt (K.s e3) (Sk.hd (K.s e3)) := ha3.tgt
   generalize hag : Sk.hd (K.s e3) = ag at *
   unfold LW
   walk_nrm
   by_cases hat : ag = top
   ·replace ht3 : K.tgt e3 = (K.s e3, .inl (true, y)) := ht3.trans (if_pos hat)
    subst hat
    have hbb : (ag == ag) = true := by simp
    refine Walk.gz z27 ?_
    exact Walk.on2 rfl rfl Try.func27 rfl (hk _ e3 ⟨_, _, rfl, ht3⟩)
   ·replace ht3 : K.tgt e3 = peekAt (K.s e3) ag := ht3.trans (if_neg hat)
    have hbb : (ag == top) = false := by simp [hat]
    have hfu : K.fuel e3 < K.fuel e := Nat.lt_trans ha3.fuel ha2.fuel
    refine Walk.gz z27 ?_
    refine Walk.ctl rfl (fun w => stepG_inLoop) ?_
    refine slots_walk (F := fun u => G (hdPeek (.pointer (some ⟨kb, 0, none⟩)) sv ag u) (fr :: (l ++ K.bot e3))) (fun u => ih e3 u ag hfu hok3 ht3) ?_
    simp only [hdPeek]
    rfl
theorem peek_loop (K : Lg (skLa kb nb n tg) sv) (hne : kb ≠ nb) (fr : Frame) (l : List Frame) (hp : Plain fr) (hl : ∀ f ∈ l, Plain f) (hk : ∀ v e', PeekOut K v e' → LW K.toLb e' (G (fr.finish v) (l ++ K.bot e'))) :
  ∀ (N : Nat) (e : K.E) (u : Nat → Value) (top : Int), K.fuel e < N → OkH n top → K.tgt e = peekAt (K.s e) top → LW K.toLb e (G (hdPeek (.pointer (some ⟨kb, 0, none⟩)) sv top u) (fr :: (l ++ K.bot e))) := by
 intro N
 induction N with
 | zero => intro e u top h; omega
 | succ N ih => exact fun e u top hf hok ht => peek_round K hne top hok e ht fr l hp hl hk (fun e' u' top' hf' hok' ht' => ih e' u' top' (by omega) hok' ht') u
theorem peek_s (K : Lg (skLa kb nb n tg) sv) (hne : kb ≠ nb) (e : K.E) (ht : K.tgt e = (K.s e, .inr .pe1)) : SCall K.toLb 27 #[.pointer (some ⟨kb, 0, none⟩), sv] e (PeekOut K) := by
 intro fr l hp hl hk
 have hp1 := fun w => run_eql_ptr (P := Try.prog) 38 undStack (some ⟨kb, 0, none⟩) w
 have hp2 := fun w es => ev_eql_ptr (P := Try.prog) 38 undStack (some ⟨kb, 0, none⟩) w es
 simp only [Option.isNone_some] at hp1
 unfold LW
 rw [enter_at _ Try.func27 code27_is]
 simp only [Try.ntmps27, ez, Nat.reduceAdd, Nat.reduceSub]
 refine Walk.gz z27 ?_
 refine LW.callS (K := K.toLb) (e := e) (l := fr :: l) (f := 45) (Q := fun v e' => Aft K.toLb e .pe1 e' ∧ v = .int .i64 (Sk.hd (K.s e'))) ?_ hoA (by rfl) (by decide) rfl Try.func45 (by kernel_rfl) (by rfl) ⟨rfl, rfl, _, Try.func27⟩ (plain_cons hp hl) ?_
 ·walk_nrm
  exact hload_s K (hdH hne) e .pe1 ht
 rintro v e1 ⟨ha, rfl⟩
 have hok : OkH n (Sk.hd (K.s e1)) := (K.inv e1).hd
 have ht1 : K.tgt e1 = peekAt (K.s e1) (Sk.hd (K.s e1)) := ha.tgt
 have hh := fun u => peek_loop K hne fr l hp hl hk (K.fuel e1 + 1) e1 u _ (Nat.lt_succ_self _) hok ht1
 generalize hag : Sk.hd (K.s e1) = ag at *
 unfold LW at hh ⊢
 walk_nrm
 refine Walk.gz z27 ?_
 refine Walk.ctl rfl (fun w => stepG_loop) ?_
 refine slots_walk (F := fun u => G (hdPeek (.pointer (some ⟨kb, 0, none⟩)) sv ag u) (fr :: (l ++ K.bot e1))) hh ?_
 simp only [hdPeek]
 rfl
theorem empty_s (K : Lg (skLa kb nb n tg) sv) (hne : kb ≠ nb) (e : K.E) (ht : K.tgt e = (K.s e, .inr .em1)) : SCall K.toLb 29 #[.pointer (some ⟨kb, 0, none⟩), sv] e (fun x e' => ∃ b, x = .bool b ∧ K.tgt e' = (K.s e', .inl (b, 0))) := by
 intro fr l hp hl hk
 have hp1 := fun w => run_eql_ptr (P := Try.prog) 38 undStack (some ⟨kb, 0, none⟩) w
 have hp2 := fun w es => ev_eql_ptr (P := Try.prog) 38 undStack (some ⟨kb, 0, none⟩) w es
 simp only [Option.isNone_some] at hp1
 unfold LW
 rw [enter_at _ Try.func29 code29_is]
 simp only [Try.ntmps29, ez, Nat.reduceAdd, Nat.reduceSub]
 refine Walk.gz z29 ?_
 refine LW.callS (K := K.toLb) (e := e) (l := fr :: l) (f := 45) (Q := fun v e' => Aft K.toLb e .em1 e' ∧ v = .int .i64 (Sk.hd (K.s e'))) ?_ hoA (by rfl) (by decide) rfl Try.func45 (by kernel_rfl) (by rfl) ⟨rfl, rfl, _, Try.func29⟩ (plain_cons hp hl) ?_
 ·walk_nrm
  exact hload_s K (hdH hne) e .em1 ht
 rintro v e1 ⟨ha, rfl⟩
 have ht1 : K.tgt e1 = (K.s e1, .inl (nodeX (Sk.hd (K.s e1)) == -1, 0)) := ha.tgt
 generalize hag : Sk.hd (K.s e1) = ag at *
 unfold LW
 walk_nrm
 refine Walk.gz z29 ?_
 refine Walk.callV (x := .bool (nodeX ag == -1)) (W := K.w e1) ?_ hoA (by rfl) (by decide) rfl Try.func54 (by kernel_rfl) (by rfl) ?_
 ·walk_nrm
  exact empty_w ag _
 walk_nrm
 refine Walk.gz z29 ?_
 exact Walk.on1 rfl rfl Try.func29 rfl (hk _ e1 ⟨_, rfl, ht1⟩)
end
end
end Go.Proofs.Ytdmpmoggacjgcaa
