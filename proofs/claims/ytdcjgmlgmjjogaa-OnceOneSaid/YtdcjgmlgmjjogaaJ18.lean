/- Part 18. -/
import Derived.Test.YtdcjgmlgmjjogaaJ17
set_option linter.unusedSimpArgs false
set_option linter.unusedVariables false
set_option maxHeartbeats 8000000
set_option maxRecDepth 100000
namespace Go.Proofs.Ytdcjgmlgmjjogaa
open Go.Conc Go.RowKit Go.Relay
open Go.ConcN (upd upd_ne upd_same)
section
theorem undOnce : Try.prog.underlying 35 = some (.pointer 45) := by kernel_rfl
def onP (cb i : Nat) : Value := .pointer (some ⟨cb, i * 3, none⟩)
noncomputable def reg40_0 := rg Try.f40.body [0]
noncomputable def reg40_1 := rg Try.f40.body [1, 0, 0]
noncomputable def reg40_2 := rg Try.f40.body [1, 0, 1, 0, 0]
noncomputable def reg40_3 := rg Try.f40.body [1, 1, 0]
theorem z40 : List.range reg40_0.size = [0, 1] ∧ List.range reg40_1.size = [0, 1, 2, 3, 4, 5, 6, 7, 8, 9] ∧ List.range reg40_2.size = [0, 1] ∧ List.range reg40_3.size = [0, 1, 2, 3, 4, 5, 6] := by refine ⟨?_, ?_, ?_, ?_⟩ <;> kernel_rfl
theorem code40_is : Try.f40.body = some (.seq (.region 0 reg40_0 false) (.seq (.seq (.region 1 reg40_1 false) (.cond (.tmp 15 ) (.seq (.region 2 reg40_2 false) (.ret)) (.skip))) (.seq (.region 3 reg40_3 false) (.ret)))) := by kernel_rfl
noncomputable def reg66_0 := rg Try.f66.body [0]
noncomputable def reg66_1 := rg Try.f66.body [1, 0]
theorem z66 : List.range reg66_0.size = [0] ∧ List.range reg66_1.size = [0, 1, 2, 3, 4, 5] := by refine ⟨?_, ?_⟩ <;> kernel_rfl
theorem code66_is : Try.f66.body = some (.seq (.region 0 reg66_0 false) (.seq (.region 1 reg66_1 false) (.ret))) := by kernel_rfl
noncomputable def reg67_0 := rg Try.f67.body [0]
noncomputable def reg67_1 := rg Try.f67.body [1]
theorem z67 : List.range reg67_0.size = [0, 1, 2, 3, 4, 5] ∧ List.range reg67_1.size = [0, 1, 2, 3, 4] := by refine ⟨?_, ?_⟩ <;> kernel_rfl
theorem code67_is : Try.f67.body = some (.seq (.region 0 reg67_0 false) (.region 1 reg67_1 false)) := by kernel_rfl
noncomputable def reg41_0 := rg Try.f41.body [0]
noncomputable def reg41_1 := rg Try.f41.body [1, 0, 0]
noncomputable def reg41_2 := rg Try.f41.body [1, 0, 1, 0, 0]
noncomputable def reg41_3 := rg Try.f41.body [1, 1, 0, 0]
noncomputable def reg41_4 := rg Try.f41.body [1, 1, 0, 1, 0, 0]
noncomputable def reg41_5 := rg Try.f41.body [1, 1, 0, 1, 0, 1, 0]
noncomputable def reg41_6 := rg Try.f41.body [1, 1, 1, 0]
noncomputable def reg41_7 := rg Try.f41.body [1, 1, 1, 1, 0]
theorem z41 : List.range reg41_0.size = [0, 1] ∧ List.range reg41_1.size = [0, 1] ∧ List.range reg41_2.size = [0, 1] ∧ List.range reg41_3.size = [0, 1, 2] ∧ List.range reg41_4.size = [0, 1, 2, 3] ∧ List.range reg41_5.size = [0, 1, 2] ∧ List.range reg41_6.size = [0, 1, 2, 3, 4, 5, 6, 7] ∧ List.range reg41_7.size = [0, 1, 2] := by refine ⟨?_, ?_, ?_, ?_, ?_, ?_, ?_, ?_⟩ <;> kernel_rfl
theorem code41_is : Try.f41.body = some (.seq (.region 0 reg41_0 false) (.seq (.seq (.region 1 reg41_1 false) (.cond (.tmp 11 ) (.seq (.region 2 reg41_2 false) (.ret)) (.skip))) (.seq (.seq (.region 3 reg41_3 false) (.cond (.tmp 14 ) (.seq (.region 4 reg41_4 false) (.seq (.region 5 reg41_5 false) (.ret))) (.skip))) (.seq (.region 6 reg41_6 false) (.seq (.region 7 reg41_7 false) (.ret)))))) := by kernel_rfl
section
variable {cb m : Nat} {sv : Value}
def GetOut (K : Lg (onLa cb m) sv) (e : K.E) (X : Ans ⊕ OD) (Y : Int → Ans ⊕ OD) (v : Value) (e' : K.E) : Prop :=
 K.fuel e' < K.fuel e ∧ ((v = .tuple #[.int .i64 0, .bool false] ∧ K.tgt e' = (K.s e', X)) ∨ ∃ y, v = .tuple #[.int .i64 y, .bool true] ∧ K.tgt e' = (K.s e', Y y))
theorem get_s (K : Lg (onLa cb m) sv) (i : Nat) (hi : i < m) (d1 d2 : OD) (X : Ans ⊕ OD) (Y : Int → Ans ⊕ OD) (h1 : ∀ s : Oz, onAct s d1 = if s.st i = 2 then (s, .inr d2) else (s, X)) (h2 : ∀ s : Oz, onAct s d2 = (s, Y (s.vl i))) (e : K.E) (ht : K.tgt e = (K.s e, .inr d1)) :
  SCall K.toLb 40 #[onP cb i, sv] e (GetOut K e X Y) := by
 intro fr l hp hl hk
 have w1 := fun e => word_load K (stW i hi) e d1
 have w2 := fun e => word_load K (vlW i hi) e d2
 unfold Wd.p at w1 w2
 unfold LW onP
 have hp1 := fun w => run_eql_ptr (P := Try.prog) 35 undOnce (some ⟨cb, i * 3, none⟩) w
 have hp2 := fun w es => ev_eql_ptr (P := Try.prog) 35 undOnce (some ⟨cb, i * 3, none⟩) w es
 simp only [Option.isNone_some] at hp1
 rw [enter_at _ Try.func40 code40_is]
 simp only [Try.ntmps40, ez, Nat.reduceAdd, Nat.reduceSub]
 repeat (first | refine Walk.cx ?_ | (refine Walk.cReg ?_; simp only [z40]) | (refine Walk.oq ?_; try walk_nrm) | (refine Walk.un ?_; walk_nrm))
 refine LW.callS (K := K.toLb) (e := e) (l := fr :: l) (f := 65) (Q := fun v e' => Aft K.toLb e d1 e' ∧ v = .int .i64 (Oz.st (K.s e') i)) ?_ (ho_of (by conv => lhs; whnf) (by kernel_rfl)) (by rfl) (by decide) rfl Try.func65 (by kernel_rfl) (by rfl) ⟨rfl, rfl, _, Try.func40⟩ (plain_cons hp hl) ?_
 ·walk_nrm
  exact w1 e ht
 rintro v e1 ⟨ha, rfl⟩
 have ht1 : K.tgt e1 = if Oz.st (K.s e1) i = 2 then (K.s e1, .inr d2) else (K.s e1, X) := ha.tgt.trans (h1 _)
 generalize hx : Oz.st (K.s e1) i = x at *
 unfold LW
 walk_nrm
 by_cases h : x = 2
 ·subst h
  replace ht1 : K.tgt e1 = (K.s e1, .inr d2) := ht1
  repeat (first | refine Walk.cx ?_ | (refine Walk.cReg ?_; simp only [z40]) | (refine Walk.oq ?_; try walk_nrm) | (refine Walk.un ?_; walk_nrm))
  refine LW.callS (K := K.toLb) (e := e1) (l := fr :: l) (f := 65) (Q := fun v e' => Aft K.toLb e1 d2 e' ∧ v = .int .i64 (Oz.vl (K.s e') i)) ?_ (ho_of (by conv => lhs; whnf) (by kernel_rfl)) (by rfl) (by decide) rfl Try.func65 (by kernel_rfl) (by rfl) ⟨rfl, rfl, _, Try.func40⟩ (plain_cons hp hl) ?_
  ·walk_nrm
   exact w2 e1 ht1
  rintro v e2 ⟨ha2, rfl⟩
  have ht2 : K.tgt e2 = (K.s e2, Y (Oz.vl (K.s e2) i)) := ha2.tgt.trans (h2 _)
  generalize Oz.vl (K.s e2) i = y at *
  have hkk := hk (.tuple #[.int .i64 y, .bool true]) e2 ⟨Nat.lt_trans ha2.fuel ha.fuel, .inr ⟨y, rfl, ht2⟩⟩
  unfold LW at hkk ⊢
  walk_nrm
  repeat (first | refine Walk.cx ?_ | (refine Walk.cReg ?_; simp only [z40]) | (refine Walk.oq ?_; try walk_nrm) | (refine Walk.un ?_; walk_nrm))
  exact Walk.on2 rfl rfl Try.func40 rfl hkk
 ·replace ht1 : K.tgt e1 = (K.s e1, X) := ht1.trans (if_neg h)
  have hb : (x == 2) = false := by simp [h]
  have hb2 : (x != 2) = true := by simp [h]
  have hkk := hk (.tuple #[.int .i64 0, .bool false]) e1 ⟨ha.fuel, .inl ⟨rfl, ht1⟩⟩
  unfold LW at hkk
  repeat (first | refine Walk.cx ?_ | (refine Walk.cReg ?_; simp only [z40]) | (refine Walk.oq ?_; try walk_nrm) | (refine Walk.un ?_; walk_nrm))
  exact Walk.on2 rfl rfl Try.func40 rfl hkk
def ClaimOut (K : Lg (onLa cb m) sv) (i : Nat) (e : K.E) (d : OD) (v : Value) (e' : K.E) : Prop :=
 ∃ s : Oz, (s.st i = 0 ∧ v = .bool true ∧ Wrote K e d s ({ s with st := upd s.st i 1 } : Oz) e') ∨ (s.st i ≠ 0 ∧ v = .bool false ∧ Wrote K e d s s e')
theorem claim_s (K : Lg (onLa cb m) sv) (i : Nat) (hi : i < m) (d : OD) (e : K.E) (ht : K.tgt e = (K.s e, .inr d)) : SCall K.toLb 66 #[onP cb i, sv] e (ClaimOut K i e d) := by
 intro fr l hp hl hk
 have w1 := word_cas K (stW i hi) e d 0 1 trivial ht
 unfold Wd.p at w1
 unfold LW onP
 rw [enter_at _ Try.func66 code66_is]
 simp only [Try.ntmps66, ez, Nat.reduceAdd, Nat.reduceSub]
 repeat (first | refine Walk.cx ?_ | (refine Walk.cReg ?_; simp only [z66]) | (refine Walk.oq ?_; try walk_nrm) | (refine Walk.un ?_; walk_nrm))
 refine LW.callS (K := K.toLb) (e := e) (l := fr :: l) (f := 87) (Q := ClaimOut K i e d) ?_ (ho_of (by conv => lhs; whnf) (by kernel_rfl)) (by rfl) (by decide) rfl Try.func87 (by kernel_rfl) (by rfl) ⟨rfl, rfl, _, Try.func66⟩ (plain_cons hp hl) ?_
 ·walk_nrm
  exact w1
 intro v e' h
 have hkk := hk v e' h
 unfold LW at hkk ⊢
 walk_nrm
 repeat (first | refine Walk.cx ?_ | (refine Walk.cReg ?_; simp only [z66]) | (refine Walk.oq ?_; try walk_nrm) | (refine Walk.un ?_; walk_nrm))
 exact Walk.on1 rfl rfl Try.func66 rfl hkk
theorem settle_s (K : Lg (onLa cb m) sv) (i : Nat) (hi : i < m) (v : Int) (d1 d2 : OD) (Z : Ans ⊕ OD) (h1 : ∀ s : Oz, onAct s d1 = ({ s with vl := upd s.vl i v }, .inr d2)) (h2 : ∀ s : Oz, onAct s d2 = ({ s with st := upd s.st i 2 }, Z)) (e : K.E) (ht : K.tgt e = (K.s e, .inr d1)) :
  SCall K.toLb 67 #[onP cb i, sv, .int .i64 v] e (fun _ e' => K.tgt e' = (K.s e', Z)) := by
 intro fr l hp hl hk
 have w1 := fun e => word_store K (vlW i hi) e d1 v trivial
 have w2 := fun e => word_store K (stW i hi) e d2 2 trivial
 unfold Wd.p at w1 w2
 unfold LW onP
 rw [enter_at _ Try.func67 code67_is]
 simp only [Try.ntmps67, ez, Nat.reduceAdd, Nat.reduceSub]
 repeat (first | refine Walk.cx ?_ | (refine Walk.cReg ?_; simp only [z67]) | (refine Walk.oq ?_; try walk_nrm) | (refine Walk.un ?_; walk_nrm))
 refine LW.callS (K := K.toLb) (e := e) (l := fr :: l) (f := 88) (Q := fun _ e' => ∃ s : Oz, Wrote K e d1 s ({ s with vl := upd s.vl i v } : Oz) e') ?_ (ho_of (by conv => lhs; whnf) (by kernel_rfl)) (by rfl) (by decide) rfl Try.func88 (by kernel_rfl) (by rfl) ⟨rfl, rfl, _, Try.func67⟩ (plain_cons hp hl) ?_
 ·walk_nrm
  exact w1 e ht
 rintro x1 e1 ⟨s, hw⟩
 have ht1 : K.tgt e1 = (K.s e1, .inr d2) := by rw [hw.s]; exact hw.tgt.trans (h1 s)
 unfold LW
 walk_nrm
 repeat (first | refine Walk.cx ?_ | (refine Walk.cReg ?_; simp only [z67]) | (refine Walk.oq ?_; try walk_nrm) | (refine Walk.un ?_; walk_nrm))
 refine LW.callS (K := K.toLb) (e := e1) (l := fr :: l) (f := 88) (Q := fun _ e' => ∃ s : Oz, Wrote K e1 d2 s ({ s with st := upd s.st i 2 } : Oz) e') ?_ (ho_of (by conv => lhs; whnf) (by kernel_rfl)) (by rfl) (by decide) rfl Try.func88 (by kernel_rfl) (by rfl) ⟨rfl, rfl, _, Try.func67⟩ (plain_cons hp hl) ?_
 ·walk_nrm
  exact w2 e1 ht1
 rintro x2 e2 ⟨s2, hw2⟩
 have ht2 : K.tgt e2 = (K.s e2, Z) := by rw [hw2.s]; exact hw2.tgt.trans (h2 s2)
 unfold LW
 walk_nrm
 repeat (first | refine Walk.cx ?_ | (refine Walk.cReg ?_; simp only [z67]) | (refine Walk.oq ?_; try walk_nrm) | (refine Walk.un ?_; walk_nrm))
 exact Walk.on0 rfl rfl Try.func67 rfl (hk _ e2 ht2)
def TwoOut (K : Lg (onLa cb m) sv) (x : Value) (e' : K.E) : Prop := ∃ b y, x = .tuple #[.int .i64 y, .bool b] ∧ K.tgt e' = (K.s e', .inl (b, y))
theorem set_s (K : Lg (onLa cb m) sv) (i : Nat) (hi : i < m) (v : Int) (e : K.E) (ht : K.tgt e = (K.s e, .inr (.s1 i v))) : SCall K.toLb 41 #[onP cb i, sv, .int .i64 v] e (TwoOut K) := by
 intro fr l hp hl hk
 have k1 := claim_s K i hi (.s1 i v) e ht
 have k2 := fun e => settle_s K i hi v (.s2 i v) (.s3 i v) (.inl (true, v)) (fun _ => rfl) (fun _ => rfl) e
 have k3 := fun e => get_s K i hi (.s4 i) (.s5 i) (.inl (false, 0)) (fun y => .inl (false, y)) (fun _ => rfl) (fun _ => rfl) e
 unfold LW
 unfold onP at *
 have hp1 := fun w => run_eql_ptr (P := Try.prog) 35 undOnce (some ⟨cb, i * 3, none⟩) w
 have hp2 := fun w es => ev_eql_ptr (P := Try.prog) 35 undOnce (some ⟨cb, i * 3, none⟩) w es
 simp only [Option.isNone_some] at hp1
 rw [enter_at _ Try.func41 code41_is]
 simp only [Try.ntmps41, ez, Nat.reduceAdd, Nat.reduceSub]
 repeat (first | refine Walk.cx ?_ | (refine Walk.cReg ?_; simp only [z41]) | (refine Walk.oq ?_; try walk_nrm) | (refine Walk.un ?_; walk_nrm))
 refine LW.callS (K := K.toLb) (e := e) (l := fr :: l) (f := 66) (Q := ClaimOut K i e (.s1 i v)) ?_ (ho_of (by conv => lhs; whnf) (by kernel_rfl)) (by rfl) (by decide) rfl Try.func66 (by kernel_rfl) (by rfl) ⟨rfl, rfl, _, Try.func41⟩ (plain_cons hp hl) ?_
 ·walk_nrm
  exact k1
 rintro x e1 ⟨s, ⟨hs, rfl, hw⟩ | ⟨hs, rfl, hw⟩⟩
 ·have ht1 : K.tgt e1 = (K.s e1, .inr (.s2 i v)) := by
   rw [hw.s]; exact hw.tgt.trans (show onAct s (.s1 i v) = ({ s with st := upd s.st i 1 }, .inr (.s2 i v)) from if_pos hs)
  unfold LW
  walk_nrm
  repeat (first | refine Walk.cx ?_ | (refine Walk.cReg ?_; simp only [z41]) | (refine Walk.oq ?_; try walk_nrm) | (refine Walk.un ?_; walk_nrm))
  refine LW.callS (K := K.toLb) (e := e1) (l := fr :: l) (f := 67) (Q := fun _ e' => K.tgt e' = (K.s e', .inl (true, v))) ?_ (ho_of (by conv => lhs; whnf) (by kernel_rfl)) (by rfl) (by decide) rfl Try.func67 (by kernel_rfl) (by rfl) ⟨rfl, rfl, _, Try.func41⟩ (plain_cons hp hl) ?_
  ·walk_nrm
   exact k2 e1 ht1
  intro x2 e2 ht2
  have hkk := hk (.tuple #[.int .i64 v, .bool true]) e2 ⟨_, _, rfl, ht2⟩
  unfold LW at hkk ⊢
  walk_nrm
  repeat (first | refine Walk.cx ?_ | (refine Walk.cReg ?_; simp only [z41]) | (refine Walk.oq ?_; try walk_nrm) | (refine Walk.un ?_; walk_nrm))
  exact Walk.on2 rfl rfl Try.func41 rfl hkk
 ·have ht1 : K.tgt e1 = (K.s e1, .inr (.s4 i)) := by
   rw [hw.s]; exact hw.tgt.trans (show onAct s (.s1 i v) = (s, .inr (.s4 i)) from if_neg hs)
  unfold LW
  walk_nrm
  repeat (first | refine Walk.cx ?_ | (refine Walk.cReg ?_; simp only [z41]) | (refine Walk.oq ?_; try walk_nrm) | (refine Walk.un ?_; walk_nrm))
  refine LW.callS (K := K.toLb) (e := e1) (l := fr :: l) (f := 40) (Q := GetOut K e1 (.inl (false, 0)) (fun y => .inl (false, y))) ?_ (ho_of (by conv => lhs; whnf) (by kernel_rfl)) (by rfl) (by decide) rfl Try.func40 (by kernel_rfl) (by rfl) ⟨rfl, rfl, _, Try.func41⟩ (plain_cons hp hl) ?_
  ·walk_nrm
   exact k3 e1 ht1
  rintro x2 e2 ⟨_, ⟨rfl, ht2⟩ | ⟨y, rfl, ht2⟩⟩
  ·have hkk := hk (.tuple #[.int .i64 0, .bool false]) e2 ⟨_, _, rfl, ht2⟩
   unfold LW at hkk ⊢
   walk_nrm
   repeat (first | refine Walk.cx ?_ | (refine Walk.cReg ?_; simp only [z41]) | (refine Walk.oq ?_; try walk_nrm) | (refine Walk.un ?_; walk_nrm))
   exact Walk.on2 rfl rfl Try.func41 rfl hkk
  ·have hkk := hk (.tuple #[.int .i64 y, .bool false]) e2 ⟨_, _, rfl, ht2⟩
   unfold LW at hkk ⊢
   walk_nrm
   repeat (first | refine Walk.cx ?_ | (refine Walk.cReg ?_; simp only [z41]) | (refine Walk.oq ?_; try walk_nrm) | (refine Walk.un ?_; walk_nrm))
   exact Walk.on2 rfl rfl Try.func41 rfl hkk
end
end
section
noncomputable def reg69_0 := rg Try.f69.body [0]
noncomputable def reg69_1 := rg Try.f69.body [1, 0]
noncomputable def reg69_2 := rg Try.f69.body [1, 1, 0]
noncomputable def reg69_3 := rg Try.f69.body [1, 1, 1, 0, 0]
noncomputable def reg69_4 := rg Try.f69.body [1, 1, 1, 0, 1, 0, 0]
noncomputable def reg69_5 := rg Try.f69.body [1, 1, 1, 0, 1, 0, 1, 0]
noncomputable def reg69_6 := rg Try.f69.body [1, 1, 1, 1, 0]
noncomputable def reg69_7 := rg Try.f69.body [1, 1, 1, 1, 1, 0]
theorem z69 : List.range reg69_0.size = [0, 1] ∧ List.range reg69_1.size = [0, 1, 2, 3, 4] ∧ List.range reg69_2.size = [0, 1, 2, 3, 4, 5, 6, 7] ∧ List.range reg69_3.size = [0, 1] ∧ List.range reg69_4.size = [0, 1, 2, 3, 4] ∧ List.range reg69_5.size = [0, 1] ∧ List.range reg69_6.size = [0, 1, 2, 3] ∧ List.range reg69_7.size = [0, 1, 2] := by refine ⟨?_, ?_, ?_, ?_, ?_, ?_, ?_, ?_⟩ <;> kernel_rfl
theorem code69_is : Try.f69.body = some (.seq (.region 0 reg69_0 false) (.seq (.region 1 reg69_1 false) (.seq (.region 2 reg69_2 false) (.seq (.seq (.region 3 reg69_3 false) (.cond (.tmp 22 ) (.seq (.region 4 reg69_4 false) (.seq (.region 5 reg69_5 false) (.ret))) (.skip))) (.seq (.region 6 reg69_6 false) (.seq (.region 7 reg69_7 false) (.ret))))))) := by kernel_rfl
noncomputable def reg42_0 := rg Try.f42.body [0]
noncomputable def reg42_1 := rg Try.f42.body [1, 0, 0]
noncomputable def reg42_2 := rg Try.f42.body [1, 0, 1, 0, 0]
noncomputable def reg42_3 := rg Try.f42.body [1, 1, 0, 0]
noncomputable def reg42_4 := rg Try.f42.body [1, 1, 0, 1, 0, 0]
noncomputable def reg42_5 := rg Try.f42.body [1, 1, 1, 0, 0]
noncomputable def reg42_6 := rg Try.f42.body [1, 1, 1, 0, 1, 0, 0, 0]
noncomputable def reg42_7 := rg Try.f42.body [1, 1, 1, 0, 1, 0, 0, 1, 1, 0, 0, 0, 0]
noncomputable def reg42_8 := rg Try.f42.body [1, 1, 1, 0, 1, 0, 0, 1, 1, 0, 0, 0, 1, 0]
noncomputable def reg42_9 := rg Try.f42.body [1, 1, 1, 0, 1, 0, 0, 1, 1, 0, 0, 0, 1, 1, 0, 0]
noncomputable def reg42_10 := rg Try.f42.body [1, 1, 1, 0, 1, 0, 0, 1, 1, 0, 0, 1, 0]
noncomputable def reg42_11 := rg Try.f42.body [1, 1, 1, 0, 1, 0, 0, 1, 1, 0, 0, 1, 1, 0, 0]
noncomputable def reg42_12 := rg Try.f42.body [1, 1, 1, 0, 1, 0, 0, 1, 1, 1]
noncomputable def reg42_13 := rg Try.f42.body [1, 1, 1, 1, 0]
theorem z42 : List.range reg42_0.size = [0, 1] ∧ List.range reg42_1.size = [0, 1] ∧ List.range reg42_2.size = [0, 1] ∧ List.range reg42_3.size = [0, 1] ∧ List.range reg42_4.size = [0, 1] ∧ List.range reg42_5.size = [0, 1, 2] ∧ List.range reg42_6.size = [0] ∧ List.range reg42_7.size = [0, 1, 2, 3, 4, 5, 6, 7] ∧ List.range reg42_8.size = [0] ∧ List.range reg42_9.size = [0, 1, 2] ∧ List.range reg42_10.size = [0, 1, 2] ∧ List.range reg42_11.size = [0, 1, 2, 3, 4, 5, 6, 7] ∧ List.range reg42_12.size = [0, 1] ∧ List.range reg42_13.size = [0, 1] := by refine ⟨?_, ?_, ?_, ?_, ?_, ?_, ?_, ?_, ?_, ?_, ?_, ?_, ?_, ?_⟩ <;> kernel_rfl
theorem code42_is : Try.f42.body = some (.seq (.region 0 reg42_0 false) (.seq (.seq (.region 1 reg42_1 false) (.cond (.tmp 13 ) (.seq (.region 2 reg42_2 false) (.ret)) (.skip))) (.seq (.seq (.region 3 reg42_3 false) (.cond (.tmp 15 ) (.seq (.region 4 reg42_4 false) (.ret)) (.skip))) (.seq (.seq (.region 5 reg42_5 false) (.block 0 (.loop (.seq (.region 6 reg42_6 false) (.seq (.cond (.tmp 19 ) (.skip) (.exit 0)) (.seq (.block 1 (.seq (.seq (.region 7 reg42_7 false) (.seq (.region 8 reg42_8 false) (.cond (.tmp 26 ) (.seq (.region 9 reg42_9 false) (.ret)) (.skip)))) (.seq (.region 10 reg42_10 false) (.cond (.tmp 30 ) (.seq (.region 11 reg42_11 false) (.ret)) (.skip))))) (.region 12 reg42_12 false))))))) (.seq (.region 13 reg42_13 false) (.ret)))))) := by kernel_rfl
noncomputable def hdMake (o sv tr mk : Value) (N j : Nat) (u : Nat → Value) : Frame :=
 (base 42).at { tmps := #[o, sv, tr, mk, u 4, u 5, u 6, u 7, .int .i64 0, .int .i64 0, u 10, u 11, u 12, u 13, u 14, u 15, u 16, .int .i64 N, .int .i64 j, u 19, u 20, u 21, u 22, u 23, u 24, u 25, u 26, u 27, u 28, u 29, u 30, u 31, u 32, u 33, u 34, u 35, u 36, u 37], defers := [] } [.code (.seq (.region 6 reg42_6 false) (.seq (.cond (.tmp 19 ) (.skip) (.exit 0)) (.seq (.block 1 (.seq (.seq (.region 7 reg42_7 false) (.seq (.region 8 reg42_8 false) (.cond (.tmp 26 ) (.seq (.region 9 reg42_9 false) (.ret)) (.skip)))) (.seq (.region 10 reg42_10 false) (.cond (.tmp 30 ) (.seq (.region 11 reg42_11 false) (.ret)) (.skip))))) (.region 12 reg42_12 false)))), .inLoop (.seq (.region 6 reg42_6 false) (.seq (.cond (.tmp 19 ) (.skip) (.exit 0)) (.seq (.block 1 (.seq (.seq (.region 7 reg42_7 false) (.seq (.region 8 reg42_8 false) (.cond (.tmp 26 ) (.seq (.region 9 reg42_9 false) (.ret)) (.skip)))) (.seq (.region 10 reg42_10 false) (.cond (.tmp 30 ) (.seq (.region 11 reg42_11 false) (.ret)) (.skip))))) (.region 12 reg42_12 false)))), .inBlock 0, .code (.seq (.region 13 reg42_13 false) (.ret))]
section
variable {cb m : Nat} {sv : Value}
def MkOut (K : Lg (onLa cb m) sv) (i : Nat) (x : Value) (e' : K.E) : Prop :=
 (∃ y, x = .tuple #[.int .i64 y, .bool true] ∧ K.tgt e' = (K.s e', .inr (.m6 i y))) ∨ (∃ y, x = .tuple #[.int .i64 y, .bool false] ∧ K.tgt e' = (K.s e', .inr (.m8 i)))
def MkOK (K : Lg (onLa cb m) sv) (q : Bool) (i : Nat) (v : Int) (fm : FuncId) (caps : Array Value) : Prop :=
 ∀ e : K.E, K.tgt e = (K.s e, .inr (if q then .m8 i else .m5 i v)) → SCall K.toLb fm (#[] ++ #[sv] ++ caps) e (MkOut K i)
def MakeOut (K : Lg (onLa cb m) sv) (x : Value) (e' : K.E) : Prop :=
 ∃ y n, x = .tuple #[.int .i64 y, .int .i64 n] ∧ ((n = 0 ∧ K.tgt e' = (K.s e', .inl (true, y))) ∨ (n = 4 ∧ y = 0 ∧ K.tgt e' = (K.s e', .inl (false, -4))) ∨ (n = 6 ∧ y = 0 ∧ K.tgt e' = (K.s e', .inl (false, -6))))
theorem ocall_s (K : Lg (onLa cb m) sv) (q : Bool) (i : Nat) (hi : i < m) (v : Int) (fm : FuncId) (fn : Func) (caps : Array Value) (hf : Try.prog.funcs[fm]? = some fn) (hname : (fn.name == "runtime.NumGoroutine") = false) (hb : fn.body.isNone = false) (hmk : MkOK K q i v fm caps)
  (e : K.E) (ht : K.tgt e = (K.s e, .inr (.m4 q i v))) : SCall K.toLb 69 #[onP cb i, sv, .func (.func fm) #[] caps] e (MakeOut K) := by
 intro fr l hp hl hk
 have k1 := word_add K (ctW i hi) e (.m4 q i v) 1 (fun _ => trivial) ht
 have k2 := fun e y => settle_s K i hi y (.m6 i y) (.m7 i y) (.inl (true, y)) (fun _ => rfl) (fun _ => rfl) e
 have k3 := fun e => word_store K (stW i hi) e (.m8 i) 0 trivial
 unfold Wd.p at k1 k3
 unfold LW
 unfold onP at *
 rw [enter_at _ Try.func69 code69_is]
 simp only [Try.ntmps69, ez, Nat.reduceAdd, Nat.reduceSub]
 repeat (first | refine Walk.cx ?_ | (refine Walk.cReg ?_; simp only [z69]) | (refine Walk.oq ?_; try walk_nrm) | (refine Walk.un ?_; walk_nrm))
 refine LW.callS (K := K.toLb) (e := e) (l := fr :: l) (f := 89) (Q := fun v' e' => ∃ s : Oz, v' = .int .i64 (IntKind.i64.wrap (s.ct i + 1)) ∧ Wrote K e (.m4 q i v) s ({ s with ct := upd s.ct i (IntKind.i64.wrap (s.ct i + 1)) } : Oz) e') ?_ (ho_of (by conv => lhs; whnf) (by kernel_rfl)) (by rfl) (by decide) rfl Try.func89 (by kernel_rfl) (by rfl) ⟨rfl, rfl, _, Try.func69⟩ (plain_cons hp hl) ?_
 ·walk_nrm
  exact k1
 rintro x1 e1 ⟨s, rfl, hw⟩
 have ht1 : K.tgt e1 = (K.s e1, .inr (if q then .m8 i else .m5 i v)) := by rw [hw.s]; exact hw.tgt
 generalize IntKind.i64.wrap (s.ct i + 1) = cc
 unfold LW
 walk_nrm
 repeat (first | refine Walk.cx ?_ | (refine Walk.cReg ?_; simp only [z69]) | (refine Walk.oq ?_; try walk_nrm) | (refine Walk.un ?_; walk_nrm))
 refine Walk.ctl rfl (fun w' => stepG_callValue (ho_of (by conv => lhs; whnf) (by kernel_rfl)) (by rfl) (by decide) rfl rfl hf hname hb) ?_
 walk_nrm
 generalize hX : Frame.at _ _ _ = X
 have hpX : Plain X := by subst hX; exact ⟨rfl, rfl, _, Try.func69⟩
 refine hmk e1 ht1 X (fr :: l) hpX (plain_cons hp hl) ?_
 rintro x2 e2 (⟨y, rfl, ht2⟩ | ⟨y, rfl, ht2⟩)
 ·rw [← hX]
  clear hX hpX
  unfold LW
  refine Walk.finish (ho_of (by conv => lhs; whnf) (by kernel_rfl)) ?_
  walk_nrm
  repeat (first | refine Walk.cx ?_ | (refine Walk.cReg ?_; simp only [z69]) | (refine Walk.oq ?_; try walk_nrm) | (refine Walk.un ?_; walk_nrm))
  refine LW.callS (K := K.toLb) (e := e2) (l := fr :: l) (f := 67) (Q := fun _ e' => K.tgt e' = (K.s e', .inl (true, y))) ?_ (ho_of (by conv => lhs; whnf) (by kernel_rfl)) (by rfl) (by decide) rfl Try.func67 (by kernel_rfl) (by rfl) ⟨rfl, rfl, _, Try.func69⟩ (plain_cons hp hl) ?_
  ·walk_nrm
   exact k2 e2 y ht2
  intro x3 e3 ht3
  have hkk := hk (.tuple #[.int .i64 y, .int .i64 0]) e3 ⟨_, _, rfl, .inl ⟨rfl, ht3⟩⟩
  unfold LW at hkk ⊢
  walk_nrm
  repeat (first | refine Walk.cx ?_ | (refine Walk.cReg ?_; simp only [z69]) | (refine Walk.oq ?_; try walk_nrm) | (refine Walk.un ?_; walk_nrm))
  exact Walk.on2 rfl rfl Try.func69 rfl hkk
 ·rw [← hX]
  clear hX hpX
  unfold LW
  refine Walk.finish (ho_of (by conv => lhs; whnf) (by kernel_rfl)) ?_
  walk_nrm
  repeat (first | refine Walk.cx ?_ | (refine Walk.cReg ?_; simp only [z69]) | (refine Walk.oq ?_; try walk_nrm) | (refine Walk.un ?_; walk_nrm))
  refine LW.callS (K := K.toLb) (e := e2) (l := fr :: l) (f := 88) (Q := fun _ e' => ∃ s : Oz, Wrote K e2 (.m8 i) s ({ s with st := upd s.st i 0 } : Oz) e') ?_ (ho_of (by conv => lhs; whnf) (by kernel_rfl)) (by rfl) (by decide) rfl Try.func88 (by kernel_rfl) (by rfl) ⟨rfl, rfl, _, Try.func69⟩ (plain_cons hp hl) ?_
  ·walk_nrm
   exact k3 e2 ht2
  rintro x3 e3 ⟨s3, hw3⟩
  have ht3 : K.tgt e3 = (K.s e3, .inl (false, -6)) := by rw [hw3.s]; exact hw3.tgt
  have hkk := hk (.tuple #[.int .i64 0, .int .i64 6]) e3 ⟨_, _, rfl, .inr (.inr ⟨rfl, rfl, ht3⟩)⟩
  unfold LW at hkk ⊢
  walk_nrm
  repeat (first | refine Walk.cx ?_ | (refine Walk.cReg ?_; simp only [z69]) | (refine Walk.oq ?_; try walk_nrm) | (refine Walk.un ?_; walk_nrm))
  exact Walk.on2 rfl rfl Try.func69 rfl hkk
def lpT (q : Bool) (i : Nat) (v : Int) (r : Nat) : Ans ⊕ OD := if r = 0 then .inl (false, -4) else .inr (.m1 q i v r)
theorem make_round (K : Lg (onLa cb m) sv) (q : Bool) (i : Nat) (hi : i < m) (v : Int) (fm : FuncId) (fn : Func) (caps : Array Value) (hf : Try.prog.funcs[fm]? = some fn) (hname : (fn.name == "runtime.NumGoroutine") = false) (hb : fn.body.isNone = false) (hmk : MkOK K q i v fm caps)
  (tr : Value) (N : Nat) (hN : N ≤ 1024) (fr : Frame) (l : List Frame) (hp : Plain fr) (hl : ∀ f ∈ l, Plain f) (hk : ∀ x e', MakeOut K x e' → LW K.toLb e' (G (fr.finish x) (l ++ K.bot e'))) (j : Nat) (hj : j < N) (e : K.E) (u : Nat → Value) (ht : K.tgt e = (K.s e, .inr (.m1 q i v (N - j))))
  (ih : ∀ (e' : K.E) (u : Nat → Value), K.tgt e' = (K.s e', lpT q i v (N - (j + 1))) → LW K.toLb e' (G (hdMake (onP cb i) sv tr (.func (.func fm) #[] caps) N (j + 1) u) (fr :: (l ++ K.bot e')))) :
  LW K.toLb e (G (hdMake (onP cb i) sv tr (.func (.func fm) #[] caps) N j u) (fr :: (l ++ K.bot e))) := by
 have k1 := get_s K i hi (.m1 q i v (N - j)) (.m2 i) (.inr (.m3 q i v (N - j))) (fun y => .inl (true, y)) (fun _ => rfl) (fun _ => rfl) e ht
 have k2 := fun e => claim_s K i hi (.m3 q i v (N - j)) e
 have k3 := fun e => ocall_s K q i hi v fm fn caps hf hname hb hmk e
 have hj1 : decide ((j : Int) < N) = true := by simp; omega
 have hj3 : decide (j < N) = true := by simp; omega
 have hj4 : (j : Int) < N := by omega
 have hw1 : IntKind.wrap .i64 ((j : Int) + 1) = ((j + 1 : Nat) : Int) := by rw [IntKind.wrap_i64]; omega
 generalize hr : N - j = r at *
 unfold LW hdMake
 unfold onP at *
 repeat (first | refine Walk.cx ?_ | (refine Walk.cReg ?_; simp only [z42]) | (refine Walk.oq ?_; try walk_nrm) | (refine Walk.un ?_; walk_nrm))
 refine LW.callS (K := K.toLb) (e := e) (l := fr :: l) (f := 40) (Q := GetOut K e (.inr (.m3 q i v r)) (fun y => .inl (true, y))) ?_ (ho_of (by conv => lhs; whnf) (by kernel_rfl)) (by rfl) (by decide) rfl Try.func40 (by kernel_rfl) (by rfl) ⟨rfl, rfl, _, Try.func42⟩ (plain_cons hp hl) ?_
 ·walk_nrm
  exact k1
 rintro x1 e1 ⟨_, ⟨rfl, ht1⟩ | ⟨y, rfl, ht1⟩⟩
 ·unfold LW
  walk_nrm
  repeat (first | refine Walk.cx ?_ | (refine Walk.cReg ?_; simp only [z42]) | (refine Walk.oq ?_; try walk_nrm) | (refine Walk.un ?_; walk_nrm))
  refine LW.callS (K := K.toLb) (e := e1) (l := fr :: l) (f := 66) (Q := ClaimOut K i e1 (.m3 q i v r)) ?_ (ho_of (by conv => lhs; whnf) (by kernel_rfl)) (by rfl) (by decide) rfl Try.func66 (by kernel_rfl) (by rfl) ⟨rfl, rfl, _, Try.func42⟩ (plain_cons hp hl) ?_
  ·walk_nrm
   exact k2 e1 ht1
  rintro x2 e2 ⟨s, ⟨hs, rfl, hw⟩ | ⟨hs, rfl, hw⟩⟩
  ·have ht2 : K.tgt e2 = (K.s e2, .inr (.m4 q i v)) := by
    rw [hw.s]; exact hw.tgt.trans (show onAct s (.m3 q i v r) = ({ s with st := upd s.st i 1 }, .inr (.m4 q i v)) from if_pos hs)
   unfold LW
   walk_nrm
   repeat (first | refine Walk.cx ?_ | (refine Walk.cReg ?_; simp only [z42]) | (refine Walk.oq ?_; try walk_nrm) | (refine Walk.un ?_; walk_nrm))
   refine LW.callS (K := K.toLb) (e := e2) (l := fr :: l) (f := 69) (Q := MakeOut K) ?_ (ho_of (by conv => lhs; whnf) (by kernel_rfl)) (by rfl) (by decide) rfl Try.func69 (by kernel_rfl) (by rfl) ⟨rfl, rfl, _, Try.func42⟩ (plain_cons hp hl) ?_
   ·walk_nrm
    exact k3 e2 ht2
   rintro x3 e3 ⟨y, n, rfl, h3⟩
   have hkk := hk (.tuple #[.int .i64 y, .int .i64 n]) e3 ⟨_, _, rfl, h3⟩
   unfold LW at hkk ⊢
   walk_nrm
   repeat (first | refine Walk.cx ?_ | (refine Walk.cReg ?_; simp only [z42]) | (refine Walk.oq ?_; try walk_nrm) | (refine Walk.un ?_; walk_nrm))
   exact Walk.on2 rfl rfl Try.func42 rfl hkk
  ·have ht2 : K.tgt e2 = (K.s e2, lpT q i v (N - (j + 1))) := by
    rw [hw.s]
    refine hw.tgt.trans ?_
    show onAct s (.m3 q i v r) = _
    simp only [onAct, lpT]
    rw [if_neg hs]
    by_cases h1 : r ≤ 1
    ·rw [if_pos h1, if_pos (by omega)]; rfl
    ·rw [if_neg h1, if_neg (by omega)]
     have : r - 1 = N - (j + 1) := by omega
     rw [this]
     rfl
   unfold LW
   walk_nrm
   repeat (first | refine Walk.cx ?_ | (refine Walk.cReg ?_; simp only [z42]) | (refine Walk.oq ?_; try walk_nrm) | (refine Walk.un ?_; walk_nrm))
   refine Walk.ctl rfl (fun w => stepG_inLoop) ?_
   refine slots_walk (F := fun u => G (hdMake (.pointer (some ⟨cb, i * 3, none⟩)) sv tr (.func (.func fm) #[] caps) N (j + 1) u) (fr :: (l ++ K.bot e2))) (fun u => ih e2 u ht2) ?_
   simp only [hdMake]
   rfl
 ·have hkk := hk (.tuple #[.int .i64 y, .int .i64 0]) e1 ⟨_, _, rfl, .inl ⟨rfl, ht1⟩⟩
  unfold LW at hkk ⊢
  walk_nrm
  repeat (first | refine Walk.cx ?_ | (refine Walk.cReg ?_; simp only [z42]) | (refine Walk.oq ?_; try walk_nrm) | (refine Walk.un ?_; walk_nrm))
  exact Walk.on2 rfl rfl Try.func42 rfl hkk
theorem make_end (K : Lg (onLa cb m) sv) (o tr mk : Value) (N : Nat) (fr : Frame) (l : List Frame) (hk : ∀ x e', MakeOut K x e' → LW K.toLb e' (G (fr.finish x) (l ++ K.bot e'))) (e : K.E) (u : Nat → Value) (ht : K.tgt e = (K.s e, .inl (false, -4))) :
  LW K.toLb e (G (hdMake o sv tr mk N N u) (fr :: (l ++ K.bot e))) := by
 have hj3 : decide (N < N) = false := by simp
 have hkk := hk (.tuple #[.int .i64 0, .int .i64 4]) e ⟨_, _, rfl, .inr (.inl ⟨rfl, rfl, ht⟩)⟩
 unfold LW hdMake
 unfold LW at hkk
 repeat (first | refine Walk.cx ?_ | (refine Walk.cReg ?_; simp only [z42]) | (refine Walk.oq ?_; try walk_nrm) | (refine Walk.un ?_; walk_nrm))
 exact Walk.on2 rfl rfl Try.func42 rfl hkk
theorem make_loop (K : Lg (onLa cb m) sv) (q : Bool) (i : Nat) (hi : i < m) (v : Int) (fm : FuncId) (fn : Func) (caps : Array Value) (hf : Try.prog.funcs[fm]? = some fn) (hname : (fn.name == "runtime.NumGoroutine") = false) (hb : fn.body.isNone = false) (hmk : MkOK K q i v fm caps)
  (tr : Value) (N : Nat) (hN : N ≤ 1024) (fr : Frame) (l : List Frame) (hp : Plain fr) (hl : ∀ f ∈ l, Plain f) (hk : ∀ x e', MakeOut K x e' → LW K.toLb e' (G (fr.finish x) (l ++ K.bot e'))) :
  ∀ (r j : Nat) (e : K.E) (u : Nat → Value), j + r = N → K.tgt e = (K.s e, lpT q i v r) → LW K.toLb e (G (hdMake (onP cb i) sv tr (.func (.func fm) #[] caps) N j u) (fr :: (l ++ K.bot e))) := by
 intro r
 induction r with
 | zero =>
  intro j e u hj ht
  obtain rfl : j = N := by omega
  exact make_end K _ tr _ _ fr l hk e u ht
 | succ r ih =>
  intro j e u hj ht
  have h1 : N - j = r + 1 := by omega
  have h2 : N - (j + 1) = r := by omega
  refine make_round K q i hi v fm fn caps hf hname hb hmk tr N hN fr l hp hl hk j (by omega) e u (by rw [h1]; exact ht) fun e' u' ht' => ih (j + 1) e' u' (by omega) ?_
  rw [h2] at ht'
  exact ht'
end
end
end Go.Proofs.Ytdcjgmlgmjjogaa
