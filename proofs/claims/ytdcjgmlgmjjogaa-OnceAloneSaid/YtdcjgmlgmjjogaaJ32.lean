/- Part 32. -/
import Derived.Test.YtdcjgmlgmjjogaaJ31
set_option linter.unusedSimpArgs false
set_option linter.unusedVariables false
set_option maxHeartbeats 8000000
set_option maxRecDepth 100000
namespace Go.Proofs.Ytdcjgmlgmjjogaa
open Go.Conc Go.RowKit Go.Relay
open Go.ConcN (upd upd_ne upd_same)
section
noncomputable def reg64_0 := rg Try.f64.body [0]
noncomputable def reg64_1 := rg Try.f64.body [1, 0]
noncomputable def reg64_2 := rg Try.f64.body [1, 1, 0, 0]
noncomputable def reg64_3 := rg Try.f64.body [1, 1, 0, 1, 0, 0]
noncomputable def reg64_4 := rg Try.f64.body [1, 1, 0, 1, 0, 1, 0]
noncomputable def reg64_5 := rg Try.f64.body [1, 1, 0, 1, 0, 1, 1, 0]
noncomputable def reg64_6 := rg Try.f64.body [1, 1, 0, 1, 1, 0]
noncomputable def reg64_7 := rg Try.f64.body [1, 1, 0, 1, 1, 1, 0]
noncomputable def reg64_8 := rg Try.f64.body [1, 1, 0, 1, 1, 1, 1, 0]
noncomputable def reg64_9 := rg Try.f64.body [1, 1, 0, 1, 1, 1, 1, 1, 0, 0, 0]
noncomputable def reg64_10 := rg Try.f64.body [1, 1, 0, 1, 1, 1, 1, 1, 0, 0, 1, 0, 0]
noncomputable def reg64_11 := rg Try.f64.body [1, 1, 0, 1, 1, 1, 1, 1, 0, 0, 1, 0, 1, 0]
noncomputable def reg64_12 := rg Try.f64.body [1, 1, 0, 1, 1, 1, 1, 1, 0, 1, 0]
noncomputable def reg64_13 := rg Try.f64.body [1, 1, 0, 1, 1, 1, 1, 1, 0, 1, 1, 0]
theorem size64_13 : reg64_13.size = 11 := by kernel_rfl
noncomputable def reg64_14 := rg Try.f64.body [1, 1, 0, 1, 1, 1, 1, 1, 0, 1, 1, 1, 0]
noncomputable def reg64_15 := rg Try.f64.body [1, 1, 0, 1, 1, 1, 1, 1, 0, 1, 1, 1, 1, 0]
noncomputable def reg64_16 := rg Try.f64.body [1, 1, 0, 1, 1, 1, 1, 1, 1, 0]
noncomputable def reg64_17 := rg Try.f64.body [1, 1, 0, 1, 1, 1, 1, 1, 1, 1, 0, 0]
noncomputable def reg64_18 := rg Try.f64.body [1, 1, 0, 1, 1, 1, 1, 1, 1, 1, 0, 1, 0]
noncomputable def reg64_19 := rg Try.f64.body [1, 1, 0, 1, 1, 1, 1, 1, 1, 1, 0, 1, 1, 0]
noncomputable def reg64_20 := rg Try.f64.body [1, 1, 0, 1, 1, 1, 1, 1, 1, 1, 0, 1, 1, 1, 0]
noncomputable def reg64_21 := rg Try.f64.body [1, 1, 0, 1, 1, 1, 1, 1, 1, 1, 1, 0]
noncomputable def reg64_22 := rg Try.f64.body [1, 1, 0, 1, 1, 1, 1, 1, 1, 1, 1, 1, 0, 0]
theorem size64_22 : reg64_22.size = 12 := by kernel_rfl
noncomputable def reg64_23 := rg Try.f64.body [1, 1, 0, 1, 1, 1, 1, 1, 1, 1, 1, 1, 0, 1]
noncomputable def reg64_24 := rg Try.f64.body [1, 1, 0, 1, 1, 1, 1, 1, 1, 1, 1, 1, 1, 0]
noncomputable def reg64_25 := rg Try.f64.body [1, 1, 0, 1, 1, 1, 1, 1, 1, 1, 1, 1, 1, 1, 0, 0]
noncomputable def reg64_26 := rg Try.f64.body [1, 1, 0, 1, 1, 1, 1, 1, 1, 1, 1, 1, 1, 1, 0, 1]
noncomputable def reg64_27 := rg Try.f64.body [1, 1, 0, 1, 1, 1, 1, 1, 1, 1, 1, 1, 1, 1, 1, 0]
noncomputable def reg64_28 := rg Try.f64.body [1, 1, 0, 1, 1, 1, 1, 1, 1, 1, 1, 1, 1, 1, 1, 1, 0, 0]
noncomputable def reg64_29 := rg Try.f64.body [1, 1, 0, 1, 1, 1, 1, 1, 1, 1, 1, 1, 1, 1, 1, 1, 0, 1]
noncomputable def reg64_30 := rg Try.f64.body [1, 1, 0, 1, 1, 1, 1, 1, 1, 1, 1, 1, 1, 1, 1, 1, 1, 0]
noncomputable def reg64_31 := rg Try.f64.body [1, 1, 0, 1, 1, 1, 1, 1, 1, 1, 1, 1, 1, 1, 1, 1, 1, 1, 0, 0]
noncomputable def reg64_32 := rg Try.f64.body [1, 1, 0, 1, 1, 1, 1, 1, 1, 1, 1, 1, 1, 1, 1, 1, 1, 1, 0, 1]
theorem z64 : List.range reg64_0.size = [0] ∧ List.range reg64_1.size = [0, 1, 2, 3] ∧ List.range reg64_2.size = [0, 1] ∧ List.range reg64_3.size = [0, 1, 2, 3] ∧ List.range reg64_4.size = [0, 1, 2, 3, 4] ∧ List.range reg64_5.size = [0, 1, 2, 3] ∧ List.range reg64_6.size = [0, 1] ∧ List.range reg64_7.size = [0, 1, 2, 3, 4, 5] ∧ List.range reg64_8.size = [0, 1] ∧ List.range reg64_9.size = [0, 1, 2, 3, 4] ∧ List.range reg64_10.size = [0, 1, 2, 3] ∧ List.range reg64_11.size = [0, 1, 2, 3] ∧ List.range reg64_12.size = [0, 1, 2, 3] ∧ List.range reg64_13.size = [0, 1, 2, 3, 4, 5, 6, 7, 8, 9, 10] ∧ List.range reg64_14.size = [0, 1, 2, 3, 4, 5] ∧ List.range reg64_15.size = [0, 1] ∧ List.range reg64_16.size = [0, 1] ∧ List.range reg64_17.size = [0, 1, 2, 3, 4, 5, 6, 7, 8] ∧ List.range reg64_18.size = [0, 1, 2, 3] ∧ List.range reg64_19.size = [0, 1, 2] ∧ List.range reg64_20.size = [0, 1, 2, 3] ∧ List.range reg64_21.size = [0, 1] ∧ List.range reg64_22.size = [0, 1, 2, 3, 4, 5, 6, 7, 8, 9, 10, 11] ∧ List.range reg64_23.size = [0, 1, 2, 3] ∧ List.range reg64_24.size = [0, 1] ∧ List.range reg64_25.size = [0, 1, 2, 3, 4, 5, 6, 7, 8] ∧ List.range reg64_26.size = [0, 1, 2, 3] ∧ List.range reg64_27.size = [0, 1] ∧ List.range reg64_28.size = [0, 1, 2, 3] ∧ List.range reg64_29.size = [0, 1, 2, 3, 4, 5, 6] ∧ List.range reg64_30.size = [0, 1] ∧ List.range reg64_31.size = [0, 1, 2, 3] ∧ List.range reg64_32.size = [0, 1] := by refine ⟨?_, ?_, ?_, ?_, ?_, ?_, ?_, ?_, ?_, ?_, ?_, ?_, ?_, ?_, ?_, ?_, ?_, ?_, ?_, ?_, ?_, ?_, ?_, ?_, ?_, ?_, ?_, ?_, ?_, ?_, ?_, ?_, ?_⟩ <;> kernel_rfl
theorem code64_is : Try.f64.body = some (.seq (.region 0 reg64_0 false) (.seq (.region 1 reg64_1 false) (.block 0 (.seq (.region 2 reg64_2 false) (.cond (.tmp 12 ) (.seq (.region 3 reg64_3 false) (.seq (.region 4 reg64_4 false) (.cond (.tmp 21 ) (.region 5 reg64_5 false) (.skip)))) (.seq (.region 6 reg64_6 false) (.cond (.tmp 25 ) (.region 7 reg64_7 false) (.seq (.region 8 reg64_8 false) (.cond (.tmp 33 ) (.seq (.seq (.region 9 reg64_9 false) (.cond (.tmp 39 ) (.seq (.region 10 reg64_10 false) (.seq (.region 11 reg64_11 false) (.ret))) (.skip))) (.seq (.region 12 reg64_12 false) (.seq (.region 13 reg64_13 true) (.seq (.region 14 reg64_14 false) (.cond (.tmp 64 ) (.region 15 reg64_15 false) (.skip)))))) (.seq (.region 16 reg64_16 false) (.cond (.tmp 67 ) (.seq (.region 17 reg64_17 false) (.seq (.region 18 reg64_18 false) (.seq (.region 19 reg64_19 false) (.cond (.tmp 82 ) (.region 20 reg64_20 false) (.skip))))) (.seq (.region 21 reg64_21 false) (.cond (.tmp 86 ) (.seq (.region 22 reg64_22 true) (.region 23 reg64_23 false)) (.seq (.region 24 reg64_24 false) (.cond (.tmp 102 ) (.seq (.region 25 reg64_25 false) (.region 26 reg64_26 false)) (.seq (.region 27 reg64_27 false) (.cond (.tmp 115 ) (.seq (.region 28 reg64_28 false) (.region 29 reg64_29 false)) (.seq (.region 30 reg64_30 false) (.cond (.tmp 127 ) (.seq (.region 31 reg64_31 false) (.region 32 reg64_32 false)) (.skip)))))))))))))))))))) := by kernel_rfl
section
variable {main : Bool} {Sm St : Nat → Prop} {m cb n cc : Nat} {tl : Value} {b : Nat} {ops : List OpV} {oa : Option Addr} {oc k : Nat} {o : OpV} {PC : Int} {N : Nat → Int} {ans : List Ans} {aa : Option Addr} {ac : Nat} {e : Bool} {s : Oz}
theorem make_m1 (w : World) (X : ThX St b ops oa oc (k : Nat) PC N ans aa ac e w) (M : OmX Sm m cb n cc tl s w) (hdis : ∀ g, Sm g → ¬ St g) (i : Nat) (q : Bool) (v : Int) (r : Nat) (hd : oR n o PC N (.m1 q i v r)) (hl : ops.length ≤ 65536) (hk : k ≤ 65536) (hal : ans.length = k) :
  CallW Try.prog main (fun _ => none) 64 #[.pointer (some ⟨m, 0, none⟩), .pointer (some ⟨b, 0, none⟩), opVal o, .pointer (some ⟨cb, i * 3, none⟩)] w (fun vz w' => vz = .tuple #[] ∧ MidR Sm St m cb n cc tl b ops oa oc k o ans e (onAct s (.m1 q i v r)) w w') := by
 intro c cs
 have hPC : PC = 30 := hd.1
 subst hPC
 have hi : i < n := hd.2.2.1
 have H0 := StW.begin (o := o) X M hdis
 simp only [opVal]
 rw [enter_at _ Try.func64 code64_is]
 simp only [Try.ntmps64, ez, Nat.reduceAdd, Nat.reduceSub]
 repeat (first | refine Walk.cx ?_ | (refine Walk.cReg ?_; simp only [z64]) | (refine Walk.oq ?_; try walk_nrm) | (refine Walk.un ?_; walk_nrm))
 (refine Walk.oa ?_; try walk_nrm)
 generalize hP : w.heap.size = P at *
 generalize w.alloc (.cells #[.int .i64 o.k, .int .i64 o.a, .int .i64 o.b, .int .i64 o.c] 34) = w1 at *
 have kP := tcP H0.th.blk
 have zP := frozen_of H0.th.blk 2
 have kS := H0.ma.stc hi
 have zS := H0.ma.z (i * 3)
 repeat (first | refine Walk.cx ?_ | (refine Walk.cReg ?_; simp only [z64]) | (refine Walk.oq ?_; try walk_nrm) | (refine Walk.un ?_; walk_nrm))
 (have hfr := fr0 b 2; refine Walk.os hfr kP ?_; clear hfr; try walk_nrm)
 have H1 := H0.pcS (32)
 clear kP zP kS zS X M H0
 generalize w1.setCell ⟨b, 2, none⟩ (.int .i64 (32)) = w2 at *
 try walk_nrm
 have kS := H1.ma.stc hi
 have zS := H1.ma.z (i * 3)
 have kP := tcP H1.th.blk
 have zP := frozen_of H1.th.blk 2
 by_cases h2 : s.st i = 2
 ·have hb2 : (s.st i == 2) = true := by simp [h2]
  repeat (first | refine Walk.cx ?_ | (refine Walk.cReg ?_; simp only [z64]) | (refine Walk.oq ?_; try walk_nrm) | (refine Walk.un ?_; walk_nrm))
  (have hfr := fr0 b 2; refine Walk.os hfr kP ?_; clear hfr; try walk_nrm)
  have H2 := H1.pcS (31)
  clear kS zS kP zP
  generalize w2.setCell ⟨b, 2, none⟩ (.int .i64 (31)) = w3 at *
  try walk_nrm
  repeat (first | refine Walk.cx ?_ | (refine Walk.cReg ?_; simp only [z64]) | (refine Walk.oq ?_; try walk_nrm) | (refine Walk.un ?_; walk_nrm))
  refine Walk.ctl rfl (fun w => stepG_leave rfl rfl Try.func64 (results_none rfl _ _ w) (events_results_none rfl _ _)) (.stop fun d => ⟨_, ⟨rfl, MidR.at ?_ d⟩, rfl⟩)
  rw [show onAct s (.m1 q i v r) = (s, .inr (.m2 i)) from if_pos h2]
  exact H2.on ⟨rfl, hd.2.1, hi⟩
 ·have hb2 : (s.st i == 2) = false := by simp [h2]
  repeat (first | refine Walk.cx ?_ | (refine Walk.cReg ?_; simp only [z64]) | (refine Walk.oq ?_; try walk_nrm) | (refine Walk.un ?_; walk_nrm))
  refine Walk.ctl rfl (fun w => stepG_leave rfl rfl Try.func64 (results_none rfl _ _ w) (events_results_none rfl _ _)) (.stop fun d => ⟨_, ⟨rfl, MidR.at ?_ d⟩, rfl⟩)
  rw [show onAct s (.m1 q i v r) = (s, .inr (.m3 q i v r)) from if_neg h2]
  exact H1.on ⟨rfl, hd.2.1, hi, hd.2.2.2⟩
theorem make_m2 (w : World) (X : ThX St b ops oa oc (k : Nat) PC N ans aa ac e w) (M : OmX Sm m cb n cc tl s w) (hdis : ∀ g, Sm g → ¬ St g) (i : Nat) (hd : oR n o PC N (.m2 i)) (hl : ops.length ≤ 65536) (hk : k ≤ 65536) (hal : ans.length = k) :
  CallW Try.prog main (fun _ => none) 64 #[.pointer (some ⟨m, 0, none⟩), .pointer (some ⟨b, 0, none⟩), opVal o, .pointer (some ⟨cb, i * 3, none⟩)] w (fun vz w' => vz = .tuple #[] ∧ MidR Sm St m cb n cc tl b ops oa oc k o ans e (onAct s (.m2 i)) w w') := by
 intro c cs
 have hPC : PC = 31 := hd.1
 subst hPC
 have hi : i < n := hd.2.2
 have H0 := StW.begin (o := o) X M hdis
 simp only [opVal]
 rw [enter_at _ Try.func64 code64_is]
 simp only [Try.ntmps64, ez, Nat.reduceAdd, Nat.reduceSub]
 repeat (first | refine Walk.cx ?_ | (refine Walk.cReg ?_; simp only [z64]) | (refine Walk.oq ?_; try walk_nrm) | (refine Walk.un ?_; walk_nrm))
 (refine Walk.oa ?_; try walk_nrm)
 generalize hP : w.heap.size = P at *
 generalize w.alloc (.cells #[.int .i64 o.k, .int .i64 o.a, .int .i64 o.b, .int .i64 o.c] 34) = w1 at *
 have kP := tcP H0.th.blk
 have zP := frozen_of H0.th.blk 2
 have kV := H0.ma.vlc hi
 have zV := H0.ma.z (i * 3 + 1)
 repeat (first | refine Walk.cx ?_ | (refine Walk.cReg ?_; simp only [z64]) | (refine Walk.oq ?_; try walk_nrm) | (refine Walk.un ?_; walk_nrm))
 refine Walk.callW (Post := fun v w' => v = .tuple #[] ∧ (∃ aa' ac', ThX (fun g => St g ∨ w1.heap.size ≤ g) b ops oa oc ((k + 1 : Nat) : Int) 0 (N) (ans ++ [(true, s.vl i)]) aa' ac' e w') ∧ Chg St w1 w') ?_ (ho_of (by conv => lhs; whnf) (by kernel_rfl)) (by rfl) (by decide) rfl Try.func85 (by kernel_rfl) (by rfl) ?_
 ·walk_nrm
  exact told_w true (s.vl i) w1 H0.th hk (by omega)
 rintro v wz ⟨rfl, hz⟩
 have HZ := H0.ends hdis hz
 walk_nrm
 repeat (first | refine Walk.cx ?_ | (refine Walk.cReg ?_; simp only [z64]) | (refine Walk.oq ?_; try walk_nrm) | (refine Walk.un ?_; walk_nrm))
 refine Walk.ctl rfl (fun w => stepG_leave rfl rfl Try.func64 (results_none rfl _ _ w) (events_results_none rfl _ _)) (.stop fun d => ⟨_, ⟨rfl, MidR.at ?_ d⟩, rfl⟩)
 exact HZ
theorem make_m3 (w : World) (X : ThX St b ops oa oc (k : Nat) PC N ans aa ac e w) (M : OmX Sm m cb n cc tl s w) (hdis : ∀ g, Sm g → ¬ St g) (i : Nat) (q : Bool) (v : Int) (r : Nat) (hd : oR n o PC N (.m3 q i v r)) (hl : ops.length ≤ 65536) (hk : k ≤ 65536) (hal : ans.length = k) :
  CallW Try.prog main (fun _ => none) 64 #[.pointer (some ⟨m, 0, none⟩), .pointer (some ⟨b, 0, none⟩), opVal o, .pointer (some ⟨cb, i * 3, none⟩)] w (fun vz w' => vz = .tuple #[] ∧ MidR Sm St m cb n cc tl b ops oa oc k o ans e (onAct s (.m3 q i v r)) w w') := by
 intro c cs
 have hPC : PC = 32 := hd.1
 subst hPC
 have hi : i < n := hd.2.2.1
 have H0 := StW.begin (o := o) X M hdis
 have hia0 := fun (a : Addr) (w : World) (es : Array Event) => events_indexAt_array (P := Try.prog) (w := w) (es := es) 156 2 8 a .i64 (0 : Int) (by kernel_rfl) ⟨by decide, by decide⟩
 have hia1 := fun (a : Addr) (w : World) (es : Array Event) => events_indexAt_array (P := Try.prog) (w := w) (es := es) 156 2 8 a .i64 (1 : Int) (by kernel_rfl) ⟨by decide, by decide⟩
 simp only [opVal]
 rw [enter_at _ Try.func64 code64_is]
 simp only [Try.ntmps64, ez, Nat.reduceAdd, Nat.reduceSub]
 repeat (first | refine Walk.cx ?_ | (refine Walk.cReg ?_; simp only [z64]) | (refine Walk.oq ?_; try walk_nrm) | (refine Walk.un ?_; walk_nrm))
 (refine Walk.oa ?_; try walk_nrm)
 generalize hP : w.heap.size = P at *
 generalize w.alloc (.cells #[.int .i64 o.k, .int .i64 o.a, .int .i64 o.b, .int .i64 o.c] 34) = w1 at *
 have kP := tcP H0.th.blk
 have zP := frozen_of H0.th.blk 2
 have kS := H0.ma.stc hi
 have zS := H0.ma.z (i * 3)
 by_cases h2 : s.st i = 0
 ·have hb2 : (s.st i == 0) = true := by simp [h2]
  repeat (first | refine Walk.cx ?_ | (refine Walk.cReg ?_; simp only [z64]) | (refine Walk.oq ?_; try walk_nrm) | (refine Walk.un ?_; walk_nrm))
  (have hfr := fr0 cb (i * 3); refine Walk.os hfr kS ?_; clear hfr; try walk_nrm)
  have H1 := H0.stS hdis hi (1)
  clear kS zS kP zP X M H0
  generalize w1.setCell ⟨cb, i * 3, none⟩ (.int .i64 (1)) = w2 at *
  try walk_nrm
  have kP := tcP H1.th.blk
  have zP := frozen_of H1.th.blk 2
  repeat (first | refine Walk.cx ?_ | (refine Walk.cReg ?_; simp only [z64]) | (refine Walk.oq ?_; try walk_nrm) | (refine Walk.un ?_; walk_nrm))
  (have hfr := fr0 b 2; refine Walk.os hfr kP ?_; clear hfr; try walk_nrm)
  have H2 := H1.pcS (33)
  clear kP zP
  generalize w2.setCell ⟨b, 2, none⟩ (.int .i64 (33)) = w3 at *
  try walk_nrm
  repeat (first | refine Walk.cx ?_ | (refine Walk.cReg ?_; simp only [z64]) | (refine Walk.oq ?_; try walk_nrm) | (refine Walk.un ?_; walk_nrm))
  refine Walk.ctl rfl (fun w => stepG_leave rfl rfl Try.func64 (results_none rfl _ _ w) (events_results_none rfl _ _)) (.stop fun d => ⟨_, ⟨rfl, MidR.at ?_ d⟩, rfl⟩)
  rw [show onAct s (.m3 q i v r) = ({ s with st := upd s.st i 1 }, .inr (.m4 q i v)) from if_pos h2]
  exact H2.on ⟨rfl, hd.2.1, hi, hd.2.2.2.1⟩
 ·have hb2 : (s.st i == 0) = false := by simp [h2]
  repeat (first | refine Walk.cx ?_ | (refine Walk.cReg ?_; simp only [z64]) | (refine Walk.oq ?_; try walk_nrm) | (refine Walk.un ?_; walk_nrm))
  (have hfr := fr0 b 2; refine Walk.os hfr kP ?_; clear hfr; try walk_nrm)
  have H1 := H0.pcS (30)
  clear kS zS kP zP X M H0
  generalize w1.setCell ⟨b, 2, none⟩ (.int .i64 (30)) = w2 at *
  try walk_nrm
  have hw1 : IntKind.i64.wrap ((r : Int) - 1) = ((r - 1 : Nat) : Int) := by have h1 := hd.2.2.2.2.2; rw [IntKind.wrap_i64]; omega
  have kM := (tc1 H1.th.blk).trans (congrArg (fun z => some (Value.int .i64 z)) hd.2.2.2.2.1)
  have zM := frozen_of H1.th.blk 4
  repeat (first | refine Walk.cx ?_ | (refine Walk.cReg ?_; simp only [z64]) | (refine Walk.oq ?_; try walk_nrm) | (refine Walk.un ?_; walk_nrm))
  (refine Walk.drawnL (by kernel_rfl) size64_13 (by kernel_rfl) (by kernel_rfl) (by kernel_rfl) (by decide) ?_; simp only [List.range, List.range.loop]; repeat (first | (refine Cm.oq ?_) | (refine Cm.unw (ho_of (by conv => lhs; whnf) (by kernel_rfl)) (by rfl) ?_; walk_nrm)))
  refine Cm.done ?_
  intro rest hr0
  (have hfr := fr0 b 4; refine Walk.os hfr kM ?_; clear hfr; try walk_nrm)
  refine hr0 _ _ ?_
  have H2 := H1.n1 (((r - 1 : Nat) : Int))
  clear kM zM
  generalize w2.setCell ⟨b, 4, none⟩ (.int .i64 (((r - 1 : Nat) : Int))) = w3 at *
  try walk_nrm
  have kM := (tc1 H2.th.blk).trans (congrArg (fun z => some (Value.int .i64 z)) (upd_same _ _ _))
  by_cases h1 : r ≤ 1
  ·have hb1 : (((r - 1 : Nat) : Int) == 0) = true := by simp; omega
   repeat (first | refine Walk.cx ?_ | (refine Walk.cReg ?_; simp only [z64]) | (refine Walk.oq ?_; try walk_nrm) | (refine Walk.un ?_; walk_nrm))
   refine Walk.callW (Post := fun v w' => v = .tuple #[] ∧ (∃ aa' ac', ThX (fun g => St g ∨ w3.heap.size ≤ g) b ops oa oc ((k + 1 : Nat) : Int) 0 (upd N 1 ((r - 1 : Nat) : Int)) (ans ++ [(false, -4)]) aa' ac' e w') ∧ Chg St w3 w') ?_ (ho_of (by conv => lhs; whnf) (by kernel_rfl)) (by rfl) (by decide) rfl Try.func85 (by kernel_rfl) (by rfl) ?_
   ·walk_nrm
    exact told_w false (-4) w3 H2.th hk (by omega)
   rintro v wz ⟨rfl, hz⟩
   have HZ := H2.ends hdis hz
   walk_nrm
   repeat (first | refine Walk.cx ?_ | (refine Walk.cReg ?_; simp only [z64]) | (refine Walk.oq ?_; try walk_nrm) | (refine Walk.un ?_; walk_nrm))
   refine Walk.ctl rfl (fun w => stepG_leave rfl rfl Try.func64 (results_none rfl _ _ w) (events_results_none rfl _ _)) (.stop fun d => ⟨_, ⟨rfl, MidR.at ?_ d⟩, rfl⟩)
   rw [show onAct s (.m3 q i v r) = (s, .inl (false, -4)) from (if_neg h2).trans (if_pos h1)]
   exact HZ
  ·have hb1 : (((r - 1 : Nat) : Int) == 0) = false := by simp; omega
   repeat (first | refine Walk.cx ?_ | (refine Walk.cReg ?_; simp only [z64]) | (refine Walk.oq ?_; try walk_nrm) | (refine Walk.un ?_; walk_nrm))
   refine Walk.ctl rfl (fun w => stepG_leave rfl rfl Try.func64 (results_none rfl _ _ w) (events_results_none rfl _ _)) (.stop fun d => ⟨_, ⟨rfl, MidR.at ?_ d⟩, rfl⟩)
   rw [show onAct s (.m3 q i v r) = (s, .inr (.m1 q i v (r - 1))) from (if_neg h2).trans (if_neg h1)]
   exact H2.on ⟨rfl, hd.2.1, hi, hd.2.2.2.1, upd_same _ _ _, by omega, by have := hd.2.2.2.2.2.2; omega⟩
theorem make_m4 (w : World) (X : ThX St b ops oa oc (k : Nat) PC N ans aa ac e w) (M : OmX Sm m cb n cc tl s w) (hdis : ∀ g, Sm g → ¬ St g) (i : Nat) (q : Bool) (v : Int) (hd : oR n o PC N (.m4 q i v)) (hl : ops.length ≤ 65536) (hk : k ≤ 65536) (hal : ans.length = k) :
  CallW Try.prog main (fun _ => none) 64 #[.pointer (some ⟨m, 0, none⟩), .pointer (some ⟨b, 0, none⟩), opVal o, .pointer (some ⟨cb, i * 3, none⟩)] w (fun vz w' => vz = .tuple #[] ∧ MidR Sm St m cb n cc tl b ops oa oc k o ans e (onAct s (.m4 q i v)) w w') := by
 intro c cs
 have hPC : PC = 33 := hd.1
 subst hPC
 have hi : i < n := hd.2.2.1
 have H0 := StW.begin (o := o) X M hdis
 simp only [opVal]
 rw [enter_at _ Try.func64 code64_is]
 simp only [Try.ntmps64, ez, Nat.reduceAdd, Nat.reduceSub]
 repeat (first | refine Walk.cx ?_ | (refine Walk.cReg ?_; simp only [z64]) | (refine Walk.oq ?_; try walk_nrm) | (refine Walk.un ?_; walk_nrm))
 (refine Walk.oa ?_; try walk_nrm)
 generalize hP : w.heap.size = P at *
 generalize w.alloc (.cells #[.int .i64 o.k, .int .i64 o.a, .int .i64 o.b, .int .i64 o.c] 34) = w1 at *
 have kP := tcP H0.th.blk
 have zP := frozen_of H0.th.blk 2
 have kC := H0.ma.ctc hi
 have zC := H0.ma.z (i * 3 + 2)
 repeat (first | refine Walk.cx ?_ | (refine Walk.cReg ?_; simp only [z64]) | (refine Walk.oq ?_; try walk_nrm) | (refine Walk.un ?_; walk_nrm))
 (have hfr := fr0 cb (i * 3 + 2); refine Walk.os hfr kC ?_; clear hfr; try walk_nrm)
 have H1 := H0.ctS hdis hi (IntKind.i64.wrap (s.ct i + 1))
 clear kP zP kC zC X M H0
 generalize w1.setCell ⟨cb, i * 3 + 2, none⟩ (.int .i64 (IntKind.i64.wrap (s.ct i + 1))) = w2 at *
 try walk_nrm
 have kP := tcP H1.th.blk
 have zP := frozen_of H1.th.blk 2
 repeat (first | refine Walk.cx ?_ | (refine Walk.cReg ?_; simp only [z64]) | (refine Walk.oq ?_; try walk_nrm) | (refine Walk.un ?_; walk_nrm))
 (have hfr := fr0 b 2; refine Walk.os hfr kP ?_; clear hfr; try walk_nrm)
 have H2 := H1.pcS (34)
 clear kP zP
 generalize w2.setCell ⟨b, 2, none⟩ (.int .i64 (34)) = w3 at *
 try walk_nrm
 have kP := tcP H2.th.blk
 have zP := frozen_of H2.th.blk 2
 have p0 := (cell_of H2.po 0).trans rfl
 have p2 := (cell_of H2.po 2).trans rfl
 rcases hd.2.2.2 with ⟨rfl, h4⟩ | ⟨rfl, h4, hv⟩
 ·have hb4 : (o.k == 4) = true := by simp [h4]
  repeat (first | refine Walk.cx ?_ | (refine Walk.cReg ?_; simp only [z64]) | (refine Walk.oq ?_; try walk_nrm) | (refine Walk.un ?_; walk_nrm))
  (have hfr := fr0 b 2; refine Walk.os hfr kP ?_; clear hfr; try walk_nrm)
  have H3 := H2.pcS (37)
  clear kP zP p0 p2
  generalize w3.setCell ⟨b, 2, none⟩ (.int .i64 (37)) = w4 at *
  try walk_nrm
  repeat (first | refine Walk.cx ?_ | (refine Walk.cReg ?_; simp only [z64]) | (refine Walk.oq ?_; try walk_nrm) | (refine Walk.un ?_; walk_nrm))
  refine Walk.ctl rfl (fun w => stepG_leave rfl rfl Try.func64 (results_none rfl _ _ w) (events_results_none rfl _ _)) (.stop fun d => ⟨_, ⟨rfl, MidR.at ?_ d⟩, rfl⟩)
  exact H3.on ⟨rfl, hd.2.1, hi⟩
 ·have hb4 : (o.k == 4) = false := by simp [h4]
  repeat (first | refine Walk.cx ?_ | (refine Walk.cReg ?_; simp only [z64]) | (refine Walk.oq ?_; try walk_nrm) | (refine Walk.un ?_; walk_nrm))
  refine Walk.ctl rfl (fun w => stepG_leave rfl rfl Try.func64 (results_none rfl _ _ w) (events_results_none rfl _ _)) (.stop fun d => ⟨_, ⟨rfl, MidR.at ?_ d⟩, rfl⟩)
  exact H2.on ⟨rfl, hd.2.1, hi, hv⟩
theorem make_m5 (w : World) (X : ThX St b ops oa oc (k : Nat) PC N ans aa ac e w) (M : OmX Sm m cb n cc tl s w) (hdis : ∀ g, Sm g → ¬ St g) (i : Nat) (v : Int) (hd : oR n o PC N (.m5 i v)) (hl : ops.length ≤ 65536) (hk : k ≤ 65536) (hal : ans.length = k) :
  CallW Try.prog main (fun _ => none) 64 #[.pointer (some ⟨m, 0, none⟩), .pointer (some ⟨b, 0, none⟩), opVal o, .pointer (some ⟨cb, i * 3, none⟩)] w (fun vz w' => vz = .tuple #[] ∧ MidR Sm St m cb n cc tl b ops oa oc k o ans e (onAct s (.m5 i v)) w w') := by
 intro c cs
 have hPC : PC = 34 := hd.1
 subst hPC
 have hi : i < n := hd.2.2.1
 have H0 := StW.begin (o := o) X M hdis
 have hia0 := fun (a : Addr) (w : World) (es : Array Event) => events_indexAt_array (P := Try.prog) (w := w) (es := es) 156 2 8 a .i64 (0 : Int) (by kernel_rfl) ⟨by decide, by decide⟩
 have hia1 := fun (a : Addr) (w : World) (es : Array Event) => events_indexAt_array (P := Try.prog) (w := w) (es := es) 156 2 8 a .i64 (1 : Int) (by kernel_rfl) ⟨by decide, by decide⟩
 simp only [opVal]
 rw [enter_at _ Try.func64 code64_is]
 simp only [Try.ntmps64, ez, Nat.reduceAdd, Nat.reduceSub]
 repeat (first | refine Walk.cx ?_ | (refine Walk.cReg ?_; simp only [z64]) | (refine Walk.oq ?_; try walk_nrm) | (refine Walk.un ?_; walk_nrm))
 (refine Walk.oa ?_; try walk_nrm)
 generalize hP : w.heap.size = P at *
 generalize w.alloc (.cells #[.int .i64 o.k, .int .i64 o.a, .int .i64 o.b, .int .i64 o.c] 34) = w1 at *
 have hv := hd.2.2.2
 subst hv
 have kP := tcP H0.th.blk
 have zP := frozen_of H0.th.blk 2
 have kC := H0.ma.ctc hi
 have zC := H0.ma.z (i * 3 + 2)
 have p0 := (cell_of H0.po 0).trans rfl
 have p2 := (cell_of H0.po 2).trans rfl
 have kN := tc0 H0.th.blk
 have zN := frozen_of H0.th.blk 3
 repeat (first | refine Walk.cx ?_ | (refine Walk.cReg ?_; simp only [z64]) | (refine Walk.oq ?_; try walk_nrm) | (refine Walk.un ?_; walk_nrm))
 (refine Walk.drawnL (by kernel_rfl) size64_22 (by kernel_rfl) (by kernel_rfl) (by kernel_rfl) (by decide) ?_; simp only [List.range, List.range.loop]; repeat (first | (refine Cm.oq ?_) | (refine Cm.unw (ho_of (by conv => lhs; whnf) (by kernel_rfl)) (by rfl) ?_; walk_nrm)))
 refine Cm.done ?_
 intro rest hr0
 (have hfr := fr0 b 3; refine Walk.os hfr kN ?_; clear hfr; try walk_nrm)
 refine hr0 _ _ ?_
 have H1 := H0.n0 (IntKind.i64.wrap (o.b + s.ct i))
 clear kP zP kC zC p0 p2 kN zN X M H0
 generalize w1.setCell ⟨b, 3, none⟩ (.int .i64 (IntKind.i64.wrap (o.b + s.ct i))) = w2 at *
 try walk_nrm
 have kP := tcP H1.th.blk
 have zP := frozen_of H1.th.blk 2
 repeat (first | refine Walk.cx ?_ | (refine Walk.cReg ?_; simp only [z64]) | (refine Walk.oq ?_; try walk_nrm) | (refine Walk.un ?_; walk_nrm))
 (have hfr := fr0 b 2; refine Walk.os hfr kP ?_; clear hfr; try walk_nrm)
 have H2 := H1.pcS (35)
 clear kP zP
 generalize w2.setCell ⟨b, 2, none⟩ (.int .i64 (35)) = w3 at *
 try walk_nrm
 repeat (first | refine Walk.cx ?_ | (refine Walk.cReg ?_; simp only [z64]) | (refine Walk.oq ?_; try walk_nrm) | (refine Walk.un ?_; walk_nrm))
 refine Walk.ctl rfl (fun w => stepG_leave rfl rfl Try.func64 (results_none rfl _ _ w) (events_results_none rfl _ _)) (.stop fun d => ⟨_, ⟨rfl, MidR.at ?_ d⟩, rfl⟩)
 exact H2.on ⟨rfl, hd.2.1, hi, upd_same _ _ _⟩
theorem make_m6 (w : World) (X : ThX St b ops oa oc (k : Nat) PC N ans aa ac e w) (M : OmX Sm m cb n cc tl s w) (hdis : ∀ g, Sm g → ¬ St g) (i : Nat) (v : Int) (hd : oR n o PC N (.m6 i v)) (hl : ops.length ≤ 65536) (hk : k ≤ 65536) (hal : ans.length = k) :
  CallW Try.prog main (fun _ => none) 64 #[.pointer (some ⟨m, 0, none⟩), .pointer (some ⟨b, 0, none⟩), opVal o, .pointer (some ⟨cb, i * 3, none⟩)] w (fun vz w' => vz = .tuple #[] ∧ MidR Sm St m cb n cc tl b ops oa oc k o ans e (onAct s (.m6 i v)) w w') := by
 intro c cs
 have hPC : PC = 35 := hd.1
 subst hPC
 have hi : i < n := hd.2.2.1
 have H0 := StW.begin (o := o) X M hdis
 have hia0 := fun (a : Addr) (w : World) (es : Array Event) => events_indexAt_array (P := Try.prog) (w := w) (es := es) 156 2 8 a .i64 (0 : Int) (by kernel_rfl) ⟨by decide, by decide⟩
 have hia1 := fun (a : Addr) (w : World) (es : Array Event) => events_indexAt_array (P := Try.prog) (w := w) (es := es) 156 2 8 a .i64 (1 : Int) (by kernel_rfl) ⟨by decide, by decide⟩
 simp only [opVal]
 rw [enter_at _ Try.func64 code64_is]
 simp only [Try.ntmps64, ez, Nat.reduceAdd, Nat.reduceSub]
 repeat (first | refine Walk.cx ?_ | (refine Walk.cReg ?_; simp only [z64]) | (refine Walk.oq ?_; try walk_nrm) | (refine Walk.un ?_; walk_nrm))
 (refine Walk.oa ?_; try walk_nrm)
 generalize hP : w.heap.size = P at *
 generalize w.alloc (.cells #[.int .i64 o.k, .int .i64 o.a, .int .i64 o.b, .int .i64 o.c] 34) = w1 at *
 have hv := hd.2.2.2
 subst hv
 have kP := tcP H0.th.blk
 have zP := frozen_of H0.th.blk 2
 have kV := H0.ma.vlc hi
 have zV := H0.ma.z (i * 3 + 1)
 have kN := tc0 H0.th.blk
 have zN := frozen_of H0.th.blk 3
 repeat (first | refine Walk.cx ?_ | (refine Walk.cReg ?_; simp only [z64]) | (refine Walk.oq ?_; try walk_nrm) | (refine Walk.un ?_; walk_nrm))
 (have hfr := fr0 cb (i * 3 + 1); refine Walk.os hfr kV ?_; clear hfr; try walk_nrm)
 have H1 := H0.vlS hdis hi (N 0)
 clear kP zP kV zV kN zN X M H0
 generalize w1.setCell ⟨cb, i * 3 + 1, none⟩ (.int .i64 (N 0)) = w2 at *
 try walk_nrm
 have kP := tcP H1.th.blk
 have zP := frozen_of H1.th.blk 2
 repeat (first | refine Walk.cx ?_ | (refine Walk.cReg ?_; simp only [z64]) | (refine Walk.oq ?_; try walk_nrm) | (refine Walk.un ?_; walk_nrm))
 (have hfr := fr0 b 2; refine Walk.os hfr kP ?_; clear hfr; try walk_nrm)
 have H2 := H1.pcS (36)
 clear kP zP
 generalize w2.setCell ⟨b, 2, none⟩ (.int .i64 (36)) = w3 at *
 try walk_nrm
 repeat (first | refine Walk.cx ?_ | (refine Walk.cReg ?_; simp only [z64]) | (refine Walk.oq ?_; try walk_nrm) | (refine Walk.un ?_; walk_nrm))
 refine Walk.ctl rfl (fun w => stepG_leave rfl rfl Try.func64 (results_none rfl _ _ w) (events_results_none rfl _ _)) (.stop fun d => ⟨_, ⟨rfl, MidR.at ?_ d⟩, rfl⟩)
 exact H2.on ⟨rfl, hd.2.1, hi, rfl⟩
theorem make_m7 (w : World) (X : ThX St b ops oa oc (k : Nat) PC N ans aa ac e w) (M : OmX Sm m cb n cc tl s w) (hdis : ∀ g, Sm g → ¬ St g) (i : Nat) (v : Int) (hd : oR n o PC N (.m7 i v)) (hl : ops.length ≤ 65536) (hk : k ≤ 65536) (hal : ans.length = k) :
  CallW Try.prog main (fun _ => none) 64 #[.pointer (some ⟨m, 0, none⟩), .pointer (some ⟨b, 0, none⟩), opVal o, .pointer (some ⟨cb, i * 3, none⟩)] w (fun vz w' => vz = .tuple #[] ∧ MidR Sm St m cb n cc tl b ops oa oc k o ans e (onAct s (.m7 i v)) w w') := by
 intro c cs
 have hPC : PC = 36 := hd.1
 subst hPC
 have hi : i < n := hd.2.2.1
 have H0 := StW.begin (o := o) X M hdis
 have hia0 := fun (a : Addr) (w : World) (es : Array Event) => events_indexAt_array (P := Try.prog) (w := w) (es := es) 156 2 8 a .i64 (0 : Int) (by kernel_rfl) ⟨by decide, by decide⟩
 have hia1 := fun (a : Addr) (w : World) (es : Array Event) => events_indexAt_array (P := Try.prog) (w := w) (es := es) 156 2 8 a .i64 (1 : Int) (by kernel_rfl) ⟨by decide, by decide⟩
 simp only [opVal]
 rw [enter_at _ Try.func64 code64_is]
 simp only [Try.ntmps64, ez, Nat.reduceAdd, Nat.reduceSub]
 repeat (first | refine Walk.cx ?_ | (refine Walk.cReg ?_; simp only [z64]) | (refine Walk.oq ?_; try walk_nrm) | (refine Walk.un ?_; walk_nrm))
 (refine Walk.oa ?_; try walk_nrm)
 generalize hP : w.heap.size = P at *
 generalize w.alloc (.cells #[.int .i64 o.k, .int .i64 o.a, .int .i64 o.b, .int .i64 o.c] 34) = w1 at *
 have hv := hd.2.2.2
 subst hv
 have kP := tcP H0.th.blk
 have zP := frozen_of H0.th.blk 2
 have kS := H0.ma.stc hi
 have zS := H0.ma.z (i * 3)
 repeat (first | refine Walk.cx ?_ | (refine Walk.cReg ?_; simp only [z64]) | (refine Walk.oq ?_; try walk_nrm) | (refine Walk.un ?_; walk_nrm))
 (have hfr := fr0 cb (i * 3); refine Walk.os hfr kS ?_; clear hfr; try walk_nrm)
 have H1 := H0.stS hdis hi (2)
 clear kP zP kS zS X M H0
 generalize w1.setCell ⟨cb, i * 3, none⟩ (.int .i64 (2)) = w2 at *
 try walk_nrm
 have kN := tc0 H1.th.blk
 have zN := frozen_of H1.th.blk 3
 repeat (first | refine Walk.cx ?_ | (refine Walk.cReg ?_; simp only [z64]) | (refine Walk.oq ?_; try walk_nrm) | (refine Walk.un ?_; walk_nrm))
 refine Walk.callW (Post := fun v w' => v = .tuple #[] ∧ (∃ aa' ac', ThX (fun g => St g ∨ w2.heap.size ≤ g) b ops oa oc ((k + 1 : Nat) : Int) 0 (N) (ans ++ [(true, N 0)]) aa' ac' e w') ∧ Chg St w2 w') ?_ (ho_of (by conv => lhs; whnf) (by kernel_rfl)) (by rfl) (by decide) rfl Try.func85 (by kernel_rfl) (by rfl) ?_
 ·walk_nrm
  exact told_w true (N 0) w2 H1.th hk (by omega)
 rintro v wz ⟨rfl, hz⟩
 have HZ := H1.ends hdis hz
 walk_nrm
 repeat (first | refine Walk.cx ?_ | (refine Walk.cReg ?_; simp only [z64]) | (refine Walk.oq ?_; try walk_nrm) | (refine Walk.un ?_; walk_nrm))
 refine Walk.ctl rfl (fun w => stepG_leave rfl rfl Try.func64 (results_none rfl _ _ w) (events_results_none rfl _ _)) (.stop fun d => ⟨_, ⟨rfl, MidR.at ?_ d⟩, rfl⟩)
 exact HZ
theorem make_m8 (w : World) (X : ThX St b ops oa oc (k : Nat) PC N ans aa ac e w) (M : OmX Sm m cb n cc tl s w) (hdis : ∀ g, Sm g → ¬ St g) (i : Nat) (hd : oR n o PC N (.m8 i)) (hl : ops.length ≤ 65536) (hk : k ≤ 65536) (hal : ans.length = k) :
  CallW Try.prog main (fun _ => none) 64 #[.pointer (some ⟨m, 0, none⟩), .pointer (some ⟨b, 0, none⟩), opVal o, .pointer (some ⟨cb, i * 3, none⟩)] w (fun vz w' => vz = .tuple #[] ∧ MidR Sm St m cb n cc tl b ops oa oc k o ans e (onAct s (.m8 i)) w w') := by
 intro c cs
 have hPC : PC = 37 := hd.1
 subst hPC
 have hi : i < n := hd.2.2
 have H0 := StW.begin (o := o) X M hdis
 simp only [opVal]
 rw [enter_at _ Try.func64 code64_is]
 simp only [Try.ntmps64, ez, Nat.reduceAdd, Nat.reduceSub]
 repeat (first | refine Walk.cx ?_ | (refine Walk.cReg ?_; simp only [z64]) | (refine Walk.oq ?_; try walk_nrm) | (refine Walk.un ?_; walk_nrm))
 (refine Walk.oa ?_; try walk_nrm)
 generalize hP : w.heap.size = P at *
 generalize w.alloc (.cells #[.int .i64 o.k, .int .i64 o.a, .int .i64 o.b, .int .i64 o.c] 34) = w1 at *
 have kP := tcP H0.th.blk
 have zP := frozen_of H0.th.blk 2
 have kS := H0.ma.stc hi
 have zS := H0.ma.z (i * 3)
 repeat (first | refine Walk.cx ?_ | (refine Walk.cReg ?_; simp only [z64]) | (refine Walk.oq ?_; try walk_nrm) | (refine Walk.un ?_; walk_nrm))
 (have hfr := fr0 cb (i * 3); refine Walk.os hfr kS ?_; clear hfr; try walk_nrm)
 have H1 := H0.stS hdis hi (0)
 clear kP zP kS zS X M H0
 generalize w1.setCell ⟨cb, i * 3, none⟩ (.int .i64 (0)) = w2 at *
 try walk_nrm
 repeat (first | refine Walk.cx ?_ | (refine Walk.cReg ?_; simp only [z64]) | (refine Walk.oq ?_; try walk_nrm) | (refine Walk.un ?_; walk_nrm))
 refine Walk.callW (Post := fun v w' => v = .tuple #[] ∧ (∃ aa' ac', ThX (fun g => St g ∨ w2.heap.size ≤ g) b ops oa oc ((k + 1 : Nat) : Int) 0 (N) (ans ++ [(false, -6)]) aa' ac' e w') ∧ Chg St w2 w') ?_ (ho_of (by conv => lhs; whnf) (by kernel_rfl)) (by rfl) (by decide) rfl Try.func85 (by kernel_rfl) (by rfl) ?_
 ·walk_nrm
  exact told_w false (-6) w2 H1.th hk (by omega)
 rintro v wz ⟨rfl, hz⟩
 have HZ := H1.ends hdis hz
 walk_nrm
 repeat (first | refine Walk.cx ?_ | (refine Walk.cReg ?_; simp only [z64]) | (refine Walk.oq ?_; try walk_nrm) | (refine Walk.un ?_; walk_nrm))
 refine Walk.ctl rfl (fun w => stepG_leave rfl rfl Try.func64 (results_none rfl _ _ w) (events_results_none rfl _ _)) (.stop fun d => ⟨_, ⟨rfl, MidR.at ?_ d⟩, rfl⟩)
 exact HZ
end
end
end Go.Proofs.Ytdcjgmlgmjjogaa
