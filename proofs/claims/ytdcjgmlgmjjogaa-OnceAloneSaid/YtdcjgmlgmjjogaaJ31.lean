/- Part 31. -/
import Derived.Test.YtdcjgmlgmjjogaaJ30
set_option linter.unusedSimpArgs false
set_option linter.unusedVariables false
set_option maxHeartbeats 8000000
set_option maxRecDepth 100000
namespace Go.Proofs.Ytdcjgmlgmjjogaa
open Go.Conc Go.RowKit Go.Relay
open Go.ConcN (upd upd_ne upd_same)
section
def MidR (Sm St : Nat → Prop) (m cb n cc : Nat) (tl : Value) (b : Nat) (ops : List OpV) (oa : Option Addr) (oc k : Nat) (o : OpV) (ans : List Ans) (e : Bool) (r : Oz × (Ans ⊕ OD)) (w w' : World) : Prop :=
 OmX Sm m cb n cc tl r.1 w' ∧ Chg (fun g => Sm g ∨ St g) w w' ∧
 match r.2 with
 | .inl a => ∃ (N : Nat → Int) (aa : Option Addr) (ac : Nat), ThX (fun g => St g ∨ w.heap.size ≤ g) b ops oa oc ((k + 1 : Nat) : Int) 0 N (ans ++ [a]) aa ac e w'
 | .inr d => ∃ (PC : Int) (N : Nat → Int) (aa : Option Addr) (ac : Nat), ThX (fun g => St g ∨ w.heap.size ≤ g) b ops oa oc (k : Nat) PC N ans aa ac e w' ∧ oR n o PC N d
structure StW (Sm St : Nat → Prop) (m cb n cc : Nat) (tl : Value) (b : Nat) (ops : List OpV) (oa : Option Addr) (oc k : Nat) (o : OpV) (ans : List Ans) (aa : Option Addr) (ac : Nat) (e : Bool) (P : Nat) (s : Oz) (PC : Int) (N : Nat → Int) (w w' : World) : Prop where
 th : ThX St b ops oa oc (k : Nat) PC N ans aa ac e w'
 ma : OmX Sm m cb n cc tl s w'
 ch : Chg (fun g => Sm g ∨ St g) w w'
 po : w'.heap[P]? = some (.cells #[.int .i64 o.k, .int .i64 o.a, .int .i64 o.b, .int .i64 o.c] 34)
 pb : P ≠ b
 pc : P ≠ cb
 bc : b ≠ cb
 bm : b ≠ m
section
variable {main : Bool} {Sm St : Nat → Prop} {m cb n cc : Nat} {tl : Value} {b : Nat} {ops : List OpV} {oa : Option Addr} {oc k : Nat} {o : OpV} {PC : Int} {N : Nat → Int} {ans : List Ans} {aa : Option Addr} {ac : Nat} {e : Bool} {P : Nat} {s : Oz}
variable {w w' w3 : World}
theorem MidR.at {r : Oz × (Ans ⊕ OD)} (h : MidR Sm St m cb n cc tl b ops oa oc k o ans e r w w') (d : Nat) : MidR Sm St m cb n cc tl b ops oa oc k o ans e r w (w'.at d) := by
 obtain ⟨h1, h2, h3⟩ := h
 refine ⟨h1.at d, h2.at d, ?_⟩
 cases hr : r.2 with
 | inl a =>
  rw [hr] at h3
  obtain ⟨N, aa, ac, X⟩ := h3
  exact ⟨N, aa, ac, X.at d⟩
 | inr x =>
  rw [hr] at h3
  obtain ⟨PC, N, aa, ac, X, hd⟩ := h3
  exact ⟨PC, N, aa, ac, X.at d, hd⟩
theorem StW.pcS (H : StW Sm St m cb n cc tl b ops oa oc k o ans aa ac e P s PC N w w') (v : Int) : StW Sm St m cb n cc tl b ops oa oc k o ans aa ac e P s v N w (w'.setCell ⟨b, 2, none⟩ (.int .i64 v)) :=
 ⟨H.th.put (by rw [heap_set_self _ _ H.th.blk, thA_PC]) fun g hg _ _ => heap_set_other _ _ _ _ hg, ⟨(heap_set_other _ _ _ _ (Ne.symm H.bm)).trans H.ma.blk, by obtain ⟨a1, h1, h2⟩ := H.ma.row; exact ⟨a1, (heap_set_other _ _ _ _ (Ne.symm H.bc)).trans h1, h2⟩, H.ma.sm, H.ma.sc, H.ma.ne⟩, H.ch.trans (Chg.set (.inr H.th.sb)) fun _ _ h => h, (heap_set_other _ _ _ _ H.pb).trans H.po, H.pb, H.pc, H.bc, H.bm⟩
theorem StW.n0 (H : StW Sm St m cb n cc tl b ops oa oc k o ans aa ac e P s PC N w w') (v : Int) : StW Sm St m cb n cc tl b ops oa oc k o ans aa ac e P s PC (upd N 0 v) w (w'.setCell ⟨b, 3, none⟩ (.int .i64 v)) :=
 ⟨H.th.put (by rw [heap_set_self _ _ H.th.blk, thA_0]) fun g hg _ _ => heap_set_other _ _ _ _ hg, ⟨(heap_set_other _ _ _ _ (Ne.symm H.bm)).trans H.ma.blk, by obtain ⟨a1, h1, h2⟩ := H.ma.row; exact ⟨a1, (heap_set_other _ _ _ _ (Ne.symm H.bc)).trans h1, h2⟩, H.ma.sm, H.ma.sc, H.ma.ne⟩, H.ch.trans (Chg.set (.inr H.th.sb)) fun _ _ h => h, (heap_set_other _ _ _ _ H.pb).trans H.po, H.pb, H.pc, H.bc, H.bm⟩
theorem StW.n1 (H : StW Sm St m cb n cc tl b ops oa oc k o ans aa ac e P s PC N w w') (v : Int) : StW Sm St m cb n cc tl b ops oa oc k o ans aa ac e P s PC (upd N 1 v) w (w'.setCell ⟨b, 4, none⟩ (.int .i64 v)) :=
 ⟨H.th.put (by rw [heap_set_self _ _ H.th.blk, thA_1]) fun g hg _ _ => heap_set_other _ _ _ _ hg, ⟨(heap_set_other _ _ _ _ (Ne.symm H.bm)).trans H.ma.blk, by obtain ⟨a1, h1, h2⟩ := H.ma.row; exact ⟨a1, (heap_set_other _ _ _ _ (Ne.symm H.bc)).trans h1, h2⟩, H.ma.sm, H.ma.sc, H.ma.ne⟩, H.ch.trans (Chg.set (.inr H.th.sb)) fun _ _ h => h, (heap_set_other _ _ _ _ H.pb).trans H.po, H.pb, H.pc, H.bc, H.bm⟩
theorem StW.cell {w2 : World} {s2 : Oz} (H : StW Sm St m cb n cc tl b ops oa oc k o ans aa ac e P s PC N w w') (hdis : ∀ g, Sm g → ¬ St g) (hM : OmX Sm m cb n cc tl s2 w2) (hs : w2.heap.size = w'.heap.size) (ho : ∀ g, g ≠ cb → w2.heap[g]? = w'.heap[g]?) : StW Sm St m cb n cc tl b ops oa oc k o ans aa ac e P s2 PC N w w2 :=
 ⟨H.th.same fun g _ hg => ho g fun h => hdis g (by rw [h]; exact H.ma.sc) hg, hM, H.ch.trans (S' := fun g => Sm g ∨ St g) ⟨Nat.le_of_eq hs.symm, fun g _ hn => ho g fun h => hn (.inl (by rw [h]; exact H.ma.sc))⟩ fun _ _ h => h, (ho _ H.pc).trans H.po, H.pb, H.pc, H.bc, H.bm⟩
theorem StW.stS (H : StW Sm St m cb n cc tl b ops oa oc k o ans aa ac e P s PC N w w') (hdis : ∀ g, Sm g → ¬ St g) {i : Nat} (hi : i < n) (v : Int) : StW Sm St m cb n cc tl b ops oa oc k o ans aa ac e P { s with st := upd s.st i v } PC N w (w'.setCell ⟨cb, i * 3, none⟩ (.int .i64 v)) := H.cell hdis (H.ma.st hi v) (size_set ..) fun g hg => heap_set_other _ _ _ _ hg
theorem StW.vlS (H : StW Sm St m cb n cc tl b ops oa oc k o ans aa ac e P s PC N w w') (hdis : ∀ g, Sm g → ¬ St g) {i : Nat} (hi : i < n) (v : Int) : StW Sm St m cb n cc tl b ops oa oc k o ans aa ac e P { s with vl := upd s.vl i v } PC N w (w'.setCell ⟨cb, i * 3 + 1, none⟩ (.int .i64 v)) := H.cell hdis (H.ma.vl hi v) (size_set ..) fun g hg => heap_set_other _ _ _ _ hg
theorem StW.ctS (H : StW Sm St m cb n cc tl b ops oa oc k o ans aa ac e P s PC N w w') (hdis : ∀ g, Sm g → ¬ St g) {i : Nat} (hi : i < n) (v : Int) : StW Sm St m cb n cc tl b ops oa oc k o ans aa ac e P { s with ct := upd s.ct i v } PC N w (w'.setCell ⟨cb, i * 3 + 2, none⟩ (.int .i64 v)) := H.cell hdis (H.ma.ct hi v) (size_set ..) fun g hg => heap_set_other _ _ _ _ hg
theorem StW.on (H : StW Sm St m cb n cc tl b ops oa oc k o ans aa ac e P s PC N w w') {d : OD} (hd : oR n o PC N d) : MidR Sm St m cb n cc tl b ops oa oc k o ans e (s, .inr d) w w' := ⟨H.ma, H.ch, PC, N, aa, ac, H.th.mono fun _ h => .inl h, hd⟩
theorem StW.ends (H : StW Sm St m cb n cc tl b ops oa oc k o ans aa ac e P s PC N w w') (hdis : ∀ g, Sm g → ¬ St g) {a : Ans} (h : (∃ aa' ac', ThX (fun g => St g ∨ w'.heap.size ≤ g) b ops oa oc ((k + 1 : Nat) : Int) 0 N (ans ++ [a]) aa' ac' e w3) ∧ Chg St w' w3) : MidR Sm St m cb n cc tl b ops oa oc k o ans e (s, .inl a) w w3 := by
 obtain ⟨⟨aa', ac', X⟩, hC⟩ := h
 have hs := H.ch.size
 exact ⟨H.ma.chg hC fun g _ h => hdis g h, H.ch.trans hC fun _ _ h => .inr h, N, aa', ac', X.mono fun g h => h.imp id fun h => by omega⟩
theorem StW.begin (X : ThX St b ops oa oc (k : Nat) PC N ans aa ac e w) (M : OmX Sm m cb n cc tl s w) (hdis : ∀ g, Sm g → ¬ St g) : StW Sm St m cb n cc tl b ops oa oc k o ans aa ac e w.heap.size s PC N w (w.alloc (.cells #[.int .i64 o.k, .int .i64 o.a, .int .i64 o.b, .int .i64 o.c] 34)) := by
 have hb := X.lt
 obtain ⟨l1, l2⟩ := M.lt
 exact ⟨X.same fun g hg _ => heap_new_lt _ _ hg, M.same fun g hg _ => heap_new_lt _ _ hg, Chg.alloc, heap_alloc_new _ _, by omega, by omega, fun h => hdis b (by rw [h]; exact M.sc) X.sb, fun h => hdis b (by rw [h]; exact M.sm) X.sb⟩
end
noncomputable def reg85_0 := rg Try.f85.body []
theorem z85 : List.range reg85_0.size = [0, 1, 2, 3, 4] := by kernel_rfl
theorem code85_is : Try.f85.body = some (.region 0 reg85_0 false) := by kernel_rfl
noncomputable def reg63_0 := rg Try.f63.body [0]
noncomputable def reg63_1 := rg Try.f63.body [1, 0]
noncomputable def reg63_2 := rg Try.f63.body [1, 1, 0, 0]
noncomputable def reg63_3 := rg Try.f63.body [1, 1, 0, 1, 0, 0]
noncomputable def reg63_4 := rg Try.f63.body [1, 1, 0, 1, 0, 1, 0]
noncomputable def reg63_5 := rg Try.f63.body [1, 1, 0, 1, 0, 1, 1, 0]
noncomputable def reg63_6 := rg Try.f63.body [1, 1, 0, 1, 1, 0]
noncomputable def reg63_7 := rg Try.f63.body [1, 1, 0, 1, 1, 1, 0]
noncomputable def reg63_8 := rg Try.f63.body [1, 1, 0, 1, 1, 1, 1, 0]
noncomputable def reg63_9 := rg Try.f63.body [1, 1, 0, 1, 1, 1, 1, 1, 0, 0]
noncomputable def reg63_10 := rg Try.f63.body [1, 1, 0, 1, 1, 1, 1, 1, 0, 1, 0]
noncomputable def reg63_11 := rg Try.f63.body [1, 1, 0, 1, 1, 1, 1, 1, 0, 1, 1, 0, 0]
noncomputable def reg63_12 := rg Try.f63.body [1, 1, 0, 1, 1, 1, 1, 1, 0, 1, 1, 0, 1]
noncomputable def reg63_13 := rg Try.f63.body [1, 1, 0, 1, 1, 1, 1, 1, 1, 0]
noncomputable def reg63_14 := rg Try.f63.body [1, 1, 0, 1, 1, 1, 1, 1, 1, 1, 0, 0]
noncomputable def reg63_15 := rg Try.f63.body [1, 1, 0, 1, 1, 1, 1, 1, 1, 1, 0, 1]
noncomputable def reg63_16 := rg Try.f63.body [1, 1, 0, 1, 1, 1, 1, 1, 1, 1, 1, 0]
noncomputable def reg63_17 := rg Try.f63.body [1, 1, 0, 1, 1, 1, 1, 1, 1, 1, 1, 1, 0, 0]
noncomputable def reg63_18 := rg Try.f63.body [1, 1, 0, 1, 1, 1, 1, 1, 1, 1, 1, 1, 0, 1]
noncomputable def reg63_19 := rg Try.f63.body [1, 1, 0, 1, 1, 1, 1, 1, 1, 1, 1, 1, 1, 0]
noncomputable def reg63_20 := rg Try.f63.body [1, 1, 0, 1, 1, 1, 1, 1, 1, 1, 1, 1, 1, 1, 0, 0]
noncomputable def reg63_21 := rg Try.f63.body [1, 1, 0, 1, 1, 1, 1, 1, 1, 1, 1, 1, 1, 1, 0, 1, 0]
noncomputable def reg63_22 := rg Try.f63.body [1, 1, 0, 1, 1, 1, 1, 1, 1, 1, 1, 1, 1, 1, 0, 1, 1, 0]
noncomputable def reg63_23 := rg Try.f63.body [1, 1, 0, 1, 1, 1, 1, 1, 1, 1, 1, 1, 1, 1, 1, 0]
noncomputable def reg63_24 := rg Try.f63.body [1, 1, 0, 1, 1, 1, 1, 1, 1, 1, 1, 1, 1, 1, 1, 1, 0]
theorem z63 : List.range reg63_0.size = [0] ∧ List.range reg63_1.size = [0, 1, 2, 3] ∧ List.range reg63_2.size = [0, 1] ∧ List.range reg63_3.size = [0, 1, 2, 3] ∧ List.range reg63_4.size = [0, 1, 2, 3, 4] ∧ List.range reg63_5.size = [0, 1] ∧ List.range reg63_6.size = [0, 1] ∧ List.range reg63_7.size = [0, 1, 2, 3, 4, 5] ∧ List.range reg63_8.size = [0, 1] ∧ List.range reg63_9.size = [0, 1, 2, 3] ∧ List.range reg63_10.size = [0, 1, 2, 3, 4] ∧ List.range reg63_11.size = [0, 1, 2, 3] ∧ List.range reg63_12.size = [0, 1, 2, 3] ∧ List.range reg63_13.size = [0, 1] ∧ List.range reg63_14.size = [0, 1, 2, 3, 4, 5] ∧ List.range reg63_15.size = [0, 1, 2, 3] ∧ List.range reg63_16.size = [0, 1] ∧ List.range reg63_17.size = [0, 1, 2, 3] ∧ List.range reg63_18.size = [0, 1, 2, 3] ∧ List.range reg63_19.size = [0, 1] ∧ List.range reg63_20.size = [0, 1, 2, 3] ∧ List.range reg63_21.size = [0, 1, 2, 3, 4] ∧ List.range reg63_22.size = [0, 1] ∧ List.range reg63_23.size = [0, 1] ∧ List.range reg63_24.size = [0, 1, 2, 3, 4, 5] := by refine ⟨?_, ?_, ?_, ?_, ?_, ?_, ?_, ?_, ?_, ?_, ?_, ?_, ?_, ?_, ?_, ?_, ?_, ?_, ?_, ?_, ?_, ?_, ?_, ?_, ?_⟩ <;> kernel_rfl
theorem code63_is : Try.f63.body = some (.seq (.region 0 reg63_0 false) (.seq (.region 1 reg63_1 false) (.block 0 (.seq (.region 2 reg63_2 false) (.cond (.tmp 12 ) (.seq (.region 3 reg63_3 false) (.seq (.region 4 reg63_4 false) (.cond (.tmp 21 ) (.region 5 reg63_5 false) (.skip)))) (.seq (.region 6 reg63_6 false) (.cond (.tmp 24 ) (.region 7 reg63_7 false) (.seq (.region 8 reg63_8 false) (.cond (.tmp 32 ) (.seq (.region 9 reg63_9 false) (.seq (.region 10 reg63_10 false) (.cond (.tmp 41 ) (.seq (.region 11 reg63_11 false) (.region 12 reg63_12 false)) (.skip)))) (.seq (.region 13 reg63_13 false) (.cond (.tmp 48 ) (.seq (.region 14 reg63_14 false) (.region 15 reg63_15 false)) (.seq (.region 16 reg63_16 false) (.cond (.tmp 58 ) (.seq (.region 17 reg63_17 false) (.region 18 reg63_18 false)) (.seq (.region 19 reg63_19 false) (.cond (.tmp 67 ) (.seq (.region 20 reg63_20 false) (.seq (.region 21 reg63_21 false) (.cond (.tmp 76 ) (.region 22 reg63_22 false) (.skip)))) (.seq (.region 23 reg63_23 false) (.cond (.tmp 79 ) (.region 24 reg63_24 false) (.skip)))))))))))))))))) := by kernel_rfl
section
variable {main : Bool} {S : Nat → Prop} {b : Nat} {ops : List OpV} {oa : Option Addr} {oc k : Nat} {PC : Int} {N : Nat → Int} {ans : List Ans} {aa : Option Addr} {ac : Nat} {e : Bool}
theorem told_w (y : Bool) (x : Int) (w : World) (X : ThX S b ops oa oc (k : Nat) PC N ans aa ac e w) (hk : k ≤ 65536) (hl : ans.length ≤ 65536) :
  CallW Try.prog main (fun _ => none) 85 #[.pointer (some ⟨b, 0, none⟩), .bool y, .int .i64 x] w (fun v w' => v = .tuple #[] ∧ (∃ aa' ac', ThX (fun g => S g ∨ w.heap.size ≤ g) b ops oa oc ((k + 1 : Nat) : Int) 0 N (ans ++ [(y, x)]) aa' ac' e w') ∧ Chg S w w') := by
 intro c cs
 have hh := end_w (main := main) (y, x) w X hk hl
 simp only [ansVal] at hh
 rw [enter_at _ Try.func85 code85_is]
 simp only [Try.ntmps85, ez, Nat.reduceAdd, Nat.reduceSub]
 repeat (first | refine Walk.cx ?_ | (refine Walk.cReg ?_; simp only [z85]) | (refine Walk.oq ?_; try walk_nrm) | (refine Walk.un ?_; walk_nrm))
 refine Walk.callW (Post := fun v w' => v = .tuple #[] ∧ (∃ aa' ac', ThX (fun g => S g ∨ w.heap.size ≤ g) b ops oa oc ((k + 1 : Nat) : Int) 0 N (ans ++ [(y, x)]) aa' ac' e w') ∧ Chg S w w') ?_ (ho_of (by conv => lhs; whnf) (by kernel_rfl)) (by rfl) (by decide) rfl Try.func61 (by kernel_rfl) (by rfl) ?_
 ·walk_nrm
  exact hh
 rintro v w3 ⟨rfl, hw3⟩
 walk_nrm
 repeat (first | refine Walk.cx ?_ | (refine Walk.cReg ?_; simp only [z85]) | (refine Walk.oq ?_; try walk_nrm) | (refine Walk.un ?_; walk_nrm))
 refine Walk.ctl rfl (fun w => stepG_leave rfl rfl Try.func85 (results_none rfl _ _ w) (events_results_none rfl _ _)) (.stop fun d => ⟨_, ⟨rfl, ?_⟩, rfl⟩)
 obtain ⟨⟨aa', ac', X3⟩, hC3⟩ := hw3
 exact ⟨⟨aa', ac', X3.at d⟩, hC3.at d⟩
end
section
variable {main : Bool} {Sm St : Nat → Prop} {m cb n cc : Nat} {tl : Value} {b : Nat} {ops : List OpV} {oa : Option Addr} {oc k : Nat} {o : OpV} {PC : Int} {N : Nat → Int} {ans : List Ans} {aa : Option Addr} {ac : Nat} {e : Bool} {s : Oz}
theorem set_g1 (w : World) (X : ThX St b ops oa oc (k : Nat) PC N ans aa ac e w) (M : OmX Sm m cb n cc tl s w) (hdis : ∀ g, Sm g → ¬ St g) (i : Nat) (hd : oR n o PC N (.g1 i)) (hl : ops.length ≤ 65536) (hk : k ≤ 65536) (hal : ans.length = k) :
  CallW Try.prog main (fun _ => none) 63 #[.pointer (some ⟨m, 0, none⟩), .pointer (some ⟨b, 0, none⟩), opVal o, .pointer (some ⟨cb, i * 3, none⟩)] w (fun vz w' => vz = .tuple #[] ∧ MidR Sm St m cb n cc tl b ops oa oc k o ans e (onAct s (.g1 i)) w w') := by
 intro c cs
 have hPC : PC = 10 := hd.1
 subst hPC
 have hi : i < n := hd.2.2
 have H0 := StW.begin (o := o) X M hdis
 simp only [opVal]
 rw [enter_at _ Try.func63 code63_is]
 simp only [Try.ntmps63, ez, Nat.reduceAdd, Nat.reduceSub]
 repeat (first | refine Walk.cx ?_ | (refine Walk.cReg ?_; simp only [z63]) | (refine Walk.oq ?_; try walk_nrm) | (refine Walk.un ?_; walk_nrm))
 (refine Walk.oa ?_; try walk_nrm)
 generalize hP : w.heap.size = P at *
 generalize w.alloc (.cells #[.int .i64 o.k, .int .i64 o.a, .int .i64 o.b, .int .i64 o.c] 34) = w1 at *
 have kP := tcP H0.th.blk
 have zP := frozen_of H0.th.blk 2
 have kS := H0.ma.stc hi
 have zS := H0.ma.z (i * 3)
 repeat (first | refine Walk.cx ?_ | (refine Walk.cReg ?_; simp only [z63]) | (refine Walk.oq ?_; try walk_nrm) | (refine Walk.un ?_; walk_nrm))
 (have hfr := fr0 b 2; refine Walk.os hfr kP ?_; clear hfr; try walk_nrm)
 have H1 := H0.pcS (11)
 clear kP zP kS zS X M H0
 generalize w1.setCell ⟨b, 2, none⟩ (.int .i64 (11)) = w2 at *
 try walk_nrm
 have kS := H1.ma.stc hi
 have zS := H1.ma.z (i * 3)
 by_cases h2 : s.st i = 2
 ·have hb2 : (s.st i != 2) = false := by simp [h2]
  repeat (first | refine Walk.cx ?_ | (refine Walk.cReg ?_; simp only [z63]) | (refine Walk.oq ?_; try walk_nrm) | (refine Walk.un ?_; walk_nrm))
  refine Walk.ctl rfl (fun w => stepG_leave rfl rfl Try.func63 (results_none rfl _ _ w) (events_results_none rfl _ _)) (.stop fun d => ⟨_, ⟨rfl, MidR.at ?_ d⟩, rfl⟩)
  rw [show onAct s (.g1 i) = (s, .inr (.g2 i)) from if_pos h2]
  exact H1.on ⟨rfl, hd.2.1, hi⟩
 ·have hb2 : (s.st i != 2) = true := by simp [h2]
  repeat (first | refine Walk.cx ?_ | (refine Walk.cReg ?_; simp only [z63]) | (refine Walk.oq ?_; try walk_nrm) | (refine Walk.un ?_; walk_nrm))
  refine Walk.callW (Post := fun v w' => v = .tuple #[] ∧ (∃ aa' ac', ThX (fun g => St g ∨ w2.heap.size ≤ g) b ops oa oc ((k + 1 : Nat) : Int) 0 (N) (ans ++ [(false, 0)]) aa' ac' e w') ∧ Chg St w2 w') ?_ (ho_of (by conv => lhs; whnf) (by kernel_rfl)) (by rfl) (by decide) rfl Try.func85 (by kernel_rfl) (by rfl) ?_
  ·walk_nrm
   exact told_w false (0) w2 H1.th hk (by omega)
  rintro v wz ⟨rfl, hz⟩
  have HZ := H1.ends hdis hz
  walk_nrm
  repeat (first | refine Walk.cx ?_ | (refine Walk.cReg ?_; simp only [z63]) | (refine Walk.oq ?_; try walk_nrm) | (refine Walk.un ?_; walk_nrm))
  refine Walk.ctl rfl (fun w => stepG_leave rfl rfl Try.func63 (results_none rfl _ _ w) (events_results_none rfl _ _)) (.stop fun d => ⟨_, ⟨rfl, MidR.at ?_ d⟩, rfl⟩)
  rw [show onAct s (.g1 i) = (s, .inl (false, 0)) from if_neg h2]
  exact HZ
theorem set_g2 (w : World) (X : ThX St b ops oa oc (k : Nat) PC N ans aa ac e w) (M : OmX Sm m cb n cc tl s w) (hdis : ∀ g, Sm g → ¬ St g) (i : Nat) (hd : oR n o PC N (.g2 i)) (hl : ops.length ≤ 65536) (hk : k ≤ 65536) (hal : ans.length = k) :
  CallW Try.prog main (fun _ => none) 63 #[.pointer (some ⟨m, 0, none⟩), .pointer (some ⟨b, 0, none⟩), opVal o, .pointer (some ⟨cb, i * 3, none⟩)] w (fun vz w' => vz = .tuple #[] ∧ MidR Sm St m cb n cc tl b ops oa oc k o ans e (onAct s (.g2 i)) w w') := by
 intro c cs
 have hPC : PC = 11 := hd.1
 subst hPC
 have hi : i < n := hd.2.2
 have H0 := StW.begin (o := o) X M hdis
 simp only [opVal]
 rw [enter_at _ Try.func63 code63_is]
 simp only [Try.ntmps63, ez, Nat.reduceAdd, Nat.reduceSub]
 repeat (first | refine Walk.cx ?_ | (refine Walk.cReg ?_; simp only [z63]) | (refine Walk.oq ?_; try walk_nrm) | (refine Walk.un ?_; walk_nrm))
 (refine Walk.oa ?_; try walk_nrm)
 generalize hP : w.heap.size = P at *
 generalize w.alloc (.cells #[.int .i64 o.k, .int .i64 o.a, .int .i64 o.b, .int .i64 o.c] 34) = w1 at *
 have kP := tcP H0.th.blk
 have zP := frozen_of H0.th.blk 2
 have kV := H0.ma.vlc hi
 have zV := H0.ma.z (i * 3 + 1)
 repeat (first | refine Walk.cx ?_ | (refine Walk.cReg ?_; simp only [z63]) | (refine Walk.oq ?_; try walk_nrm) | (refine Walk.un ?_; walk_nrm))
 refine Walk.callW (Post := fun v w' => v = .tuple #[] ∧ (∃ aa' ac', ThX (fun g => St g ∨ w1.heap.size ≤ g) b ops oa oc ((k + 1 : Nat) : Int) 0 (N) (ans ++ [(true, s.vl i)]) aa' ac' e w') ∧ Chg St w1 w') ?_ (ho_of (by conv => lhs; whnf) (by kernel_rfl)) (by rfl) (by decide) rfl Try.func85 (by kernel_rfl) (by rfl) ?_
 ·walk_nrm
  exact told_w true (s.vl i) w1 H0.th hk (by omega)
 rintro v wz ⟨rfl, hz⟩
 have HZ := H0.ends hdis hz
 walk_nrm
 repeat (first | refine Walk.cx ?_ | (refine Walk.cReg ?_; simp only [z63]) | (refine Walk.oq ?_; try walk_nrm) | (refine Walk.un ?_; walk_nrm))
 refine Walk.ctl rfl (fun w => stepG_leave rfl rfl Try.func63 (results_none rfl _ _ w) (events_results_none rfl _ _)) (.stop fun d => ⟨_, ⟨rfl, MidR.at ?_ d⟩, rfl⟩)
 exact HZ
theorem set_s1 (w : World) (X : ThX St b ops oa oc (k : Nat) PC N ans aa ac e w) (M : OmX Sm m cb n cc tl s w) (hdis : ∀ g, Sm g → ¬ St g) (i : Nat) (v : Int) (hd : oR n o PC N (.s1 i v)) (hl : ops.length ≤ 65536) (hk : k ≤ 65536) (hal : ans.length = k) :
  CallW Try.prog main (fun _ => none) 63 #[.pointer (some ⟨m, 0, none⟩), .pointer (some ⟨b, 0, none⟩), opVal o, .pointer (some ⟨cb, i * 3, none⟩)] w (fun vz w' => vz = .tuple #[] ∧ MidR Sm St m cb n cc tl b ops oa oc k o ans e (onAct s (.s1 i v)) w w') := by
 intro c cs
 have hPC : PC = 20 := hd.1
 subst hPC
 have hi : i < n := hd.2.2.1
 have H0 := StW.begin (o := o) X M hdis
 simp only [opVal]
 rw [enter_at _ Try.func63 code63_is]
 simp only [Try.ntmps63, ez, Nat.reduceAdd, Nat.reduceSub]
 repeat (first | refine Walk.cx ?_ | (refine Walk.cReg ?_; simp only [z63]) | (refine Walk.oq ?_; try walk_nrm) | (refine Walk.un ?_; walk_nrm))
 (refine Walk.oa ?_; try walk_nrm)
 generalize hP : w.heap.size = P at *
 generalize w.alloc (.cells #[.int .i64 o.k, .int .i64 o.a, .int .i64 o.b, .int .i64 o.c] 34) = w1 at *
 have kP := tcP H0.th.blk
 have zP := frozen_of H0.th.blk 2
 have kS := H0.ma.stc hi
 have zS := H0.ma.z (i * 3)
 repeat (first | refine Walk.cx ?_ | (refine Walk.cReg ?_; simp only [z63]) | (refine Walk.oq ?_; try walk_nrm) | (refine Walk.un ?_; walk_nrm))
 (have hfr := fr0 b 2; refine Walk.os hfr kP ?_; clear hfr; try walk_nrm)
 have H1 := H0.pcS (23)
 clear kP zP kS zS X M H0
 generalize w1.setCell ⟨b, 2, none⟩ (.int .i64 (23)) = w2 at *
 try walk_nrm
 have kS := H1.ma.stc hi
 have zS := H1.ma.z (i * 3)
 have kP := tcP H1.th.blk
 have zP := frozen_of H1.th.blk 2
 by_cases h2 : s.st i = 0
 ·have hb2 : (s.st i == 0) = true := by simp [h2]
  repeat (first | refine Walk.cx ?_ | (refine Walk.cReg ?_; simp only [z63]) | (refine Walk.oq ?_; try walk_nrm) | (refine Walk.un ?_; walk_nrm))
  (have hfr := fr0 cb (i * 3); refine Walk.os hfr kS ?_; clear hfr; try walk_nrm)
  have H2 := H1.stS hdis hi (1)
  clear kS zS kP zP
  generalize w2.setCell ⟨cb, i * 3, none⟩ (.int .i64 (1)) = w3 at *
  try walk_nrm
  have kP := tcP H2.th.blk
  have zP := frozen_of H2.th.blk 2
  repeat (first | refine Walk.cx ?_ | (refine Walk.cReg ?_; simp only [z63]) | (refine Walk.oq ?_; try walk_nrm) | (refine Walk.un ?_; walk_nrm))
  (have hfr := fr0 b 2; refine Walk.os hfr kP ?_; clear hfr; try walk_nrm)
  have H3 := H2.pcS (21)
  clear kP zP
  generalize w3.setCell ⟨b, 2, none⟩ (.int .i64 (21)) = w4 at *
  try walk_nrm
  repeat (first | refine Walk.cx ?_ | (refine Walk.cReg ?_; simp only [z63]) | (refine Walk.oq ?_; try walk_nrm) | (refine Walk.un ?_; walk_nrm))
  refine Walk.ctl rfl (fun w => stepG_leave rfl rfl Try.func63 (results_none rfl _ _ w) (events_results_none rfl _ _)) (.stop fun d => ⟨_, ⟨rfl, MidR.at ?_ d⟩, rfl⟩)
  rw [show onAct s (.s1 i v) = ({ s with st := upd s.st i 1 }, .inr (.s2 i v)) from if_pos h2]
  exact H3.on ⟨rfl, hd.2.1, hi, hd.2.2.2⟩
 ·have hb2 : (s.st i == 0) = false := by simp [h2]
  repeat (first | refine Walk.cx ?_ | (refine Walk.cReg ?_; simp only [z63]) | (refine Walk.oq ?_; try walk_nrm) | (refine Walk.un ?_; walk_nrm))
  refine Walk.ctl rfl (fun w => stepG_leave rfl rfl Try.func63 (results_none rfl _ _ w) (events_results_none rfl _ _)) (.stop fun d => ⟨_, ⟨rfl, MidR.at ?_ d⟩, rfl⟩)
  rw [show onAct s (.s1 i v) = (s, .inr (.s4 i)) from if_neg h2]
  exact H1.on ⟨rfl, hd.2.1, hi⟩
theorem set_s2 (w : World) (X : ThX St b ops oa oc (k : Nat) PC N ans aa ac e w) (M : OmX Sm m cb n cc tl s w) (hdis : ∀ g, Sm g → ¬ St g) (i : Nat) (v : Int) (hd : oR n o PC N (.s2 i v)) (hl : ops.length ≤ 65536) (hk : k ≤ 65536) (hal : ans.length = k) :
  CallW Try.prog main (fun _ => none) 63 #[.pointer (some ⟨m, 0, none⟩), .pointer (some ⟨b, 0, none⟩), opVal o, .pointer (some ⟨cb, i * 3, none⟩)] w (fun vz w' => vz = .tuple #[] ∧ MidR Sm St m cb n cc tl b ops oa oc k o ans e (onAct s (.s2 i v)) w w') := by
 intro c cs
 have hPC : PC = 21 := hd.1
 subst hPC
 have hi : i < n := hd.2.2.1
 have H0 := StW.begin (o := o) X M hdis
 simp only [opVal]
 rw [enter_at _ Try.func63 code63_is]
 simp only [Try.ntmps63, ez, Nat.reduceAdd, Nat.reduceSub]
 repeat (first | refine Walk.cx ?_ | (refine Walk.cReg ?_; simp only [z63]) | (refine Walk.oq ?_; try walk_nrm) | (refine Walk.un ?_; walk_nrm))
 (refine Walk.oa ?_; try walk_nrm)
 generalize hP : w.heap.size = P at *
 generalize w.alloc (.cells #[.int .i64 o.k, .int .i64 o.a, .int .i64 o.b, .int .i64 o.c] 34) = w1 at *
 have hv := hd.2.2.2
 subst hv
 have kP := tcP H0.th.blk
 have zP := frozen_of H0.th.blk 2
 have kV := H0.ma.vlc hi
 have zV := H0.ma.z (i * 3 + 1)
 have p0 := (cell_of H0.po 0).trans rfl
 have p2 := (cell_of H0.po 2).trans rfl
 repeat (first | refine Walk.cx ?_ | (refine Walk.cReg ?_; simp only [z63]) | (refine Walk.oq ?_; try walk_nrm) | (refine Walk.un ?_; walk_nrm))
 (have hfr := fr0 cb (i * 3 + 1); refine Walk.os hfr kV ?_; clear hfr; try walk_nrm)
 have H1 := H0.vlS hdis hi (o.b)
 clear kP zP kV zV p0 p2 X M H0
 generalize w1.setCell ⟨cb, i * 3 + 1, none⟩ (.int .i64 (o.b)) = w2 at *
 try walk_nrm
 have kP := tcP H1.th.blk
 have zP := frozen_of H1.th.blk 2
 repeat (first | refine Walk.cx ?_ | (refine Walk.cReg ?_; simp only [z63]) | (refine Walk.oq ?_; try walk_nrm) | (refine Walk.un ?_; walk_nrm))
 (have hfr := fr0 b 2; refine Walk.os hfr kP ?_; clear hfr; try walk_nrm)
 have H2 := H1.pcS (22)
 clear kP zP
 generalize w2.setCell ⟨b, 2, none⟩ (.int .i64 (22)) = w3 at *
 try walk_nrm
 repeat (first | refine Walk.cx ?_ | (refine Walk.cReg ?_; simp only [z63]) | (refine Walk.oq ?_; try walk_nrm) | (refine Walk.un ?_; walk_nrm))
 refine Walk.ctl rfl (fun w => stepG_leave rfl rfl Try.func63 (results_none rfl _ _ w) (events_results_none rfl _ _)) (.stop fun d => ⟨_, ⟨rfl, MidR.at ?_ d⟩, rfl⟩)
 exact H2.on ⟨rfl, hd.2.1, hi, rfl⟩
theorem set_s3 (w : World) (X : ThX St b ops oa oc (k : Nat) PC N ans aa ac e w) (M : OmX Sm m cb n cc tl s w) (hdis : ∀ g, Sm g → ¬ St g) (i : Nat) (v : Int) (hd : oR n o PC N (.s3 i v)) (hl : ops.length ≤ 65536) (hk : k ≤ 65536) (hal : ans.length = k) :
  CallW Try.prog main (fun _ => none) 63 #[.pointer (some ⟨m, 0, none⟩), .pointer (some ⟨b, 0, none⟩), opVal o, .pointer (some ⟨cb, i * 3, none⟩)] w (fun vz w' => vz = .tuple #[] ∧ MidR Sm St m cb n cc tl b ops oa oc k o ans e (onAct s (.s3 i v)) w w') := by
 intro c cs
 have hPC : PC = 22 := hd.1
 subst hPC
 have hi : i < n := hd.2.2.1
 have H0 := StW.begin (o := o) X M hdis
 simp only [opVal]
 rw [enter_at _ Try.func63 code63_is]
 simp only [Try.ntmps63, ez, Nat.reduceAdd, Nat.reduceSub]
 repeat (first | refine Walk.cx ?_ | (refine Walk.cReg ?_; simp only [z63]) | (refine Walk.oq ?_; try walk_nrm) | (refine Walk.un ?_; walk_nrm))
 (refine Walk.oa ?_; try walk_nrm)
 generalize hP : w.heap.size = P at *
 generalize w.alloc (.cells #[.int .i64 o.k, .int .i64 o.a, .int .i64 o.b, .int .i64 o.c] 34) = w1 at *
 have hv := hd.2.2.2
 subst hv
 have kP := tcP H0.th.blk
 have zP := frozen_of H0.th.blk 2
 have kS := H0.ma.stc hi
 have zS := H0.ma.z (i * 3)
 have p0 := (cell_of H0.po 0).trans rfl
 have p2 := (cell_of H0.po 2).trans rfl
 repeat (first | refine Walk.cx ?_ | (refine Walk.cReg ?_; simp only [z63]) | (refine Walk.oq ?_; try walk_nrm) | (refine Walk.un ?_; walk_nrm))
 (have hfr := fr0 cb (i * 3); refine Walk.os hfr kS ?_; clear hfr; try walk_nrm)
 have H1 := H0.stS hdis hi (2)
 clear kP zP kS zS p0 p2 X M H0
 generalize w1.setCell ⟨cb, i * 3, none⟩ (.int .i64 (2)) = w2 at *
 try walk_nrm
 have p0 := (cell_of H1.po 0).trans rfl
 have p2 := (cell_of H1.po 2).trans rfl
 repeat (first | refine Walk.cx ?_ | (refine Walk.cReg ?_; simp only [z63]) | (refine Walk.oq ?_; try walk_nrm) | (refine Walk.un ?_; walk_nrm))
 refine Walk.callW (Post := fun v w' => v = .tuple #[] ∧ (∃ aa' ac', ThX (fun g => St g ∨ w2.heap.size ≤ g) b ops oa oc ((k + 1 : Nat) : Int) 0 (N) (ans ++ [(true, o.b)]) aa' ac' e w') ∧ Chg St w2 w') ?_ (ho_of (by conv => lhs; whnf) (by kernel_rfl)) (by rfl) (by decide) rfl Try.func85 (by kernel_rfl) (by rfl) ?_
 ·walk_nrm
  exact told_w true (o.b) w2 H1.th hk (by omega)
 rintro v wz ⟨rfl, hz⟩
 have HZ := H1.ends hdis hz
 walk_nrm
 repeat (first | refine Walk.cx ?_ | (refine Walk.cReg ?_; simp only [z63]) | (refine Walk.oq ?_; try walk_nrm) | (refine Walk.un ?_; walk_nrm))
 refine Walk.ctl rfl (fun w => stepG_leave rfl rfl Try.func63 (results_none rfl _ _ w) (events_results_none rfl _ _)) (.stop fun d => ⟨_, ⟨rfl, MidR.at ?_ d⟩, rfl⟩)
 exact HZ
theorem set_s4 (w : World) (X : ThX St b ops oa oc (k : Nat) PC N ans aa ac e w) (M : OmX Sm m cb n cc tl s w) (hdis : ∀ g, Sm g → ¬ St g) (i : Nat) (hd : oR n o PC N (.s4 i)) (hl : ops.length ≤ 65536) (hk : k ≤ 65536) (hal : ans.length = k) :
  CallW Try.prog main (fun _ => none) 63 #[.pointer (some ⟨m, 0, none⟩), .pointer (some ⟨b, 0, none⟩), opVal o, .pointer (some ⟨cb, i * 3, none⟩)] w (fun vz w' => vz = .tuple #[] ∧ MidR Sm St m cb n cc tl b ops oa oc k o ans e (onAct s (.s4 i)) w w') := by
 intro c cs
 have hPC : PC = 23 := hd.1
 subst hPC
 have hi : i < n := hd.2.2
 have H0 := StW.begin (o := o) X M hdis
 simp only [opVal]
 rw [enter_at _ Try.func63 code63_is]
 simp only [Try.ntmps63, ez, Nat.reduceAdd, Nat.reduceSub]
 repeat (first | refine Walk.cx ?_ | (refine Walk.cReg ?_; simp only [z63]) | (refine Walk.oq ?_; try walk_nrm) | (refine Walk.un ?_; walk_nrm))
 (refine Walk.oa ?_; try walk_nrm)
 generalize hP : w.heap.size = P at *
 generalize w.alloc (.cells #[.int .i64 o.k, .int .i64 o.a, .int .i64 o.b, .int .i64 o.c] 34) = w1 at *
 have kP := tcP H0.th.blk
 have zP := frozen_of H0.th.blk 2
 have kS := H0.ma.stc hi
 have zS := H0.ma.z (i * 3)
 repeat (first | refine Walk.cx ?_ | (refine Walk.cReg ?_; simp only [z63]) | (refine Walk.oq ?_; try walk_nrm) | (refine Walk.un ?_; walk_nrm))
 (have hfr := fr0 b 2; refine Walk.os hfr kP ?_; clear hfr; try walk_nrm)
 have H1 := H0.pcS (24)
 clear kP zP kS zS X M H0
 generalize w1.setCell ⟨b, 2, none⟩ (.int .i64 (24)) = w2 at *
 try walk_nrm
 have kS := H1.ma.stc hi
 have zS := H1.ma.z (i * 3)
 by_cases h2 : s.st i = 2
 ·have hb2 : (s.st i != 2) = false := by simp [h2]
  repeat (first | refine Walk.cx ?_ | (refine Walk.cReg ?_; simp only [z63]) | (refine Walk.oq ?_; try walk_nrm) | (refine Walk.un ?_; walk_nrm))
  refine Walk.ctl rfl (fun w => stepG_leave rfl rfl Try.func63 (results_none rfl _ _ w) (events_results_none rfl _ _)) (.stop fun d => ⟨_, ⟨rfl, MidR.at ?_ d⟩, rfl⟩)
  rw [show onAct s (.s4 i) = (s, .inr (.s5 i)) from if_pos h2]
  exact H1.on ⟨rfl, hd.2.1, hi⟩
 ·have hb2 : (s.st i != 2) = true := by simp [h2]
  repeat (first | refine Walk.cx ?_ | (refine Walk.cReg ?_; simp only [z63]) | (refine Walk.oq ?_; try walk_nrm) | (refine Walk.un ?_; walk_nrm))
  refine Walk.callW (Post := fun v w' => v = .tuple #[] ∧ (∃ aa' ac', ThX (fun g => St g ∨ w2.heap.size ≤ g) b ops oa oc ((k + 1 : Nat) : Int) 0 (N) (ans ++ [(false, 0)]) aa' ac' e w') ∧ Chg St w2 w') ?_ (ho_of (by conv => lhs; whnf) (by kernel_rfl)) (by rfl) (by decide) rfl Try.func85 (by kernel_rfl) (by rfl) ?_
  ·walk_nrm
   exact told_w false (0) w2 H1.th hk (by omega)
  rintro v wz ⟨rfl, hz⟩
  have HZ := H1.ends hdis hz
  walk_nrm
  repeat (first | refine Walk.cx ?_ | (refine Walk.cReg ?_; simp only [z63]) | (refine Walk.oq ?_; try walk_nrm) | (refine Walk.un ?_; walk_nrm))
  refine Walk.ctl rfl (fun w => stepG_leave rfl rfl Try.func63 (results_none rfl _ _ w) (events_results_none rfl _ _)) (.stop fun d => ⟨_, ⟨rfl, MidR.at ?_ d⟩, rfl⟩)
  rw [show onAct s (.s4 i) = (s, .inl (false, 0)) from if_neg h2]
  exact HZ
theorem set_s5 (w : World) (X : ThX St b ops oa oc (k : Nat) PC N ans aa ac e w) (M : OmX Sm m cb n cc tl s w) (hdis : ∀ g, Sm g → ¬ St g) (i : Nat) (hd : oR n o PC N (.s5 i)) (hl : ops.length ≤ 65536) (hk : k ≤ 65536) (hal : ans.length = k) :
  CallW Try.prog main (fun _ => none) 63 #[.pointer (some ⟨m, 0, none⟩), .pointer (some ⟨b, 0, none⟩), opVal o, .pointer (some ⟨cb, i * 3, none⟩)] w (fun vz w' => vz = .tuple #[] ∧ MidR Sm St m cb n cc tl b ops oa oc k o ans e (onAct s (.s5 i)) w w') := by
 intro c cs
 have hPC : PC = 24 := hd.1
 subst hPC
 have hi : i < n := hd.2.2
 have H0 := StW.begin (o := o) X M hdis
 simp only [opVal]
 rw [enter_at _ Try.func63 code63_is]
 simp only [Try.ntmps63, ez, Nat.reduceAdd, Nat.reduceSub]
 repeat (first | refine Walk.cx ?_ | (refine Walk.cReg ?_; simp only [z63]) | (refine Walk.oq ?_; try walk_nrm) | (refine Walk.un ?_; walk_nrm))
 (refine Walk.oa ?_; try walk_nrm)
 generalize hP : w.heap.size = P at *
 generalize w.alloc (.cells #[.int .i64 o.k, .int .i64 o.a, .int .i64 o.b, .int .i64 o.c] 34) = w1 at *
 have kP := tcP H0.th.blk
 have zP := frozen_of H0.th.blk 2
 have kV := H0.ma.vlc hi
 have zV := H0.ma.z (i * 3 + 1)
 repeat (first | refine Walk.cx ?_ | (refine Walk.cReg ?_; simp only [z63]) | (refine Walk.oq ?_; try walk_nrm) | (refine Walk.un ?_; walk_nrm))
 refine Walk.callW (Post := fun v w' => v = .tuple #[] ∧ (∃ aa' ac', ThX (fun g => St g ∨ w1.heap.size ≤ g) b ops oa oc ((k + 1 : Nat) : Int) 0 (N) (ans ++ [(false, s.vl i)]) aa' ac' e w') ∧ Chg St w1 w') ?_ (ho_of (by conv => lhs; whnf) (by kernel_rfl)) (by rfl) (by decide) rfl Try.func85 (by kernel_rfl) (by rfl) ?_
 ·walk_nrm
  exact told_w false (s.vl i) w1 H0.th hk (by omega)
 rintro v wz ⟨rfl, hz⟩
 have HZ := H0.ends hdis hz
 walk_nrm
 repeat (first | refine Walk.cx ?_ | (refine Walk.cReg ?_; simp only [z63]) | (refine Walk.oq ?_; try walk_nrm) | (refine Walk.un ?_; walk_nrm))
 refine Walk.ctl rfl (fun w => stepG_leave rfl rfl Try.func63 (results_none rfl _ _ w) (events_results_none rfl _ _)) (.stop fun d => ⟨_, ⟨rfl, MidR.at ?_ d⟩, rfl⟩)
 exact HZ
end
end
end Go.Proofs.Ytdcjgmlgmjjogaa
