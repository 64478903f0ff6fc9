/- Part 33. -/
import Derived.Test.YtdcjgmlgmjjogaaJ32
set_option linter.unusedSimpArgs false
set_option linter.unusedVariables false
set_option maxHeartbeats 8000000
set_option maxRecDepth 100000
namespace Go.Proofs.Ytdcjgmlgmjjogaa
open Go.Conc Go.RowKit Go.Relay
open Go.ConcN (upd upd_ne upd_same)
section
noncomputable def reg39_0 := rg Try.f39.body [0]
noncomputable def reg39_1 := rg Try.f39.body [1, 0]
theorem size39_1 : reg39_1.size = 8 := by kernel_rfl
noncomputable def reg39_3 := rg Try.f39.body [1, 1, 0, 0, 0]
noncomputable def reg39_4 := rg Try.f39.body [1, 1, 0, 0, 1, 0]
noncomputable def reg39_2 := rg Try.f39.body [1, 1, 0, 0, 1, 1]
noncomputable def reg39_5 := rg Try.f39.body [1, 1, 1]
theorem z39 : List.range reg39_0.size = [0, 1, 2, 3] ∧ List.range reg39_1.size = [0, 1, 2, 3, 4, 5, 6, 7] ∧ List.range reg39_2.size = [0, 1, 2, 3, 4] ∧ List.range reg39_3.size = [0, 1, 2, 3, 4, 5] ∧ List.range reg39_4.size = [0, 1, 2, 3, 4] ∧ List.range reg39_5.size = [0, 1, 2] := by refine ⟨?_, ?_, ?_, ?_, ?_, ?_⟩ <;> kernel_rfl
theorem code39_is : Try.f39.body = some (.seq (.region 0 reg39_0 false) (.seq (.region 1 reg39_1 true) (.seq (.block 0 (.seq (.region 3 reg39_3 false) (.cond (.tmp 20 ) (.region 4 reg39_4 false) (.region 2 reg39_2 false)))) (.region 5 reg39_5 false)))) := by kernel_rfl
section
variable {main : Bool} {Sm St : Nat → Prop} {m cb n cc : Nat} {tl : Value} {b : Nat} {ops : List OpV} {oa : Option Addr} {oc k : Nat} {o : OpV} {PC : Int} {N : Nat → Int} {ans : List Ans} {aa : Option Addr} {ac : Nat} {e : Bool} {s : Oz} {kb : Nat}
theorem set_w (d : OD) (hPC : PC < 30) (w : World) (X : ThX St b ops oa oc (k : Nat) PC N ans aa ac e w) (M : OmX Sm m cb n cc tl s w) (hdis : ∀ g, Sm g → ¬ St g) (i : Nat) (hi : o.a = (i : Nat)) (hd : oR n o PC N d) (hl : ops.length ≤ 65536) (hk : k ≤ 65536) (hal : ans.length = k) :
  CallW Try.prog main (fun _ => none) 63 #[.pointer (some ⟨m, 0, none⟩), .pointer (some ⟨b, 0, none⟩), opVal o, .pointer (some ⟨cb, i * 3, none⟩)] w (fun vz w' => vz = .tuple #[] ∧ MidR Sm St m cb n cc tl b ops oa oc k o ans e (onAct s d) w w') := by
 cases d with
 | g1 c => obtain rfl : c = i := by have := hd.2.1; omega
           exact set_g1 w X M hdis c hd hl hk hal
 | g2 c => obtain rfl : c = i := by have := hd.2.1; omega
           exact set_g2 w X M hdis c hd hl hk hal
 | s1 c v => obtain rfl : c = i := by have := hd.2.1; omega
             exact set_s1 w X M hdis c v hd hl hk hal
 | s2 c v => obtain rfl : c = i := by have := hd.2.1; omega
             exact set_s2 w X M hdis c v hd hl hk hal
 | s3 c v => obtain rfl : c = i := by have := hd.2.1; omega
             exact set_s3 w X M hdis c v hd hl hk hal
 | s4 c => obtain rfl : c = i := by have := hd.2.1; omega
           exact set_s4 w X M hdis c hd hl hk hal
 | s5 c => obtain rfl : c = i := by have := hd.2.1; omega
           exact set_s5 w X M hdis c hd hl hk hal
 | _ => have := hd.1; omega
theorem make_w (d : OD) (hPC : 30 ≤ PC) (w : World) (X : ThX St b ops oa oc (k : Nat) PC N ans aa ac e w) (M : OmX Sm m cb n cc tl s w) (hdis : ∀ g, Sm g → ¬ St g) (i : Nat) (hi : o.a = (i : Nat)) (hd : oR n o PC N d) (hl : ops.length ≤ 65536) (hk : k ≤ 65536) (hal : ans.length = k) :
  CallW Try.prog main (fun _ => none) 64 #[.pointer (some ⟨m, 0, none⟩), .pointer (some ⟨b, 0, none⟩), opVal o, .pointer (some ⟨cb, i * 3, none⟩)] w (fun vz w' => vz = .tuple #[] ∧ MidR Sm St m cb n cc tl b ops oa oc k o ans e (onAct s d) w w') := by
 cases d with
 | m1 q c v r => obtain rfl : c = i := by have := hd.2.1; omega
                 exact make_m1 w X M hdis c q v r hd hl hk hal
 | m2 c => obtain rfl : c = i := by have := hd.2.1; omega
           exact make_m2 w X M hdis c hd hl hk hal
 | m3 q c v r => obtain rfl : c = i := by have := hd.2.1; omega
                 exact make_m3 w X M hdis c q v r hd hl hk hal
 | m4 q c v => obtain rfl : c = i := by have := hd.2.1; omega
               exact make_m4 w X M hdis c q v hd hl hk hal
 | m5 c v => obtain rfl : c = i := by have := hd.2.1; omega
             exact make_m5 w X M hdis c v hd hl hk hal
 | m6 c v => obtain rfl : c = i := by have := hd.2.1; omega
             exact make_m6 w X M hdis c v hd hl hk hal
 | m7 c v => obtain rfl : c = i := by have := hd.2.1; omega
             exact make_m7 w X M hdis c v hd hl hk hal
 | m8 c => obtain rfl : c = i := by have := hd.2.1; omega
           exact make_m8 w X M hdis c hd hl hk hal
 | _ => have := hd.1; omega
theorem MidR.from {r : Oz × (Ans ⊕ OD)} {w w1 w2 : World} (hC : Chg (fun _ => False) w w1) (h : MidR Sm St m cb n cc tl b ops oa oc k o ans e r w1 w2) : MidR Sm St m cb n cc tl b ops oa oc k o ans e r w w2 := by
 obtain ⟨h1, h2, h3⟩ := h
 have hs := hC.size
 refine ⟨h1, Chg.trans (hC.mono fun _ _ h => h.elim) h2 fun _ _ h => h, ?_⟩
 cases hr : r.2 with
 | inl a =>
  rw [hr] at h3
  obtain ⟨N, aa, ac, X⟩ := h3
  exact ⟨N, aa, ac, X.mono fun g h => h.imp id fun h => by omega⟩
 | inr x =>
  rw [hr] at h3
  obtain ⟨PC, N, aa, ac, X, hd⟩ := h3
  exact ⟨PC, N, aa, ac, X.mono fun g h => h.imp id fun h => by omega, hd⟩
def StepR (kb : Nat) (Sm St : Nat → Prop) (m cb n cc : Nat) (tl : Value) (b : Nat) (ops : List OpV) (oa : Option Addr) (oc k : Nat) (ans : List Ans) (r : Oz × (Ans ⊕ OD)) (w w' : World) : Prop :=
 OmX Sm m cb n cc tl (landO (onLa kb n) r (ops.drop (k + 1)) ans).1 w' ∧ TisR (onLa kb n) id (fun g => St g ∨ w.heap.size ≤ g) n b ops oa oc (landO (onLa kb n) r (ops.drop (k + 1)) ans).2 w' ∧ Chg (fun g => Sm g ∨ St g) w w'
theorem StepR.at {r : Oz × (Ans ⊕ OD)} {w w' : World} (h : StepR kb Sm St m cb n cc tl b ops oa oc k ans r w w') (d : Nat) : StepR kb Sm St m cb n cc tl b ops oa oc k ans r w (w'.at d) := ⟨h.1.at d, TIs.same h.2.1 fun _ _ _ => rfl, h.2.2.at d⟩
theorem step_begin {r : Oz × (Ans ⊕ OD)} {w w1 : World} (M : OmX Sm m cb n cc tl s w) (hdis : ∀ g, Sm g → ¬ St g) (hok : ops[k]? = some o) (hl : ops.length ≤ 65536) (hal : ans.length = k) (h : MidR Sm St m cb n cc tl b ops oa oc k o ans e r w w1) :
  CallW Try.prog main (fun _ => none) 34 #[.pointer (some ⟨m, 0, none⟩), .pointer (some ⟨b, 0, none⟩)] w1 (fun v w' => v = .tuple #[] ∧ StepR kb Sm St m cb n cc tl b ops oa oc k ans r w w') := by
 obtain ⟨s', r2⟩ := r
 obtain ⟨M1, hC1, h⟩ := h
 have hkl := (List.getElem?_eq_some_iff.1 hok).1
 obtain ⟨l1, l2⟩ := M.lt
 have hs1 := hC1.size
 have M2 : OmX (fun g => Sm g ∧ g < w.heap.size) m cb n cc tl s' w1 := ⟨M1.blk, M1.row, ⟨M1.sm, l1⟩, ⟨M1.sc, l2⟩, M1.ne⟩
 have dis2 : ∀ g, (Sm g ∧ g < w.heap.size) → ¬ (St g ∨ w.heap.size ≤ g) := fun g hg h => by
  rcases h with h | h
  ·exact hdis g hg.1 h
  ·have := hg.2; omega
 have keep : ∀ w2 : World, Chg (fun g => St g ∨ w.heap.size ≤ g) w1 w2 → OmX Sm m cb n cc tl s' w2 ∧ Chg (fun g => Sm g ∨ St g) w w2 := fun w2 hC2 => by
  refine ⟨(M2.chg hC2 fun g _ hg h => dis2 g hg h).mono fun g h => h.1, hC1.trans hC2 fun g hg h => ?_⟩
  rcases h with h | h
  ·exact .inr h
  ·omega
 have sub : ∀ g, (St g ∨ w.heap.size ≤ g) ∨ w1.heap.size ≤ g → St g ∨ w.heap.size ≤ g := fun g h => h.elim id fun h => .inr (by omega)
 cases r2 with
 | inl a =>
  obtain ⟨N1, aa1, ac1, X1⟩ := h
  intro c cs
  refine (mbg_w (kb := kb) (k + 1) N1 (ans ++ [a]) aa1 ac1 s' w1 M2 dis2 hl (by omega) (by simp; omega) X1 c cs).mono ?_
  rintro g w2 ⟨v, ⟨rfl, hT, hC2⟩, rfl⟩
  obtain ⟨hM, hC⟩ := keep w2 hC2
  refine ⟨_, ⟨rfl, ?_, TIs.mono hT sub, hC⟩, rfl⟩
  show OmX Sm m cb n cc tl (settleO (onLa kb n) s' (ops.drop (k + 1)) (ans ++ [a])).1 w2
  rw [settle_same]
  exact hM
 | inr d =>
  obtain ⟨PC1, N1, aa1, ac1, X1, hd⟩ := h
  intro c cs
  refine (mbg_on (kb := kb) (n := n) m k PC1 N1 ans aa1 ac1 o d w1 hok hal X1 hd c cs).mono ?_
  rintro g w2 ⟨v, ⟨rfl, hT, hC2⟩, rfl⟩
  obtain ⟨hM, hC⟩ := keep w2 hC2
  exact ⟨_, ⟨rfl, hM, TIs.mono hT sub, hC⟩, rfl⟩
theorem step_w (d : OD) (w : World) (X : ThX St b ops oa oc (k : Nat) PC N ans aa ac e w) (M : OmX Sm m cb n cc tl s w) (hdis : ∀ g, Sm g → ¬ St g) (hd : oR n o PC N d) (hok : ops[k]? = some o) (hl : ops.length ≤ 65536) (hal : ans.length = k) (hn : n ≤ 64) :
  CallW Try.prog main (fun _ => none) 39 #[.pointer (some ⟨m, 0, none⟩), .pointer (some ⟨b, 0, none⟩)] w (fun v w' => v = .tuple #[] ∧ StepR kb Sm St m cb n cc tl b ops oa oc k ans (onAct s d) w w') := by
 intro c cs
 have hkl := (List.getElem?_eq_some_iff.1 hok).1
 obtain ⟨fsO, huO⟩ := structT 34 (by kernel_rfl)
 obtain ⟨_, _, hp1, hp2⟩ := oR_pos hd
 obtain ⟨ok, o1, o2, o3⟩ := o
 obtain ⟨i, rfl⟩ : ∃ i : Nat, o1 = i := ⟨o1.toNat, by have h : 0 ≤ o1 := hp1; omega⟩
 have hin : i < n := by have h : (i : Int) < n := hp2; omega
 clear hp1 hp2
 have hi0 : (0 : Int) ≤ i := by omega
 have hi1 : decide ((i : Int) < n) = true := by simp; omega
 have hi3 : decide (i < n) = true := by simp; omega
 have hi4 : (i : Int) < n := by omega
 rw [enter_at _ Try.func39 code39_is]
 simp only [Try.ntmps39, ez, Nat.reduceAdd, Nat.reduceSub]
 repeat (first | refine Walk.cx ?_ | (refine Walk.cReg ?_; simp only [z39]) | (refine Walk.oq ?_; try walk_nrm) | (refine Walk.un ?_; walk_nrm))
 refine Walk.callW (Post := fun v w' => v = opVal ⟨ok, i, o2, o3⟩ ∧ Chg (fun _ => False) w w') ?_ (ho_of (by conv => lhs; whnf) (by kernel_rfl)) (by rfl) (by decide) rfl Try.func60 (by kernel_rfl) (by rfl) ?_
 ·walk_nrm
  exact op_w _ w X hok hl
 rintro v w1 ⟨rfl, hC1⟩
 have hB := boxW_chg w1 ⟨ok, i, o2, o3⟩
 have hBat := boxW_at w1 ⟨ok, i, o2, o3⟩
 have hd0 := heap_alloc_new w1 (.cells #[.int .i64 0, .int .i64 0, .int .i64 0, .int .i64 0] 34)
 simp only [opVal] at hBat ⊢
 walk_nrm
 (refine Walk.oa ?_; try walk_nrm)
 repeat (first | (refine Walk.oq ?_; try walk_nrm) | (refine Walk.un ?_; walk_nrm))
 refine Walk.storeS 34 (.tmp 4) (.tmp 7) (ho_of (by conv => lhs; whnf) (by kernel_rfl)) (by rfl) (by decide) rfl w1.heap.size #[.int .i64 ok, .int .i64 i, .int .i64 o2, .int .i64 o3] _ 34 rfl rfl hd0 (by kernel_rfl) (by rfl) (by simp [Value.oneCell']) (ap0 _) ?_
 have hC2 : Chg (fun _ => False) w (boxW w1 ⟨ok, i, o2, o3⟩) := hC1.trans hB fun _ _ h => h
 generalize hw2 : boxW w1 ⟨ok, i, o2, o3⟩ = w2 at *
 unfold boxW at hw2
 dsimp only at hw2
 rw [hw2]
 generalize w1.heap.size = P at *
 clear hd0 hw2 hB hC1
 have X2 : ThX St b ops oa oc (k : Nat) PC N ans aa ac e w2 := X.same fun g hg _ => hC2.same g hg (fun h => h)
 have M2 := M.chg hC2 fun _ _ _ h => h
 have m0 := M2.c0
 have p1 := (cell_of hBat 1).trans rfl
 have cP := tcP X2.blk
 walk_nrm
 repeat (first | refine Walk.cx ?_ | (refine Walk.cReg ?_; simp only [z39]) | (refine Walk.oq ?_; try walk_nrm) | (refine Walk.un ?_; walk_nrm))
 (refine Walk.drawnC (by kernel_rfl) size39_1 (by kernel_rfl) (by kernel_rfl) (by decide) ?_; simp only [List.range, List.range.loop]; repeat (first | (refine Cm.oq ?_) | (refine Cm.unw (ho_of (by conv => lhs; whnf) (by kernel_rfl)) (by rfl) ?_; walk_nrm)))
 refine Cm.done ?_
 have hld : ∀ (j : Nat) (v : Value), ([.int .i64 ok, .int .i64 i, .int .i64 o2, .int .i64 o3] : List Value)[j]? = some v → w2.cell? ⟨P, 0 + j, none⟩ = some v := fun j v hv => by
  rw [Nat.zero_add, cell_of hBat]
  simpa using hv
 by_cases hPC : PC < 30
 ·have hmid := set_w (main := main) d hPC w2 X2 M2 hdis i rfl hd hl (by omega) hal
  have hcP : decide (PC < 30) = true := decide_eq_true hPC
  repeat (first | refine Walk.cx ?_ | (refine Walk.cReg ?_; simp only [z39]) | (refine Walk.oq ?_; try walk_nrm) | (refine Walk.un ?_; walk_nrm))
  refine Walk.loadS 34 (.tmp 4) (ho_of (by conv => lhs; whnf) (by kernel_rfl)) (by rfl) (by decide) rfl P 0 [.int .i64 ok, .int .i64 i, .int .i64 o2, .int .i64 o3] (.struct fsO) rfl hld huO rfl (by kernel_rfl) ?_
  walk_nrm
  repeat (first | (refine Walk.oq ?_; try walk_nrm) | (refine Walk.un ?_; walk_nrm))
  refine Walk.callW (Post := fun vz w' => vz = .tuple #[] ∧ MidR Sm St m cb n cc tl b ops oa oc k ⟨ok, i, o2, o3⟩ ans e (onAct s d) w2 w') ?_ (ho_of (by conv => lhs; whnf) (by kernel_rfl)) (by rfl) (by decide) rfl Try.func63 (by kernel_rfl) (by rfl) ?_
  ·walk_nrm
   exact hmid
  rintro v w3 ⟨rfl, hM3⟩
  have hbg := step_begin (main := main) (kb := kb) M hdis hok hl hal (hM3.from hC2)
  clear m0 p1 cP hld hmid
  walk_nrm
  repeat (first | refine Walk.cx ?_ | (refine Walk.cReg ?_; simp only [z39]) | (refine Walk.oq ?_; try walk_nrm) | (refine Walk.un ?_; walk_nrm))
  refine Walk.callW (Post := fun v w' => v = .tuple #[] ∧ StepR kb Sm St m cb n cc tl b ops oa oc k ans (onAct s d) w w') ?_ (ho_of (by conv => lhs; whnf) (by kernel_rfl)) (by rfl) (by decide) rfl Try.func34 (by kernel_rfl) (by rfl) ?_
  ·walk_nrm
   exact hbg
  rintro v w4 ⟨rfl, hS⟩
  walk_nrm
  repeat (first | refine Walk.cx ?_ | (refine Walk.cReg ?_; simp only [z39]) | (refine Walk.oq ?_; try walk_nrm) | (refine Walk.un ?_; walk_nrm))
  exact Walk.ctl rfl (fun w => stepG_leave rfl rfl Try.func39 (results_none rfl _ _ w) (events_results_none rfl _ _)) (.stop fun d => ⟨_, ⟨rfl, hS.at d⟩, rfl⟩)
 ·have hmid := make_w (main := main) d (by omega) w2 X2 M2 hdis i rfl hd hl (by omega) hal
  have hcP : decide (PC < 30) = false := decide_eq_false hPC
  repeat (first | refine Walk.cx ?_ | (refine Walk.cReg ?_; simp only [z39]) | (refine Walk.oq ?_; try walk_nrm) | (refine Walk.un ?_; walk_nrm))
  refine Walk.loadS 34 (.tmp 4) (ho_of (by conv => lhs; whnf) (by kernel_rfl)) (by rfl) (by decide) rfl P 0 [.int .i64 ok, .int .i64 i, .int .i64 o2, .int .i64 o3] (.struct fsO) rfl hld huO rfl (by kernel_rfl) ?_
  walk_nrm
  repeat (first | (refine Walk.oq ?_; try walk_nrm) | (refine Walk.un ?_; walk_nrm))
  refine Walk.callW (Post := fun vz w' => vz = .tuple #[] ∧ MidR Sm St m cb n cc tl b ops oa oc k ⟨ok, i, o2, o3⟩ ans e (onAct s d) w2 w') ?_ (ho_of (by conv => lhs; whnf) (by kernel_rfl)) (by rfl) (by decide) rfl Try.func64 (by kernel_rfl) (by rfl) ?_
  ·walk_nrm
   exact hmid
  rintro v w3 ⟨rfl, hM3⟩
  have hbg := step_begin (main := main) (kb := kb) M hdis hok hl hal (hM3.from hC2)
  clear m0 p1 cP hld hmid
  walk_nrm
  repeat (first | refine Walk.cx ?_ | (refine Walk.cReg ?_; simp only [z39]) | (refine Walk.oq ?_; try walk_nrm) | (refine Walk.un ?_; walk_nrm))
  refine Walk.callW (Post := fun v w' => v = .tuple #[] ∧ StepR kb Sm St m cb n cc tl b ops oa oc k ans (onAct s d) w w') ?_ (ho_of (by conv => lhs; whnf) (by kernel_rfl)) (by rfl) (by decide) rfl Try.func34 (by kernel_rfl) (by rfl) ?_
  ·walk_nrm
   exact hbg
  rintro v w4 ⟨rfl, hS⟩
  walk_nrm
  repeat (first | refine Walk.cx ?_ | (refine Walk.cReg ?_; simp only [z39]) | (refine Walk.oq ?_; try walk_nrm) | (refine Walk.un ?_; walk_nrm))
  exact Walk.ctl rfl (fun w => stepG_leave rfl rfl Try.func39 (results_none rfl _ _ w) (events_results_none rfl _ _)) (.stop fun d => ⟨_, ⟨rfl, hS.at d⟩, rfl⟩)
end
end
section
noncomputable def reg38_0 := rg Try.f38.body [0]
noncomputable def reg38_1 := rg Try.f38.body [1, 0]
noncomputable def reg38_2 := rg Try.f38.body [1, 1, 0, 0]
noncomputable def reg38_3 := rg Try.f38.body [1, 1, 0, 1, 0, 0, 0, 0]
noncomputable def reg38_5 := rg Try.f38.body [1, 1, 0, 1, 0, 0, 1, 0, 0]
theorem size38_5 : reg38_5.size = 28 := by kernel_rfl
noncomputable def reg38_4 := rg Try.f38.body [1, 1, 0, 1, 0, 0, 1, 1]
noncomputable def reg38_6 := rg Try.f38.body [1, 1, 1, 0]
theorem z38 : List.range reg38_0.size = [0] ∧ List.range reg38_1.size = [0] ∧ List.range reg38_2.size = [0] ∧ List.range reg38_3.size = [0, 1, 2, 3, 4, 5, 6] ∧ List.range reg38_4.size = [0, 1, 2] ∧ List.range reg38_5.size = [0, 1, 2, 3, 4, 5, 6, 7, 8, 9, 10, 11, 12, 13, 14, 15, 16, 17, 18, 19, 20, 21, 22, 23, 24, 25, 26, 27] ∧ List.range reg38_6.size = [0, 1] := by refine ⟨?_, ?_, ?_, ?_, ?_, ?_, ?_⟩ <;> kernel_rfl
theorem code38_is : Try.f38.body = some (.seq (.region 0 reg38_0 false) (.seq (.region 1 reg38_1 false) (.seq (.seq (.region 2 reg38_2 false) (.block 0 (.loop (.seq (.seq (.region 3 reg38_3 false) (.cond (.tmp 11 ) (.skip) (.exit 0))) (.seq (.block 1 (.region 5 reg38_5 true)) (.region 4 reg38_4 false)))))) (.seq (.region 6 reg38_6 false) (.ret))))) := by kernel_rfl
noncomputable def hdRs (m : Nat) (av : Value) (j : Nat) (u : Nat → Value) : Frame :=
 (base 38).at { tmps := #[.pointer (some ⟨m, 0, none⟩), u 1, u 2, av, .int .i64 j, u 5, u 6, u 7, u 8, u 9, u 10, u 11, u 12, u 13, u 14, u 15, u 16, u 17, u 18, u 19, u 20, u 21, u 22, u 23, u 24, u 25, u 26, u 27, u 28, u 29, u 30, u 31, u 32, u 33, u 34, u 35, u 36, u 37, u 38, u 39, u 40, u 41], defers := [] } [.code (.seq (.seq (.region 3 reg38_3 false) (.cond (.tmp 11 ) (.skip) (.exit 0))) (.seq (.block 1 (.region 5 reg38_5 true)) (.region 4 reg38_4 false))), .inLoop (.seq (.seq (.region 3 reg38_3 false) (.cond (.tmp 11 ) (.skip) (.exit 0))) (.seq (.block 1 (.region 5 reg38_5 true)) (.region 4 reg38_4 false))), .inBlock 0, .code (.seq (.region 6 reg38_6 false) (.ret))]
theorem slots_walkR {P : Program} {main : Bool} {D : World → World → Array Event → Prop} {Stop : Goroutine → World → Prop} {b : Frame} {A : Array Value} {todo : List Item} {cs : List Frame} {w : World} {v : Value} {F : (Nat → Value) → Goroutine} (h : ∀ u, u 3 = v → Walk P main D Stop (F u) w) (e : G (b.at ⟨A, []⟩ todo) cs = F (fun k => A.getD k undef)) (hv : A.getD 3 undef = v) : Walk P main D Stop (G (b.at ⟨A, []⟩ todo) cs) w := e ▸ h _ hv
def tmR (m : Nat) (j : Nat) (u : Nat → Value) : Array Value := #[.pointer (some ⟨m, 0, none⟩), u 1, u 2, u 3, .int .i64 j, u 5, u 6, u 7, u 8, u 9, u 10, u 11, u 12, u 13, u 14, u 15, u 16, u 17, u 18, u 19, u 20, u 21, u 22, u 23, u 24, u 25, u 26, u 27, u 28, u 29, u 30, u 31, u 32, u 33, u 34, u 35, u 36, u 37, u 38, u 39, u 40, u 41]
def dsR : List Nat := [14, 15, 16, 17, 18, 19, 20, 21, 22, 23, 24, 25, 26, 27, 28, 29, 30, 31, 32, 33, 34, 35, 36, 37, 38, 39, 40, 3]
def vsR (m cb n cc j : Nat) (ta : Option Addr) (pl tc : Nat) (x y z : Int) (B g cap : Nat) : List Value := [.slice ta pl tc, .pointer (some ⟨m, 0, none⟩), .pointer (some ⟨m, 0, none⟩), .pointer (some ⟨m, 0, none⟩), .slice (some ⟨cb, 0, none⟩) n cc, .int .i64 j, .pointer (some ⟨cb, j * 3, none⟩), .pointer (some ⟨cb, j * 3, none⟩), .int .i64 x, .pointer (some ⟨m, 0, none⟩), .pointer (some ⟨m, 0, none⟩), .pointer (some ⟨m, 0, none⟩), .slice (some ⟨cb, 0, none⟩) n cc, .int .i64 j, .pointer (some ⟨cb, j * 3, none⟩), .pointer (some ⟨cb, j * 3 + 1, none⟩), .int .i64 y, .pointer (some ⟨m, 0, none⟩), .pointer (some ⟨m, 0, none⟩), .pointer (some ⟨m, 0, none⟩), .slice (some ⟨cb, 0, none⟩) n cc, .int .i64 j, .pointer (some ⟨cb, j * 3, none⟩), .pointer (some ⟨cb, j * 3 + 2, none⟩), .int .i64 z, .slice (some ⟨B, 0, none⟩) 3 3, .slice (some ⟨g, 0, none⟩) (pl + 3) cap, .slice (some ⟨g, 0, none⟩) (pl + 3) cap]
theorem vsR_g (m cb n cc j : Nat) (ta : Option Addr) (pl tc : Nat) (x y z : Int) (B g cap : Nat) (g' cap' : Nat) {i : Nat} (h : i < 26) : (vsR m cb n cc j ta pl tc x y z B g cap)[i]? = (vsR m cb n cc j ta pl tc x y z B g' cap')[i]? := by
 match i, h with
 | 0, _ => rfl
 | 1, _ => rfl
 | 2, _ => rfl
 | 3, _ => rfl
 | 4, _ => rfl
 | 5, _ => rfl
 | 6, _ => rfl
 | 7, _ => rfl
 | 8, _ => rfl
 | 9, _ => rfl
 | 10, _ => rfl
 | 11, _ => rfl
 | 12, _ => rfl
 | 13, _ => rfl
 | 14, _ => rfl
 | 15, _ => rfl
 | 16, _ => rfl
 | 17, _ => rfl
 | 18, _ => rfl
 | 19, _ => rfl
 | 20, _ => rfl
 | 21, _ => rfl
 | 22, _ => rfl
 | 23, _ => rfl
 | 24, _ => rfl
 | 25, _ => rfl
 | i + 26, h => exact absurd h (by omega)
inductive StR (w0 w w1 : World) (pre : List Int) (x y z : Int) (f : Nat → Bool) (g cap : Nat) (w' : World) : Prop
 | early (h1 : f 25 = false) (h2 : f 26 = false) (h3 : f 27 = false) (e : ∃ d, w' = w.at d)
 | laid (h1 : f 25 = true) (h2 : f 26 = false) (h3 : f 27 = false) (e : ∃ d, w' = w1.at d)
 | added (h1 : f 26 = true) (own : w'.ownsRow w0.heap.size 2 1 (.slice (some ⟨g, 0, none⟩) (pre.length + 3) cap) (pre.length + 3) (intRow pre ++ [.int .i64 x, .int .i64 y, .int .i64 z])) (old : ∀ b, b < w0.heap.size → w'.heap[b]? = w.heap[b]?) (size : w.heap.size ≤ w'.heap.size)
theorem StR.quiet {w0 w w1 : World} {pre : List Int} {x y z : Int} {f : Nat → Bool} {g cap : Nat} {w' : World} (H : StR w0 w w1 pre x y z f g cap w') {i : Nat} (hi : i < 25) : StR w0 w w1 pre x y z (upd f i true) g cap w' := by
 have n25 : upd f i true 25 = f 25 := upd_ne _ _ (by omega)
 have n26 : upd f i true 26 = f 26 := upd_ne _ _ (by omega)
 have n27 : upd f i true 27 = f 27 := upd_ne _ _ (by omega)
 cases H with
 | early h1 h2 h3 e => exact .early (n25.trans h1) (n26.trans h2) (n27.trans h3) e
 | laid h1 h2 h3 e => exact .laid (n25.trans h1) (n26.trans h2) (n27.trans h3) e
 | added h1 own old size => exact .added (n26.trans h1) own old size
theorem StR.olds {w0 w w1 : World} {pre : List Int} {x y z : Int} {f : Nat → Bool} {g cap : Nat} {w' : World} (H : StR w0 w w1 pre x y z f g cap w') (h1 : ∀ b, b < w0.heap.size → w1.heap[b]? = w.heap[b]?) : ∀ b, b < w0.heap.size → w'.heap[b]? = w.heap[b]? := by
 cases H with
 | early _ _ _ e => obtain ⟨d, rfl⟩ := e; exact fun _ _ => rfl
 | laid _ _ _ e => obtain ⟨d, rfl⟩ := e; exact h1
 | added _ _ old _ => exact old
section
variable {main : Bool} {S : Nat → Prop} {m cb n cc : Nat} {tl : Value} {s : Oz}
theorem rs_round (hn : n ≤ 64) (w0 : World) (M0 : OmX S m cb n cc tl s w0) (j : Nat) (hj : j < n) (ta : Option Addr) (tc : Nat) (u : Nat → Value) (cs : List Frame) (w : World) (H : VI w0 w (ozState s j) ta tc) :
  Walk Try.prog main (DR (fun _ => none)) (fun g w' => ∃ ta tc, (∃ u, g = G (hdRs m (.slice ta (ozState s (j + 1)).length tc) (j + 1) u) cs) ∧ VI w0 w' (ozState s (j + 1)) ta tc) (G (hdRs m (.slice ta (ozState s j).length tc) j u) cs) w := by
 have hi2 := Option.some_get (show (Try.prog.info? 2).isSome = true by kernel_rfl)
 have M : OmX S m cb n cc tl s w := M0.same fun g hg _ => H.old g hg
 obtain ⟨l1, l2⟩ := M0.lt
 have hj0 : (0 : Int) ≤ j := by omega
 have hj1 : decide ((j : Int) < n) = true := by simp; omega
 have hj3 : decide (j < n) = true := by simp; omega
 have hj4 : (j : Int) < n := by omega
 have hw1 : IntKind.wrap .i64 ((j : Int) + 1) = ((j + 1 : Nat) : Int) := by rw [IntKind.wrap_i64]; omega
 have hlen : (ozState s j).length ≤ 192 := by rw [ozState_len]; omega
 have hs1 := ozState_succ s j
 have c0 := M.c0
 have cx := M.stc hj
 have cy := M.vlc hj
 have cz := M.ctc hj
 generalize hpre : ozState s j = pre at *
 generalize hx : s.st j = x at *
 generalize hy : s.vl j = y at *
 generalize hz : s.ct j = z at *
 have d1 := heap_alloc_new w (.cells #[.int .i64 x, .int .i64 y, .int .i64 z] 2)
 have o1 : ∀ b, b < w.heap.size → (w.alloc (.cells #[.int .i64 x, .int .i64 y, .int .i64 z] 2)).heap[b]? = w.heap[b]? := fun b hb => heap_new_lt _ _ hb
 have s1 : (w.alloc (.cells #[.int .i64 x, .int .i64 y, .int .i64 z] 2)).heap.size = w.heap.size + 1 := by simp
 have hHs := H.size
 have hrow : (w.alloc (.cells #[.int .i64 x, .int .i64 y, .int .i64 z] 2)).ownsRow w0.heap.size 2 1 (.slice ta pre.length tc) pre.length (intRow pre) := row_same H.row fun b hb => o1 b (by have := (H.row.lt b hb).2; omega)
 have hcell : ∀ (w2 : World) (a q : Nat) (v : Value), (∀ b, b < w0.heap.size → w2.heap[b]? = w.heap[b]?) → a < w0.heap.size → w.cell? ⟨a, q, none⟩ = some v → w2.cell? ⟨a, q, none⟩ = some v := fun w2 a q v ho ha h => (World.cell?_of_block (a := ⟨a, q, none⟩) (ho a ha)).trans h
 have hold1 : ∀ b, b < w0.heap.size → (w.alloc (.cells #[.int .i64 x, .int .i64 y, .int .i64 z] 2)).heap[b]? = w.heap[b]? := fun b hb => o1 b (by omega)
 unfold hdRs
 repeat (first | refine Walk.cx ?_ | (refine Walk.cReg ?_; simp only [z38]) | (refine Walk.oq ?_; try walk_nrm) | (refine Walk.un ?_; walk_nrm))
 generalize hB : w.heap.size = B at *
 generalize hw1' : w.alloc (.cells #[.int .i64 x, .int .i64 y, .int .i64 z] 2) = w1 at *
 refine slots_walkR (F := fun u => G ((base 38).at ⟨tmR m j u, []⟩ (.code (.region 5 reg38_5 true) :: _)) cs) (A := _) (v := .slice ta pre.length tc) (fun u0 hu0 => ?_) rfl rfl
 refine Walk.drawnJ (Inv := fun f ac' w' => ∃ u g cap, ac' = ⟨tmR m j u, []⟩ ∧ Facts dsR (vsR m cb n cc j ta pre.length tc x y z B g cap) f u ∧ (f 27 = false → u 3 = .slice ta pre.length tc) ∧ StR w0 w w1 pre x y z f g cap w') (by kernel_rfl) (by kernel_rfl) (fun d => ⟨u0, 0, 0, rfl, Facts.none _ _ _, fun _ => hu0, .early rfl rfl rfl ⟨d, rfl⟩⟩) ?_ ?_
 ·rintro f i op act w' ⟨u, g, cap, rfl, F0, h3, Q⟩ hC hfi ho hdeps rest hr
  have hi : i < 28 := by have := (Array.getElem?_eq_some_iff.1 ho).1; rw [size38_5] at this; exact this
  have hold := Q.olds hold1
  have k0 := hcell w' _ _ _ hold l1 c0
  have kx := hcell w' _ _ _ hold l2 cx
  have ky := hcell w' _ _ _ hold l2 cy
  have kz := hcell w' _ _ _ hold l2 cz
  have h27 : ∀ i, i < 27 → f i = false → f 27 = false := fun i hi h => by
   cases h' : f 27 with
   | false => rfl
   | true =>
    have := hC.deps (i := 27) (l := [0, 1, 2, 3, 4, 5, 6, 7, 8, 9, 10, 11, 12, 13, 14, 15, 16, 17, 18, 19, 20, 21, 22, 23, 24, 25, 26]) h' (by kernel_rfl) i (by have : i ∈ List.range 27 := List.mem_range.2 hi; exact this)
    rw [h] at this
    cases this
  match i, hi with
  | 0, _ =>
   have e3 := h3 (h27 0 (by decide) hfi)
   clear hdeps hC h27
   simp only [tmR] at hr ⊢
   simp only [e3]
   (refine Walk.oq ?_; try walk_nrm)
   refine hr _ _ ⟨upd u 14 (.slice ta pre.length tc), g, cap, ?_, F0.set (by decide) rfl rfl, fun h => (upd_ne _ _ (by decide)).trans (h3 (by rwa [upd_ne _ _ (by decide)] at h)), Q.quiet (by decide)⟩
   simp [tmR, upd, e3]
  | 1, _ =>
   clear hdeps hC h27
   simp only [tmR] at hr ⊢
   (refine Walk.oq ?_; try walk_nrm)
   refine hr _ _ ⟨upd u 15 (.pointer (some ⟨m, 0, none⟩)), g, cap, ?_, F0.set (by decide) rfl rfl, fun h => (upd_ne _ _ (by decide)).trans (h3 (by rwa [upd_ne _ _ (by decide)] at h)), Q.quiet (by decide)⟩
   simp [tmR, upd]
  | 2, _ =>
   have hd := deps_of (l := [1]) (by kernel_rfl) ho hdeps
   have e15 := F0 1 15 _ (hd 1 (by simp)) rfl rfl
   clear hdeps hC h27
   simp only [tmR] at hr ⊢
   simp only [e15]
   (refine Walk.oq ?_; try walk_nrm)
   refine hr _ _ ⟨upd u 16 (.pointer (some ⟨m, 0, none⟩)), g, cap, ?_, F0.set (by decide) rfl rfl, fun h => (upd_ne _ _ (by decide)).trans (h3 (by rwa [upd_ne _ _ (by decide)] at h)), Q.quiet (by decide)⟩
   simp [tmR, upd, e15]
  | 3, _ =>
   have hd := deps_of (l := [2]) (by kernel_rfl) ho hdeps
   have e16 := F0 2 16 _ (hd 2 (by simp)) rfl rfl
   clear hdeps hC h27
   simp only [tmR] at hr ⊢
   simp only [e16]
   (refine Walk.oq ?_; try walk_nrm)
   refine hr _ _ ⟨upd u 17 (.pointer (some ⟨m, 0, none⟩)), g, cap, ?_, F0.set (by decide) rfl rfl, fun h => (upd_ne _ _ (by decide)).trans (h3 (by rwa [upd_ne _ _ (by decide)] at h)), Q.quiet (by decide)⟩
   simp [tmR, upd, e16]
  | 4, _ =>
   have hd := deps_of (l := [3]) (by kernel_rfl) ho hdeps
   have e17 := F0 3 17 _ (hd 3 (by simp)) rfl rfl
   clear hdeps hC h27
   simp only [tmR] at hr ⊢
   simp only [e17]
   (refine Walk.oq ?_; try walk_nrm)
   refine hr _ _ ⟨upd u 18 (.slice (some ⟨cb, 0, none⟩) n cc), g, cap, ?_, F0.set (by decide) rfl rfl, fun h => (upd_ne _ _ (by decide)).trans (h3 (by rwa [upd_ne _ _ (by decide)] at h)), Q.quiet (by decide)⟩
   simp [tmR, upd, e17]
  | 5, _ =>
   clear hdeps hC h27
   simp only [tmR] at hr ⊢
   (refine Walk.oq ?_; try walk_nrm)
   refine hr _ _ ⟨upd u 19 (.int .i64 j), g, cap, ?_, F0.set (by decide) rfl rfl, fun h => (upd_ne _ _ (by decide)).trans (h3 (by rwa [upd_ne _ _ (by decide)] at h)), Q.quiet (by decide)⟩
   simp [tmR, upd]
  | 6, _ =>
   have hd := deps_of (l := [4, 5]) (by kernel_rfl) ho hdeps
   have e18 := F0 4 18 _ (hd 4 (by simp)) rfl rfl
   have e19 := F0 5 19 _ (hd 5 (by simp)) rfl rfl
   clear hdeps hC h27
   simp only [tmR] at hr ⊢
   simp only [e18, e19]
   (refine Walk.oq ?_; try walk_nrm)
   refine hr _ _ ⟨upd u 20 (.pointer (some ⟨cb, j * 3, none⟩)), g, cap, ?_, F0.set (by decide) rfl rfl, fun h => (upd_ne _ _ (by decide)).trans (h3 (by rwa [upd_ne _ _ (by decide)] at h)), Q.quiet (by decide)⟩
   simp [tmR, upd, e18, e19]
  | 7, _ =>
   have hd := deps_of (l := [6]) (by kernel_rfl) ho hdeps
   have e20 := F0 6 20 _ (hd 6 (by simp)) rfl rfl
   clear hdeps hC h27
   simp only [tmR] at hr ⊢
   simp only [e20]
   (refine Walk.oq ?_; try walk_nrm)
   refine hr _ _ ⟨upd u 21 (.pointer (some ⟨cb, j * 3, none⟩)), g, cap, ?_, F0.set (by decide) rfl rfl, fun h => (upd_ne _ _ (by decide)).trans (h3 (by rwa [upd_ne _ _ (by decide)] at h)), Q.quiet (by decide)⟩
   simp [tmR, upd, e20]
  | 8, _ =>
   have hd := deps_of (l := [7]) (by kernel_rfl) ho hdeps
   have e21 := F0 7 21 _ (hd 7 (by simp)) rfl rfl
   clear hdeps hC h27
   simp only [tmR] at hr ⊢
   simp only [e21]
   (refine Walk.oq ?_; try walk_nrm)
   refine hr _ _ ⟨upd u 22 (.int .i64 x), g, cap, ?_, F0.set (by decide) rfl rfl, fun h => (upd_ne _ _ (by decide)).trans (h3 (by rwa [upd_ne _ _ (by decide)] at h)), Q.quiet (by decide)⟩
   simp [tmR, upd, e21]
  | 9, _ =>
   clear hdeps hC h27
   simp only [tmR] at hr ⊢
   (refine Walk.oq ?_; try walk_nrm)
   refine hr _ _ ⟨upd u 23 (.pointer (some ⟨m, 0, none⟩)), g, cap, ?_, F0.set (by decide) rfl rfl, fun h => (upd_ne _ _ (by decide)).trans (h3 (by rwa [upd_ne _ _ (by decide)] at h)), Q.quiet (by decide)⟩
   simp [tmR, upd]
  | 10, _ =>
   have hd := deps_of (l := [9]) (by kernel_rfl) ho hdeps
   have e23 := F0 9 23 _ (hd 9 (by simp)) rfl rfl
   clear hdeps hC h27
   simp only [tmR] at hr ⊢
   simp only [e23]
   (refine Walk.oq ?_; try walk_nrm)
   refine hr _ _ ⟨upd u 24 (.pointer (some ⟨m, 0, none⟩)), g, cap, ?_, F0.set (by decide) rfl rfl, fun h => (upd_ne _ _ (by decide)).trans (h3 (by rwa [upd_ne _ _ (by decide)] at h)), Q.quiet (by decide)⟩
   simp [tmR, upd, e23]
  | 11, _ =>
   have hd := deps_of (l := [10]) (by kernel_rfl) ho hdeps
   have e24 := F0 10 24 _ (hd 10 (by simp)) rfl rfl
   clear hdeps hC h27
   simp only [tmR] at hr ⊢
   simp only [e24]
   (refine Walk.oq ?_; try walk_nrm)
   refine hr _ _ ⟨upd u 25 (.pointer (some ⟨m, 0, none⟩)), g, cap, ?_, F0.set (by decide) rfl rfl, fun h => (upd_ne _ _ (by decide)).trans (h3 (by rwa [upd_ne _ _ (by decide)] at h)), Q.quiet (by decide)⟩
   simp [tmR, upd, e24]
  | 12, _ =>
   have hd := deps_of (l := [11]) (by kernel_rfl) ho hdeps
   have e25 := F0 11 25 _ (hd 11 (by simp)) rfl rfl
   clear hdeps hC h27
   simp only [tmR] at hr ⊢
   simp only [e25]
   (refine Walk.oq ?_; try walk_nrm)
   refine hr _ _ ⟨upd u 26 (.slice (some ⟨cb, 0, none⟩) n cc), g, cap, ?_, F0.set (by decide) rfl rfl, fun h => (upd_ne _ _ (by decide)).trans (h3 (by rwa [upd_ne _ _ (by decide)] at h)), Q.quiet (by decide)⟩
   simp [tmR, upd, e25]
  | 13, _ =>
   clear hdeps hC h27
   simp only [tmR] at hr ⊢
   (refine Walk.oq ?_; try walk_nrm)
   refine hr _ _ ⟨upd u 27 (.int .i64 j), g, cap, ?_, F0.set (by decide) rfl rfl, fun h => (upd_ne _ _ (by decide)).trans (h3 (by rwa [upd_ne _ _ (by decide)] at h)), Q.quiet (by decide)⟩
   simp [tmR, upd]
  | 14, _ =>
   have hd := deps_of (l := [12, 13]) (by kernel_rfl) ho hdeps
   have e26 := F0 12 26 _ (hd 12 (by simp)) rfl rfl
   have e27 := F0 13 27 _ (hd 13 (by simp)) rfl rfl
   clear hdeps hC h27
   simp only [tmR] at hr ⊢
   simp only [e26, e27]
   (refine Walk.oq ?_; try walk_nrm)
   refine hr _ _ ⟨upd u 28 (.pointer (some ⟨cb, j * 3, none⟩)), g, cap, ?_, F0.set (by decide) rfl rfl, fun h => (upd_ne _ _ (by decide)).trans (h3 (by rwa [upd_ne _ _ (by decide)] at h)), Q.quiet (by decide)⟩
   simp [tmR, upd, e26, e27]
  | 15, _ =>
   have hd := deps_of (l := [14]) (by kernel_rfl) ho hdeps
   have e28 := F0 14 28 _ (hd 14 (by simp)) rfl rfl
   clear hdeps hC h27
   simp only [tmR] at hr ⊢
   simp only [e28]
   (refine Walk.oq ?_; try walk_nrm)
   refine hr _ _ ⟨upd u 29 (.pointer (some ⟨cb, j * 3 + 1, none⟩)), g, cap, ?_, F0.set (by decide) rfl rfl, fun h => (upd_ne _ _ (by decide)).trans (h3 (by rwa [upd_ne _ _ (by decide)] at h)), Q.quiet (by decide)⟩
   simp [tmR, upd, e28]
  | 16, _ =>
   have hd := deps_of (l := [15]) (by kernel_rfl) ho hdeps
   have e29 := F0 15 29 _ (hd 15 (by simp)) rfl rfl
   clear hdeps hC h27
   simp only [tmR] at hr ⊢
   simp only [e29]
   (refine Walk.oq ?_; try walk_nrm)
   refine hr _ _ ⟨upd u 30 (.int .i64 y), g, cap, ?_, F0.set (by decide) rfl rfl, fun h => (upd_ne _ _ (by decide)).trans (h3 (by rwa [upd_ne _ _ (by decide)] at h)), Q.quiet (by decide)⟩
   simp [tmR, upd, e29]
  | 17, _ =>
   clear hdeps hC h27
   simp only [tmR] at hr ⊢
   (refine Walk.oq ?_; try walk_nrm)
   refine hr _ _ ⟨upd u 31 (.pointer (some ⟨m, 0, none⟩)), g, cap, ?_, F0.set (by decide) rfl rfl, fun h => (upd_ne _ _ (by decide)).trans (h3 (by rwa [upd_ne _ _ (by decide)] at h)), Q.quiet (by decide)⟩
   simp [tmR, upd]
  | 18, _ =>
   have hd := deps_of (l := [17]) (by kernel_rfl) ho hdeps
   have e31 := F0 17 31 _ (hd 17 (by simp)) rfl rfl
   clear hdeps hC h27
   simp only [tmR] at hr ⊢
   simp only [e31]
   (refine Walk.oq ?_; try walk_nrm)
   refine hr _ _ ⟨upd u 32 (.pointer (some ⟨m, 0, none⟩)), g, cap, ?_, F0.set (by decide) rfl rfl, fun h => (upd_ne _ _ (by decide)).trans (h3 (by rwa [upd_ne _ _ (by decide)] at h)), Q.quiet (by decide)⟩
   simp [tmR, upd, e31]
  | 19, _ =>
   have hd := deps_of (l := [18]) (by kernel_rfl) ho hdeps
   have e32 := F0 18 32 _ (hd 18 (by simp)) rfl rfl
   clear hdeps hC h27
   simp only [tmR] at hr ⊢
   simp only [e32]
   (refine Walk.oq ?_; try walk_nrm)
   refine hr _ _ ⟨upd u 33 (.pointer (some ⟨m, 0, none⟩)), g, cap, ?_, F0.set (by decide) rfl rfl, fun h => (upd_ne _ _ (by decide)).trans (h3 (by rwa [upd_ne _ _ (by decide)] at h)), Q.quiet (by decide)⟩
   simp [tmR, upd, e32]
  | 20, _ =>
   have hd := deps_of (l := [19]) (by kernel_rfl) ho hdeps
   have e33 := F0 19 33 _ (hd 19 (by simp)) rfl rfl
   clear hdeps hC h27
   simp only [tmR] at hr ⊢
   simp only [e33]
   (refine Walk.oq ?_; try walk_nrm)
   refine hr _ _ ⟨upd u 34 (.slice (some ⟨cb, 0, none⟩) n cc), g, cap, ?_, F0.set (by decide) rfl rfl, fun h => (upd_ne _ _ (by decide)).trans (h3 (by rwa [upd_ne _ _ (by decide)] at h)), Q.quiet (by decide)⟩
   simp [tmR, upd, e33]
  | 21, _ =>
   clear hdeps hC h27
   simp only [tmR] at hr ⊢
   (refine Walk.oq ?_; try walk_nrm)
   refine hr _ _ ⟨upd u 35 (.int .i64 j), g, cap, ?_, F0.set (by decide) rfl rfl, fun h => (upd_ne _ _ (by decide)).trans (h3 (by rwa [upd_ne _ _ (by decide)] at h)), Q.quiet (by decide)⟩
   simp [tmR, upd]
  | 22, _ =>
   have hd := deps_of (l := [20, 21]) (by kernel_rfl) ho hdeps
   have e34 := F0 20 34 _ (hd 20 (by simp)) rfl rfl
   have e35 := F0 21 35 _ (hd 21 (by simp)) rfl rfl
   clear hdeps hC h27
   simp only [tmR] at hr ⊢
   simp only [e34, e35]
   (refine Walk.oq ?_; try walk_nrm)
   refine hr _ _ ⟨upd u 36 (.pointer (some ⟨cb, j * 3, none⟩)), g, cap, ?_, F0.set (by decide) rfl rfl, fun h => (upd_ne _ _ (by decide)).trans (h3 (by rwa [upd_ne _ _ (by decide)] at h)), Q.quiet (by decide)⟩
   simp [tmR, upd, e34, e35]
  | 23, _ =>
   have hd := deps_of (l := [22]) (by kernel_rfl) ho hdeps
   have e36 := F0 22 36 _ (hd 22 (by simp)) rfl rfl
   clear hdeps hC h27
   simp only [tmR] at hr ⊢
   simp only [e36]
   (refine Walk.oq ?_; try walk_nrm)
   refine hr _ _ ⟨upd u 37 (.pointer (some ⟨cb, j * 3 + 2, none⟩)), g, cap, ?_, F0.set (by decide) rfl rfl, fun h => (upd_ne _ _ (by decide)).trans (h3 (by rwa [upd_ne _ _ (by decide)] at h)), Q.quiet (by decide)⟩
   simp [tmR, upd, e36]
  | 24, _ =>
   have hd := deps_of (l := [23]) (by kernel_rfl) ho hdeps
   have e37 := F0 23 37 _ (hd 23 (by simp)) rfl rfl
   clear hdeps hC h27
   simp only [tmR] at hr ⊢
   simp only [e37]
   (refine Walk.oq ?_; try walk_nrm)
   refine hr _ _ ⟨upd u 38 (.int .i64 z), g, cap, ?_, F0.set (by decide) rfl rfl, fun h => (upd_ne _ _ (by decide)).trans (h3 (by rwa [upd_ne _ _ (by decide)] at h)), Q.quiet (by decide)⟩
   simp [tmR, upd, e37]
  | 25, _ =>
   have hd := deps_of (l := [8, 16, 24]) (by kernel_rfl) ho hdeps
   have e22 := F0 8 22 _ (hd 8 (by simp)) rfl rfl
   have e30 := F0 16 30 _ (hd 16 (by simp)) rfl rfl
   have e38 := F0 24 38 _ (hd 24 (by simp)) rfl rfl
   have f26 : f 26 = false := by
    cases h : f 26 with
    | false => rfl
    | true => have := hC.deps (i := 26) (l := [25]) h (by kernel_rfl) 25 (by simp); rw [hfi] at this; cases this
   have f27 := h27 25 (by decide) hfi
   have h3' := h3 f27
   cases Q with
   | laid h1 => rw [hfi] at h1; cases h1
   | added h1 => rw [f26] at h1; cases h1
   | early _ _ _ e =>
    obtain ⟨d, rfl⟩ := e
    refine Walk.back ?_ d
    clear hdeps hC h27 k0 kx ky kz
    simp only [tmR] at hr ⊢
    simp only [e22, e30, e38]
    (refine Walk.oa ?_; try walk_nrm)
    first | rw [hw1', hB] | rw [hw1'] | rw [hB] | skip
    refine hr _ _ ⟨upd u 39 (.slice (some ⟨B, 0, none⟩) 3 3), g, cap, ?_, F0.set (by decide) rfl rfl, fun _ => (upd_ne _ _ (by decide)).trans h3', .laid (upd_same _ _ _) ((upd_ne _ _ (by decide)).trans f26) ((upd_ne _ _ (by decide)).trans f27) ⟨w1.drawn, rfl⟩⟩
    simp [tmR, upd, e22, e30, e38, h3']
  | 26, _ =>
   have hd := deps_of (l := [0, 25]) (by kernel_rfl) ho hdeps
   have e14 := F0 0 14 _ (hd 0 (by simp)) rfl rfl
   have e39 := F0 25 39 _ (hd 25 (by simp)) rfl rfl
   have f25 := hd 25 (by simp)
   have f27 := h27 26 (by decide) hfi
   have h3' := h3 f27
   cases Q with
   | early h1 => rw [f25] at h1; cases h1
   | added h1 => rw [hfi] at h1; cases h1
   | laid _ _ _ e =>
    obtain ⟨d, rfl⟩ := e
    refine Walk.back ?_ d
    clear hdeps hC h27 k0 kx ky kz
    simp only [tmR] at hr ⊢
    simp only [e14, e39]
    refine Walk.append (.tmp 14) (.tmp 39) 27 (ho_of (by conv => lhs; whnf) (by kernel_rfl)) (by rfl) (by decide) rfl w0.heap.size 2 _ (.int .i64 0) 1 8 (by kernel_rfl) hi2.symm (by rfl) (by rfl) (by rfl) (by rfl) (by decide) (.slice ta pre.length tc) pre.length (intRow pre) rfl hrow ⟨B, 0, none⟩ 3 3 [.int .i64 x, .int .i64 y, .int .i64 z] rfl (by rfl) (fun j u hu => ?_) (by intro u hu; simp only [List.mem_cons, List.not_mem_nil, or_false] at hu; rcases hu with rfl | rfl | rfl <;> rfl) (by decide) (by simp [maxLen]; omega) (by omega) (by omega) (fun b _ => ap0 b) (fun g2 cap2 w3 hown hgr hat hlt => ?_)
    ·rw [add_none, Nat.zero_add]
     refine (cell_of d1 j).trans ?_
     simpa using hu
    have hs3 := hgr.size
    walk_nrm
    refine hr _ _ ⟨upd u 40 (.slice (some ⟨g2, 0, none⟩) (pre.length + 3) cap2), g2, cap2, ?_, Facts.set (fun j d x hf hd hx => ?_) (by decide) rfl rfl, fun _ => (upd_ne _ _ (by decide)).trans h3', .added (upd_same _ _ _) hown (fun b hb => ?_) (by omega)⟩
    ·simp [tmR, upd, e14, e39, h3']
    ·have hj : j < 28 := (List.getElem?_eq_some_iff.1 hx).1
     have n26 : j ≠ 26 := fun h => by rw [h, hfi] at hf; cases hf
     have n27 : j ≠ 27 := fun h => by rw [h, f27] at hf; cases hf
     exact F0 j d x hf hd ((vsR_g m cb n cc _ ta pre.length tc _ y z B g cap g2 cap2 (by omega)).trans hx)
    ·refine (hgr.block b (by omega) fun he => ?_).trans (hold1 b hb)
     have := (H.row.lt b he.symm).1
     omega
  | 27, _ =>
   have hd := deps_of (l := [26]) (by kernel_rfl) ho hdeps
   have e40 := F0 26 40 _ (hd 26 (by simp)) rfl rfl
   have f26 := hd 26 (by simp)
   cases Q with
   | early _ h1 => rw [f26] at h1; cases h1
   | laid _ h1 => rw [f26] at h1; cases h1
   | added _ own old size =>
    clear hdeps hC h27 k0 kx ky kz
    simp only [tmR] at hr ⊢
    simp only [e40]
    (refine Walk.oq ?_; try walk_nrm)
    refine hr _ _ ⟨upd u 3 (.slice (some ⟨g, 0, none⟩) (pre.length + 3) cap), g, cap, ?_, F0.set (by decide) rfl rfl, fun h => (by rw [upd_same] at h; cases h), .added ((upd_ne _ _ (by decide)).trans f26) own old size⟩
    simp [tmR, upd, e40]
 rintro f act w2 ⟨u, g, cap, rfl, F0, h3, Q⟩ hall
 have hall : ∀ j, j < 28 → f j = true := fun j hj => hall j (by rw [size38_5]; exact hj)
 have e3 := F0 27 3 _ (hall 27 (by decide)) rfl rfl
 have hQ : w2.ownsRow w0.heap.size 2 1 (.slice (some ⟨g, 0, none⟩) (pre.length + 3) cap) (pre.length + 3) (intRow pre ++ [.int .i64 x, .int .i64 y, .int .i64 z]) ∧ (∀ b, b < w0.heap.size → w2.heap[b]? = w.heap[b]?) ∧ B ≤ w2.heap.size := by
  cases Q with
  | early h1 => rw [hall 25 (by decide)] at h1; cases h1
  | laid _ h1 => rw [hall 26 (by decide)] at h1; cases h1
  | added _ own old size => exact ⟨own, old, by omega⟩
 obtain ⟨hown, ho, hsz⟩ := hQ
 clear Q F0 h3
 simp only [tmR, e3]
 try walk_nrm
 repeat (first | refine Walk.cx ?_ | (refine Walk.cReg ?_; simp only [z38]) | (refine Walk.oq ?_; try walk_nrm) | (refine Walk.un ?_; walk_nrm))
 refine Walk.ctl rfl (fun w => stepG_inLoop) ?_
 have hl1 : pre.length + 3 = (ozState s (j + 1)).length := by rw [hs1]; simp
 refine .stop fun d => ⟨some ⟨g, 0, none⟩, cap, at_slots ?_, ?_, fun b hb => (ho b hb).trans (H.old b hb), ?_⟩
 ·rw [← hl1]
  simp only [hdRs]
  rfl
 ·have he : intRow (ozState s (j + 1)) = intRow pre ++ [.int .i64 x, .int .i64 y, .int .i64 z] := by rw [hs1]; simp [intRow]
  rw [he, ← hl1]
  exact hown
 ·show w0.heap.size ≤ w2.heap.size
  omega
theorem rs_loop (hn : n ≤ 64) (w0 : World) (M0 : OmX S m cb n cc tl s w0) (cs : List Frame) : ∀ (r j : Nat) (ta : Option Addr) (tc : Nat) (u : Nat → Value) (w : World), j + r = n → VI w0 w (ozState s j) ta tc →
  Walk Try.prog main (DR (fun _ => none)) (fun g w' => ∃ ta tc, (∃ u, g = G (hdRs m (.slice ta (ozState s n).length tc) n u) cs) ∧ VI w0 w' (ozState s n) ta tc) (G (hdRs m (.slice ta (ozState s j).length tc) j u) cs) w := by
 intro r
 induction r with
 | zero =>
  intro j ta tc u w hj H
  obtain rfl : j = n := by omega
  exact .stop fun d => ⟨ta, tc, ⟨u, rfl⟩, H.row, H.old, H.size⟩
 | succ r ih =>
  intro j ta tc u w hj H
  refine (rs_round hn w0 M0 j (by omega) ta tc u cs w H).then ?_
  rintro _ w1 ⟨ta1, tc1, ⟨u1, rfl⟩, H1⟩
  exact ih (j + 1) ta1 tc1 u1 w1 (by omega) H1
theorem rs_in (m : Nat) (cs : List Frame) (w : World) : Walk Try.prog main (DR (fun _ => none)) (fun g w' => (∃ u, g = G (hdRs m (.slice none 0 0) 0 u) cs) ∧ ∃ d, w' = w.at d) (G (Frame.enter Try.prog 38 #[.pointer (some ⟨m, 0, none⟩)] .normal) cs) w := by
 rw [enter_at _ Try.func38 code38_is]
 simp only [Try.ntmps38, ez, Nat.reduceAdd, Nat.reduceSub]
 repeat (first | refine Walk.cx ?_ | (refine Walk.cReg ?_; simp only [z38]) | (refine Walk.oq ?_; try walk_nrm) | (refine Walk.un ?_; walk_nrm))
 refine Walk.ctl rfl (fun w => stepG_loop) ?_
 refine .stop fun d => ⟨at_slots ?_, d, rfl⟩
 simp only [hdRs]
 rfl
theorem rs_end (w0 w : World) (M : OmX S m cb n cc tl s w) (ta : Option Addr) (tc : Nat) (u : Nat → Value) (c : Frame) (cs : List Frame) : Walk Try.prog main (DR (fun _ => none)) (fun g w' => g = G (c.finish (.slice ta (ozState s n).length tc)) cs ∧ ∃ d, w' = w.at d) (G (hdRs m (.slice ta (ozState s n).length tc) n u) (c :: cs)) w := by
 have c0 := M.c0
 have hj3 : decide (n < n) = false := by simp
 have hj1 : decide ((n : Int) < n) = false := by simp
 generalize (ozState s n).length = nn
 unfold hdRs
 repeat (first | refine Walk.cx ?_ | (refine Walk.cReg ?_; simp only [z38]) | (refine Walk.oq ?_; try walk_nrm) | (refine Walk.un ?_; walk_nrm))
 exact Walk.on1 rfl rfl Try.func38 rfl (.stop fun d => ⟨rfl, d, rfl⟩)
theorem rstate_w (hn : n ≤ 64) (w : World) (M : OmX S m cb n cc tl s w) : CallW Try.prog main (fun _ => none) 38 #[.pointer (some ⟨m, 0, none⟩)] w (ValOut w (ozState s n)) := by
 intro c cs
 refine (rs_in m (c :: cs) w).then ?_
 rintro _ w1 ⟨⟨u, rfl⟩, d, rfl⟩
 refine Walk.back ?_ d
 refine (rs_loop hn w M (c :: cs) n 0 none 0 u w (by omega) ⟨⟨rfl, .inl ⟨rfl, rfl⟩⟩, fun _ _ => rfl, Nat.le_refl _⟩).then ?_
 rintro _ w2 ⟨ta2, tc2, ⟨u2, rfl⟩, H2⟩
 refine (rs_end w w2 (M.same fun g hg _ => H2.old g hg) ta2 tc2 u2 c cs).mono ?_
 rintro g w' ⟨rfl, d, rfl⟩
 exact ⟨_, ⟨ta2, tc2, rfl, H2.at d⟩, rfl⟩
end
end
end Go.Proofs.Ytdcjgmlgmjjogaa
