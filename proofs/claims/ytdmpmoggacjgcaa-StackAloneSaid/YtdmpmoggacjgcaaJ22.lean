/- Part 22. -/
import Derived.Test.YtdmpmoggacjgcaaJ21
set_option linter.unusedSimpArgs false
set_option linter.unusedVariables false
set_option maxHeartbeats 8000000
set_option maxRecDepth 100000
namespace Go.Proofs.Ytdmpmoggacjgcaa
open Go.Conc Go.RowKit Go.Relay
open Go.ConcN (upd upd_ne upd_same)
section
section
variable {main : Bool} {Sm St : Nat → Prop} {m nb vb n cn cv : Nat} {tg : Bool} {tl : Value} {b : Nat} {ops : List OpV} {oa : Option Addr} {oc k : Nat} {o : OpV} {PC : Int} {N : Nat → Int} {ans : List Ans} {aa : Option Addr} {ac : Nat} {e : Bool} {s : Sk} {kb0 nb0 : Nat}
theorem push_w (d : SD) (hPC : PC < 20) (w : World) (X : ThX St b ops oa oc (k : Nat) PC N ans aa ac e w) (M : MaX Sm m nb vb n cn cv tg tl s w) (hdis : ∀ g, Sm g → ¬ St g) (hd : dR n o PC N d) (hok : ops[k]? = some o) (hl : ops.length ≤ 65536) (hal : ans.length = k) (hn : n ≤ 65536) :
  CallW Try.prog main (fun _ => none) 60 #[.pointer (some ⟨m, 0, none⟩), .pointer (some ⟨b, 0, none⟩)] w (fun v w' => v = .tuple #[] ∧ MidR Sm St m nb vb n cn cv tg tl b ops oa oc k o ans e (skAct tg s d) w w') := by
 cases d with
 | pu1 v => exact push_1 v w X M hdis hd hok hl hal hn
 | pu2 v top => exact push_2 v top w X M hdis hd hok hl hal hn
 | pu3 v top nx => exact push_3 v top nx w X M hdis hd hok hl hal hn
 | pu4 v i => exact push_4 v i w X M hdis hd hok hl hal hn
 | pu5 i => exact push_5 i w X M hdis hd hok hl hal hn
 | pu6 i top => exact push_6 i top w X M hdis hd hok hl hal hn
 | pu7 i top => exact push_7 i top w X M hdis hd hok hl hal hn
 | _ => simp only [dR] at hd; omega
theorem pop_w (d : SD) (hPC : 20 ≤ PC) (hPC2 : PC < 30) (w : World) (X : ThX St b ops oa oc (k : Nat) PC N ans aa ac e w) (M : MaX Sm m nb vb n cn cv tg tl s w) (hdis : ∀ g, Sm g → ¬ St g) (hd : dR n o PC N d) (hok : ops[k]? = some o) (hl : ops.length ≤ 65536) (hal : ans.length = k) (hn : n ≤ 65536) :
  CallW Try.prog main (fun _ => none) 61 #[.pointer (some ⟨m, 0, none⟩), .pointer (some ⟨b, 0, none⟩)] w (fun v w' => v = .tuple #[] ∧ MidR Sm St m nb vb n cn cv tg tl b ops oa oc k o ans e (skAct tg s d) w w') := by
 cases d with
 | po1 => exact pop_1 w X M hdis hd hok hl hal hn
 | po2 top => exact pop_2 top w X M hdis hd hok hl hal hn
 | po3 top nx => exact pop_3 top nx w X M hdis hd hok hl hal hn
 | po4 i => exact pop_4 i w X M hdis hd hok hl hal hn
 | po5 i v => exact pop_5 i v w X M hdis hd hok hl hal hn
 | po6 i v top => exact pop_6 i v top w X M hdis hd hok hl hal hn
 | po7 i v top => exact pop_7 i v top w X M hdis hd hok hl hal hn
 | _ => simp only [dR] at hd; omega
def StepR (kb0 nb0 : Nat) (Sm St : Nat → Prop) (m nb vb n cn cv : Nat) (tg : Bool) (tl : Value) (b : Nat) (ops : List OpV) (oa : Option Addr) (oc k : Nat) (ans : List Ans) (r : Sk × (Ans ⊕ SD)) (w w' : World) : Prop :=
 MaX Sm m nb vb n cn cv tg tl (landO (skLa kb0 nb0 n tg) r (ops.drop (k + 1)) ans).1 w' ∧ TisR (skLa kb0 nb0 n tg) id (fun g => St g ∨ w.heap.size ≤ g) n b ops oa oc (landO (skLa kb0 nb0 n tg) r (ops.drop (k + 1)) ans).2 w' ∧ Chg (fun g => Sm g ∨ St g) w w'
theorem StepR.at {r : Sk × (Ans ⊕ SD)} {w w' : World} (h : StepR kb0 nb0 Sm St m nb vb n cn cv tg tl b ops oa oc k ans r w w') (d : Nat) : StepR kb0 nb0 Sm St m nb vb n cn cv tg tl b ops oa oc k ans r w (w'.at d) := ⟨h.1.at d, TIs.same h.2.1 fun _ _ _ => rfl, h.2.2.at d⟩
theorem step_begin {r : Sk × (Ans ⊕ SD)} {w w1 : World} (M : MaX Sm m nb vb n cn cv tg tl s w) (hdis : ∀ g, Sm g → ¬ St g) (hok : ops[k]? = some o) (hl : ops.length ≤ 65536) (hal : ans.length = k) (h : MidR Sm St m nb vb n cn cv tg tl b ops oa oc k o ans e r w w1) :
  CallW Try.prog main (fun _ => none) 37 #[.pointer (some ⟨m, 0, none⟩), .pointer (some ⟨b, 0, none⟩)] w1 (fun v w' => v = .tuple #[] ∧ StepR kb0 nb0 Sm St m nb vb n cn cv tg tl b ops oa oc k ans r w w') := by
 obtain ⟨s', r2⟩ := r
 obtain ⟨M1, hC1, h⟩ := h
 have hkl := (List.getElem?_eq_some_iff.1 hok).1
 obtain ⟨l1, l2, l3⟩ := M.lt
 have hs1 := hC1.size
 have M2 : MaX (fun g => Sm g ∧ g < w.heap.size) m nb vb n cn cv tg tl s' w1 := ⟨M1.blk, M1.nx, M1.vl, M1.hd, M1.fr, M1.nxb, M1.tag, ⟨M1.sm, l1⟩, ⟨M1.sn, l2⟩, ⟨M1.sv, l3⟩, M1.ne⟩
 have keep : ∀ w2 : World, Chg (fun g => St g ∨ w.heap.size ≤ g) w1 w2 → MaX Sm m nb vb n cn cv tg tl s' w2 ∧ Chg (fun g => Sm g ∨ St g) w w2 := fun w2 hC2 => by
  refine ⟨(M2.chg hC2 fun g _ hg h => ?_).mono fun g h => h.1, hC1.trans hC2 fun g hg h => ?_⟩
  ·rcases h with h | h
   ·exact hdis g hg.1 h
   ·have := hg.2; omega
  ·rcases h with h | h
   ·exact .inr h
   ·omega
 have sub : ∀ g, (St g ∨ w.heap.size ≤ g) ∨ w1.heap.size ≤ g → St g ∨ w.heap.size ≤ g := fun g h => h.elim id fun h => .inr (by omega)
 cases r2 with
 | inl a =>
  obtain ⟨N1, aa1, ac1, X1⟩ := h
  intro c cs
  refine (mbg_w (kb := kb0) (nb := nb0) (n := n) (tg := tg) m (k + 1) N1 (ans ++ [a]) aa1 ac1 s' w1 hl (by omega) (by simp; omega) X1 c cs).mono ?_
  rintro g w2 ⟨v, ⟨rfl, hT, hC2⟩, rfl⟩
  obtain ⟨hM, hC⟩ := keep w2 hC2
  refine ⟨_, ⟨rfl, ?_, TIs.mono hT sub, hC⟩, rfl⟩
  show MaX Sm m nb vb n cn cv tg tl (settleO (skLa kb0 nb0 n tg) s' (ops.drop (k + 1)) (ans ++ [a])).1 w2
  rw [settle_same]
  exact hM
 | inr d =>
  obtain ⟨PC1, N1, aa1, ac1, X1, hd⟩ := h
  intro c cs
  refine (mbg_on (kb := kb0) (nb := nb0) (n := n) (tg := tg) m k PC1 N1 ans aa1 ac1 o d w1 hok hal X1 hd c cs).mono ?_
  rintro g w2 ⟨v, ⟨rfl, hT, hC2⟩, rfl⟩
  obtain ⟨hM, hC⟩ := keep w2 hC2
  exact ⟨_, ⟨rfl, hM, TIs.mono hT sub, hC⟩, rfl⟩
end
end
section
noncomputable def reg42_0 := rg Try.f42.body [0, 0, 0]
noncomputable def reg42_1 := rg Try.f42.body [0, 0, 1, 0]
noncomputable def reg42_2 := rg Try.f42.body [0, 0, 1, 1, 0]
noncomputable def reg42_3 := rg Try.f42.body [0, 0, 1, 1, 1, 0]
noncomputable def reg42_4 := rg Try.f42.body [0, 0, 1, 1, 1, 1, 0]
noncomputable def reg42_5 := rg Try.f42.body [0, 0, 1, 1, 1, 1, 1, 0, 0]
theorem size42_5 : reg42_5.size = 10 := by kernel_rfl
noncomputable def reg42_6 := rg Try.f42.body [0, 0, 1, 1, 1, 1, 1, 0, 1, 0]
theorem size42_6 : reg42_6.size = 10 := by kernel_rfl
noncomputable def reg42_7 := rg Try.f42.body [0, 0, 1, 1, 1, 1, 1, 0, 1, 1, 0]
noncomputable def reg42_8 := rg Try.f42.body [0, 0, 1, 1, 1, 1, 1, 0, 1, 1, 1, 0]
noncomputable def reg42_9 := rg Try.f42.body [0, 0, 1, 1, 1, 1, 1, 0, 1, 1, 1, 1, 0]
noncomputable def reg42_10 := rg Try.f42.body [0, 0, 1, 1, 1, 1, 1, 1, 0]
noncomputable def reg42_11 := rg Try.f42.body [0, 0, 1, 1, 1, 1, 1, 1, 1, 0, 0]
theorem size42_11 : reg42_11.size = 16 := by kernel_rfl
noncomputable def reg42_12 := rg Try.f42.body [0, 0, 1, 1, 1, 1, 1, 1, 1, 0, 1]
noncomputable def reg42_13 := rg Try.f42.body [0, 0, 1, 1, 1, 1, 1, 1, 1, 1, 0]
noncomputable def reg42_14 := rg Try.f42.body [0, 0, 1, 1, 1, 1, 1, 1, 1, 1, 1, 0, 0]
theorem size42_14 : reg42_14.size = 24 := by kernel_rfl
noncomputable def reg42_15 := rg Try.f42.body [0, 0, 1, 1, 1, 1, 1, 1, 1, 1, 1, 0, 1, 0]
noncomputable def reg42_16 := rg Try.f42.body [0, 0, 1, 1, 1, 1, 1, 1, 1, 1, 1, 0, 1, 1, 0]
theorem size42_16 : reg42_16.size = 10 := by kernel_rfl
noncomputable def reg42_17 := rg Try.f42.body [0, 0, 1, 1, 1, 1, 1, 1, 1, 1, 1, 0, 1, 1, 1, 0]
theorem size42_17 : reg42_17.size = 10 := by kernel_rfl
noncomputable def reg42_18 := rg Try.f42.body [0, 0, 1, 1, 1, 1, 1, 1, 1, 1, 1, 0, 1, 1, 1, 1, 0]
noncomputable def reg42_19 := rg Try.f42.body [0, 0, 1, 1, 1, 1, 1, 1, 1, 1, 1, 0, 1, 1, 1, 1, 1, 0]
noncomputable def reg42_20 := rg Try.f42.body [0, 0, 1, 1, 1, 1, 1, 1, 1, 1, 1, 0, 1, 1, 1, 1, 1, 1, 0]
noncomputable def reg42_21 := rg Try.f42.body [0, 0, 1, 1, 1, 1, 1, 1, 1, 1, 1, 1, 0]
noncomputable def reg42_22 := rg Try.f42.body [0, 0, 1, 1, 1, 1, 1, 1, 1, 1, 1, 1, 1, 0]
noncomputable def reg42_23 := rg Try.f42.body [1]
theorem z42 : List.range reg42_0.size = [0, 1, 2, 3, 4, 5] ∧ List.range reg42_1.size = [0, 1, 2] ∧ List.range reg42_2.size = [0, 1, 2, 3, 4, 5] ∧ List.range reg42_3.size = [0, 1, 2] ∧ List.range reg42_4.size = [0, 1, 2, 3, 4, 5] ∧ List.range reg42_5.size = [0, 1, 2, 3, 4, 5, 6, 7, 8, 9] ∧ List.range reg42_6.size = [0, 1, 2, 3, 4, 5, 6, 7, 8, 9] ∧ List.range reg42_7.size = [0, 1, 2, 3] ∧ List.range reg42_8.size = [0, 1, 2, 3, 4, 5] ∧ List.range reg42_9.size = [0, 1, 2] ∧ List.range reg42_10.size = [0, 1, 2, 3, 4, 5] ∧ List.range reg42_11.size = [0, 1, 2, 3, 4, 5, 6, 7, 8, 9, 10, 11, 12, 13, 14, 15] ∧ List.range reg42_12.size = [0, 1, 2, 3] ∧ List.range reg42_13.size = [0, 1, 2, 3, 4, 5] ∧ List.range reg42_14.size = [0, 1, 2, 3, 4, 5, 6, 7, 8, 9, 10, 11, 12, 13, 14, 15, 16, 17, 18, 19, 20, 21, 22, 23] ∧ List.range reg42_15.size = [0, 1, 2, 3, 4, 5, 6, 7] ∧ List.range reg42_16.size = [0, 1, 2, 3, 4, 5, 6, 7, 8, 9] ∧ List.range reg42_17.size = [0, 1, 2, 3, 4, 5, 6, 7, 8, 9] ∧ List.range reg42_18.size = [0, 1, 2, 3] ∧ List.range reg42_19.size = [0, 1, 2, 3, 4, 5] ∧ List.range reg42_20.size = [0, 1, 2] ∧ List.range reg42_21.size = [0, 1, 2, 3, 4, 5] ∧ List.range reg42_22.size = [0, 1, 2, 3, 4, 5, 6, 7, 8] ∧ List.range reg42_23.size = [0, 1, 2] := by refine ⟨?_, ?_, ?_, ?_, ?_, ?_, ?_, ?_, ?_, ?_, ?_, ?_, ?_, ?_, ?_, ?_, ?_, ?_, ?_, ?_, ?_, ?_, ?_, ?_⟩ <;> kernel_rfl
theorem code42_is : Try.f42.body = some (.seq (.block 0 (.seq (.region 0 reg42_0 false) (.cond (.tmp 4 ) (.region 1 reg42_1 false) (.seq (.region 2 reg42_2 false) (.cond (.tmp 13 ) (.region 3 reg42_3 false) (.seq (.region 4 reg42_4 false) (.cond (.tmp 22 ) (.seq (.region 5 reg42_5 true) (.seq (.region 6 reg42_6 true) (.seq (.region 7 reg42_7 false) (.seq (.region 8 reg42_8 false) (.cond (.tmp 54 ) (.region 9 reg42_9 false) (.skip)))))) (.seq (.region 10 reg42_10 false) (.cond (.tmp 58 ) (.seq (.region 11 reg42_11 true) (.region 12 reg42_12 false)) (.seq (.region 13 reg42_13 false) (.cond (.tmp 82 ) (.seq (.region 14 reg42_14 true) (.cond (.tmp 111 ) (.region 15 reg42_15 false) (.seq (.region 16 reg42_16 true) (.seq (.region 17 reg42_17 true) (.seq (.region 18 reg42_18 false) (.seq (.region 19 reg42_19 false) (.cond (.tmp 146 ) (.region 20 reg42_20 false) (.skip)))))))) (.seq (.region 21 reg42_21 false) (.cond (.tmp 150 ) (.region 22 reg42_22 false) (.skip)))))))))))))) (.region 23 reg42_23 false)) := by kernel_rfl
section
variable {main : Bool} {Sm St : Nat → Prop} {m nb vb n cn cv : Nat} {tg : Bool} {tl : Value} {b : Nat} {ops : List OpV} {oa : Option Addr} {oc k : Nat} {o : OpV} {PC : Int} {N : Nat → Int} {ans : List Ans} {aa : Option Addr} {ac : Nat} {e : Bool} {s : Sk} {kb0 nb0 : Nat}
theorem step_pe1 (w : World) (X : ThX St b ops oa oc (k : Nat) PC N ans aa ac e w) (M : MaX Sm m nb vb n cn cv tg tl s w) (hdis : ∀ g, Sm g → ¬ St g) (hd : dR n o PC N .pe1) (hok : ops[k]? = some o) (hl : ops.length ≤ 65536) (hal : ans.length = k) (hn : n ≤ 65536) :
  CallW Try.prog main (fun _ => none) 42 #[.pointer (some ⟨m, 0, none⟩), .pointer (some ⟨b, 0, none⟩)] w (fun v w' => v = .tuple #[] ∧ StepR kb0 nb0 Sm St m nb vb n cn cv tg tl b ops oa oc k ans (skAct tg s .pe1) w w') := by
 intro c cs
 have hkl := (List.getElem?_eq_some_iff.1 hok).1
 have hbm : m ≠ b := fun h => hdis m M.sm (by rw [h]; exact X.sb)
 have hbn : nb ≠ b := fun h => hdis nb M.sn (by rw [h]; exact X.sb)
 have hbv : vb ≠ b := fun h => hdis vb M.sv (by rw [h]; exact X.sb)
 obtain rfl : PC = 30 := hd
 have hb0 := X.blk
 have ho0 : ∀ g, g ≠ b → w.heap[g]? = w.heap[g]? := fun _ _ => rfl
 have hs0 : w.heap.size = w.heap.size := rfl
 have hCB : Chg (fun g => Sm g ∨ St g) w w := Chg.refl
 have cP0 : w.cell? ⟨b, 2, none⟩ = some (.int .i64 30) := tcP hb0
 have hOk := M.hd
 have mhn0 : w.cell? ⟨m, 2, none⟩ = some (.int .i64 (nodeX s.hd)) := mc2 (M.same fun g _ hg => ho0 g (fun h => hdis g hg (by rw [h]; exact X.sb))).blk
 have mht0 : w.cell? ⟨m, 3, none⟩ = some (.int .i64 (tagX s.hd)) := mc3 (M.same fun g _ hg => ho0 g (fun h => hdis g hg (by rw [h]; exact X.sb))).blk
 have hia0 := evix0
 have hia1 := evix1
 have hia2 := evix2
 have hia3 := evix3
 have hia4 := evix4
 rw [enter_at _ Try.func42 code42_is]
 simp only [Try.ntmps42, ez, Nat.reduceAdd, Nat.reduceSub]
 refine Walk.gz z42 ?_
 have cX := tc0 hb0
 have zX := frozen_of hb0 3
 (refine Walk.drawnL (by kernel_rfl) size42_5 (by kernel_rfl) (by kernel_rfl) (by kernel_rfl) (by decide) ?_; simp only [List.range, List.range.loop]; repeat (first | (refine Cm.oq ?_) | (refine Cm.unw hoA (by rfl) ?_; walk_nrm)))
 refine Cm.done ?_
 intro rest hr0
 (have hfr := fr0 b 3; refine Walk.os hfr cX ?_; clear hfr; try walk_nrm)
 refine hr0 _ _ ?_
 have hb1 : (w.setCell ⟨b, 3, none⟩ (.int .i64 (nodeX s.hd))).heap[b]? = some (.cells (thA (.slice oa ops.length oc) (k : Nat) 30 (upd N 0 (nodeX s.hd)) (.slice none 0 0) (.slice aa ans.length ac) e) 120) := by rw [heap_set_self _ _ hb0, thA_0]
 have ho1 : ∀ g, g ≠ b → (w.setCell ⟨b, 3, none⟩ (.int .i64 (nodeX s.hd))).heap[g]? = w.heap[g]? := fun g hg => (heap_set_other _ _ _ _ hg).trans (ho0 g hg)
 have hs1 : (w.setCell ⟨b, 3, none⟩ (.int .i64 (nodeX s.hd))).heap.size = w.heap.size := (size_set ..).trans hs0
 clear cX zX
 generalize w.setCell ⟨b, 3, none⟩ (.int .i64 (nodeX s.hd)) = w1 at *
 try walk_nrm
 refine Walk.gz z42 ?_
 have mhn1 : w1.cell? ⟨m, 2, none⟩ = some (.int .i64 (nodeX s.hd)) := mc2 (M.same fun g _ hg => ho1 g (fun h => hdis g hg (by rw [h]; exact X.sb))).blk
 have mht1 : w1.cell? ⟨m, 3, none⟩ = some (.int .i64 (tagX s.hd)) := mc3 (M.same fun g _ hg => ho1 g (fun h => hdis g hg (by rw [h]; exact X.sb))).blk
 have cX := tc1 hb1
 have zX := frozen_of hb1 4
 (refine Walk.drawnL (by kernel_rfl) size42_6 (by kernel_rfl) (by kernel_rfl) (by kernel_rfl) (by decide) ?_; simp only [List.range, List.range.loop]; repeat (first | (refine Cm.oq ?_) | (refine Cm.unw hoA (by rfl) ?_; walk_nrm)))
 refine Cm.done ?_
 intro rest hr0
 (have hfr := fr0 b 4; refine Walk.os hfr cX ?_; clear hfr; try walk_nrm)
 refine hr0 _ _ ?_
 have hb2 : (w1.setCell ⟨b, 4, none⟩ (.int .i64 (tagX s.hd))).heap[b]? = some (.cells (thA (.slice oa ops.length oc) (k : Nat) 30 (upd (upd N 0 (nodeX s.hd)) 1 (tagX s.hd)) (.slice none 0 0) (.slice aa ans.length ac) e) 120) := by rw [heap_set_self _ _ hb1, thA_1]
 have ho2 : ∀ g, g ≠ b → (w1.setCell ⟨b, 4, none⟩ (.int .i64 (tagX s.hd))).heap[g]? = w.heap[g]? := fun g hg => (heap_set_other _ _ _ _ hg).trans (ho1 g hg)
 have hs2 : (w1.setCell ⟨b, 4, none⟩ (.int .i64 (tagX s.hd))).heap.size = w.heap.size := (size_set ..).trans hs1
 clear cX zX
 generalize w1.setCell ⟨b, 4, none⟩ (.int .i64 (tagX s.hd)) = w2 at *
 try walk_nrm
 refine Walk.gz z42 ?_
 have cX := tcP hb2
 have zX := frozen_of hb2 2
 (have hfr := fr0 b 2; refine Walk.os hfr cX ?_; clear hfr; try walk_nrm)
 have hb3 : (w2.setCell ⟨b, 2, none⟩ (.int .i64 31)).heap[b]? = some (.cells (thA (.slice oa ops.length oc) (k : Nat) 31 (upd (upd N 0 (nodeX s.hd)) 1 (tagX s.hd)) (.slice none 0 0) (.slice aa ans.length ac) e) 120) := by rw [heap_set_self _ _ hb2, thA_PC]
 have ho3 : ∀ g, g ≠ b → (w2.setCell ⟨b, 2, none⟩ (.int .i64 31)).heap[g]? = w.heap[g]? := fun g hg => (heap_set_other _ _ _ _ hg).trans (ho2 g hg)
 have hs3 : (w2.setCell ⟨b, 2, none⟩ (.int .i64 31)).heap.size = w.heap.size := (size_set ..).trans hs2
 clear cX zX
 generalize w2.setCell ⟨b, 2, none⟩ (.int .i64 31) = w3 at *
 try walk_nrm
 have n3_3 : w3.cell? ⟨b, 3, none⟩ = some (.int .i64 (nodeX s.hd)) := (tc0 hb3).trans (congrArg (fun z => some (Value.int .i64 z)) (rfl))
 by_cases hz : nodeX s.hd = -1
 ·have hzd : decide (nodeX s.hd < 0) = true := by simp; omega
  refine Walk.gz z42 ?_
  have Xe : ThX St b ops oa oc (k : Nat) 31 (upd (upd N 0 (nodeX s.hd)) 1 (tagX s.hd)) ans aa ac e w3 := X.put hb3 fun g hg _ _ => ho3 g hg
  have Me := M.same fun g _ hg => ho3 g (fun h => hdis g hg (by rw [h]; exact X.sb))
  have hCf : Chg (fun g => Sm g ∨ St g) w w3 := Chg.trans (S' := fun g => Sm g ∨ St g) hCB ⟨by omega, fun g _ hg => ho3 g (fun h => hg (.inr (by rw [h]; exact X.sb)))⟩ fun g _ h => h
  have hsf := hCf.size
  refine Walk.callW (Post := fun v w' => v = .tuple #[] ∧ (∃ aa' ac', ThX (fun g => St g ∨ w3.heap.size ≤ g) b ops oa oc ((k + 1 : Nat) : Int) 0 (upd (upd N 0 (nodeX s.hd)) 1 (tagX s.hd)) (ans ++ [(false, 0)]) aa' ac' e w') ∧ Chg St w3 w') ?_ hoA (by rfl) (by decide) rfl Try.func59 (by kernel_rfl) (by rfl) ?_
  ·walk_nrm
   exact end_w (false, 0) w3 Xe (by omega) (by omega)
  rintro v wE ⟨rfl, ⟨aa2, ac2, XE⟩, hCE⟩
  have ME := Me.chg hCE fun g _ h => hdis g h
  have hsE := hCE.size
  have hCE' : Chg (fun g => Sm g ∨ St g) w wE := Chg.trans (S' := St) hCf hCE fun g _ h => .inr h
  have XE' := XE.mono (S' := fun g => St g ∨ w.heap.size ≤ g) fun g hg => hg.imp id fun h => by omega
  have hr : skAct tg s .pe1 = (s, .inl (false, 0)) := if_pos hz
  have hMid : MidR Sm St m nb vb n cn cv tg tl b ops oa oc k o ans e (skAct tg s .pe1) w wE := by rw [hr]; exact mid_end ME hCE' XE'
  walk_nrm
  refine Walk.gz z42 ?_
  refine Walk.callW (Post := fun v w' => v = .tuple #[] ∧ StepR kb0 nb0 Sm St m nb vb n cn cv tg tl b ops oa oc k ans (skAct tg s .pe1) w w') ?_ hoA (by rfl) (by decide) rfl Try.func37 (by kernel_rfl) (by rfl) ?_
  ·walk_nrm
   exact step_begin M hdis hok hl hal hMid
  rintro v wZ ⟨rfl, hZ⟩
  walk_nrm
  refine Walk.gz z42 ?_
  exact Walk.ctl rfl (fun w => stepG_leave rfl rfl Try.func42 (results_none rfl _ _ w) (events_results_none rfl _ _)) (.stop fun d => ⟨_, ⟨rfl, hZ.at d⟩, rfl⟩)
 ·have hzd : decide (nodeX s.hd < 0) = false := by simp; have := hOk.nlo; omega
  refine Walk.gz z42 ?_
  have hr : skAct tg s .pe1 = (s, .inr (.pe2 s.hd)) := if_neg hz
  have hCf : Chg (fun g => Sm g ∨ St g) w w3 := Chg.trans (S' := fun g => Sm g ∨ St g) hCB ⟨by omega, fun g _ hg => ho3 g (fun h => hg (.inr (by rw [h]; exact X.sb)))⟩ fun g _ h => h
  have hMid : MidR Sm St m nb vb n cn cv tg tl b ops oa oc k o ans e (skAct tg s .pe1) w w3 := by rw [hr]; exact ⟨M.same fun g _ hg => ho3 g (fun h => hdis g hg (by rw [h]; exact X.sb)), hCf, _, _, aa, ac, (X.put hb3 fun g hg _ _ => ho3 g hg).mono fun _ h => .inl h, ⟨rfl, rfl, rfl, hOk, hz⟩⟩
  refine Walk.callW (Post := fun v w' => v = .tuple #[] ∧ StepR kb0 nb0 Sm St m nb vb n cn cv tg tl b ops oa oc k ans (skAct tg s .pe1) w w') ?_ hoA (by rfl) (by decide) rfl Try.func37 (by kernel_rfl) (by rfl) ?_
  ·walk_nrm
   exact step_begin M hdis hok hl hal hMid
  rintro v wZ ⟨rfl, hZ⟩
  walk_nrm
  refine Walk.gz z42 ?_
  exact Walk.ctl rfl (fun w => stepG_leave rfl rfl Try.func42 (results_none rfl _ _ w) (events_results_none rfl _ _)) (.stop fun d => ⟨_, ⟨rfl, hZ.at d⟩, rfl⟩)
theorem step_pe2 (top : Int) (w : World) (X : ThX St b ops oa oc (k : Nat) PC N ans aa ac e w) (M : MaX Sm m nb vb n cn cv tg tl s w) (hdis : ∀ g, Sm g → ¬ St g) (hd : dR n o PC N (.pe2 top)) (hok : ops[k]? = some o) (hl : ops.length ≤ 65536) (hal : ans.length = k) (hn : n ≤ 65536) :
  CallW Try.prog main (fun _ => none) 42 #[.pointer (some ⟨m, 0, none⟩), .pointer (some ⟨b, 0, none⟩)] w (fun v w' => v = .tuple #[] ∧ StepR kb0 nb0 Sm St m nb vb n cn cv tg tl b ops oa oc k ans (skAct tg s (.pe2 top)) w w') := by
 intro c cs
 have hkl := (List.getElem?_eq_some_iff.1 hok).1
 have hbm : m ≠ b := fun h => hdis m M.sm (by rw [h]; exact X.sb)
 have hbn : nb ≠ b := fun h => hdis nb M.sn (by rw [h]; exact X.sb)
 have hbv : vb ≠ b := fun h => hdis vb M.sv (by rw [h]; exact X.sb)
 obtain ⟨rfl, e0, e1, hO, hne⟩ := hd
 obtain ⟨i, hi⟩ : ∃ i : Nat, nodeX top = i := ⟨(nodeX top).toNat, by have := hO.nlo; omega⟩
 have hin : i < n := by have := hO.nhi; omega
 have hb0 := X.blk
 have ho0 : ∀ g, g ≠ b → w.heap[g]? = w.heap[g]? := fun _ _ => rfl
 have hs0 : w.heap.size = w.heap.size := rfl
 have hCB : Chg (fun g => Sm g ∨ St g) w w := Chg.refl
 have cP0 : w.cell? ⟨b, 2, none⟩ = some (.int .i64 31) := tcP hb0
 have mvl0 : w.cell? ⟨m, 1, none⟩ = some (.slice (some ⟨vb, 0, none⟩) n cv) := mc1 (M.same fun g _ hg => ho0 g (fun h => hdis g hg (by rw [h]; exact X.sb))).blk
 have n3_0 : w.cell? ⟨b, 3, none⟩ = some (.int .i64 (i : Int)) := (tc0 hb0).trans (congrArg (fun z => some (Value.int .i64 z)) (e0.trans hi))
 have y0 := (M.same fun g _ hg => ho0 g (fun h => hdis g hg (by rw [h]; exact X.sb))).vlc hin
 have hia0 := evix0
 have hia1 := evix1
 have hia2 := evix2
 have hia3 := evix3
 have hia4 := evix4
 rw [enter_at _ Try.func42 code42_is]
 simp only [Try.ntmps42, ez, Nat.reduceAdd, Nat.reduceSub]
 refine Walk.gz z42 ?_
 have cX := tc3 hb0
 have zX := frozen_of hb0 6
 (refine Walk.drawnL (by kernel_rfl) size42_11 (by kernel_rfl) (by kernel_rfl) (by kernel_rfl) (by decide) ?_; simp only [List.range, List.range.loop]; repeat (first | (refine Cm.oq ?_) | (refine Cm.unw hoA (by rfl) ?_; walk_nrm)))
 refine Cm.done ?_
 intro rest hr0
 (have hfr := fr0 b 6; refine Walk.os hfr cX ?_; clear hfr; try walk_nrm)
 refine hr0 _ _ ?_
 have hb1 : (w.setCell ⟨b, 6, none⟩ (.int .i64 (s.vl i))).heap[b]? = some (.cells (thA (.slice oa ops.length oc) (k : Nat) 31 (upd N 3 (s.vl i)) (.slice none 0 0) (.slice aa ans.length ac) e) 120) := by rw [heap_set_self _ _ hb0, thA_3]
 have ho1 : ∀ g, g ≠ b → (w.setCell ⟨b, 6, none⟩ (.int .i64 (s.vl i))).heap[g]? = w.heap[g]? := fun g hg => (heap_set_other _ _ _ _ hg).trans (ho0 g hg)
 have hs1 : (w.setCell ⟨b, 6, none⟩ (.int .i64 (s.vl i))).heap.size = w.heap.size := (size_set ..).trans hs0
 clear cX zX
 generalize w.setCell ⟨b, 6, none⟩ (.int .i64 (s.vl i)) = w1 at *
 try walk_nrm
 refine Walk.gz z42 ?_
 have cX := tcP hb1
 have zX := frozen_of hb1 2
 (have hfr := fr0 b 2; refine Walk.os hfr cX ?_; clear hfr; try walk_nrm)
 have hb2 : (w1.setCell ⟨b, 2, none⟩ (.int .i64 32)).heap[b]? = some (.cells (thA (.slice oa ops.length oc) (k : Nat) 32 (upd N 3 (s.vl i)) (.slice none 0 0) (.slice aa ans.length ac) e) 120) := by rw [heap_set_self _ _ hb1, thA_PC]
 have ho2 : ∀ g, g ≠ b → (w1.setCell ⟨b, 2, none⟩ (.int .i64 32)).heap[g]? = w.heap[g]? := fun g hg => (heap_set_other _ _ _ _ hg).trans (ho1 g hg)
 have hs2 : (w1.setCell ⟨b, 2, none⟩ (.int .i64 32)).heap.size = w.heap.size := (size_set ..).trans hs1
 clear cX zX
 generalize w1.setCell ⟨b, 2, none⟩ (.int .i64 32) = w2 at *
 try walk_nrm
 refine Walk.gz z42 ?_
 have hr : skAct tg s (.pe2 top) = (s, .inr (.pe3 top (s.vl i))) := by show (s, Sum.inr (SD.pe3 top (s.vl (nodeX top).toNat))) = _; rw [hi]; rfl
 have hCf : Chg (fun g => Sm g ∨ St g) w w2 := Chg.trans (S' := fun g => Sm g ∨ St g) hCB ⟨by omega, fun g _ hg => ho2 g (fun h => hg (.inr (by rw [h]; exact X.sb)))⟩ fun g _ h => h
 have hMid : MidR Sm St m nb vb n cn cv tg tl b ops oa oc k o ans e (skAct tg s (.pe2 top)) w w2 := by rw [hr]; exact ⟨M.same fun g _ hg => ho2 g (fun h => hdis g hg (by rw [h]; exact X.sb)), hCf, _, _, aa, ac, (X.put hb2 fun g hg _ _ => ho2 g hg).mono fun _ h => .inl h, ⟨rfl, e0, e1, hO, hne, rfl⟩⟩
 refine Walk.callW (Post := fun v w' => v = .tuple #[] ∧ StepR kb0 nb0 Sm St m nb vb n cn cv tg tl b ops oa oc k ans (skAct tg s (.pe2 top)) w w') ?_ hoA (by rfl) (by decide) rfl Try.func37 (by kernel_rfl) (by rfl) ?_
 ·walk_nrm
  exact step_begin M hdis hok hl hal hMid
 rintro v wZ ⟨rfl, hZ⟩
 walk_nrm
 refine Walk.gz z42 ?_
 exact Walk.ctl rfl (fun w => stepG_leave rfl rfl Try.func42 (results_none rfl _ _ w) (events_results_none rfl _ _)) (.stop fun d => ⟨_, ⟨rfl, hZ.at d⟩, rfl⟩)
theorem step_pe3 (top y : Int) (w : World) (X : ThX St b ops oa oc (k : Nat) PC N ans aa ac e w) (M : MaX Sm m nb vb n cn cv tg tl s w) (hdis : ∀ g, Sm g → ¬ St g) (hd : dR n o PC N (.pe3 top y)) (hok : ops[k]? = some o) (hl : ops.length ≤ 65536) (hal : ans.length = k) (hn : n ≤ 65536) :
  CallW Try.prog main (fun _ => none) 42 #[.pointer (some ⟨m, 0, none⟩), .pointer (some ⟨b, 0, none⟩)] w (fun v w' => v = .tuple #[] ∧ StepR kb0 nb0 Sm St m nb vb n cn cv tg tl b ops oa oc k ans (skAct tg s (.pe3 top y)) w w') := by
 intro c cs
 have hkl := (List.getElem?_eq_some_iff.1 hok).1
 have hbm : m ≠ b := fun h => hdis m M.sm (by rw [h]; exact X.sb)
 have hbn : nb ≠ b := fun h => hdis nb M.sn (by rw [h]; exact X.sb)
 have hbv : vb ≠ b := fun h => hdis vb M.sv (by rw [h]; exact X.sb)
 obtain ⟨rfl, e0, e1, hO, hne, e3⟩ := hd
 have hb0 := X.blk
 have ho0 : ∀ g, g ≠ b → w.heap[g]? = w.heap[g]? := fun _ _ => rfl
 have hs0 : w.heap.size = w.heap.size := rfl
 have hCB : Chg (fun g => Sm g ∨ St g) w w := Chg.refl
 have cP0 : w.cell? ⟨b, 2, none⟩ = some (.int .i64 32) := tcP hb0
 have hOk := M.hd
 have mhn0 : w.cell? ⟨m, 2, none⟩ = some (.int .i64 (nodeX s.hd)) := mc2 (M.same fun g _ hg => ho0 g (fun h => hdis g hg (by rw [h]; exact X.sb))).blk
 have mht0 : w.cell? ⟨m, 3, none⟩ = some (.int .i64 (tagX s.hd)) := mc3 (M.same fun g _ hg => ho0 g (fun h => hdis g hg (by rw [h]; exact X.sb))).blk
 have n3_0 : w.cell? ⟨b, 3, none⟩ = some (.int .i64 (nodeX top)) := (tc0 hb0).trans (congrArg (fun z => some (Value.int .i64 z)) (e0))
 have n4_0 : w.cell? ⟨b, 4, none⟩ = some (.int .i64 (tagX top)) := (tc1 hb0).trans (congrArg (fun z => some (Value.int .i64 z)) (e1))
 have n6_0 : w.cell? ⟨b, 6, none⟩ = some (.int .i64 y) := (tc3 hb0).trans (congrArg (fun z => some (Value.int .i64 z)) (e3))
 have hia0 := evix0
 have hia1 := evix1
 have hia2 := evix2
 have hia3 := evix3
 have hia4 := evix4
 rw [enter_at _ Try.func42 code42_is]
 simp only [Try.ntmps42, ez, Nat.reduceAdd, Nat.reduceSub]
 refine Walk.gz z42 ?_
 by_cases hq : s.hd = top
 ·have hq1 : (nodeX s.hd == nodeX top) = true := by rw [hq]; simp
  have hq2 : (tagX s.hd == tagX top) = true := by rw [hq]; simp
  (refine Walk.drawnC (by kernel_rfl) size42_14 (by kernel_rfl) (by kernel_rfl) (by decide) ?_; simp only [List.range, List.range.loop]; repeat (first | (refine Cm.oq ?_) | (refine Cm.unw hoA (by rfl) ?_; walk_nrm)))
  refine Cm.done ?_
  refine Walk.gz z42 ?_
  have Xe : ThX St b ops oa oc (k : Nat) 32 N ans aa ac e w := X.put hb0 fun g hg _ _ => ho0 g hg
  have Me := M.same fun g _ hg => ho0 g (fun h => hdis g hg (by rw [h]; exact X.sb))
  have hCf : Chg (fun g => Sm g ∨ St g) w w := Chg.trans (S' := fun g => Sm g ∨ St g) hCB ⟨by omega, fun g _ hg => ho0 g (fun h => hg (.inr (by rw [h]; exact X.sb)))⟩ fun g _ h => h
  have hsf := hCf.size
  refine Walk.callW (Post := fun v w' => v = .tuple #[] ∧ (∃ aa' ac', ThX (fun g => St g ∨ w.heap.size ≤ g) b ops oa oc ((k + 1 : Nat) : Int) 0 N (ans ++ [(true, y)]) aa' ac' e w') ∧ Chg St w w') ?_ hoA (by rfl) (by decide) rfl Try.func59 (by kernel_rfl) (by rfl) ?_
  ·walk_nrm
   exact end_w (true, y) w Xe (by omega) (by omega)
  rintro v wE ⟨rfl, ⟨aa2, ac2, XE⟩, hCE⟩
  have ME := Me.chg hCE fun g _ h => hdis g h
  have hsE := hCE.size
  have hCE' : Chg (fun g => Sm g ∨ St g) w wE := Chg.trans (S' := St) hCf hCE fun g _ h => .inr h
  have XE' := XE.mono (S' := fun g => St g ∨ w.heap.size ≤ g) fun g hg => hg.imp id fun h => by omega
  have hr : skAct tg s (.pe3 top y) = (s, .inl (true, y)) := if_pos hq
  have hMid : MidR Sm St m nb vb n cn cv tg tl b ops oa oc k o ans e (skAct tg s (.pe3 top y)) w wE := by rw [hr]; exact mid_end ME hCE' XE'
  walk_nrm
  refine Walk.gz z42 ?_
  refine Walk.callW (Post := fun v w' => v = .tuple #[] ∧ StepR kb0 nb0 Sm St m nb vb n cn cv tg tl b ops oa oc k ans (skAct tg s (.pe3 top y)) w w') ?_ hoA (by rfl) (by decide) rfl Try.func37 (by kernel_rfl) (by rfl) ?_
  ·walk_nrm
   exact step_begin M hdis hok hl hal hMid
  rintro v wZ ⟨rfl, hZ⟩
  walk_nrm
  refine Walk.gz z42 ?_
  exact Walk.ctl rfl (fun w => stepG_leave rfl rfl Try.func42 (results_none rfl _ _ w) (events_results_none rfl _ _)) (.stop fun d => ⟨_, ⟨rfl, hZ.at d⟩, rfl⟩)
 ·by_cases hA : nodeX s.hd = nodeX top
  ·have hq1 : (nodeX s.hd == nodeX top) = true := by simp [hA]
   have hq2 : (tagX s.hd == tagX top) = false := by
    have : ¬ tagX s.hd = tagX top := fun h => hq ((okH_inj hOk hO).1 ⟨hA, h⟩)
    simpa using this
   clear hA
   (refine Walk.drawnC (by kernel_rfl) size42_14 (by kernel_rfl) (by kernel_rfl) (by decide) ?_; simp only [List.range, List.range.loop]; repeat (first | (refine Cm.oq ?_) | (refine Cm.unw hoA (by rfl) ?_; walk_nrm)))
   refine Cm.done ?_
   refine Walk.gz z42 ?_
   have mhn0 : w.cell? ⟨m, 2, none⟩ = some (.int .i64 (nodeX s.hd)) := mc2 (M.same fun g _ hg => ho0 g (fun h => hdis g hg (by rw [h]; exact X.sb))).blk
   have mht0 : w.cell? ⟨m, 3, none⟩ = some (.int .i64 (tagX s.hd)) := mc3 (M.same fun g _ hg => ho0 g (fun h => hdis g hg (by rw [h]; exact X.sb))).blk
   have cX := tc0 hb0
   have zX := frozen_of hb0 3
   (refine Walk.drawnL (by kernel_rfl) size42_16 (by kernel_rfl) (by kernel_rfl) (by kernel_rfl) (by decide) ?_; simp only [List.range, List.range.loop]; repeat (first | (refine Cm.oq ?_) | (refine Cm.unw hoA (by rfl) ?_; walk_nrm)))
   refine Cm.done ?_
   intro rest hr0
   (have hfr := fr0 b 3; refine Walk.os hfr cX ?_; clear hfr; try walk_nrm)
   refine hr0 _ _ ?_
   have hb1 : (w.setCell ⟨b, 3, none⟩ (.int .i64 (nodeX s.hd))).heap[b]? = some (.cells (thA (.slice oa ops.length oc) (k : Nat) 32 (upd N 0 (nodeX s.hd)) (.slice none 0 0) (.slice aa ans.length ac) e) 120) := by rw [heap_set_self _ _ hb0, thA_0]
   have ho1 : ∀ g, g ≠ b → (w.setCell ⟨b, 3, none⟩ (.int .i64 (nodeX s.hd))).heap[g]? = w.heap[g]? := fun g hg => (heap_set_other _ _ _ _ hg).trans (ho0 g hg)
   have hs1 : (w.setCell ⟨b, 3, none⟩ (.int .i64 (nodeX s.hd))).heap.size = w.heap.size := (size_set ..).trans hs0
   clear cX zX
   generalize w.setCell ⟨b, 3, none⟩ (.int .i64 (nodeX s.hd)) = w1 at *
   try walk_nrm
   refine Walk.gz z42 ?_
   have mhn1 : w1.cell? ⟨m, 2, none⟩ = some (.int .i64 (nodeX s.hd)) := mc2 (M.same fun g _ hg => ho1 g (fun h => hdis g hg (by rw [h]; exact X.sb))).blk
   have mht1 : w1.cell? ⟨m, 3, none⟩ = some (.int .i64 (tagX s.hd)) := mc3 (M.same fun g _ hg => ho1 g (fun h => hdis g hg (by rw [h]; exact X.sb))).blk
   have cX := tc1 hb1
   have zX := frozen_of hb1 4
   (refine Walk.drawnL (by kernel_rfl) size42_17 (by kernel_rfl) (by kernel_rfl) (by kernel_rfl) (by decide) ?_; simp only [List.range, List.range.loop]; repeat (first | (refine Cm.oq ?_) | (refine Cm.unw hoA (by rfl) ?_; walk_nrm)))
   refine Cm.done ?_
   intro rest hr0
   (have hfr := fr0 b 4; refine Walk.os hfr cX ?_; clear hfr; try walk_nrm)
   refine hr0 _ _ ?_
   have hb2 : (w1.setCell ⟨b, 4, none⟩ (.int .i64 (tagX s.hd))).heap[b]? = some (.cells (thA (.slice oa ops.length oc) (k : Nat) 32 (upd (upd N 0 (nodeX s.hd)) 1 (tagX s.hd)) (.slice none 0 0) (.slice aa ans.length ac) e) 120) := by rw [heap_set_self _ _ hb1, thA_1]
   have ho2 : ∀ g, g ≠ b → (w1.setCell ⟨b, 4, none⟩ (.int .i64 (tagX s.hd))).heap[g]? = w.heap[g]? := fun g hg => (heap_set_other _ _ _ _ hg).trans (ho1 g hg)
   have hs2 : (w1.setCell ⟨b, 4, none⟩ (.int .i64 (tagX s.hd))).heap.size = w.heap.size := (size_set ..).trans hs1
   clear cX zX
   generalize w1.setCell ⟨b, 4, none⟩ (.int .i64 (tagX s.hd)) = w2 at *
   try walk_nrm
   refine Walk.gz z42 ?_
   have cX := tcP hb2
   have zX := frozen_of hb2 2
   (have hfr := fr0 b 2; refine Walk.os hfr cX ?_; clear hfr; try walk_nrm)
   have hb3 : (w2.setCell ⟨b, 2, none⟩ (.int .i64 31)).heap[b]? = some (.cells (thA (.slice oa ops.length oc) (k : Nat) 31 (upd (upd N 0 (nodeX s.hd)) 1 (tagX s.hd)) (.slice none 0 0) (.slice aa ans.length ac) e) 120) := by rw [heap_set_self _ _ hb2, thA_PC]
   have ho3 : ∀ g, g ≠ b → (w2.setCell ⟨b, 2, none⟩ (.int .i64 31)).heap[g]? = w.heap[g]? := fun g hg => (heap_set_other _ _ _ _ hg).trans (ho2 g hg)
   have hs3 : (w2.setCell ⟨b, 2, none⟩ (.int .i64 31)).heap.size = w.heap.size := (size_set ..).trans hs2
   clear cX zX
   generalize w2.setCell ⟨b, 2, none⟩ (.int .i64 31) = w3 at *
   try walk_nrm
   have n3_3 : w3.cell? ⟨b, 3, none⟩ = some (.int .i64 (nodeX s.hd)) := (tc0 hb3).trans (congrArg (fun z => some (Value.int .i64 z)) (rfl))
   by_cases hz : nodeX s.hd = -1
   ·have hzd : decide (nodeX s.hd < 0) = true := by simp; omega
    refine Walk.gz z42 ?_
    have Xe : ThX St b ops oa oc (k : Nat) 31 (upd (upd N 0 (nodeX s.hd)) 1 (tagX s.hd)) ans aa ac e w3 := X.put hb3 fun g hg _ _ => ho3 g hg
    have Me := M.same fun g _ hg => ho3 g (fun h => hdis g hg (by rw [h]; exact X.sb))
    have hCf : Chg (fun g => Sm g ∨ St g) w w3 := Chg.trans (S' := fun g => Sm g ∨ St g) hCB ⟨by omega, fun g _ hg => ho3 g (fun h => hg (.inr (by rw [h]; exact X.sb)))⟩ fun g _ h => h
    have hsf := hCf.size
    refine Walk.callW (Post := fun v w' => v = .tuple #[] ∧ (∃ aa' ac', ThX (fun g => St g ∨ w3.heap.size ≤ g) b ops oa oc ((k + 1 : Nat) : Int) 0 (upd (upd N 0 (nodeX s.hd)) 1 (tagX s.hd)) (ans ++ [(false, 0)]) aa' ac' e w') ∧ Chg St w3 w') ?_ hoA (by rfl) (by decide) rfl Try.func59 (by kernel_rfl) (by rfl) ?_
    ·walk_nrm
     exact end_w (false, 0) w3 Xe (by omega) (by omega)
    rintro v wE ⟨rfl, ⟨aa2, ac2, XE⟩, hCE⟩
    have ME := Me.chg hCE fun g _ h => hdis g h
    have hsE := hCE.size
    have hCE' : Chg (fun g => Sm g ∨ St g) w wE := Chg.trans (S' := St) hCf hCE fun g _ h => .inr h
    have XE' := XE.mono (S' := fun g => St g ∨ w.heap.size ≤ g) fun g hg => hg.imp id fun h => by omega
    have hr : skAct tg s (.pe3 top y) = (s, .inl (false, 0)) := (if_neg hq).trans (if_pos hz)
    have hMid : MidR Sm St m nb vb n cn cv tg tl b ops oa oc k o ans e (skAct tg s (.pe3 top y)) w wE := by rw [hr]; exact mid_end ME hCE' XE'
    walk_nrm
    refine Walk.gz z42 ?_
    refine Walk.callW (Post := fun v w' => v = .tuple #[] ∧ StepR kb0 nb0 Sm St m nb vb n cn cv tg tl b ops oa oc k ans (skAct tg s (.pe3 top y)) w w') ?_ hoA (by rfl) (by decide) rfl Try.func37 (by kernel_rfl) (by rfl) ?_
    ·walk_nrm
     exact step_begin M hdis hok hl hal hMid
    rintro v wZ ⟨rfl, hZ⟩
    walk_nrm
    refine Walk.gz z42 ?_
    exact Walk.ctl rfl (fun w => stepG_leave rfl rfl Try.func42 (results_none rfl _ _ w) (events_results_none rfl _ _)) (.stop fun d => ⟨_, ⟨rfl, hZ.at d⟩, rfl⟩)
   ·have hzd : decide (nodeX s.hd < 0) = false := by simp; have := hOk.nlo; omega
    refine Walk.gz z42 ?_
    have hr : skAct tg s (.pe3 top y) = (s, .inr (.pe2 s.hd)) := (if_neg hq).trans (if_neg hz)
    have hCf : Chg (fun g => Sm g ∨ St g) w w3 := Chg.trans (S' := fun g => Sm g ∨ St g) hCB ⟨by omega, fun g _ hg => ho3 g (fun h => hg (.inr (by rw [h]; exact X.sb)))⟩ fun g _ h => h
    have hMid : MidR Sm St m nb vb n cn cv tg tl b ops oa oc k o ans e (skAct tg s (.pe3 top y)) w w3 := by rw [hr]; exact ⟨M.same fun g _ hg => ho3 g (fun h => hdis g hg (by rw [h]; exact X.sb)), hCf, _, _, aa, ac, (X.put hb3 fun g hg _ _ => ho3 g hg).mono fun _ h => .inl h, ⟨rfl, rfl, rfl, hOk, hz⟩⟩
    refine Walk.callW (Post := fun v w' => v = .tuple #[] ∧ StepR kb0 nb0 Sm St m nb vb n cn cv tg tl b ops oa oc k ans (skAct tg s (.pe3 top y)) w w') ?_ hoA (by rfl) (by decide) rfl Try.func37 (by kernel_rfl) (by rfl) ?_
    ·walk_nrm
     exact step_begin M hdis hok hl hal hMid
    rintro v wZ ⟨rfl, hZ⟩
    walk_nrm
    refine Walk.gz z42 ?_
    exact Walk.ctl rfl (fun w => stepG_leave rfl rfl Try.func42 (results_none rfl _ _ w) (events_results_none rfl _ _)) (.stop fun d => ⟨_, ⟨rfl, hZ.at d⟩, rfl⟩)
  ·have hq1 : (nodeX s.hd == nodeX top) = false := by simpa using hA
   clear hA
   (refine Walk.drawnC (by kernel_rfl) size42_14 (by kernel_rfl) (by kernel_rfl) (by decide) ?_; simp only [List.range, List.range.loop]; repeat (first | (refine Cm.oq ?_) | (refine Cm.unw hoA (by rfl) ?_; walk_nrm)))
   refine Cm.done ?_
   refine Walk.gz z42 ?_
   have mhn0 : w.cell? ⟨m, 2, none⟩ = some (.int .i64 (nodeX s.hd)) := mc2 (M.same fun g _ hg => ho0 g (fun h => hdis g hg (by rw [h]; exact X.sb))).blk
   have mht0 : w.cell? ⟨m, 3, none⟩ = some (.int .i64 (tagX s.hd)) := mc3 (M.same fun g _ hg => ho0 g (fun h => hdis g hg (by rw [h]; exact X.sb))).blk
   have cX := tc0 hb0
   have zX := frozen_of hb0 3
   (refine Walk.drawnL (by kernel_rfl) size42_16 (by kernel_rfl) (by kernel_rfl) (by kernel_rfl) (by decide) ?_; simp only [List.range, List.range.loop]; repeat (first | (refine Cm.oq ?_) | (refine Cm.unw hoA (by rfl) ?_; walk_nrm)))
   refine Cm.done ?_
   intro rest hr0
   (have hfr := fr0 b 3; refine Walk.os hfr cX ?_; clear hfr; try walk_nrm)
   refine hr0 _ _ ?_
   have hb1 : (w.setCell ⟨b, 3, none⟩ (.int .i64 (nodeX s.hd))).heap[b]? = some (.cells (thA (.slice oa ops.length oc) (k : Nat) 32 (upd N 0 (nodeX s.hd)) (.slice none 0 0) (.slice aa ans.length ac) e) 120) := by rw [heap_set_self _ _ hb0, thA_0]
   have ho1 : ∀ g, g ≠ b → (w.setCell ⟨b, 3, none⟩ (.int .i64 (nodeX s.hd))).heap[g]? = w.heap[g]? := fun g hg => (heap_set_other _ _ _ _ hg).trans (ho0 g hg)
   have hs1 : (w.setCell ⟨b, 3, none⟩ (.int .i64 (nodeX s.hd))).heap.size = w.heap.size := (size_set ..).trans hs0
   clear cX zX
   generalize w.setCell ⟨b, 3, none⟩ (.int .i64 (nodeX s.hd)) = w1 at *
   try walk_nrm
   refine Walk.gz z42 ?_
   have mhn1 : w1.cell? ⟨m, 2, none⟩ = some (.int .i64 (nodeX s.hd)) := mc2 (M.same fun g _ hg => ho1 g (fun h => hdis g hg (by rw [h]; exact X.sb))).blk
   have mht1 : w1.cell? ⟨m, 3, none⟩ = some (.int .i64 (tagX s.hd)) := mc3 (M.same fun g _ hg => ho1 g (fun h => hdis g hg (by rw [h]; exact X.sb))).blk
   have cX := tc1 hb1
   have zX := frozen_of hb1 4
   (refine Walk.drawnL (by kernel_rfl) size42_17 (by kernel_rfl) (by kernel_rfl) (by kernel_rfl) (by decide) ?_; simp only [List.range, List.range.loop]; repeat (first | (refine Cm.oq ?_) | (refine Cm.unw hoA (by rfl) ?_; walk_nrm)))
   refine Cm.done ?_
   intro rest hr0
   (have hfr := fr0 b 4; refine Walk.os hfr cX ?_; clear hfr; try walk_nrm)
   refine hr0 _ _ ?_
   have hb2 : (w1.setCell ⟨b, 4, none⟩ (.int .i64 (tagX s.hd))).heap[b]? = some (.cells (thA (.slice oa ops.length oc) (k : Nat) 32 (upd (upd N 0 (nodeX s.hd)) 1 (tagX s.hd)) (.slice none 0 0) (.slice aa ans.length ac) e) 120) := by rw [heap_set_self _ _ hb1, thA_1]
   have ho2 : ∀ g, g ≠ b → (w1.setCell ⟨b, 4, none⟩ (.int .i64 (tagX s.hd))).heap[g]? = w.heap[g]? := fun g hg => (heap_set_other _ _ _ _ hg).trans (ho1 g hg)
   have hs2 : (w1.setCell ⟨b, 4, none⟩ (.int .i64 (tagX s.hd))).heap.size = w.heap.size := (size_set ..).trans hs1
   clear cX zX
   generalize w1.setCell ⟨b, 4, none⟩ (.int .i64 (tagX s.hd)) = w2 at *
   try walk_nrm
   refine Walk.gz z42 ?_
   have cX := tcP hb2
   have zX := frozen_of hb2 2
   (have hfr := fr0 b 2; refine Walk.os hfr cX ?_; clear hfr; try walk_nrm)
   have hb3 : (w2.setCell ⟨b, 2, none⟩ (.int .i64 31)).heap[b]? = some (.cells (thA (.slice oa ops.length oc) (k : Nat) 31 (upd (upd N 0 (nodeX s.hd)) 1 (tagX s.hd)) (.slice none 0 0) (.slice aa ans.length ac) e) 120) := by rw [heap_set_self _ _ hb2, thA_PC]
   have ho3 : ∀ g, g ≠ b → (w2.setCell ⟨b, 2, none⟩ (.int .i64 31)).heap[g]? = w.heap[g]? := fun g hg => (heap_set_other _ _ _ _ hg).trans (ho2 g hg)
   have hs3 : (w2.setCell ⟨b, 2, none⟩ (.int .i64 31)).heap.size = w.heap.size := (size_set ..).trans hs2
   clear cX zX
   generalize w2.setCell ⟨b, 2, none⟩ (.int .i64 31) = w3 at *
   try walk_nrm
   have n3_3 : w3.cell? ⟨b, 3, none⟩ = some (.int .i64 (nodeX s.hd)) := (tc0 hb3).trans (congrArg (fun z => some (Value.int .i64 z)) (rfl))
   by_cases hz : nodeX s.hd = -1
   ·have hzd : decide (nodeX s.hd < 0) = true := by simp; omega
    refine Walk.gz z42 ?_
    have Xe : ThX St b ops oa oc (k : Nat) 31 (upd (upd N 0 (nodeX s.hd)) 1 (tagX s.hd)) ans aa ac e w3 := X.put hb3 fun g hg _ _ => ho3 g hg
    have Me := M.same fun g _ hg => ho3 g (fun h => hdis g hg (by rw [h]; exact X.sb))
    have hCf : Chg (fun g => Sm g ∨ St g) w w3 := Chg.trans (S' := fun g => Sm g ∨ St g) hCB ⟨by omega, fun g _ hg => ho3 g (fun h => hg (.inr (by rw [h]; exact X.sb)))⟩ fun g _ h => h
    have hsf := hCf.size
    refine Walk.callW (Post := fun v w' => v = .tuple #[] ∧ (∃ aa' ac', ThX (fun g => St g ∨ w3.heap.size ≤ g) b ops oa oc ((k + 1 : Nat) : Int) 0 (upd (upd N 0 (nodeX s.hd)) 1 (tagX s.hd)) (ans ++ [(false, 0)]) aa' ac' e w') ∧ Chg St w3 w') ?_ hoA (by rfl) (by decide) rfl Try.func59 (by kernel_rfl) (by rfl) ?_
    ·walk_nrm
     exact end_w (false, 0) w3 Xe (by omega) (by omega)
    rintro v wE ⟨rfl, ⟨aa2, ac2, XE⟩, hCE⟩
    have ME := Me.chg hCE fun g _ h => hdis g h
    have hsE := hCE.size
    have hCE' : Chg (fun g => Sm g ∨ St g) w wE := Chg.trans (S' := St) hCf hCE fun g _ h => .inr h
    have XE' := XE.mono (S' := fun g => St g ∨ w.heap.size ≤ g) fun g hg => hg.imp id fun h => by omega
    have hr : skAct tg s (.pe3 top y) = (s, .inl (false, 0)) := (if_neg hq).trans (if_pos hz)
    have hMid : MidR Sm St m nb vb n cn cv tg tl b ops oa oc k o ans e (skAct tg s (.pe3 top y)) w wE := by rw [hr]; exact mid_end ME hCE' XE'
    walk_nrm
    refine Walk.gz z42 ?_
    refine Walk.callW (Post := fun v w' => v = .tuple #[] ∧ StepR kb0 nb0 Sm St m nb vb n cn cv tg tl b ops oa oc k ans (skAct tg s (.pe3 top y)) w w') ?_ hoA (by rfl) (by decide) rfl Try.func37 (by kernel_rfl) (by rfl) ?_
    ·walk_nrm
     exact step_begin M hdis hok hl hal hMid
    rintro v wZ ⟨rfl, hZ⟩
    walk_nrm
    refine Walk.gz z42 ?_
    exact Walk.ctl rfl (fun w => stepG_leave rfl rfl Try.func42 (results_none rfl _ _ w) (events_results_none rfl _ _)) (.stop fun d => ⟨_, ⟨rfl, hZ.at d⟩, rfl⟩)
   ·have hzd : decide (nodeX s.hd < 0) = false := by simp; have := hOk.nlo; omega
    refine Walk.gz z42 ?_
    have hr : skAct tg s (.pe3 top y) = (s, .inr (.pe2 s.hd)) := (if_neg hq).trans (if_neg hz)
    have hCf : Chg (fun g => Sm g ∨ St g) w w3 := Chg.trans (S' := fun g => Sm g ∨ St g) hCB ⟨by omega, fun g _ hg => ho3 g (fun h => hg (.inr (by rw [h]; exact X.sb)))⟩ fun g _ h => h
    have hMid : MidR Sm St m nb vb n cn cv tg tl b ops oa oc k o ans e (skAct tg s (.pe3 top y)) w w3 := by rw [hr]; exact ⟨M.same fun g _ hg => ho3 g (fun h => hdis g hg (by rw [h]; exact X.sb)), hCf, _, _, aa, ac, (X.put hb3 fun g hg _ _ => ho3 g hg).mono fun _ h => .inl h, ⟨rfl, rfl, rfl, hOk, hz⟩⟩
    refine Walk.callW (Post := fun v w' => v = .tuple #[] ∧ StepR kb0 nb0 Sm St m nb vb n cn cv tg tl b ops oa oc k ans (skAct tg s (.pe3 top y)) w w') ?_ hoA (by rfl) (by decide) rfl Try.func37 (by kernel_rfl) (by rfl) ?_
    ·walk_nrm
     exact step_begin M hdis hok hl hal hMid
    rintro v wZ ⟨rfl, hZ⟩
    walk_nrm
    refine Walk.gz z42 ?_
    exact Walk.ctl rfl (fun w => stepG_leave rfl rfl Try.func42 (results_none rfl _ _ w) (events_results_none rfl _ _)) (.stop fun d => ⟨_, ⟨rfl, hZ.at d⟩, rfl⟩)
theorem step_em1 (w : World) (X : ThX St b ops oa oc (k : Nat) PC N ans aa ac e w) (M : MaX Sm m nb vb n cn cv tg tl s w) (hdis : ∀ g, Sm g → ¬ St g) (hd : dR n o PC N .em1) (hok : ops[k]? = some o) (hl : ops.length ≤ 65536) (hal : ans.length = k) (hn : n ≤ 65536) :
  CallW Try.prog main (fun _ => none) 42 #[.pointer (some ⟨m, 0, none⟩), .pointer (some ⟨b, 0, none⟩)] w (fun v w' => v = .tuple #[] ∧ StepR kb0 nb0 Sm St m nb vb n cn cv tg tl b ops oa oc k ans (skAct tg s .em1) w w') := by
 intro c cs
 have hkl := (List.getElem?_eq_some_iff.1 hok).1
 have hbm : m ≠ b := fun h => hdis m M.sm (by rw [h]; exact X.sb)
 have hbn : nb ≠ b := fun h => hdis nb M.sn (by rw [h]; exact X.sb)
 have hbv : vb ≠ b := fun h => hdis vb M.sv (by rw [h]; exact X.sb)
 obtain rfl : PC = 40 := hd
 have hb0 := X.blk
 have ho0 : ∀ g, g ≠ b → w.heap[g]? = w.heap[g]? := fun _ _ => rfl
 have hs0 : w.heap.size = w.heap.size := rfl
 have hCB : Chg (fun g => Sm g ∨ St g) w w := Chg.refl
 have cP0 : w.cell? ⟨b, 2, none⟩ = some (.int .i64 40) := tcP hb0
 have hOk := M.hd
 have hzd : decide (nodeX s.hd < 0) = (nodeX s.hd == -1) := by
  by_cases h : nodeX s.hd = -1
  ·simp [h]
  ·have h1 : (nodeX s.hd == -1) = false := by simpa using h
   rw [h1]
   have := hOk.nlo
   simp
   omega
 have mhn0 : w.cell? ⟨m, 2, none⟩ = some (.int .i64 (nodeX s.hd)) := mc2 (M.same fun g _ hg => ho0 g (fun h => hdis g hg (by rw [h]; exact X.sb))).blk
 have hia0 := evix0
 have hia1 := evix1
 have hia2 := evix2
 have hia3 := evix3
 have hia4 := evix4
 rw [enter_at _ Try.func42 code42_is]
 simp only [Try.ntmps42, ez, Nat.reduceAdd, Nat.reduceSub]
 refine Walk.gz z42 ?_
 have Xe : ThX St b ops oa oc (k : Nat) 40 N ans aa ac e w := X.put hb0 fun g hg _ _ => ho0 g hg
 have Me := M.same fun g _ hg => ho0 g (fun h => hdis g hg (by rw [h]; exact X.sb))
 have hCf : Chg (fun g => Sm g ∨ St g) w w := Chg.trans (S' := fun g => Sm g ∨ St g) hCB ⟨by omega, fun g _ hg => ho0 g (fun h => hg (.inr (by rw [h]; exact X.sb)))⟩ fun g _ h => h
 have hsf := hCf.size
 refine Walk.callW (Post := fun v w' => v = .tuple #[] ∧ (∃ aa' ac', ThX (fun g => St g ∨ w.heap.size ≤ g) b ops oa oc ((k + 1 : Nat) : Int) 0 N (ans ++ [(nodeX s.hd == -1, 0)]) aa' ac' e w') ∧ Chg St w w') ?_ hoA (by rfl) (by decide) rfl Try.func59 (by kernel_rfl) (by rfl) ?_
 ·walk_nrm
  exact end_w (nodeX s.hd == -1, 0) w Xe (by omega) (by omega)
 rintro v wE ⟨rfl, ⟨aa2, ac2, XE⟩, hCE⟩
 have ME := Me.chg hCE fun g _ h => hdis g h
 have hsE := hCE.size
 have hCE' : Chg (fun g => Sm g ∨ St g) w wE := Chg.trans (S' := St) hCf hCE fun g _ h => .inr h
 have XE' := XE.mono (S' := fun g => St g ∨ w.heap.size ≤ g) fun g hg => hg.imp id fun h => by omega
 have hr : skAct tg s .em1 = (s, .inl (nodeX s.hd == -1, 0)) := rfl
 have hMid : MidR Sm St m nb vb n cn cv tg tl b ops oa oc k o ans e (skAct tg s .em1) w wE := by rw [hr]; exact mid_end ME hCE' XE'
 walk_nrm
 refine Walk.gz z42 ?_
 refine Walk.callW (Post := fun v w' => v = .tuple #[] ∧ StepR kb0 nb0 Sm St m nb vb n cn cv tg tl b ops oa oc k ans (skAct tg s .em1) w w') ?_ hoA (by rfl) (by decide) rfl Try.func37 (by kernel_rfl) (by rfl) ?_
 ·walk_nrm
  exact step_begin M hdis hok hl hal hMid
 rintro v wZ ⟨rfl, hZ⟩
 walk_nrm
 refine Walk.gz z42 ?_
 exact Walk.ctl rfl (fun w => stepG_leave rfl rfl Try.func42 (results_none rfl _ _ w) (events_results_none rfl _ _)) (.stop fun d => ⟨_, ⟨rfl, hZ.at d⟩, rfl⟩)
theorem step_push (d : SD) (h20 : PC < 20) (w : World) (X : ThX St b ops oa oc (k : Nat) PC N ans aa ac e w) (M : MaX Sm m nb vb n cn cv tg tl s w) (hdis : ∀ g, Sm g → ¬ St g) (hd : dR n o PC N d) (hok : ops[k]? = some o) (hl : ops.length ≤ 65536) (hal : ans.length = k) (hn : n ≤ 65536) :
  CallW Try.prog main (fun _ => none) 42 #[.pointer (some ⟨m, 0, none⟩), .pointer (some ⟨b, 0, none⟩)] w (fun v w' => v = .tuple #[] ∧ StepR kb0 nb0 Sm St m nb vb n cn cv tg tl b ops oa oc k ans (skAct tg s d) w w') := by
 intro c cs
 have cP := tcP X.blk
 have hq1 : decide (PC < 20) = true := by simp; omega
 have hq2 : decide (PC < 30) = true := by simp; omega
 have hp := push_w (main := main) d h20 w X M hdis hd hok hl hal hn
 rw [enter_at _ Try.func42 code42_is]
 simp only [Try.ntmps42, ez, Nat.reduceAdd, Nat.reduceSub]
 refine Walk.gz z42 ?_
 refine Walk.callW (Post := fun v w' => v = .tuple #[] ∧ MidR Sm St m nb vb n cn cv tg tl b ops oa oc k o ans e (skAct tg s d) w w') ?_ hoA (by rfl) (by decide) rfl Try.func60 (by kernel_rfl) (by rfl) ?_
 ·walk_nrm
  exact hp
 rintro v w1 ⟨rfl, hMid⟩
 walk_nrm
 refine Walk.gz z42 ?_
 refine Walk.callW (Post := fun v w' => v = .tuple #[] ∧ StepR kb0 nb0 Sm St m nb vb n cn cv tg tl b ops oa oc k ans (skAct tg s d) w w') ?_ hoA (by rfl) (by decide) rfl Try.func37 (by kernel_rfl) (by rfl) ?_
 ·walk_nrm
  exact step_begin M hdis hok hl hal hMid
 rintro v wZ ⟨rfl, hZ⟩
 walk_nrm
 refine Walk.gz z42 ?_
 exact Walk.ctl rfl (fun w => stepG_leave rfl rfl Try.func42 (results_none rfl _ _ w) (events_results_none rfl _ _)) (.stop fun d => ⟨_, ⟨rfl, hZ.at d⟩, rfl⟩)
theorem step_pop (d : SD) (h20 : 20 ≤ PC) (h30 : PC < 30) (w : World) (X : ThX St b ops oa oc (k : Nat) PC N ans aa ac e w) (M : MaX Sm m nb vb n cn cv tg tl s w) (hdis : ∀ g, Sm g → ¬ St g) (hd : dR n o PC N d) (hok : ops[k]? = some o) (hl : ops.length ≤ 65536) (hal : ans.length = k) (hn : n ≤ 65536) :
  CallW Try.prog main (fun _ => none) 42 #[.pointer (some ⟨m, 0, none⟩), .pointer (some ⟨b, 0, none⟩)] w (fun v w' => v = .tuple #[] ∧ StepR kb0 nb0 Sm St m nb vb n cn cv tg tl b ops oa oc k ans (skAct tg s d) w w') := by
 intro c cs
 have cP := tcP X.blk
 have hq1 : decide (PC < 20) = false := by simp; omega
 have hq2 : decide (PC < 30) = true := by simp; omega
 have hp := pop_w (main := main) d h20 h30 w X M hdis hd hok hl hal hn
 rw [enter_at _ Try.func42 code42_is]
 simp only [Try.ntmps42, ez, Nat.reduceAdd, Nat.reduceSub]
 refine Walk.gz z42 ?_
 refine Walk.callW (Post := fun v w' => v = .tuple #[] ∧ MidR Sm St m nb vb n cn cv tg tl b ops oa oc k o ans e (skAct tg s d) w w') ?_ hoA (by rfl) (by decide) rfl Try.func61 (by kernel_rfl) (by rfl) ?_
 ·walk_nrm
  exact hp
 rintro v w1 ⟨rfl, hMid⟩
 walk_nrm
 refine Walk.gz z42 ?_
 refine Walk.callW (Post := fun v w' => v = .tuple #[] ∧ StepR kb0 nb0 Sm St m nb vb n cn cv tg tl b ops oa oc k ans (skAct tg s d) w w') ?_ hoA (by rfl) (by decide) rfl Try.func37 (by kernel_rfl) (by rfl) ?_
 ·walk_nrm
  exact step_begin M hdis hok hl hal hMid
 rintro v wZ ⟨rfl, hZ⟩
 walk_nrm
 refine Walk.gz z42 ?_
 exact Walk.ctl rfl (fun w => stepG_leave rfl rfl Try.func42 (results_none rfl _ _ w) (events_results_none rfl _ _)) (.stop fun d => ⟨_, ⟨rfl, hZ.at d⟩, rfl⟩)
theorem step_w (d : SD) (w : World) (X : ThX St b ops oa oc (k : Nat) PC N ans aa ac e w) (M : MaX Sm m nb vb n cn cv tg tl s w) (hdis : ∀ g, Sm g → ¬ St g) (hd : dR n o PC N d) (hok : ops[k]? = some o) (hl : ops.length ≤ 65536) (hal : ans.length = k) (hn : n ≤ 65536) :
  CallW Try.prog main (fun _ => none) 42 #[.pointer (some ⟨m, 0, none⟩), .pointer (some ⟨b, 0, none⟩)] w (fun v w' => v = .tuple #[] ∧ StepR kb0 nb0 Sm St m nb vb n cn cv tg tl b ops oa oc k ans (skAct tg s d) w w') := by
 by_cases h20 : PC < 20
 ·exact step_push d h20 w X M hdis hd hok hl hal hn
 by_cases h30 : PC < 30
 ·exact step_pop d (by omega) h30 w X M hdis hd hok hl hal hn
 cases d with
 | pe1 => exact step_pe1 w X M hdis hd hok hl hal hn
 | pe2 top => exact step_pe2 top w X M hdis hd hok hl hal hn
 | pe3 top y => exact step_pe3 top y w X M hdis hd hok hl hal hn
 | em1 => exact step_em1 w X M hdis hd hok hl hal hn
 | _ => simp only [dR] at hd; omega
end
end
end Go.Proofs.Ytdmpmoggacjgcaa
