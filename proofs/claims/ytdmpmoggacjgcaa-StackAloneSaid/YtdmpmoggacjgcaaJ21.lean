/- Part 21. -/
import Derived.Test.YtdmpmoggacjgcaaJ20
set_option linter.unusedSimpArgs false
set_option linter.unusedVariables false
set_option maxHeartbeats 8000000
set_option maxRecDepth 100000
namespace Go.Proofs.Ytdmpmoggacjgcaa
open Go.Conc Go.RowKit Go.Relay
open Go.ConcN (upd upd_ne upd_same)
section
section
variable {main : Bool} {Sm St : Nat → Prop} {m nb vb n cn cv : Nat} {tg : Bool} {tl : Value} {b : Nat} {ops : List OpV} {oa : Option Addr} {oc k : Nat} {o : OpV} {PC : Int} {N : Nat → Int} {ans : List Ans} {aa : Option Addr} {ac : Nat} {e : Bool} {s : Sk}
theorem push_4 (x z : Int) (w : World) (X : ThX St b ops oa oc (k : Nat) PC N ans aa ac e w) (M : MaX Sm m nb vb n cn cv tg tl s w) (hdis : ∀ g, Sm g → ¬ St g) (hd : dR n o PC N (.pu4 x z)) (hok : ops[k]? = some o) (hl : ops.length ≤ 65536) (hal : ans.length = k) (hn : n ≤ 65536) :
  CallW Try.prog main (fun _ => none) 60 #[.pointer (some ⟨m, 0, none⟩), .pointer (some ⟨b, 0, none⟩)] w (fun v w' => v = .tuple #[] ∧ MidR Sm St m nb vb n cn cv tg tl b ops oa oc k o ans e (skAct tg s (.pu4 x z)) w w') := by
 intro c cs
 have hkl := (List.getElem?_eq_some_iff.1 hok).1
 have hbm : m ≠ b := fun h => hdis m M.sm (by rw [h]; exact X.sb)
 have hbn : nb ≠ b := fun h => hdis nb M.sn (by rw [h]; exact X.sb)
 have hbv : vb ≠ b := fun h => hdis vb M.sv (by rw [h]; exact X.sb)
 obtain ⟨rfl, rfl, e4, hz0, hz1⟩ := hd
 obtain ⟨i, hi⟩ : ∃ i : Nat, z = i := ⟨(z).toNat, by omega⟩
 have hin : i < n := by omega
 have hb0 := X.blk
 have ho0 : ∀ g, g ≠ b → w.heap[g]? = w.heap[g]? := fun _ _ => rfl
 have hs0 : w.heap.size = w.heap.size := rfl
 have hCB : Chg (fun g => Sm g ∨ St g) w w := Chg.refl
 have cP0 : w.cell? ⟨b, 2, none⟩ = some (.int .i64 13) := tcP hb0
 have mvl0 : w.cell? ⟨m, 1, none⟩ = some (.slice (some ⟨vb, 0, none⟩) n cv) := mc1 (M.same fun g _ hg => ho0 g (fun h => hdis g hg (by rw [h]; exact X.sb))).blk
 have n7_0 : w.cell? ⟨b, 7, none⟩ = some (.int .i64 (i : Int)) := (tc4 hb0).trans (congrArg (fun z => some (Value.int .i64 z)) (e4.trans hi))
 have hCo := opW_chg w o
 have Mo := M.chg hCo fun _ _ _ h => h
 have Xo := X.same (w' := opW w o) fun g hg _ => hCo.same g hg fun h => h
 have hvo := op_v (main := main) o w X hok hl
 have yv := Mo.vlc hin
 have zV := Mo.vlz (i := i)
 have mvo := mc1 Mo.blk
 have nvo : (opW w o).cell? ⟨b, 7, none⟩ = some (.int .i64 (i : Int)) := (tc4 Xo.blk).trans (congrArg (fun z => some (Value.int .i64 z)) (e4.trans hi))
 have hso := hCo.size
 have hia0 := evix0
 have hia1 := evix1
 have hia2 := evix2
 have hia3 := evix3
 have hia4 := evix4
 rw [enter_at _ Try.func60 code60_is]
 simp only [Try.ntmps60, ez, Nat.reduceAdd, Nat.reduceSub]
 refine Walk.gz z60 ?_
 have fk1 := fun w => run_opA o.k o.a o.b o.c w
 have fk2 := fun w es => ev_opA o.k o.a o.b o.c w es
 refine Walk.drawnT (iA := 10) (iB := 11) (w1 := opW w o) (vA := opVal o) (Z := fun y => y.cell? ⟨m, 1, none⟩ = some (.slice (some ⟨vb, 0, none⟩) n cv) ∧ y.cell? ⟨b, 7, none⟩ = some (.int .i64 (i : Int)))
  (fun v w2 => v = .int .i64 o.a ∧ w2 = opW w o) (by kernel_rfl) size60_16 (by kernel_rfl) (by kernel_rfl) (by kernel_rfl) (by kernel_rfl) (by decide) hoA hoA ⟨mvl0, n7_0⟩ ⟨mvo, nvo⟩ ?_ ?_
 ·rintro v w2 ⟨_, rfl⟩
  exact ⟨mvo, nvo⟩
 rw [show List.filter (quietQ 10 11) (List.range 13) = [0, 1, 2, 3, 4, 5, 6, 7, 8, 9, 12] from by decide]
 repeat (first | (refine Cm.opqZ hoA (by rfl) (fun wz hz dd e he => ?_) ?_; (· (obtain ⟨z1, z2⟩ := hz; simp [go_sem, *] at he; try (subst he; exact evR_read _ _))); apply Exists.intro; apply And.intro; (· (intro wz hz dd K hK; obtain ⟨z1, z2⟩ := hz; go_simp; exact hK))) | (refine Cm.unw hoA (by rfl) ?_; walk_nrm))
 refine Cm.done ⟨?_, ?_, ?_⟩
 ·intro y hev rest hr0
  have e1 : y.eval (.tmp 108) = .pointer (some ⟨b, 0, none⟩) := by simpa [Act.eval] using hev (.tmp 108) (by simp [Op.operands, Call.operands])
  refine Walk.callV (x := opVal o) (W := opW w o) ?_ hoA (by rfl) (by decide) rfl Try.func58 (by kernel_rfl) (by rfl) ?_
  ·simp only [List.map_toArray, List.map_cons, List.map_nil, e1]
   exact hvo
  exact hr0 _ _ ⟨rfl, _, rfl⟩
 ·intro y hev rest hr0
  have e0 : y.eval (.tmp 109) = .agg #[.int .i64 o.k, .int .i64 o.a, .int .i64 o.b, .int .i64 o.c] := (hev (.tmp 109) (by simp [Op.operands])).trans rfl
  have e1 : y.tmps[109]?.getD undef = .agg #[.int .i64 o.k, .int .i64 o.a, .int .i64 o.b, .int .i64 o.c] := by
   rw [← Array.getD_eq_getD_getElem?]
   exact e0
  clear e0
  have fk3 : ∀ w, (Instr.field 45 (y.tmps[109]?.getD undef) 1).run Try.prog w = .ok (.int .i64 o.a) w := fun w => by rw [e1]; exact run_opA _ _ _ _ w
  have fk4 : ∀ w es, (Instr.field 45 (y.tmps[109]?.getD undef) 1).events Try.prog w es = es := fun w es => by rw [e1]; exact ev_opA _ _ _ _ w es
  clear e1
  (refine Walk.oq ?_; try walk_nrm)
  exact hr0 _ _ ⟨_, _, ⟨rfl, rfl⟩, rfl, (opW w o).drawn, rfl⟩
 rintro v w2 ⟨rfl, rfl⟩ rest hr0
 (have hfr := fr0 vb i; refine Walk.os hfr yv ?_; clear hfr; try walk_nrm)
 refine hr0 _ _ ?_
 have MA := ma_vl (v := o.a) Mo hin
 have XA := Xo.same (w' := (opW w o).setCell ⟨vb, i, none⟩ (.int .i64 o.a)) fun g _ hg => heap_set_other _ _ _ _ (fun h => hdis vb M.sv (by have h : g = vb := h; rw [← h]; exact hg))
 have hCA : Chg (fun g => Sm g ∨ St g) w ((opW w o).setCell ⟨vb, i, none⟩ (.int .i64 o.a)) := Chg.trans (S' := fun g => Sm g ∨ St g) (hCo.mono fun _ _ h => h.elim) (Chg.set (.inl M.sv)) fun _ _ h => h
 have hsA := hCA.size
 clear yv zV mvo nvo mvl0 n7_0 cP0 hb0 ho0 hs0
 generalize (opW w o).setCell ⟨vb, i, none⟩ (.int .i64 o.a) = wA at *
 have hbB_wA := XA.blk
 have ho0 : ∀ g, g ≠ b → wA.heap[g]? = wA.heap[g]? := fun _ _ => rfl
 have hs0 : wA.heap.size = wA.heap.size := rfl
 have hb0 : wA.heap[b]? = some (.cells (thA (.slice oa ops.length oc) (k : Nat) 13 N (.slice none 0 0) (.slice aa ans.length ac) e) 120) := hbB_wA
 walk_nrm
 refine Walk.gz z60 ?_
 have cX := tcP hb0
 have zX := frozen_of hb0 2
 (have hfr := fr0 b 2; refine Walk.os hfr cX ?_; clear hfr; try walk_nrm)
 have hb1 : (wA.setCell ⟨b, 2, none⟩ (.int .i64 14)).heap[b]? = some (.cells (thA (.slice oa ops.length oc) (k : Nat) 14 N (.slice none 0 0) (.slice aa ans.length ac) e) 120) := by rw [heap_set_self _ _ hb0, thA_PC]
 have ho1 : ∀ g, g ≠ b → (wA.setCell ⟨b, 2, none⟩ (.int .i64 14)).heap[g]? = wA.heap[g]? := fun g hg => (heap_set_other _ _ _ _ hg).trans (ho0 g hg)
 have hs1 : (wA.setCell ⟨b, 2, none⟩ (.int .i64 14)).heap.size = wA.heap.size := (size_set ..).trans hs0
 clear cX zX
 generalize wA.setCell ⟨b, 2, none⟩ (.int .i64 14) = w1 at *
 try walk_nrm
 refine Walk.gz z60 ?_
 refine Walk.ctl rfl (fun w => stepG_leave rfl rfl Try.func60 (results_none rfl _ _ w) (events_results_none rfl _ _)) (.stop fun d => ⟨_, ⟨rfl, MidR.at ?_ d⟩, rfl⟩)
 have hr : skAct tg s (.pu4 o.a z) = ({ s with vl := upd s.vl i o.a }, .inr (.pu5 z)) := by show ({ s with vl := upd s.vl z.toNat o.a }, Sum.inr (SD.pu5 z)) = _; rw [hi]; rfl
 rw [hr]
 have hCf : Chg (fun g => Sm g ∨ St g) w w1 := Chg.trans (S' := fun g => Sm g ∨ St g) hCA ⟨by omega, fun g _ hg => ho1 g (fun h => hg (.inr (by rw [h]; exact X.sb)))⟩ fun g _ h => h
 exact ⟨MA.same fun g _ hg => ho1 g (fun h => hdis g hg (by rw [h]; exact X.sb)), hCf, _, _, aa, ac, (XA.put hb1 fun g hg _ _ => ho1 g hg).mono fun _ h => .inl h, ⟨rfl, e4, hz0, hz1⟩⟩
end
end
section
noncomputable def reg61_0 := rg Try.f61.body [0]
noncomputable def reg61_1 := rg Try.f61.body [1, 0, 0]
noncomputable def reg61_2 := rg Try.f61.body [1, 0, 1, 0, 0]
theorem size61_2 : reg61_2.size = 10 := by kernel_rfl
noncomputable def reg61_3 := rg Try.f61.body [1, 0, 1, 0, 1, 0]
theorem size61_3 : reg61_3.size = 10 := by kernel_rfl
noncomputable def reg61_4 := rg Try.f61.body [1, 0, 1, 0, 1, 1, 0]
noncomputable def reg61_5 := rg Try.f61.body [1, 0, 1, 0, 1, 1, 1, 0]
noncomputable def reg61_6 := rg Try.f61.body [1, 0, 1, 0, 1, 1, 1, 1, 0]
noncomputable def reg61_7 := rg Try.f61.body [1, 0, 1, 1, 0]
noncomputable def reg61_8 := rg Try.f61.body [1, 0, 1, 1, 1, 0, 0]
theorem size61_8 : reg61_8.size = 16 := by kernel_rfl
noncomputable def reg61_9 := rg Try.f61.body [1, 0, 1, 1, 1, 0, 1]
noncomputable def reg61_10 := rg Try.f61.body [1, 0, 1, 1, 1, 1, 0]
noncomputable def reg61_11 := rg Try.f61.body [1, 0, 1, 1, 1, 1, 1, 0, 0]
noncomputable def reg61_12 := rg Try.f61.body [1, 0, 1, 1, 1, 1, 1, 0, 1, 0]
theorem size61_12 : reg61_12.size = 20 := by kernel_rfl
noncomputable def reg61_13 := rg Try.f61.body [1, 0, 1, 1, 1, 1, 1, 0, 1, 1, 0, 0]
theorem size61_13 : reg61_13.size = 10 := by kernel_rfl
noncomputable def reg61_14 := rg Try.f61.body [1, 0, 1, 1, 1, 1, 1, 0, 1, 1, 0, 1]
noncomputable def reg61_15 := rg Try.f61.body [1, 0, 1, 1, 1, 1, 1, 1, 0]
noncomputable def reg61_16 := rg Try.f61.body [1, 0, 1, 1, 1, 1, 1, 1, 1, 0, 0]
theorem size61_16 : reg61_16.size = 16 := by kernel_rfl
noncomputable def reg61_17 := rg Try.f61.body [1, 0, 1, 1, 1, 1, 1, 1, 1, 0, 1]
noncomputable def reg61_18 := rg Try.f61.body [1, 0, 1, 1, 1, 1, 1, 1, 1, 1, 0]
noncomputable def reg61_19 := rg Try.f61.body [1, 0, 1, 1, 1, 1, 1, 1, 1, 1, 1, 0, 0]
theorem size61_19 : reg61_19.size = 10 := by kernel_rfl
noncomputable def reg61_20 := rg Try.f61.body [1, 0, 1, 1, 1, 1, 1, 1, 1, 1, 1, 0, 1, 0]
theorem size61_20 : reg61_20.size = 10 := by kernel_rfl
noncomputable def reg61_21 := rg Try.f61.body [1, 0, 1, 1, 1, 1, 1, 1, 1, 1, 1, 0, 1, 1]
noncomputable def reg61_22 := rg Try.f61.body [1, 0, 1, 1, 1, 1, 1, 1, 1, 1, 1, 1, 0]
noncomputable def reg61_23 := rg Try.f61.body [1, 0, 1, 1, 1, 1, 1, 1, 1, 1, 1, 1, 1, 0, 0]
theorem size61_23 : reg61_23.size = 16 := by kernel_rfl
noncomputable def reg61_24 := rg Try.f61.body [1, 0, 1, 1, 1, 1, 1, 1, 1, 1, 1, 1, 1, 0, 1]
noncomputable def reg61_25 := rg Try.f61.body [1, 0, 1, 1, 1, 1, 1, 1, 1, 1, 1, 1, 1, 1, 0]
noncomputable def reg61_26 := rg Try.f61.body [1, 0, 1, 1, 1, 1, 1, 1, 1, 1, 1, 1, 1, 1, 1, 0, 0]
noncomputable def reg61_27 := rg Try.f61.body [1, 0, 1, 1, 1, 1, 1, 1, 1, 1, 1, 1, 1, 1, 1, 0, 1, 0]
theorem size61_27 : reg61_27.size = 20 := by kernel_rfl
noncomputable def reg61_28 := rg Try.f61.body [1, 0, 1, 1, 1, 1, 1, 1, 1, 1, 1, 1, 1, 1, 1, 0, 1, 1, 0]
theorem z61 : List.range reg61_0.size = [0, 1, 2, 3] ∧ List.range reg61_1.size = [0, 1] ∧ List.range reg61_2.size = [0, 1, 2, 3, 4, 5, 6, 7, 8, 9] ∧ List.range reg61_3.size = [0, 1, 2, 3, 4, 5, 6, 7, 8, 9] ∧ List.range reg61_4.size = [0, 1, 2, 3] ∧ List.range reg61_5.size = [0, 1, 2, 3, 4, 5] ∧ List.range reg61_6.size = [0, 1, 2] ∧ List.range reg61_7.size = [0, 1] ∧ List.range reg61_8.size = [0, 1, 2, 3, 4, 5, 6, 7, 8, 9, 10, 11, 12, 13, 14, 15] ∧ List.range reg61_9.size = [0, 1, 2, 3] ∧ List.range reg61_10.size = [0, 1] ∧ List.range reg61_11.size = [0, 1, 2, 3] ∧ List.range reg61_12.size = [0, 1, 2, 3, 4, 5, 6, 7, 8, 9, 10, 11, 12, 13, 14, 15, 16, 17, 18, 19] ∧ List.range reg61_13.size = [0, 1, 2, 3, 4, 5, 6, 7, 8, 9] ∧ List.range reg61_14.size = [0, 1, 2, 3] ∧ List.range reg61_15.size = [0, 1] ∧ List.range reg61_16.size = [0, 1, 2, 3, 4, 5, 6, 7, 8, 9, 10, 11, 12, 13, 14, 15] ∧ List.range reg61_17.size = [0, 1, 2, 3] ∧ List.range reg61_18.size = [0, 1] ∧ List.range reg61_19.size = [0, 1, 2, 3, 4, 5, 6, 7, 8, 9] ∧ List.range reg61_20.size = [0, 1, 2, 3, 4, 5, 6, 7, 8, 9] ∧ List.range reg61_21.size = [0, 1, 2, 3] ∧ List.range reg61_22.size = [0, 1] ∧ List.range reg61_23.size = [0, 1, 2, 3, 4, 5, 6, 7, 8, 9, 10, 11, 12, 13, 14, 15] ∧ List.range reg61_24.size = [0, 1, 2, 3] ∧ List.range reg61_25.size = [0, 1] ∧ List.range reg61_26.size = [0, 1, 2, 3] ∧ List.range reg61_27.size = [0, 1, 2, 3, 4, 5, 6, 7, 8, 9, 10, 11, 12, 13, 14, 15, 16, 17, 18, 19] ∧ List.range reg61_28.size = [0, 1, 2, 3, 4, 5, 6, 7] := by refine ⟨?_, ?_, ?_, ?_, ?_, ?_, ?_, ?_, ?_, ?_, ?_, ?_, ?_, ?_, ?_, ?_, ?_, ?_, ?_, ?_, ?_, ?_, ?_, ?_, ?_, ?_, ?_, ?_, ?_⟩ <;> kernel_rfl
theorem code61_is : Try.f61.body = some (.seq (.region 0 reg61_0 false) (.block 0 (.seq (.region 1 reg61_1 false) (.cond (.tmp 8 ) (.seq (.region 2 reg61_2 true) (.seq (.region 3 reg61_3 true) (.seq (.region 4 reg61_4 false) (.seq (.region 5 reg61_5 false) (.cond (.tmp 36 ) (.region 6 reg61_6 false) (.skip)))))) (.seq (.region 7 reg61_7 false) (.cond (.tmp 40 ) (.seq (.region 8 reg61_8 true) (.region 9 reg61_9 false)) (.seq (.region 10 reg61_10 false) (.cond (.tmp 60 ) (.seq (.region 11 reg61_11 false) (.seq (.region 12 reg61_12 true) (.cond (.tmp 84 ) (.seq (.region 13 reg61_13 true) (.region 14 reg61_14 false)) (.skip)))) (.seq (.region 15 reg61_15 false) (.cond (.tmp 97 ) (.seq (.region 16 reg61_16 true) (.region 17 reg61_17 false)) (.seq (.region 18 reg61_18 false) (.cond (.tmp 117 ) (.seq (.region 19 reg61_19 true) (.seq (.region 20 reg61_20 true) (.region 21 reg61_21 false))) (.seq (.region 22 reg61_22 false) (.cond (.tmp 140 ) (.seq (.region 23 reg61_23 true) (.region 24 reg61_24 false)) (.seq (.region 25 reg61_25 false) (.cond (.tmp 160 ) (.seq (.region 26 reg61_26 false) (.seq (.region 27 reg61_27 true) (.cond (.tmp 184 ) (.region 28 reg61_28 false) (.skip)))) (.skip))))))))))))))))) := by kernel_rfl
section
variable {main : Bool} {Sm St : Nat → Prop} {m nb vb n cn cv : Nat} {tg : Bool} {tl : Value} {b : Nat} {ops : List OpV} {oa : Option Addr} {oc k : Nat} {o : OpV} {PC : Int} {N : Nat → Int} {ans : List Ans} {aa : Option Addr} {ac : Nat} {e : Bool} {s : Sk}
theorem pop_1 (w : World) (X : ThX St b ops oa oc (k : Nat) PC N ans aa ac e w) (M : MaX Sm m nb vb n cn cv tg tl s w) (hdis : ∀ g, Sm g → ¬ St g) (hd : dR n o PC N (.po1)) (hok : ops[k]? = some o) (hl : ops.length ≤ 65536) (hal : ans.length = k) (hn : n ≤ 65536) :
  CallW Try.prog main (fun _ => none) 61 #[.pointer (some ⟨m, 0, none⟩), .pointer (some ⟨b, 0, none⟩)] w (fun v w' => v = .tuple #[] ∧ MidR Sm St m nb vb n cn cv tg tl b ops oa oc k o ans e (skAct tg s (.po1)) w w') := by
 intro c cs
 have hkl := (List.getElem?_eq_some_iff.1 hok).1
 have hbm : m ≠ b := fun h => hdis m M.sm (by rw [h]; exact X.sb)
 have hbn : nb ≠ b := fun h => hdis nb M.sn (by rw [h]; exact X.sb)
 have hbv : vb ≠ b := fun h => hdis vb M.sv (by rw [h]; exact X.sb)
 obtain rfl : PC = 20 := hd
 have hb0 := X.blk
 have ho0 : ∀ g, g ≠ b → w.heap[g]? = w.heap[g]? := fun _ _ => rfl
 have hs0 : w.heap.size = w.heap.size := rfl
 have hCB : Chg (fun g => Sm g ∨ St g) w w := Chg.refl
 have cP0 : w.cell? ⟨b, 2, none⟩ = some (.int .i64 20) := tcP hb0
 have hOk := M.hd
 have mhn0 : w.cell? ⟨m, 2, none⟩ = some (.int .i64 (nodeX s.hd)) := mc2 (M.same fun g _ hg => ho0 g (fun h => hdis g hg (by rw [h]; exact X.sb))).blk
 have mht0 : w.cell? ⟨m, 3, none⟩ = some (.int .i64 (tagX s.hd)) := mc3 (M.same fun g _ hg => ho0 g (fun h => hdis g hg (by rw [h]; exact X.sb))).blk
 have hia0 := evix0
 have hia1 := evix1
 have hia2 := evix2
 have hia3 := evix3
 have hia4 := evix4
 rw [enter_at _ Try.func61 code61_is]
 simp only [Try.ntmps61, ez, Nat.reduceAdd, Nat.reduceSub]
 refine Walk.gz z61 ?_
 have cX := tc0 hb0
 have zX := frozen_of hb0 3
 (refine Walk.drawnL (by kernel_rfl) size61_2 (by kernel_rfl) (by kernel_rfl) (by kernel_rfl) (by decide) ?_; simp only [List.range, List.range.loop]; repeat (first | (refine Cm.oq ?_) | (refine Cm.unw hoA (by rfl) ?_; walk_nrm)))
 refine Cm.done ?_
 intro rest hr0
 (have hfr := fr0 b 3; refine Walk.os hfr cX ?_; clear hfr; try walk_nrm)
 refine hr0 _ _ ?_
 have hb1 : (w.setCell ⟨b, 3, none⟩ (.int .i64 (nodeX s.hd))).heap[b]? = some (.cells (thA (.slice oa ops.length oc) (k : Nat) 20 (upd N 0 (nodeX s.hd)) (.slice none 0 0) (.slice aa ans.length ac) e) 120) := by rw [heap_set_self _ _ hb0, thA_0]
 have ho1 : ∀ g, g ≠ b → (w.setCell ⟨b, 3, none⟩ (.int .i64 (nodeX s.hd))).heap[g]? = w.heap[g]? := fun g hg => (heap_set_other _ _ _ _ hg).trans (ho0 g hg)
 have hs1 : (w.setCell ⟨b, 3, none⟩ (.int .i64 (nodeX s.hd))).heap.size = w.heap.size := (size_set ..).trans hs0
 clear cX zX
 generalize w.setCell ⟨b, 3, none⟩ (.int .i64 (nodeX s.hd)) = w1 at *
 try walk_nrm
 refine Walk.gz z61 ?_
 have mhn1 : w1.cell? ⟨m, 2, none⟩ = some (.int .i64 (nodeX s.hd)) := mc2 (M.same fun g _ hg => ho1 g (fun h => hdis g hg (by rw [h]; exact X.sb))).blk
 have mht1 : w1.cell? ⟨m, 3, none⟩ = some (.int .i64 (tagX s.hd)) := mc3 (M.same fun g _ hg => ho1 g (fun h => hdis g hg (by rw [h]; exact X.sb))).blk
 have cX := tc1 hb1
 have zX := frozen_of hb1 4
 (refine Walk.drawnL (by kernel_rfl) size61_3 (by kernel_rfl) (by kernel_rfl) (by kernel_rfl) (by decide) ?_; simp only [List.range, List.range.loop]; repeat (first | (refine Cm.oq ?_) | (refine Cm.unw hoA (by rfl) ?_; walk_nrm)))
 refine Cm.done ?_
 intro rest hr0
 (have hfr := fr0 b 4; refine Walk.os hfr cX ?_; clear hfr; try walk_nrm)
 refine hr0 _ _ ?_
 have hb2 : (w1.setCell ⟨b, 4, none⟩ (.int .i64 (tagX s.hd))).heap[b]? = some (.cells (thA (.slice oa ops.length oc) (k : Nat) 20 (upd (upd N 0 (nodeX s.hd)) 1 (tagX s.hd)) (.slice none 0 0) (.slice aa ans.length ac) e) 120) := by rw [heap_set_self _ _ hb1, thA_1]
 have ho2 : ∀ g, g ≠ b → (w1.setCell ⟨b, 4, none⟩ (.int .i64 (tagX s.hd))).heap[g]? = w.heap[g]? := fun g hg => (heap_set_other _ _ _ _ hg).trans (ho1 g hg)
 have hs2 : (w1.setCell ⟨b, 4, none⟩ (.int .i64 (tagX s.hd))).heap.size = w.heap.size := (size_set ..).trans hs1
 clear cX zX
 generalize w1.setCell ⟨b, 4, none⟩ (.int .i64 (tagX s.hd)) = w2 at *
 try walk_nrm
 refine Walk.gz z61 ?_
 have cP := tcP hb2
 have cX := tcP hb2
 have zX := frozen_of hb2 2
 (have hfr := fr0 b 2; refine Walk.os hfr cX ?_; clear hfr; try walk_nrm)
 have hb3 : (w2.setCell ⟨b, 2, none⟩ (.int .i64 21)).heap[b]? = some (.cells (thA (.slice oa ops.length oc) (k : Nat) 21 (upd (upd N 0 (nodeX s.hd)) 1 (tagX s.hd)) (.slice none 0 0) (.slice aa ans.length ac) e) 120) := by rw [heap_set_self _ _ hb2, thA_PC]
 have ho3 : ∀ g, g ≠ b → (w2.setCell ⟨b, 2, none⟩ (.int .i64 21)).heap[g]? = w.heap[g]? := fun g hg => (heap_set_other _ _ _ _ hg).trans (ho2 g hg)
 have hs3 : (w2.setCell ⟨b, 2, none⟩ (.int .i64 21)).heap.size = w.heap.size := (size_set ..).trans hs2
 clear cX zX
 generalize w2.setCell ⟨b, 2, none⟩ (.int .i64 21) = w3 at *
 try walk_nrm
 have n3_3 : w3.cell? ⟨b, 3, none⟩ = some (.int .i64 (nodeX s.hd)) := (tc0 hb3).trans (congrArg (fun z => some (Value.int .i64 z)) (rfl))
 by_cases hz : nodeX s.hd = -1
 ·have hzd : decide (nodeX s.hd < 0) = true := by simp; omega
  refine Walk.gz z61 ?_
  have Xe : ThX St b ops oa oc (k : Nat) 21 (upd (upd N 0 (nodeX s.hd)) 1 (tagX s.hd)) ans aa ac e w3 := X.put hb3 fun g hg _ _ => ho3 g hg
  have Me := M.same fun g _ hg => ho3 g (fun h => hdis g hg (by rw [h]; exact X.sb))
  have hCf : Chg (fun g => Sm g ∨ St g) w w3 := Chg.trans (S' := fun g => Sm g ∨ St g) hCB ⟨by omega, fun g _ hg => ho3 g (fun h => hg (.inr (by rw [h]; exact X.sb)))⟩ fun g _ h => h
  have hsf := hCf.size
  refine Walk.callW (Post := fun v w' => v = .tuple #[] ∧ (∃ aa' ac', ThX (fun g => St g ∨ w3.heap.size ≤ g) b ops oa oc ((k + 1 : Nat) : Int) 0 (upd (upd N 0 (nodeX s.hd)) 1 (tagX s.hd)) (ans ++ [(false, 0)]) aa' ac' e w') ∧ Chg St w3 w') ?_ hoA (by rfl) (by decide) rfl Try.func59 (by kernel_rfl) (by rfl) ?_
  ·walk_nrm
   exact end_w (false, 0) w3 Xe (by omega) (by omega)
  rintro v wE ⟨rfl, ⟨aa2, ac2, XE⟩, hCE⟩
  have ME := Me.chg hCE fun g _ h => hdis g h
  have hsE := hCE.size
  have hCE' : Chg (fun g => Sm g ∨ St g) w wE := Chg.trans (S' := St) hCf hCE fun g _ h => .inr h
  have XE' := XE.mono (S' := fun g => St g ∨ w.heap.size ≤ g) fun g hg => hg.imp id fun h => by omega
  walk_nrm
  refine Walk.gz z61 ?_
  refine Walk.ctl rfl (fun w => stepG_leave rfl rfl Try.func61 (results_none rfl _ _ w) (events_results_none rfl _ _)) (.stop fun d => ⟨_, ⟨rfl, MidR.at ?_ d⟩, rfl⟩)
  have hr : skAct tg s (.po1) = (s, .inl (false, 0)) := if_pos hz
  rw [hr]
  exact mid_end ME hCE' XE'
 ·have hzd : decide (nodeX s.hd < 0) = false := by simp; have := hOk.nlo; omega
  refine Walk.gz z61 ?_
  refine Walk.ctl rfl (fun w => stepG_leave rfl rfl Try.func61 (results_none rfl _ _ w) (events_results_none rfl _ _)) (.stop fun d => ⟨_, ⟨rfl, MidR.at ?_ d⟩, rfl⟩)
  have hr : skAct tg s (.po1) = (s, .inr (.po2 s.hd)) := if_neg hz
  rw [hr]
  have hCf : Chg (fun g => Sm g ∨ St g) w w3 := Chg.trans (S' := fun g => Sm g ∨ St g) hCB ⟨by omega, fun g _ hg => ho3 g (fun h => hg (.inr (by rw [h]; exact X.sb)))⟩ fun g _ h => h
  exact ⟨M.same fun g _ hg => ho3 g (fun h => hdis g hg (by rw [h]; exact X.sb)), hCf, _, _, aa, ac, (X.put hb3 fun g hg _ _ => ho3 g hg).mono fun _ h => .inl h, ⟨rfl, rfl, rfl, hOk, hz⟩⟩
theorem pop_2 (top : Int) (w : World) (X : ThX St b ops oa oc (k : Nat) PC N ans aa ac e w) (M : MaX Sm m nb vb n cn cv tg tl s w) (hdis : ∀ g, Sm g → ¬ St g) (hd : dR n o PC N (.po2 top)) (hok : ops[k]? = some o) (hl : ops.length ≤ 65536) (hal : ans.length = k) (hn : n ≤ 65536) :
  CallW Try.prog main (fun _ => none) 61 #[.pointer (some ⟨m, 0, none⟩), .pointer (some ⟨b, 0, none⟩)] w (fun v w' => v = .tuple #[] ∧ MidR Sm St m nb vb n cn cv tg tl b ops oa oc k o ans e (skAct tg s (.po2 top)) w w') := by
 intro c cs
 have hkl := (List.getElem?_eq_some_iff.1 hok).1
 have hbm : m ≠ b := fun h => hdis m M.sm (by rw [h]; exact X.sb)
 have hbn : nb ≠ b := fun h => hdis nb M.sn (by rw [h]; exact X.sb)
 have hbv : vb ≠ b := fun h => hdis vb M.sv (by rw [h]; exact X.sb)
 obtain ⟨rfl, e0, e1, hO, hne⟩ := hd
 obtain ⟨i, hi⟩ : ∃ i : Nat, nodeX top = i := ⟨(nodeX top).toNat, by have := hO.nlo; omega⟩
 have hin : i < n := by have := hO.nhi; omega
 have hb0 := X.blk
 have ho0 : ∀ g, g ≠ b → w.heap[g]? = w.heap[g]? := fun _ _ => rfl
 have hs0 : w.heap.size = w.heap.size := rfl
 have hCB : Chg (fun g => Sm g ∨ St g) w w := Chg.refl
 have cP0 : w.cell? ⟨b, 2, none⟩ = some (.int .i64 21) := tcP hb0
 have mnx0 : w.cell? ⟨m, 0, none⟩ = some (.slice (some ⟨nb, 0, none⟩) n cn) := mc0 (M.same fun g _ hg => ho0 g (fun h => hdis g hg (by rw [h]; exact X.sb))).blk
 have n3_0 : w.cell? ⟨b, 3, none⟩ = some (.int .i64 (i : Int)) := (tc0 hb0).trans (congrArg (fun z => some (Value.int .i64 z)) (e0.trans hi))
 have x0 := (M.same fun g _ hg => ho0 g (fun h => hdis g hg (by rw [h]; exact X.sb))).nxc hin
 have hia0 := evix0
 have hia1 := evix1
 have hia2 := evix2
 have hia3 := evix3
 have hia4 := evix4
 rw [enter_at _ Try.func61 code61_is]
 simp only [Try.ntmps61, ez, Nat.reduceAdd, Nat.reduceSub]
 refine Walk.gz z61 ?_
 have cX := tc2 hb0
 have zX := frozen_of hb0 5
 (refine Walk.drawnL (by kernel_rfl) size61_8 (by kernel_rfl) (by kernel_rfl) (by kernel_rfl) (by decide) ?_; simp only [List.range, List.range.loop]; repeat (first | (refine Cm.oq ?_) | (refine Cm.unw hoA (by rfl) ?_; walk_nrm)))
 refine Cm.done ?_
 intro rest hr0
 (have hfr := fr0 b 5; refine Walk.os hfr cX ?_; clear hfr; try walk_nrm)
 refine hr0 _ _ ?_
 have hb1 : (w.setCell ⟨b, 5, none⟩ (.int .i64 (s.nx i))).heap[b]? = some (.cells (thA (.slice oa ops.length oc) (k : Nat) 21 (upd N 2 (s.nx i)) (.slice none 0 0) (.slice aa ans.length ac) e) 120) := by rw [heap_set_self _ _ hb0, thA_2]
 have ho1 : ∀ g, g ≠ b → (w.setCell ⟨b, 5, none⟩ (.int .i64 (s.nx i))).heap[g]? = w.heap[g]? := fun g hg => (heap_set_other _ _ _ _ hg).trans (ho0 g hg)
 have hs1 : (w.setCell ⟨b, 5, none⟩ (.int .i64 (s.nx i))).heap.size = w.heap.size := (size_set ..).trans hs0
 clear cX zX
 generalize w.setCell ⟨b, 5, none⟩ (.int .i64 (s.nx i)) = w1 at *
 try walk_nrm
 refine Walk.gz z61 ?_
 have cX := tcP hb1
 have zX := frozen_of hb1 2
 (have hfr := fr0 b 2; refine Walk.os hfr cX ?_; clear hfr; try walk_nrm)
 have hb2 : (w1.setCell ⟨b, 2, none⟩ (.int .i64 22)).heap[b]? = some (.cells (thA (.slice oa ops.length oc) (k : Nat) 22 (upd N 2 (s.nx i)) (.slice none 0 0) (.slice aa ans.length ac) e) 120) := by rw [heap_set_self _ _ hb1, thA_PC]
 have ho2 : ∀ g, g ≠ b → (w1.setCell ⟨b, 2, none⟩ (.int .i64 22)).heap[g]? = w.heap[g]? := fun g hg => (heap_set_other _ _ _ _ hg).trans (ho1 g hg)
 have hs2 : (w1.setCell ⟨b, 2, none⟩ (.int .i64 22)).heap.size = w.heap.size := (size_set ..).trans hs1
 clear cX zX
 generalize w1.setCell ⟨b, 2, none⟩ (.int .i64 22) = w2 at *
 try walk_nrm
 refine Walk.gz z61 ?_
 refine Walk.ctl rfl (fun w => stepG_leave rfl rfl Try.func61 (results_none rfl _ _ w) (events_results_none rfl _ _)) (.stop fun d => ⟨_, ⟨rfl, MidR.at ?_ d⟩, rfl⟩)
 have hr : skAct tg s (.po2 top) = (s, .inr (.po3 top (s.nx i))) := by show (s, Sum.inr (SD.po3 top (s.nx (nodeX top).toNat))) = _; rw [hi]; rfl
 rw [hr]
 have hCf : Chg (fun g => Sm g ∨ St g) w w2 := Chg.trans (S' := fun g => Sm g ∨ St g) hCB ⟨by omega, fun g _ hg => ho2 g (fun h => hg (.inr (by rw [h]; exact X.sb)))⟩ fun g _ h => h
 exact ⟨M.same fun g _ hg => ho2 g (fun h => hdis g hg (by rw [h]; exact X.sb)), hCf, _, _, aa, ac, (X.put hb2 fun g hg _ _ => ho2 g hg).mono fun _ h => .inl h, ⟨rfl, e0, e1, hO, hne, rfl, (M.nxb i hin).1, (M.nxb i hin).2⟩⟩
theorem pop_3 (top nx : Int) (w : World) (X : ThX St b ops oa oc (k : Nat) PC N ans aa ac e w) (M : MaX Sm m nb vb n cn cv tg tl s w) (hdis : ∀ g, Sm g → ¬ St g) (hd : dR n o PC N (.po3 top nx)) (hok : ops[k]? = some o) (hl : ops.length ≤ 65536) (hal : ans.length = k) (hn : n ≤ 65536) :
  CallW Try.prog main (fun _ => none) 61 #[.pointer (some ⟨m, 0, none⟩), .pointer (some ⟨b, 0, none⟩)] w (fun v w' => v = .tuple #[] ∧ MidR Sm St m nb vb n cn cv tg tl b ops oa oc k o ans e (skAct tg s (.po3 top nx)) w w') := by
 intro c cs
 have hkl := (List.getElem?_eq_some_iff.1 hok).1
 have hbm : m ≠ b := fun h => hdis m M.sm (by rw [h]; exact X.sb)
 have hbn : nb ≠ b := fun h => hdis nb M.sn (by rw [h]; exact X.sb)
 have hbv : vb ≠ b := fun h => hdis vb M.sv (by rw [h]; exact X.sb)
 obtain ⟨rfl, e0, e1, hO, hne, e2, hx1, hx2⟩ := hd
 have hb0 := X.blk
 have ho0 : ∀ g, g ≠ b → w.heap[g]? = w.heap[g]? := fun _ _ => rfl
 have hs0 : w.heap.size = w.heap.size := rfl
 have hCB : Chg (fun g => Sm g ∨ St g) w w := Chg.refl
 have cP0 : w.cell? ⟨b, 2, none⟩ = some (.int .i64 22) := tcP hb0
 have hia0 := evix0
 have hia1 := evix1
 have hia2 := evix2
 have hia3 := evix3
 have hia4 := evix4
 rw [enter_at _ Try.func61 code61_is]
 simp only [Try.ntmps61, ez, Nat.reduceAdd, Nat.reduceSub]
 refine Walk.gz z61 ?_
 have cX := tcP hb0
 have zX := frozen_of hb0 2
 (have hfr := fr0 b 2; refine Walk.os hfr cX ?_; clear hfr; try walk_nrm)
 have hb1 : (w.setCell ⟨b, 2, none⟩ (.int .i64 20)).heap[b]? = some (.cells (thA (.slice oa ops.length oc) (k : Nat) 20 N (.slice none 0 0) (.slice aa ans.length ac) e) 120) := by rw [heap_set_self _ _ hb0, thA_PC]
 have ho1 : ∀ g, g ≠ b → (w.setCell ⟨b, 2, none⟩ (.int .i64 20)).heap[g]? = w.heap[g]? := fun g hg => (heap_set_other _ _ _ _ hg).trans (ho0 g hg)
 have hs1 : (w.setCell ⟨b, 2, none⟩ (.int .i64 20)).heap.size = w.heap.size := (size_set ..).trans hs0
 clear cX zX
 generalize w.setCell ⟨b, 2, none⟩ (.int .i64 20) = w1 at *
 try walk_nrm
 refine Walk.gz z61 ?_
 have n3_1 : w1.cell? ⟨b, 3, none⟩ = some (.int .i64 (nodeX top)) := (tc0 hb1).trans (congrArg (fun z => some (Value.int .i64 z)) (e0))
 have n4_1 : w1.cell? ⟨b, 4, none⟩ = some (.int .i64 (tagX top)) := (tc1 hb1).trans (congrArg (fun z => some (Value.int .i64 z)) (e1))
 have n5_1 : w1.cell? ⟨b, 5, none⟩ = some (.int .i64 nx) := (tc2 hb1).trans (congrArg (fun z => some (Value.int .i64 z)) (e2))
 by_cases hq : s.hd = top
 ·subst hq
  have MT0 := M.same fun g _ hg => ho1 g (fun h => hdis g hg (by rw [h]; exact X.sb))
  have XT0 : ThX St b ops oa oc (k : Nat) 20 N ans aa ac e w1 := X.put hb1 fun g hg _ _ => ho1 g hg
  have hCT0 : Chg (fun g => Sm g ∨ St g) w w1 := Chg.trans (S' := fun g => Sm g ∨ St g) hCB ⟨by omega, fun g _ hg => ho1 g (fun h => hg (.inr (by rw [h]; exact X.sb)))⟩ fun g _ h => h
  (refine Walk.drawnL (by kernel_rfl) size61_12 (by kernel_rfl) (by kernel_rfl) (by kernel_rfl) (by decide) ?_; simp only [List.range, List.range.loop]; repeat (first | (refine Cm.oq ?_) | (refine Cm.unw hoA (by rfl) ?_; walk_nrm)))
  refine Cm.done ?_
  intro rest hr0
  refine Walk.callW (Post := fun v w' => v = .bool true ∧ MaX Sm m nb vb n cn cv tg tl { s with hd := heldX nx (turnTag tg s.hd) } w' ∧ Chg Sm w1 w') ?_ hoA (by rfl) (by decide) rfl Try.func75 (by kernel_rfl) (by rfl) ?_
  ·walk_nrm
   exact turn_hd_yes tg nx w1 MT0 hx1 hx2 hn
  rintro v wT ⟨rfl, MT, hCT⟩
  refine hr0 _ _ ?_
  have XT := XT0.same fun g hg h => hCT.same g hg fun h2 => hdis g h2 h
  have hCT1 : Chg (fun g => Sm g ∨ St g) w wT := Chg.trans (S' := Sm) hCT0 hCT fun g _ h => .inl h
  have hsT := hCT1.size
  have hbB_wT := XT.blk
  have ho0 : ∀ g, g ≠ b → wT.heap[g]? = wT.heap[g]? := fun _ _ => rfl
  have hs0 : wT.heap.size = wT.heap.size := rfl
  have hb0 : wT.heap[b]? = some (.cells (thA (.slice oa ops.length oc) (k : Nat) 20 N (.slice none 0 0) (.slice aa ans.length ac) e) 120) := hbB_wT
  have n3_0 : wT.cell? ⟨b, 3, none⟩ = some (.int .i64 (nodeX s.hd)) := (tc0 hb0).trans (congrArg (fun z => some (Value.int .i64 z)) (e0))
  clear n3_1 n4_1 n5_1
  walk_nrm
  refine Walk.gz z61 ?_
  have cX := tc4 hb0
  have zX := frozen_of hb0 7
  (refine Walk.drawnL (by kernel_rfl) size61_13 (by kernel_rfl) (by kernel_rfl) (by kernel_rfl) (by decide) ?_; simp only [List.range, List.range.loop]; repeat (first | (refine Cm.oq ?_) | (refine Cm.unw hoA (by rfl) ?_; walk_nrm)))
  refine Cm.done ?_
  intro rest hr0
  (have hfr := fr0 b 7; refine Walk.os hfr cX ?_; clear hfr; try walk_nrm)
  refine hr0 _ _ ?_
  have hb1 : (wT.setCell ⟨b, 7, none⟩ (.int .i64 (nodeX s.hd))).heap[b]? = some (.cells (thA (.slice oa ops.length oc) (k : Nat) 20 (upd N 4 (nodeX s.hd)) (.slice none 0 0) (.slice aa ans.length ac) e) 120) := by rw [heap_set_self _ _ hb0, thA_4]
  have ho1 : ∀ g, g ≠ b → (wT.setCell ⟨b, 7, none⟩ (.int .i64 (nodeX s.hd))).heap[g]? = wT.heap[g]? := fun g hg => (heap_set_other _ _ _ _ hg).trans (ho0 g hg)
  have hs1 : (wT.setCell ⟨b, 7, none⟩ (.int .i64 (nodeX s.hd))).heap.size = wT.heap.size := (size_set ..).trans hs0
  clear cX zX
  generalize wT.setCell ⟨b, 7, none⟩ (.int .i64 (nodeX s.hd)) = w1 at *
  try walk_nrm
  refine Walk.gz z61 ?_
  have cX := tcP hb1
  have zX := frozen_of hb1 2
  (have hfr := fr0 b 2; refine Walk.os hfr cX ?_; clear hfr; try walk_nrm)
  have hb2 : (w1.setCell ⟨b, 2, none⟩ (.int .i64 23)).heap[b]? = some (.cells (thA (.slice oa ops.length oc) (k : Nat) 23 (upd N 4 (nodeX s.hd)) (.slice none 0 0) (.slice aa ans.length ac) e) 120) := by rw [heap_set_self _ _ hb1, thA_PC]
  have ho2 : ∀ g, g ≠ b → (w1.setCell ⟨b, 2, none⟩ (.int .i64 23)).heap[g]? = wT.heap[g]? := fun g hg => (heap_set_other _ _ _ _ hg).trans (ho1 g hg)
  have hs2 : (w1.setCell ⟨b, 2, none⟩ (.int .i64 23)).heap.size = wT.heap.size := (size_set ..).trans hs1
  clear cX zX
  generalize w1.setCell ⟨b, 2, none⟩ (.int .i64 23) = w2 at *
  try walk_nrm
  refine Walk.gz z61 ?_
  refine Walk.ctl rfl (fun w => stepG_leave rfl rfl Try.func61 (results_none rfl _ _ w) (events_results_none rfl _ _)) (.stop fun d => ⟨_, ⟨rfl, MidR.at ?_ d⟩, rfl⟩)
  have hr : skAct tg s (.po3 s.hd nx) = ({ s with hd := heldX nx (turnTag tg s.hd) }, .inr (.po4 (nodeX s.hd))) := if_pos rfl
  rw [hr]
  have hCf : Chg (fun g => Sm g ∨ St g) w w2 := Chg.trans (S' := fun g => Sm g ∨ St g) hCT1 ⟨by omega, fun g _ hg => ho2 g (fun h => hg (.inr (by rw [h]; exact X.sb)))⟩ fun g _ h => h
  exact ⟨MT.same fun g _ hg => ho2 g (fun h => hdis g hg (by rw [h]; exact X.sb)), hCf, _, _, aa, ac, (XT.put hb2 fun g hg _ _ => ho2 g hg).mono fun _ h => .inl h, ⟨rfl, rfl, by have := hO.nlo; omega, hO.nhi⟩⟩
 ·have hne2 : ¬ (nodeX s.hd = nodeX top ∧ tagX s.hd = tagX top) := fun h => hq ((okH_inj M.hd hO).1 h)
  have MT0 := M.same fun g _ hg => ho1 g (fun h => hdis g hg (by rw [h]; exact X.sb))
  (refine Walk.drawnL (by kernel_rfl) size61_12 (by kernel_rfl) (by kernel_rfl) (by kernel_rfl) (by decide) ?_; simp only [List.range, List.range.loop]; repeat (first | (refine Cm.oq ?_) | (refine Cm.unw hoA (by rfl) ?_; walk_nrm)))
  refine Cm.done ?_
  intro rest hr0
  refine Walk.callV (x := .bool false) (W := w1) ?_ hoA (by rfl) (by decide) rfl Try.func75 (by kernel_rfl) (by rfl) ?_
  ·walk_nrm
   exact turn_hd_no tg (nodeX top) (tagX top) nx w1 MT0 hne2
  refine hr0 _ _ ?_
  walk_nrm
  refine Walk.gz z61 ?_
  refine Walk.ctl rfl (fun w => stepG_leave rfl rfl Try.func61 (results_none rfl _ _ w) (events_results_none rfl _ _)) (.stop fun d => ⟨_, ⟨rfl, MidR.at ?_ d⟩, rfl⟩)
  have hr : skAct tg s (.po3 top nx) = (s, .inr .po1) := if_neg hq
  rw [hr]
  have hCf : Chg (fun g => Sm g ∨ St g) w w1 := Chg.trans (S' := fun g => Sm g ∨ St g) hCB ⟨by omega, fun g _ hg => ho1 g (fun h => hg (.inr (by rw [h]; exact X.sb)))⟩ fun g _ h => h
  exact ⟨M.same fun g _ hg => ho1 g (fun h => hdis g hg (by rw [h]; exact X.sb)), hCf, _, _, aa, ac, (X.put hb1 fun g hg _ _ => ho1 g hg).mono fun _ h => .inl h, rfl⟩
theorem pop_4 (z : Int) (w : World) (X : ThX St b ops oa oc (k : Nat) PC N ans aa ac e w) (M : MaX Sm m nb vb n cn cv tg tl s w) (hdis : ∀ g, Sm g → ¬ St g) (hd : dR n o PC N (.po4 z)) (hok : ops[k]? = some o) (hl : ops.length ≤ 65536) (hal : ans.length = k) (hn : n ≤ 65536) :
  CallW Try.prog main (fun _ => none) 61 #[.pointer (some ⟨m, 0, none⟩), .pointer (some ⟨b, 0, none⟩)] w (fun v w' => v = .tuple #[] ∧ MidR Sm St m nb vb n cn cv tg tl b ops oa oc k o ans e (skAct tg s (.po4 z)) w w') := by
 intro c cs
 have hkl := (List.getElem?_eq_some_iff.1 hok).1
 have hbm : m ≠ b := fun h => hdis m M.sm (by rw [h]; exact X.sb)
 have hbn : nb ≠ b := fun h => hdis nb M.sn (by rw [h]; exact X.sb)
 have hbv : vb ≠ b := fun h => hdis vb M.sv (by rw [h]; exact X.sb)
 obtain ⟨rfl, e4, hz0, hz1⟩ := hd
 obtain ⟨i, hi⟩ : ∃ i : Nat, z = i := ⟨(z).toNat, by omega⟩
 have hin : i < n := by omega
 have hb0 := X.blk
 have ho0 : ∀ g, g ≠ b → w.heap[g]? = w.heap[g]? := fun _ _ => rfl
 have hs0 : w.heap.size = w.heap.size := rfl
 have hCB : Chg (fun g => Sm g ∨ St g) w w := Chg.refl
 have cP0 : w.cell? ⟨b, 2, none⟩ = some (.int .i64 23) := tcP hb0
 have mvl0 : w.cell? ⟨m, 1, none⟩ = some (.slice (some ⟨vb, 0, none⟩) n cv) := mc1 (M.same fun g _ hg => ho0 g (fun h => hdis g hg (by rw [h]; exact X.sb))).blk
 have n7_0 : w.cell? ⟨b, 7, none⟩ = some (.int .i64 (i : Int)) := (tc4 hb0).trans (congrArg (fun z => some (Value.int .i64 z)) (e4.trans hi))
 have y0 := (M.same fun g _ hg => ho0 g (fun h => hdis g hg (by rw [h]; exact X.sb))).vlc hin
 have hia0 := evix0
 have hia1 := evix1
 have hia2 := evix2
 have hia3 := evix3
 have hia4 := evix4
 rw [enter_at _ Try.func61 code61_is]
 simp only [Try.ntmps61, ez, Nat.reduceAdd, Nat.reduceSub]
 refine Walk.gz z61 ?_
 have cX := tc3 hb0
 have zX := frozen_of hb0 6
 (refine Walk.drawnL (by kernel_rfl) size61_16 (by kernel_rfl) (by kernel_rfl) (by kernel_rfl) (by decide) ?_; simp only [List.range, List.range.loop]; repeat (first | (refine Cm.oq ?_) | (refine Cm.unw hoA (by rfl) ?_; walk_nrm)))
 refine Cm.done ?_
 intro rest hr0
 (have hfr := fr0 b 6; refine Walk.os hfr cX ?_; clear hfr; try walk_nrm)
 refine hr0 _ _ ?_
 have hb1 : (w.setCell ⟨b, 6, none⟩ (.int .i64 (s.vl i))).heap[b]? = some (.cells (thA (.slice oa ops.length oc) (k : Nat) 23 (upd N 3 (s.vl i)) (.slice none 0 0) (.slice aa ans.length ac) e) 120) := by rw [heap_set_self _ _ hb0, thA_3]
 have ho1 : ∀ g, g ≠ b → (w.setCell ⟨b, 6, none⟩ (.int .i64 (s.vl i))).heap[g]? = w.heap[g]? := fun g hg => (heap_set_other _ _ _ _ hg).trans (ho0 g hg)
 have hs1 : (w.setCell ⟨b, 6, none⟩ (.int .i64 (s.vl i))).heap.size = w.heap.size := (size_set ..).trans hs0
 clear cX zX
 generalize w.setCell ⟨b, 6, none⟩ (.int .i64 (s.vl i)) = w1 at *
 try walk_nrm
 refine Walk.gz z61 ?_
 have cX := tcP hb1
 have zX := frozen_of hb1 2
 (have hfr := fr0 b 2; refine Walk.os hfr cX ?_; clear hfr; try walk_nrm)
 have hb2 : (w1.setCell ⟨b, 2, none⟩ (.int .i64 24)).heap[b]? = some (.cells (thA (.slice oa ops.length oc) (k : Nat) 24 (upd N 3 (s.vl i)) (.slice none 0 0) (.slice aa ans.length ac) e) 120) := by rw [heap_set_self _ _ hb1, thA_PC]
 have ho2 : ∀ g, g ≠ b → (w1.setCell ⟨b, 2, none⟩ (.int .i64 24)).heap[g]? = w.heap[g]? := fun g hg => (heap_set_other _ _ _ _ hg).trans (ho1 g hg)
 have hs2 : (w1.setCell ⟨b, 2, none⟩ (.int .i64 24)).heap.size = w.heap.size := (size_set ..).trans hs1
 clear cX zX
 generalize w1.setCell ⟨b, 2, none⟩ (.int .i64 24) = w2 at *
 try walk_nrm
 refine Walk.gz z61 ?_
 refine Walk.ctl rfl (fun w => stepG_leave rfl rfl Try.func61 (results_none rfl _ _ w) (events_results_none rfl _ _)) (.stop fun d => ⟨_, ⟨rfl, MidR.at ?_ d⟩, rfl⟩)
 have hr : skAct tg s (.po4 z) = (s, .inr (.po5 z (s.vl i))) := by show (s, Sum.inr (SD.po5 z (s.vl z.toNat))) = _; rw [hi]; rfl
 rw [hr]
 have hCf : Chg (fun g => Sm g ∨ St g) w w2 := Chg.trans (S' := fun g => Sm g ∨ St g) hCB ⟨by omega, fun g _ hg => ho2 g (fun h => hg (.inr (by rw [h]; exact X.sb)))⟩ fun g _ h => h
 exact ⟨M.same fun g _ hg => ho2 g (fun h => hdis g hg (by rw [h]; exact X.sb)), hCf, _, _, aa, ac, (X.put hb2 fun g hg _ _ => ho2 g hg).mono fun _ h => .inl h, ⟨rfl, e4, hz0, hz1, rfl⟩⟩
theorem pop_5 (z vv : Int) (w : World) (X : ThX St b ops oa oc (k : Nat) PC N ans aa ac e w) (M : MaX Sm m nb vb n cn cv tg tl s w) (hdis : ∀ g, Sm g → ¬ St g) (hd : dR n o PC N (.po5 z vv)) (hok : ops[k]? = some o) (hl : ops.length ≤ 65536) (hal : ans.length = k) (hn : n ≤ 65536) :
  CallW Try.prog main (fun _ => none) 61 #[.pointer (some ⟨m, 0, none⟩), .pointer (some ⟨b, 0, none⟩)] w (fun v w' => v = .tuple #[] ∧ MidR Sm St m nb vb n cn cv tg tl b ops oa oc k o ans e (skAct tg s (.po5 z vv)) w w') := by
 intro c cs
 have hkl := (List.getElem?_eq_some_iff.1 hok).1
 have hbm : m ≠ b := fun h => hdis m M.sm (by rw [h]; exact X.sb)
 have hbn : nb ≠ b := fun h => hdis nb M.sn (by rw [h]; exact X.sb)
 have hbv : vb ≠ b := fun h => hdis vb M.sv (by rw [h]; exact X.sb)
 obtain ⟨rfl, e4, hz0, hz1, e3⟩ := hd
 have hb0 := X.blk
 have ho0 : ∀ g, g ≠ b → w.heap[g]? = w.heap[g]? := fun _ _ => rfl
 have hs0 : w.heap.size = w.heap.size := rfl
 have hCB : Chg (fun g => Sm g ∨ St g) w w := Chg.refl
 have cP0 : w.cell? ⟨b, 2, none⟩ = some (.int .i64 24) := tcP hb0
 have mfn0 : w.cell? ⟨m, 4, none⟩ = some (.int .i64 (nodeX s.fr)) := mc4 (M.same fun g _ hg => ho0 g (fun h => hdis g hg (by rw [h]; exact X.sb))).blk
 have mft0 : w.cell? ⟨m, 5, none⟩ = some (.int .i64 (tagX s.fr)) := mc5 (M.same fun g _ hg => ho0 g (fun h => hdis g hg (by rw [h]; exact X.sb))).blk
 have hia0 := evix0
 have hia1 := evix1
 have hia2 := evix2
 have hia3 := evix3
 have hia4 := evix4
 rw [enter_at _ Try.func61 code61_is]
 simp only [Try.ntmps61, ez, Nat.reduceAdd, Nat.reduceSub]
 refine Walk.gz z61 ?_
 have cX := tc0 hb0
 have zX := frozen_of hb0 3
 (refine Walk.drawnL (by kernel_rfl) size61_19 (by kernel_rfl) (by kernel_rfl) (by kernel_rfl) (by decide) ?_; simp only [List.range, List.range.loop]; repeat (first | (refine Cm.oq ?_) | (refine Cm.unw hoA (by rfl) ?_; walk_nrm)))
 refine Cm.done ?_
 intro rest hr0
 (have hfr := fr0 b 3; refine Walk.os hfr cX ?_; clear hfr; try walk_nrm)
 refine hr0 _ _ ?_
 have hb1 : (w.setCell ⟨b, 3, none⟩ (.int .i64 (nodeX s.fr))).heap[b]? = some (.cells (thA (.slice oa ops.length oc) (k : Nat) 24 (upd N 0 (nodeX s.fr)) (.slice none 0 0) (.slice aa ans.length ac) e) 120) := by rw [heap_set_self _ _ hb0, thA_0]
 have ho1 : ∀ g, g ≠ b → (w.setCell ⟨b, 3, none⟩ (.int .i64 (nodeX s.fr))).heap[g]? = w.heap[g]? := fun g hg => (heap_set_other _ _ _ _ hg).trans (ho0 g hg)
 have hs1 : (w.setCell ⟨b, 3, none⟩ (.int .i64 (nodeX s.fr))).heap.size = w.heap.size := (size_set ..).trans hs0
 clear cX zX
 generalize w.setCell ⟨b, 3, none⟩ (.int .i64 (nodeX s.fr)) = w1 at *
 try walk_nrm
 refine Walk.gz z61 ?_
 have mfn1 : w1.cell? ⟨m, 4, none⟩ = some (.int .i64 (nodeX s.fr)) := mc4 (M.same fun g _ hg => ho1 g (fun h => hdis g hg (by rw [h]; exact X.sb))).blk
 have mft1 : w1.cell? ⟨m, 5, none⟩ = some (.int .i64 (tagX s.fr)) := mc5 (M.same fun g _ hg => ho1 g (fun h => hdis g hg (by rw [h]; exact X.sb))).blk
 have cX := tc1 hb1
 have zX := frozen_of hb1 4
 (refine Walk.drawnL (by kernel_rfl) size61_20 (by kernel_rfl) (by kernel_rfl) (by kernel_rfl) (by decide) ?_; simp only [List.range, List.range.loop]; repeat (first | (refine Cm.oq ?_) | (refine Cm.unw hoA (by rfl) ?_; walk_nrm)))
 refine Cm.done ?_
 intro rest hr0
 (have hfr := fr0 b 4; refine Walk.os hfr cX ?_; clear hfr; try walk_nrm)
 refine hr0 _ _ ?_
 have hb2 : (w1.setCell ⟨b, 4, none⟩ (.int .i64 (tagX s.fr))).heap[b]? = some (.cells (thA (.slice oa ops.length oc) (k : Nat) 24 (upd (upd N 0 (nodeX s.fr)) 1 (tagX s.fr)) (.slice none 0 0) (.slice aa ans.length ac) e) 120) := by rw [heap_set_self _ _ hb1, thA_1]
 have ho2 : ∀ g, g ≠ b → (w1.setCell ⟨b, 4, none⟩ (.int .i64 (tagX s.fr))).heap[g]? = w.heap[g]? := fun g hg => (heap_set_other _ _ _ _ hg).trans (ho1 g hg)
 have hs2 : (w1.setCell ⟨b, 4, none⟩ (.int .i64 (tagX s.fr))).heap.size = w.heap.size := (size_set ..).trans hs1
 clear cX zX
 generalize w1.setCell ⟨b, 4, none⟩ (.int .i64 (tagX s.fr)) = w2 at *
 try walk_nrm
 refine Walk.gz z61 ?_
 have cX := tcP hb2
 have zX := frozen_of hb2 2
 (have hfr := fr0 b 2; refine Walk.os hfr cX ?_; clear hfr; try walk_nrm)
 have hb3 : (w2.setCell ⟨b, 2, none⟩ (.int .i64 25)).heap[b]? = some (.cells (thA (.slice oa ops.length oc) (k : Nat) 25 (upd (upd N 0 (nodeX s.fr)) 1 (tagX s.fr)) (.slice none 0 0) (.slice aa ans.length ac) e) 120) := by rw [heap_set_self _ _ hb2, thA_PC]
 have ho3 : ∀ g, g ≠ b → (w2.setCell ⟨b, 2, none⟩ (.int .i64 25)).heap[g]? = w.heap[g]? := fun g hg => (heap_set_other _ _ _ _ hg).trans (ho2 g hg)
 have hs3 : (w2.setCell ⟨b, 2, none⟩ (.int .i64 25)).heap.size = w.heap.size := (size_set ..).trans hs2
 clear cX zX
 generalize w2.setCell ⟨b, 2, none⟩ (.int .i64 25) = w3 at *
 try walk_nrm
 refine Walk.gz z61 ?_
 refine Walk.ctl rfl (fun w => stepG_leave rfl rfl Try.func61 (results_none rfl _ _ w) (events_results_none rfl _ _)) (.stop fun d => ⟨_, ⟨rfl, MidR.at ?_ d⟩, rfl⟩)
 have hr : skAct tg s (.po5 z vv) = (s, .inr (.po6 z vv s.fr)) := rfl
 rw [hr]
 have hCf : Chg (fun g => Sm g ∨ St g) w w3 := Chg.trans (S' := fun g => Sm g ∨ St g) hCB ⟨by omega, fun g _ hg => ho3 g (fun h => hg (.inr (by rw [h]; exact X.sb)))⟩ fun g _ h => h
 exact ⟨M.same fun g _ hg => ho3 g (fun h => hdis g hg (by rw [h]; exact X.sb)), hCf, _, _, aa, ac, (X.put hb3 fun g hg _ _ => ho3 g hg).mono fun _ h => .inl h, ⟨rfl, e4, hz0, hz1, e3, rfl, rfl, M.fr⟩⟩
theorem pop_6 (z vv top : Int) (w : World) (X : ThX St b ops oa oc (k : Nat) PC N ans aa ac e w) (M : MaX Sm m nb vb n cn cv tg tl s w) (hdis : ∀ g, Sm g → ¬ St g) (hd : dR n o PC N (.po6 z vv top)) (hok : ops[k]? = some o) (hl : ops.length ≤ 65536) (hal : ans.length = k) (hn : n ≤ 65536) :
  CallW Try.prog main (fun _ => none) 61 #[.pointer (some ⟨m, 0, none⟩), .pointer (some ⟨b, 0, none⟩)] w (fun v w' => v = .tuple #[] ∧ MidR Sm St m nb vb n cn cv tg tl b ops oa oc k o ans e (skAct tg s (.po6 z vv top)) w w') := by
 intro c cs
 have hkl := (List.getElem?_eq_some_iff.1 hok).1
 have hbm : m ≠ b := fun h => hdis m M.sm (by rw [h]; exact X.sb)
 have hbn : nb ≠ b := fun h => hdis nb M.sn (by rw [h]; exact X.sb)
 have hbv : vb ≠ b := fun h => hdis vb M.sv (by rw [h]; exact X.sb)
 obtain ⟨rfl, e4, hz0, hz1, e3, e0, e1, hO⟩ := hd
 obtain ⟨i, hi⟩ : ∃ i : Nat, z = i := ⟨(z).toNat, by omega⟩
 have hin : i < n := by omega
 have hb0 := X.blk
 have ho0 : ∀ g, g ≠ b → w.heap[g]? = w.heap[g]? := fun _ _ => rfl
 have hs0 : w.heap.size = w.heap.size := rfl
 have hCB : Chg (fun g => Sm g ∨ St g) w w := Chg.refl
 have cP0 : w.cell? ⟨b, 2, none⟩ = some (.int .i64 25) := tcP hb0
 have mnx0 : w.cell? ⟨m, 0, none⟩ = some (.slice (some ⟨nb, 0, none⟩) n cn) := mc0 (M.same fun g _ hg => ho0 g (fun h => hdis g hg (by rw [h]; exact X.sb))).blk
 have n7_0 : w.cell? ⟨b, 7, none⟩ = some (.int .i64 (i : Int)) := (tc4 hb0).trans (congrArg (fun z => some (Value.int .i64 z)) (e4.trans hi))
 have n3_0 : w.cell? ⟨b, 3, none⟩ = some (.int .i64 (nodeX top)) := (tc0 hb0).trans (congrArg (fun z => some (Value.int .i64 z)) (e0))
 have x0 := (M.same fun g _ hg => ho0 g (fun h => hdis g hg (by rw [h]; exact X.sb))).nxc hin
 have hia0 := evix0
 have hia1 := evix1
 have hia2 := evix2
 have hia3 := evix3
 have hia4 := evix4
 rw [enter_at _ Try.func61 code61_is]
 simp only [Try.ntmps61, ez, Nat.reduceAdd, Nat.reduceSub]
 refine Walk.gz z61 ?_
 have zN := M.nxz (i := i)
 (refine Walk.drawnL (by kernel_rfl) size61_23 (by kernel_rfl) (by kernel_rfl) (by kernel_rfl) (by decide) ?_; simp only [List.range, List.range.loop]; repeat (first | (refine Cm.oq ?_) | (refine Cm.unw hoA (by rfl) ?_; walk_nrm)))
 refine Cm.done ?_
 intro rest hr0
 (have hfr := fr0 nb i; refine Walk.os hfr x0 ?_; clear hfr; try walk_nrm)
 refine hr0 _ _ ?_
 have MA := ma_nx M hin hO.nlo hO.nhi
 have XA := X.same (w' := w.setCell ⟨nb, i, none⟩ (.int .i64 (nodeX top))) fun g _ hg => heap_set_other _ _ _ _ (fun h => hdis nb M.sn (by have h : g = nb := h; rw [← h]; exact hg))
 have hCA : Chg (fun g => Sm g ∨ St g) w (w.setCell ⟨nb, i, none⟩ (.int .i64 (nodeX top))) := Chg.set (.inl M.sn)
 have hsA := hCA.size
 clear zN x0 mnx0 n7_0 n3_0 cP0 hb0 ho0 hs0
 generalize w.setCell ⟨nb, i, none⟩ (.int .i64 (nodeX top)) = wA at *
 have hbB_wA := XA.blk
 have ho0 : ∀ g, g ≠ b → wA.heap[g]? = wA.heap[g]? := fun _ _ => rfl
 have hs0 : wA.heap.size = wA.heap.size := rfl
 have hb0 : wA.heap[b]? = some (.cells (thA (.slice oa ops.length oc) (k : Nat) 25 N (.slice none 0 0) (.slice aa ans.length ac) e) 120) := hbB_wA
 walk_nrm
 refine Walk.gz z61 ?_
 have cX := tcP hb0
 have zX := frozen_of hb0 2
 (have hfr := fr0 b 2; refine Walk.os hfr cX ?_; clear hfr; try walk_nrm)
 have hb1 : (wA.setCell ⟨b, 2, none⟩ (.int .i64 26)).heap[b]? = some (.cells (thA (.slice oa ops.length oc) (k : Nat) 26 N (.slice none 0 0) (.slice aa ans.length ac) e) 120) := by rw [heap_set_self _ _ hb0, thA_PC]
 have ho1 : ∀ g, g ≠ b → (wA.setCell ⟨b, 2, none⟩ (.int .i64 26)).heap[g]? = wA.heap[g]? := fun g hg => (heap_set_other _ _ _ _ hg).trans (ho0 g hg)
 have hs1 : (wA.setCell ⟨b, 2, none⟩ (.int .i64 26)).heap.size = wA.heap.size := (size_set ..).trans hs0
 clear cX zX
 generalize wA.setCell ⟨b, 2, none⟩ (.int .i64 26) = w1 at *
 try walk_nrm
 refine Walk.gz z61 ?_
 refine Walk.ctl rfl (fun w => stepG_leave rfl rfl Try.func61 (results_none rfl _ _ w) (events_results_none rfl _ _)) (.stop fun d => ⟨_, ⟨rfl, MidR.at ?_ d⟩, rfl⟩)
 have hr : skAct tg s (.po6 z vv top) = ({ s with nx := upd s.nx i (nodeX top) }, .inr (.po7 z vv top)) := by show ({ s with nx := upd s.nx z.toNat (nodeX top) }, Sum.inr (SD.po7 z vv top)) = _; rw [hi]; rfl
 rw [hr]
 have hCf : Chg (fun g => Sm g ∨ St g) w w1 := Chg.trans (S' := fun g => Sm g ∨ St g) hCA ⟨by omega, fun g _ hg => ho1 g (fun h => hg (.inr (by rw [h]; exact X.sb)))⟩ fun g _ h => h
 exact ⟨MA.same fun g _ hg => ho1 g (fun h => hdis g hg (by rw [h]; exact X.sb)), hCf, _, _, aa, ac, (XA.put hb1 fun g hg _ _ => ho1 g hg).mono fun _ h => .inl h, ⟨rfl, e4, hz0, hz1, e3, e0, e1, hO⟩⟩
theorem pop_7 (z vv top : Int) (w : World) (X : ThX St b ops oa oc (k : Nat) PC N ans aa ac e w) (M : MaX Sm m nb vb n cn cv tg tl s w) (hdis : ∀ g, Sm g → ¬ St g) (hd : dR n o PC N (.po7 z vv top)) (hok : ops[k]? = some o) (hl : ops.length ≤ 65536) (hal : ans.length = k) (hn : n ≤ 65536) :
  CallW Try.prog main (fun _ => none) 61 #[.pointer (some ⟨m, 0, none⟩), .pointer (some ⟨b, 0, none⟩)] w (fun v w' => v = .tuple #[] ∧ MidR Sm St m nb vb n cn cv tg tl b ops oa oc k o ans e (skAct tg s (.po7 z vv top)) w w') := by
 intro c cs
 have hkl := (List.getElem?_eq_some_iff.1 hok).1
 have hbm : m ≠ b := fun h => hdis m M.sm (by rw [h]; exact X.sb)
 have hbn : nb ≠ b := fun h => hdis nb M.sn (by rw [h]; exact X.sb)
 have hbv : vb ≠ b := fun h => hdis vb M.sv (by rw [h]; exact X.sb)
 obtain ⟨rfl, e4, hz0, hz1, e3, e0, e1, hO⟩ := hd
 have hb0 := X.blk
 have ho0 : ∀ g, g ≠ b → w.heap[g]? = w.heap[g]? := fun _ _ => rfl
 have hs0 : w.heap.size = w.heap.size := rfl
 have hCB : Chg (fun g => Sm g ∨ St g) w w := Chg.refl
 have cP0 : w.cell? ⟨b, 2, none⟩ = some (.int .i64 26) := tcP hb0
 have hia0 := evix0
 have hia1 := evix1
 have hia2 := evix2
 have hia3 := evix3
 have hia4 := evix4
 rw [enter_at _ Try.func61 code61_is]
 simp only [Try.ntmps61, ez, Nat.reduceAdd, Nat.reduceSub]
 refine Walk.gz z61 ?_
 have cX := tcP hb0
 have zX := frozen_of hb0 2
 (have hfr := fr0 b 2; refine Walk.os hfr cX ?_; clear hfr; try walk_nrm)
 have hb1 : (w.setCell ⟨b, 2, none⟩ (.int .i64 24)).heap[b]? = some (.cells (thA (.slice oa ops.length oc) (k : Nat) 24 N (.slice none 0 0) (.slice aa ans.length ac) e) 120) := by rw [heap_set_self _ _ hb0, thA_PC]
 have ho1 : ∀ g, g ≠ b → (w.setCell ⟨b, 2, none⟩ (.int .i64 24)).heap[g]? = w.heap[g]? := fun g hg => (heap_set_other _ _ _ _ hg).trans (ho0 g hg)
 have hs1 : (w.setCell ⟨b, 2, none⟩ (.int .i64 24)).heap.size = w.heap.size := (size_set ..).trans hs0
 clear cX zX
 generalize w.setCell ⟨b, 2, none⟩ (.int .i64 24) = w1 at *
 try walk_nrm
 refine Walk.gz z61 ?_
 have n3_1 : w1.cell? ⟨b, 3, none⟩ = some (.int .i64 (nodeX top)) := (tc0 hb1).trans (congrArg (fun z => some (Value.int .i64 z)) (e0))
 have n4_1 : w1.cell? ⟨b, 4, none⟩ = some (.int .i64 (tagX top)) := (tc1 hb1).trans (congrArg (fun z => some (Value.int .i64 z)) (e1))
 have n7_1 : w1.cell? ⟨b, 7, none⟩ = some (.int .i64 z) := (tc4 hb1).trans (congrArg (fun z => some (Value.int .i64 z)) (e4))
 by_cases hq : s.fr = top
 ·subst hq
  have MT0 := M.same fun g _ hg => ho1 g (fun h => hdis g hg (by rw [h]; exact X.sb))
  have XT0 : ThX St b ops oa oc (k : Nat) 24 N ans aa ac e w1 := X.put hb1 fun g hg _ _ => ho1 g hg
  have hCT0 : Chg (fun g => Sm g ∨ St g) w w1 := Chg.trans (S' := fun g => Sm g ∨ St g) hCB ⟨by omega, fun g _ hg => ho1 g (fun h => hg (.inr (by rw [h]; exact X.sb)))⟩ fun g _ h => h
  (refine Walk.drawnL (by kernel_rfl) size61_27 (by kernel_rfl) (by kernel_rfl) (by kernel_rfl) (by decide) ?_; simp only [List.range, List.range.loop]; repeat (first | (refine Cm.oq ?_) | (refine Cm.unw hoA (by rfl) ?_; walk_nrm)))
  refine Cm.done ?_
  intro rest hr0
  refine Walk.callW (Post := fun v w' => v = .bool true ∧ MaX Sm m nb vb n cn cv tg tl { s with fr := heldX z (turnTag tg s.fr) } w' ∧ Chg Sm w1 w') ?_ hoA (by rfl) (by decide) rfl Try.func75 (by kernel_rfl) (by rfl) ?_
  ·walk_nrm
   exact turn_fr_yes tg z w1 MT0 (by omega) hz1 hn
  rintro v wT ⟨rfl, MT, hCT⟩
  refine hr0 _ _ ?_
  have XT := XT0.same fun g hg h => hCT.same g hg fun h2 => hdis g h2 h
  have hCT1 : Chg (fun g => Sm g ∨ St g) w wT := Chg.trans (S' := Sm) hCT0 hCT fun g _ h => .inl h
  have hsT := hCT1.size
  have hbB_wT := XT.blk
  have ho0 : ∀ g, g ≠ b → wT.heap[g]? = wT.heap[g]? := fun _ _ => rfl
  have hs0 : wT.heap.size = wT.heap.size := rfl
  have hb0 : wT.heap[b]? = some (.cells (thA (.slice oa ops.length oc) (k : Nat) 24 N (.slice none 0 0) (.slice aa ans.length ac) e) 120) := hbB_wT
  have n6_0 : wT.cell? ⟨b, 6, none⟩ = some (.int .i64 vv) := (tc3 hb0).trans (congrArg (fun z => some (Value.int .i64 z)) (e3))
  clear n3_1 n4_1 n7_1
  walk_nrm
  refine Walk.gz z61 ?_
  have Xe : ThX St b ops oa oc (k : Nat) 24 N ans aa ac e wT := XT.put hb0 fun g hg _ _ => ho0 g hg
  have Me := MT.same fun g _ hg => ho0 g (fun h => hdis g hg (by rw [h]; exact X.sb))
  have hCf : Chg (fun g => Sm g ∨ St g) w wT := Chg.trans (S' := fun g => Sm g ∨ St g) hCT1 ⟨by omega, fun g _ hg => ho0 g (fun h => hg (.inr (by rw [h]; exact X.sb)))⟩ fun g _ h => h
  have hsf := hCf.size
  refine Walk.callW (Post := fun v w' => v = .tuple #[] ∧ (∃ aa' ac', ThX (fun g => St g ∨ wT.heap.size ≤ g) b ops oa oc ((k + 1 : Nat) : Int) 0 N (ans ++ [(true, vv)]) aa' ac' e w') ∧ Chg St wT w') ?_ hoA (by rfl) (by decide) rfl Try.func59 (by kernel_rfl) (by rfl) ?_
  ·walk_nrm
   exact end_w (true, vv) wT Xe (by omega) (by omega)
  rintro v wE ⟨rfl, ⟨aa2, ac2, XE⟩, hCE⟩
  have ME := Me.chg hCE fun g _ h => hdis g h
  have hsE := hCE.size
  have hCE' : Chg (fun g => Sm g ∨ St g) w wE := Chg.trans (S' := St) hCf hCE fun g _ h => .inr h
  have XE' := XE.mono (S' := fun g => St g ∨ w.heap.size ≤ g) fun g hg => hg.imp id fun h => by omega
  walk_nrm
  refine Walk.gz z61 ?_
  refine Walk.ctl rfl (fun w => stepG_leave rfl rfl Try.func61 (results_none rfl _ _ w) (events_results_none rfl _ _)) (.stop fun d => ⟨_, ⟨rfl, MidR.at ?_ d⟩, rfl⟩)
  have hr : skAct tg s (.po7 z vv s.fr) = ({ s with fr := heldX z (turnTag tg s.fr) }, .inl (true, vv)) := if_pos rfl
  rw [hr]
  exact mid_end ME hCE' XE'
 ·have hne2 : ¬ (nodeX s.fr = nodeX top ∧ tagX s.fr = tagX top) := fun h => hq ((okH_inj M.fr hO).1 h)
  have MT0 := M.same fun g _ hg => ho1 g (fun h => hdis g hg (by rw [h]; exact X.sb))
  (refine Walk.drawnL (by kernel_rfl) size61_27 (by kernel_rfl) (by kernel_rfl) (by kernel_rfl) (by decide) ?_; simp only [List.range, List.range.loop]; repeat (first | (refine Cm.oq ?_) | (refine Cm.unw hoA (by rfl) ?_; walk_nrm)))
  refine Cm.done ?_
  intro rest hr0
  refine Walk.callV (x := .bool false) (W := w1) ?_ hoA (by rfl) (by decide) rfl Try.func75 (by kernel_rfl) (by rfl) ?_
  ·walk_nrm
   exact turn_fr_no tg (nodeX top) (tagX top) z w1 MT0 hne2
  refine hr0 _ _ ?_
  walk_nrm
  refine Walk.gz z61 ?_
  refine Walk.ctl rfl (fun w => stepG_leave rfl rfl Try.func61 (results_none rfl _ _ w) (events_results_none rfl _ _)) (.stop fun d => ⟨_, ⟨rfl, MidR.at ?_ d⟩, rfl⟩)
  have hr : skAct tg s (.po7 z vv top) = (s, .inr (.po5 z vv)) := if_neg hq
  rw [hr]
  have hCf : Chg (fun g => Sm g ∨ St g) w w1 := Chg.trans (S' := fun g => Sm g ∨ St g) hCB ⟨by omega, fun g _ hg => ho1 g (fun h => hg (.inr (by rw [h]; exact X.sb)))⟩ fun g _ h => h
  exact ⟨M.same fun g _ hg => ho1 g (fun h => hdis g hg (by rw [h]; exact X.sb)), hCf, _, _, aa, ac, (X.put hb1 fun g hg _ _ => ho1 g hg).mono fun _ h => .inl h, ⟨rfl, e4, hz0, hz1, e3⟩⟩
end
end
end Go.Proofs.Ytdmpmoggacjgcaa
