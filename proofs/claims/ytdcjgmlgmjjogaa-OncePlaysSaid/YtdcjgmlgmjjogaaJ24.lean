/- Part 24. -/
import Derived.Test.YtdcjgmlgmjjogaaJ23
set_option linter.unusedSimpArgs false
set_option linter.unusedVariables false
set_option maxHeartbeats 8000000
set_option maxRecDepth 100000
namespace Go.Proofs.Ytdcjgmlgmjjogaa
open Go.Conc Go.RowKit Go.Relay
open Go.ConcN (upd upd_ne upd_same)
section
section
variable {main : Bool} {S Sm : Nat → Prop} {m cb n cc b : Nat} {tl : Value} {s : Oz} {ops : List OpV} {oa : Option Addr} {oc k : Nat} {PC : Int} {N : Nat → Int} {ans : List Ans} {aa : Option Addr} {ac : Nat} {e : Bool}
theorem mbg_good (o : OpV) (u : Nat → Value) (cs : List Frame) (w : World) (M : OmX Sm m cb n cc tl s w) (X : ThX S b ops oa oc (k : Nat) 0 N ans aa ac e w) (hl : ops.length ≤ 65536) (ho : ops[k]? = some o) (h1 : 1 ≤ o.k) (h4 : o.k ≤ 4) (ha0 : 0 ≤ o.a) (ha1 : o.a < n) :
    Walk Try.prog main (DR (fun _ => none)) (fun g w' => (∃ u, g = G (hdBg m b u) cs) ∧ ThX S b ops oa oc (k : Nat) (if o.k = 4 then 30 else 10 * o.k) (upd N 1 (triesX o.c : Nat)) ans aa ac e w' ∧ Chg S w w') (G (hdBg m b u) cs) w := by
  have hkl := (List.getElem?_eq_some_iff.1 ho).1
  have c0 := tcO X.blk
  have c1 := tcI X.blk
  have c2 := tcP X.blk
  have hk1 : ((k : Int) < (ops.length : Int)) := by omega
  have hk2 : decide (k < ops.length) = true := by simpa using hkl
  have hia1 := fun (a : Addr) (w : World) (es : Array Event) => events_indexAt_array (P := Try.prog) (w := w) (es := es) 156 2 8 a .i64 (1 : Int) (by kernel_rfl) ⟨by decide, by decide⟩
  conv => arg 5; unfold hdBg
  repeat (first | refine Walk.cx ?_ | (refine Walk.cReg ?_; simp only [z34]) | (refine Walk.oq ?_; try walk_nrm) | (refine Walk.un ?_; walk_nrm))
  (refine Walk.drawnC (by kernel_rfl) size34_0 (by kernel_rfl) (by kernel_rfl) (by decide) ?_; simp only [List.range, List.range.loop]; repeat (first | (refine Cm.oq ?_) | (refine Cm.unw (ho_of (by conv => lhs; whnf) (by kernel_rfl)) (by rfl) ?_; walk_nrm)))
  refine Cm.done ?_
  repeat (first | refine Walk.cx ?_ | (refine Walk.cReg ?_; simp only [z34]) | (refine Walk.oq ?_; try walk_nrm) | (refine Walk.un ?_; walk_nrm))
  refine Walk.callW (Post := fun v w' => v = opVal o ∧ Chg (fun _ => False) w w') ?_ (ho_of (by conv => lhs; whnf) (by kernel_rfl)) (by rfl) (by decide) rfl Try.func60 (by kernel_rfl) (by rfl) ?_
  · walk_nrm
    exact op_w o w X ho hl
  rintro v w1 ⟨rfl, hC1⟩
  obtain ⟨ok, o1, o2, o3⟩ := o
  have hB := boxW_chg w1 ⟨ok, o1, o2, o3⟩
  have hBat := boxW_at w1 ⟨ok, o1, o2, o3⟩
  have hd0 := heap_alloc_new w1 (.cells #[.int .i64 0, .int .i64 0, .int .i64 0, .int .i64 0] 34)
  simp only [opVal] at *
  clear c0 c1 c2 hk1 hk2
  walk_nrm
  (refine Walk.oa ?_; try walk_nrm)
  repeat (first | (refine Walk.oq ?_; try walk_nrm) | (refine Walk.un ?_; walk_nrm))
  refine Walk.storeS 34 (.tmp 4) (.tmp 23) (ho_of (by conv => lhs; whnf) (by kernel_rfl)) (by rfl) (by decide) rfl w1.heap.size #[.int .i64 ok, .int .i64 o1, .int .i64 o2, .int .i64 o3] _ 34 rfl rfl hd0 (by kernel_rfl) (by rfl) (by simp [Value.oneCell']) (ap0 _) ?_
  have hC2 : Chg (fun _ => False) w (boxW w1 ⟨ok, o1, o2, o3⟩) := hC1.trans hB fun _ _ h => h
  have hP : w.heap.size ≤ w1.heap.size := hC1.size
  generalize hw2 : boxW w1 ⟨ok, o1, o2, o3⟩ = w2 at *
  unfold boxW at hw2
  dsimp only at hw2
  rw [hw2]
  generalize w1.heap.size = P at *
  clear hd0 hw2
  have X2 : ThX S b ops oa oc (k : Nat) 0 N ans aa ac e w2 := X.same fun g hg _ => hC2.same g hg (fun h => h)
  have M2 := M.chg hC2 fun _ _ _ h => h
  have hbP : b ≠ P := by have := X.lt; omega
  have m0 := M2.c0
  have p0 := (cell_of hBat 0).trans rfl
  have p1 := (cell_of hBat 1).trans rfl
  have q1 : decide (o1 < 0) = false := by simp only [decide_eq_false_iff_not]; omega
  have q2 : decide ((n : Int) ≤ o1) = false := by simp only [decide_eq_false_iff_not]; omega
  have q3 : decide (ok < 1) = false := by simp only [decide_eq_false_iff_not]; omega
  have q4 : decide (4 < ok) = false := by simp only [decide_eq_false_iff_not]; omega
  have hw1 : IntKind.i64.wrap (10 * ok) = 10 * ok := by rw [IntKind.wrap_i64]; omega
  walk_nrm
  repeat (first | refine Walk.cx ?_ | (refine Walk.cReg ?_; simp only [z34]) | (refine Walk.oq ?_; try walk_nrm) | (refine Walk.un ?_; walk_nrm))
  (refine Walk.drawnC (by kernel_rfl) size34_2 (by kernel_rfl) (by kernel_rfl) (by decide) ?_; simp only [List.range, List.range.loop]; repeat (first | (refine Cm.oq ?_) | (refine Cm.unw (ho_of (by conv => lhs; whnf) (by kernel_rfl)) (by rfl) ?_; walk_nrm)))
  refine Cm.done ?_
  have k2 := tcP X2.blk
  have z2 := frozen_of X2.blk 2
  repeat (first | refine Walk.cx ?_ | (refine Walk.cReg ?_; simp only [z34]) | (refine Walk.oq ?_; try walk_nrm) | (refine Walk.un ?_; walk_nrm))
  (have hfr := fr0 b 2; refine Walk.os hfr k2 ?_; clear hfr; try walk_nrm)
  have X3 : ThX S b ops oa oc (k : Nat) (10 * ok) N ans aa ac e (w2.setCell ⟨b, 2, none⟩ (.int .i64 (10 * ok))) := X2.put (by rw [heap_set_self _ _ X2.blk, thA_PC]) fun g hg _ _ => heap_set_other _ _ _ _ hg
  have hC3 : Chg S w (w2.setCell ⟨b, 2, none⟩ (.int .i64 (10 * ok))) := Chg.trans (hC2.mono fun _ _ h => h.elim) (Chg.set X.sb) fun _ _ h => h
  have hB3 : (w2.setCell ⟨b, 2, none⟩ (.int .i64 (10 * ok))).heap[P]? = _ := (heap_set_other _ _ _ _ (Ne.symm hbP)).trans hBat
  clear p0 p1 m0 q1 q2 q3 q4 k2 z2 hw1
  generalize w2.setCell ⟨b, 2, none⟩ (.int .i64 (10 * ok)) = w3 at *
  have p3 := (cell_of hB3 3).trans rfl
  have k1 := tc1 X3.blk
  have z1 := frozen_of X3.blk 4
  have hT := tries_w (main := main) (V := fun _ => none) o3 w3
  generalize triesX o3 = tr at *
  repeat (first | refine Walk.cx ?_ | (refine Walk.cReg ?_; simp only [z34]) | (refine Walk.oq ?_; try walk_nrm) | (refine Walk.un ?_; walk_nrm))
  (refine Walk.drawnL (by kernel_rfl) size34_5 (by kernel_rfl) (by kernel_rfl) (by kernel_rfl) (by decide) ?_; simp only [List.range, List.range.loop]; repeat (first | (refine Cm.oq ?_) | (refine Cm.unw (ho_of (by conv => lhs; whnf) (by kernel_rfl)) (by rfl) ?_; walk_nrm)))
  refine Cm.callV (x := .int .i64 (tr : Nat)) ?_ (ho_of (by conv => lhs; whnf) (by kernel_rfl)) (by rfl) rfl Try.func62 (by kernel_rfl) (by rfl) ?_
  · intro w' he
    subst he
    walk_nrm
    exact hT
  walk_nrm
  repeat (first | (refine Cm.oq ?_) | (refine Cm.unw (ho_of (by conv => lhs; whnf) (by kernel_rfl)) (by rfl) ?_; walk_nrm))
  refine Cm.done ?_
  intro rest hr
  (have hfr := fr0 b 4; refine Walk.os hfr k1 ?_; clear hfr; try walk_nrm)
  refine hr _ _ ?_
  have X4 : ThX S b ops oa oc (k : Nat) (10 * ok) (upd N 1 (tr : Nat)) ans aa ac e (w3.setCell ⟨b, 4, none⟩ (.int .i64 (tr : Nat))) := X3.put (by rw [heap_set_self _ _ X3.blk, thA_1]) fun g hg _ _ => heap_set_other _ _ _ _ hg
  have hC4 : Chg S w (w3.setCell ⟨b, 4, none⟩ (.int .i64 (tr : Nat))) := Chg.trans hC3 (Chg.set X.sb) fun _ _ h => h
  have hB4 : (w3.setCell ⟨b, 4, none⟩ (.int .i64 (tr : Nat))).heap[P]? = _ := (heap_set_other _ _ _ _ (Ne.symm hbP)).trans hB3
  clear p3 k1 z1 hT
  generalize w3.setCell ⟨b, 4, none⟩ (.int .i64 (tr : Nat)) = w4 at *
  have p0 := (cell_of hB4 0).trans rfl
  have k2 := tcP X4.blk
  have z2 := frozen_of X4.blk 2
  try walk_nrm
  by_cases hk4 : ok = 4
  · subst hk4
    repeat (first | refine Walk.cx ?_ | (refine Walk.cReg ?_; simp only [z34]) | (refine Walk.oq ?_; try walk_nrm) | (refine Walk.un ?_; walk_nrm))
    (have hfr := fr0 b 2; refine Walk.os hfr k2 ?_; clear hfr; try walk_nrm)
    have X5 : ThX S b ops oa oc (k : Nat) 30 (upd N 1 (tr : Nat)) ans aa ac e (w4.setCell ⟨b, 2, none⟩ (.int .i64 30)) := X4.put (by rw [heap_set_self _ _ X4.blk, thA_PC]) fun g hg _ _ => heap_set_other _ _ _ _ hg
    have hC5 : Chg S w (w4.setCell ⟨b, 2, none⟩ (.int .i64 30)) := Chg.trans hC4 (Chg.set X.sb) fun _ _ h => h
    generalize w4.setCell ⟨b, 2, none⟩ (.int .i64 30) = w5 at *
    repeat (first | refine Walk.cx ?_ | (refine Walk.cReg ?_; simp only [z34]) | (refine Walk.oq ?_; try walk_nrm) | (refine Walk.un ?_; walk_nrm))
    refine Walk.ctl rfl (fun w => stepG_inLoop) ?_
    refine .stop fun d => ⟨at_slots ?_, X5.at d, hC5.at d⟩
    simp only [hdBg]
    rfl
  · have hb4 : (ok == 4) = false := by simp [hk4]
    simp only [if_neg hk4]
    repeat (first | refine Walk.cx ?_ | (refine Walk.cReg ?_; simp only [z34]) | (refine Walk.oq ?_; try walk_nrm) | (refine Walk.un ?_; walk_nrm))
    refine Walk.ctl rfl (fun w => stepG_inLoop) ?_
    refine .stop fun d => ⟨at_slots ?_, X4.at d, hC4.at d⟩
    simp only [hdBg]
    rfl
theorem mbg_out (m : Nat) (u : Nat → Value) (c : Frame) (cs : List Frame) (w : World) (X : ThX S b ops oa oc (k : Nat) PC N ans aa ac e w) (h : PC ≠ 0 ∨ k = ops.length) (hk : k ≤ ops.length) :
    Walk Try.prog main (DR (fun _ => none)) (fun g w' => g = G (c.finish (.tuple #[])) cs ∧ ThX S b ops oa oc (k : Nat) PC N ans aa ac (decide (k = ops.length)) w' ∧ Chg S w w') (G (hdBg m b u) (c :: cs)) w := by
  have c0 := tcO X.blk
  have c1 := tcI X.blk
  have c2 := tcP X.blk
  have c13 := tcE X.blk
  have z13 := frozen_of X.blk 13
  have hdec : decide ((ops.length : Int) ≤ (k : Int)) = decide (k = ops.length) := decide_eq_decide.2 (by omega)
  have hdec2 : decide (ops.length ≤ k) = decide (k = ops.length) := decide_eq_decide.2 (by omega)
  have fin : ∀ d, ThX S b ops oa oc (k : Nat) PC N ans aa ac (decide (k = ops.length)) ((w.setCell ⟨b, 13, none⟩ (.bool (decide (k = ops.length)))).at d) ∧ Chg S w ((w.setCell ⟨b, 13, none⟩ (.bool (decide (k = ops.length)))).at d) := fun d => ⟨ThX.at (X.put (by rw [heap_set_self _ _ X.blk, thA_E]) fun g hg _ _ => heap_set_other _ _ _ _ hg) d, Chg.at (Chg.set X.sb) d⟩
  clear X
  unfold hdBg
  by_cases hp : PC = 0
  · have hkn : k = ops.length := h.resolve_left fun h => h hp
    subst hp
    have hd1 : decide (k < ops.length) = false := by simp; omega
    have hd2 : decide ((k : Int) < (ops.length : Int)) = false := by simp; omega
    clear h
    have hee : decide (k = ops.length) = true := decide_eq_true hkn
    rw [hee] at fin hdec hdec2
    simp only [hee]
    clear hee
    repeat (first | refine Walk.cx ?_ | (refine Walk.cReg ?_; simp only [z34]) | (refine Walk.oq ?_; try walk_nrm) | (refine Walk.un ?_; walk_nrm))
    (refine Walk.drawnC (by kernel_rfl) size34_0 (by kernel_rfl) (by kernel_rfl) (by decide) ?_; simp only [List.range, List.range.loop]; repeat (first | (refine Cm.oq ?_) | (refine Cm.unw (ho_of (by conv => lhs; whnf) (by kernel_rfl)) (by rfl) ?_; walk_nrm)))
    refine Cm.done ?_
    repeat (first | refine Walk.cx ?_ | (refine Walk.cReg ?_; simp only [z34]) | (refine Walk.oq ?_; try walk_nrm) | (refine Walk.un ?_; walk_nrm))
    clear hd1 hd2
    (refine Walk.drawnL (by kernel_rfl) size34_8 (by kernel_rfl) (by kernel_rfl) (by kernel_rfl) (by decide) ?_; simp only [List.range, List.range.loop]; repeat (first | (refine Cm.oq ?_) | (refine Cm.unw (ho_of (by conv => lhs; whnf) (by kernel_rfl)) (by rfl) ?_; walk_nrm)))
    try simp only [hdec, hdec2]
    refine Cm.done ?_
    intro rest hr
    (have hfr := fr0 b 13; refine Walk.os hfr c13 ?_; clear hfr; try walk_nrm)
    refine hr _ _ ?_
    clear c0 c1 c2 c13 z13
    generalize w.setCell ⟨b, 13, none⟩ (.bool true) = w1 at *
    try walk_nrm
    repeat (first | refine Walk.cx ?_ | (refine Walk.cReg ?_; simp only [z34]) | (refine Walk.oq ?_; try walk_nrm) | (refine Walk.un ?_; walk_nrm))
    exact Walk.ctl rfl (fun w => stepG_leave rfl rfl Try.func34 (results_none rfl _ _ w) (events_results_none rfl _ _)) (.stop fun d => ⟨rfl, fin d⟩)
  · have hpb : (PC == 0) = false := by simpa using hp
    have hpd : decide (PC = 0) = false := by simpa using hp
    clear h
    generalize decide (k = ops.length) = ee at *
    repeat (first | refine Walk.cx ?_ | (refine Walk.cReg ?_; simp only [z34]) | (refine Walk.oq ?_; try walk_nrm) | (refine Walk.un ?_; walk_nrm))
    (refine Walk.drawnC (by kernel_rfl) size34_0 (by kernel_rfl) (by kernel_rfl) (by decide) ?_; simp only [List.range, List.range.loop]; repeat (first | (refine Cm.oq ?_) | (refine Cm.unw (ho_of (by conv => lhs; whnf) (by kernel_rfl)) (by rfl) ?_; walk_nrm)))
    refine Cm.done ?_
    repeat (first | refine Walk.cx ?_ | (refine Walk.cReg ?_; simp only [z34]) | (refine Walk.oq ?_; try walk_nrm) | (refine Walk.un ?_; walk_nrm))
    (refine Walk.drawnL (by kernel_rfl) size34_8 (by kernel_rfl) (by kernel_rfl) (by kernel_rfl) (by decide) ?_; simp only [List.range, List.range.loop]; repeat (first | (refine Cm.oq ?_) | (refine Cm.unw (ho_of (by conv => lhs; whnf) (by kernel_rfl)) (by rfl) ?_; walk_nrm)))
    try simp only [hdec, hdec2]
    refine Cm.done ?_
    intro rest hr
    (have hfr := fr0 b 13; refine Walk.os hfr c13 ?_; clear hfr; try walk_nrm)
    refine hr _ _ ?_
    clear c0 c1 c2 c13 z13
    generalize w.setCell ⟨b, 13, none⟩ (.bool ee) = w1 at *
    try walk_nrm
    repeat (first | refine Walk.cx ?_ | (refine Walk.cReg ?_; simp only [z34]) | (refine Walk.oq ?_; try walk_nrm) | (refine Walk.un ?_; walk_nrm))
    exact Walk.ctl rfl (fun w => stepG_leave rfl rfl Try.func34 (results_none rfl _ _ w) (events_results_none rfl _ _)) (.stop fun d => ⟨rfl, fin d⟩)
end
theorem enter_of (n : Nat) (s : Oz) (o : OpV) : ((o.a < 0 ∨ (n : Int) ≤ o.a ∨ o.k < 1 ∨ 4 < o.k) ∧ onEnter n s o = (s, .inl (false, 0))) ∨ (1 ≤ o.k ∧ o.k ≤ 4 ∧ 0 ≤ o.a ∧ o.a < n ∧ ∃ d, onEnter n s o = (s, .inr d) ∧ ∀ N, oR n o (if o.k = 4 then 30 else 10 * o.k) (upd N 1 (triesX o.c : Nat)) d) := by
  by_cases h0 : o.a < 0 ∨ (n : Int) ≤ o.a
  · exact .inl ⟨h0.imp id .inl, onEnter_out h0⟩
  have h1 : 0 ≤ o.a ∧ o.a < n := by omega
  have ht : ((o.a.toNat : Nat) : Int) = o.a := by omega
  have hc : o.a.toNat < n := by omega
  obtain ⟨t1, t2⟩ := triesX_lo o.c
  rw [onEnter_in h0]
  by_cases k1 : o.k = 1
  · exact .inr ⟨by omega, by omega, h1.1, h1.2, _, if_pos k1, fun N => ⟨by rw [if_neg (by omega)]; omega, ht.symm, hc⟩⟩
  rw [if_neg k1]
  by_cases k2 : o.k = 2
  · exact .inr ⟨by omega, by omega, h1.1, h1.2, _, if_pos k2, fun N => ⟨by rw [if_neg (by omega)]; omega, ht.symm, hc, rfl⟩⟩
  rw [if_neg k2]
  by_cases k3 : o.k = 3
  · exact .inr ⟨by omega, by omega, h1.1, h1.2, _, if_pos k3, fun N => ⟨by rw [if_neg (by omega)]; omega, ht.symm, hc, .inr ⟨rfl, by omega, rfl⟩, upd_same _ _ _, t1, t2⟩⟩
  rw [if_neg k3]
  by_cases k4 : o.k = 4
  · exact .inr ⟨by omega, by omega, h1.1, h1.2, _, if_pos k4, fun N => ⟨by rw [if_pos k4], ht.symm, hc, .inl ⟨rfl, k4⟩, upd_same _ _ _, t1, t2⟩⟩
  rw [if_neg k4]
  exact .inl ⟨by omega, rfl⟩
section
variable {main : Bool} {S Sm : Nat → Prop} {b : Nat} {ops : List OpV} {oa : Option Addr} {oc : Nat} {e : Bool} {kb m cb n cc : Nat} {tl : Value} {s0 : Oz}
def TisR (L : La) (f : L.D → OD) (S : Nat → Prop) (n b : Nat) (ops : List OpV) (oa : Option Addr) (oc : Nat) (t : Tst L) (w : World) : Prop := TIs S n b ops oa oc t.left (t.d.map f) t.ans (t.d.isNone) w
theorem settle_same (s : Oz) : ∀ (l : List OpV) (az : List Ans), (settleO (onLa kb n) s l az).1 = s
  | [], _ => rfl
  | o :: l, az => by
    show (landO (onLa kb n) (onEnter n s o) l az).1 = s
    rcases enter_of n s o with ⟨_, h⟩ | ⟨_, _, _, _, d, h, _⟩
    · rw [h]; exact settle_same s l _
    · rw [h]; rfl
theorem mbg_loop (hl : ops.length ≤ 65536) (s : Oz) (c : Frame) (cs : List Frame) : ∀ (r k : Nat) (S' : Nat → Prop) (N : Nat → Int) (ans : List Ans) (aa : Option Addr) (ac : Nat) (u : Nat → Value) (w : World), (∀ g, g = m ∨ g = cb → ¬ S' g) → OmX (fun g => g = m ∨ g = cb) m cb n cc tl s0 w → k + r = ops.length → ans.length = k → ThX S' b ops oa oc (k : Nat) 0 N ans aa ac e w →
    Walk Try.prog main (DR (fun _ => none)) (fun g w' => g = G (c.finish (.tuple #[])) cs ∧ TisR (onLa kb n) id (fun g => S' g ∨ w.heap.size ≤ g) n b ops oa oc (settleO (onLa kb n) s (ops.drop k) ans).2 w' ∧ Chg S' w w') (G (hdBg m b u) (c :: cs)) w := by
  intro r
  induction r with
  | zero =>
    intro k S' N ans aa ac u w hd M hk ha X
    obtain rfl : k = ops.length := hk
    refine (mbg_out m u c cs w X (.inr rfl) (Nat.le_refl _)).mono ?_
    rintro g w' ⟨rfl, X', hC⟩
    refine ⟨rfl, ?_, hC⟩
    rw [List.drop_length]
    exact ⟨ops.length, 0, N, aa, ac, (by rw [decide_eq_true rfl] at X'; exact X'.mono fun _ h => .inl h), ha, .inl ⟨rfl, rfl, rfl⟩⟩
  | succ r ih =>
    intro k S' N ans aa ac u w hd M hk ha X
    have hkl : k < ops.length := by omega
    have ho : ops[k]? = some ops[k] := List.getElem?_eq_getElem hkl
    have hdrop : ops.drop k = ops[k] :: ops.drop (k + 1) := List.drop_eq_getElem_cons hkl
    rw [hdrop]
    show Walk Try.prog main (DR (fun _ => none)) (fun g w' => g = G (c.finish (.tuple #[])) cs ∧ TisR (onLa kb n) id (fun g => S' g ∨ w.heap.size ≤ g) n b ops oa oc (landO (onLa kb n) (onEnter n s ops[k]) (ops.drop (k + 1)) ans).2 w' ∧ Chg S' w w') _ _
    generalize ops[k] = o at *
    rcases enter_of n s o with ⟨hb, h⟩ | ⟨h1, h4, h5, h6, d, h, hdd⟩
    · rw [h]
      refine (mbg_bad o u (c :: cs) w M X hl (by omega) ho hb).then ?_
      rintro g w1 ⟨⟨u', rfl⟩, ⟨aa', ac', X'⟩, hC⟩
      have hlt := M.lt
      refine (ih (k + 1) _ N _ aa' ac' u' w1 (fun g h h2 => ?_) (M.chg hC fun g _ h => hd g h) (by omega) (by simp; omega) X').mono ?_
      · rcases h2 with h2 | h2
        · exact hd g h h2
        · rcases h with rfl | rfl <;> omega
      rintro g w' ⟨rfl, hT, hC'⟩
      have hs := hC.size
      refine ⟨rfl, TIs.mono hT fun g hg => ?_, hC.trans hC' fun b hb h => h.resolve_right (by omega)⟩
      rcases hg with (h | h) | h
      · exact .inl h
      · exact .inr h
      · exact .inr (by omega)
    · rw [h]
      refine (mbg_good o u (c :: cs) w M X hl ho h1 h4 h5 h6).then ?_
      rintro g w1 ⟨⟨u', rfl⟩, X', hC⟩
      refine (mbg_out m u' c cs w1 X' (.inl (by split <;> omega)) (by omega)).mono ?_
      rintro g w' ⟨rfl, X2, hC'⟩
      have hf : decide (k = ops.length) = false := by simp; omega
      rw [hf] at X2
      exact ⟨rfl, ⟨k, _, _, aa, ac, X2.mono fun _ h => .inl h, ha, .inr ⟨d, o, rfl, ho, rfl, hdd N, rfl⟩⟩, hC.trans hC' fun _ _ h => h⟩
theorem OmX.only {Sm : Nat → Prop} {w : World} (M : OmX Sm m cb n cc tl s0 w) : OmX (fun g => g = m ∨ g = cb) m cb n cc tl s0 w := ⟨M.blk, M.row, .inl rfl, .inr rfl, M.ne⟩
theorem mbg_w (k : Nat) (N : Nat → Int) (ans : List Ans) (aa : Option Addr) (ac : Nat) (s : Oz) (w : World) (M : OmX Sm m cb n cc tl s0 w) (hdis : ∀ g, Sm g → ¬ S g) (hl : ops.length ≤ 65536) (hk : k ≤ ops.length) (ha : ans.length = k) (X : ThX S b ops oa oc (k : Nat) 0 N ans aa ac e w) :
    CallW Try.prog main (fun _ => none) 34 #[.pointer (some ⟨m, 0, none⟩), .pointer (some ⟨b, 0, none⟩)] w (fun v w' => v = .tuple #[] ∧ TisR (onLa kb n) id (fun g => S g ∨ w.heap.size ≤ g) n b ops oa oc (settleO (onLa kb n) s (ops.drop k) ans).2 w' ∧ Chg S w w') := by
  intro c cs
  refine (mbg_in m b (c :: cs) w).then ?_
  rintro g w1 ⟨⟨u, rfl⟩, d, rfl⟩
  refine Walk.back ?_ d
  refine (mbg_loop (kb := kb) hl s c cs (ops.length - k) k S N ans aa ac u w (fun g h => by rcases h with rfl | rfl; exact hdis _ M.sm; exact hdis _ M.sc) M.only (by omega) ha X).mono ?_
  rintro g w' ⟨rfl, h⟩
  exact ⟨_, ⟨rfl, h⟩, rfl⟩
theorem mbg_on (m k : Nat) (PC : Int) (N : Nat → Int) (ans : List Ans) (aa : Option Addr) (ac : Nat) (o : OpV) (d : OD) (w : World) (ho : ops[k]? = some o) (ha : ans.length = k) (X : ThX S b ops oa oc (k : Nat) PC N ans aa ac e w) (hd : oR n o PC N d) :
    CallW Try.prog main (fun _ => none) 34 #[.pointer (some ⟨m, 0, none⟩), .pointer (some ⟨b, 0, none⟩)] w (fun v w' => v = .tuple #[] ∧ TisR (onLa kb n) id (fun g => S g ∨ w.heap.size ≤ g) n b ops oa oc ⟨ops.drop (k + 1), some d, ans⟩ w' ∧ Chg S w w') := by
  intro c cs
  have hkl := (List.getElem?_eq_some_iff.1 ho).1
  have hp := oR_pos hd
  refine (mbg_in m b (c :: cs) w).then ?_
  rintro g w1 ⟨⟨u, rfl⟩, d1, rfl⟩
  refine Walk.back ?_ d1
  refine (mbg_out m u c cs w X (.inl (by omega)) (by omega)).mono ?_
  rintro g w' ⟨rfl, X2, hC'⟩
  have hf : decide (k = ops.length) = false := by simp; omega
  rw [hf] at X2
  exact ⟨_, ⟨rfl, ⟨k, PC, N, aa, ac, X2.mono fun _ h => .inl h, ha, .inr ⟨d, o, rfl, ho, rfl, hd, rfl⟩⟩, hC'⟩, rfl⟩
end
end
section
def MidR (Sm St : Nat → Prop) (m cb n cc : Nat) (tl : Value) (b : Nat) (ops : List OpV) (oa : Option Addr) (oc k : Nat) (o : OpV) (ans : List Ans) (e : Bool) (r : Oz × (Ans ⊕ OD)) (w w' : World) : Prop :=
  OmX Sm m cb n cc tl r.1 w' ∧ Chg (fun g => Sm g ∨ St g) w w' ∧
  match r.2 with
  | .inl a => ∃ (N : Nat → Int) (aa : Option Addr) (ac : Nat), ThX (fun g => St g ∨ w.heap.size ≤ g) b ops oa oc ((k + 1 : Nat) : Int) 0 N (ans ++ [a]) aa ac e w'
  | .inr d => ∃ (PC : Int) (N : Nat → Int) (aa : Option Addr) (ac : Nat), ThX (fun g => St g ∨ w.heap.size ≤ g) b ops oa oc (k : Nat) PC N ans aa ac e w' ∧ oR n o PC N d
structure StW (Sm St : Nat → Prop) (m cb n cc : Nat) (tl : Value) (b : Nat) (ops : List OpV) (oa : Option Addr) (oc k : Nat) (o : OpV) (ans : List Ans) (aa : Option Addr) (ac : Nat) (e : Bool) (P : Nat) (s : Oz) (PC : Int) (N : Nat → Int) (w w' : World) : Prop where
  th : ThX St b ops oa oc (k : Nat) PC N ans aa ac e w'
  ma : OmX Sm m cb n cc tl s w'
  ch : Chg (fun g => Sm g ∨ St g) w w'
  po : w'.heap[P]? = some (.cells #[.int .i64 o.k, .int .i64 o.a, .int .i64 o.b, .int .i64 o.c] 34)
  pb : P ≠ b
  pc : P ≠ cb
  bc : b ≠ cb
  bm : b ≠ m
section
variable {main : Bool} {Sm St : Nat → Prop} {m cb n cc : Nat} {tl : Value} {b : Nat} {ops : List OpV} {oa : Option Addr} {oc k : Nat} {o : OpV} {PC : Int} {N : Nat → Int} {ans : List Ans} {aa : Option Addr} {ac : Nat} {e : Bool} {P : Nat} {s : Oz}
variable {w w' w3 : World}
theorem MidR.at {r : Oz × (Ans ⊕ OD)} (h : MidR Sm St m cb n cc tl b ops oa oc k o ans e r w w') (d : Nat) : MidR Sm St m cb n cc tl b ops oa oc k o ans e r w (w'.at d) := by
  obtain ⟨h1, h2, h3⟩ := h
  refine ⟨h1.at d, h2.at d, ?_⟩
  cases hr : r.2 with
  | inl a =>
    rw [hr] at h3
    obtain ⟨N, aa, ac, X⟩ := h3
    exact ⟨N, aa, ac, X.at d⟩
  | inr x =>
    rw [hr] at h3
    obtain ⟨PC, N, aa, ac, X, hd⟩ := h3
    exact ⟨PC, N, aa, ac, X.at d, hd⟩
theorem StW.pcS (H : StW Sm St m cb n cc tl b ops oa oc k o ans aa ac e P s PC N w w') (v : Int) : StW Sm St m cb n cc tl b ops oa oc k o ans aa ac e P s v N w (w'.setCell ⟨b, 2, none⟩ (.int .i64 v)) :=
  ⟨H.th.put (by rw [heap_set_self _ _ H.th.blk, thA_PC]) fun g hg _ _ => heap_set_other _ _ _ _ hg, ⟨(heap_set_other _ _ _ _ (Ne.symm H.bm)).trans H.ma.blk, by obtain ⟨a1, h1, h2⟩ := H.ma.row; exact ⟨a1, (heap_set_other _ _ _ _ (Ne.symm H.bc)).trans h1, h2⟩, H.ma.sm, H.ma.sc, H.ma.ne⟩, H.ch.trans (Chg.set (.inr H.th.sb)) fun _ _ h => h, (heap_set_other _ _ _ _ H.pb).trans H.po, H.pb, H.pc, H.bc, H.bm⟩
theorem StW.n0 (H : StW Sm St m cb n cc tl b ops oa oc k o ans aa ac e P s PC N w w') (v : Int) : StW Sm St m cb n cc tl b ops oa oc k o ans aa ac e P s PC (upd N 0 v) w (w'.setCell ⟨b, 3, none⟩ (.int .i64 v)) :=
  ⟨H.th.put (by rw [heap_set_self _ _ H.th.blk, thA_0]) fun g hg _ _ => heap_set_other _ _ _ _ hg, ⟨(heap_set_other _ _ _ _ (Ne.symm H.bm)).trans H.ma.blk, by obtain ⟨a1, h1, h2⟩ := H.ma.row; exact ⟨a1, (heap_set_other _ _ _ _ (Ne.symm H.bc)).trans h1, h2⟩, H.ma.sm, H.ma.sc, H.ma.ne⟩, H.ch.trans (Chg.set (.inr H.th.sb)) fun _ _ h => h, (heap_set_other _ _ _ _ H.pb).trans H.po, H.pb, H.pc, H.bc, H.bm⟩
theorem StW.n1 (H : StW Sm St m cb n cc tl b ops oa oc k o ans aa ac e P s PC N w w') (v : Int) : StW Sm St m cb n cc tl b ops oa oc k o ans aa ac e P s PC (upd N 1 v) w (w'.setCell ⟨b, 4, none⟩ (.int .i64 v)) :=
  ⟨H.th.put (by rw [heap_set_self _ _ H.th.blk, thA_1]) fun g hg _ _ => heap_set_other _ _ _ _ hg, ⟨(heap_set_other _ _ _ _ (Ne.symm H.bm)).trans H.ma.blk, by obtain ⟨a1, h1, h2⟩ := H.ma.row; exact ⟨a1, (heap_set_other _ _ _ _ (Ne.symm H.bc)).trans h1, h2⟩, H.ma.sm, H.ma.sc, H.ma.ne⟩, H.ch.trans (Chg.set (.inr H.th.sb)) fun _ _ h => h, (heap_set_other _ _ _ _ H.pb).trans H.po, H.pb, H.pc, H.bc, H.bm⟩
theorem StW.cell {w2 : World} {s2 : Oz} (H : StW Sm St m cb n cc tl b ops oa oc k o ans aa ac e P s PC N w w') (hdis : ∀ g, Sm g → ¬ St g) (hM : OmX Sm m cb n cc tl s2 w2) (hs : w2.heap.size = w'.heap.size) (ho : ∀ g, g ≠ cb → w2.heap[g]? = w'.heap[g]?) : StW Sm St m cb n cc tl b ops oa oc k o ans aa ac e P s2 PC N w w2 :=
  ⟨H.th.same fun g _ hg => ho g fun h => hdis g (by rw [h]; exact H.ma.sc) hg, hM, H.ch.trans (S' := fun g => Sm g ∨ St g) ⟨Nat.le_of_eq hs.symm, fun g _ hn => ho g fun h => hn (.inl (by rw [h]; exact H.ma.sc))⟩ fun _ _ h => h, (ho _ H.pc).trans H.po, H.pb, H.pc, H.bc, H.bm⟩
theorem StW.stS (H : StW Sm St m cb n cc tl b ops oa oc k o ans aa ac e P s PC N w w') (hdis : ∀ g, Sm g → ¬ St g) {i : Nat} (hi : i < n) (v : Int) : StW Sm St m cb n cc tl b ops oa oc k o ans aa ac e P { s with st := upd s.st i v } PC N w (w'.setCell ⟨cb, i * 3, none⟩ (.int .i64 v)) := H.cell hdis (H.ma.st hi v) (size_set ..) fun g hg => heap_set_other _ _ _ _ hg
theorem StW.vlS (H : StW Sm St m cb n cc tl b ops oa oc k o ans aa ac e P s PC N w w') (hdis : ∀ g, Sm g → ¬ St g) {i : Nat} (hi : i < n) (v : Int) : StW Sm St m cb n cc tl b ops oa oc k o ans aa ac e P { s with vl := upd s.vl i v } PC N w (w'.setCell ⟨cb, i * 3 + 1, none⟩ (.int .i64 v)) := H.cell hdis (H.ma.vl hi v) (size_set ..) fun g hg => heap_set_other _ _ _ _ hg
theorem StW.ctS (H : StW Sm St m cb n cc tl b ops oa oc k o ans aa ac e P s PC N w w') (hdis : ∀ g, Sm g → ¬ St g) {i : Nat} (hi : i < n) (v : Int) : StW Sm St m cb n cc tl b ops oa oc k o ans aa ac e P { s with ct := upd s.ct i v } PC N w (w'.setCell ⟨cb, i * 3 + 2, none⟩ (.int .i64 v)) := H.cell hdis (H.ma.ct hi v) (size_set ..) fun g hg => heap_set_other _ _ _ _ hg
theorem StW.on (H : StW Sm St m cb n cc tl b ops oa oc k o ans aa ac e P s PC N w w') {d : OD} (hd : oR n o PC N d) : MidR Sm St m cb n cc tl b ops oa oc k o ans e (s, .inr d) w w' := ⟨H.ma, H.ch, PC, N, aa, ac, H.th.mono fun _ h => .inl h, hd⟩
theorem StW.ends (H : StW Sm St m cb n cc tl b ops oa oc k o ans aa ac e P s PC N w w') (hdis : ∀ g, Sm g → ¬ St g) {a : Ans} (h : (∃ aa' ac', ThX (fun g => St g ∨ w'.heap.size ≤ g) b ops oa oc ((k + 1 : Nat) : Int) 0 N (ans ++ [a]) aa' ac' e w3) ∧ Chg St w' w3) : MidR Sm St m cb n cc tl b ops oa oc k o ans e (s, .inl a) w w3 := by
  obtain ⟨⟨aa', ac', X⟩, hC⟩ := h
  have hs := H.ch.size
  exact ⟨H.ma.chg hC fun g _ h => hdis g h, H.ch.trans hC fun _ _ h => .inr h, N, aa', ac', X.mono fun g h => h.imp id fun h => by omega⟩
theorem StW.begin (X : ThX St b ops oa oc (k : Nat) PC N ans aa ac e w) (M : OmX Sm m cb n cc tl s w) (hdis : ∀ g, Sm g → ¬ St g) : StW Sm St m cb n cc tl b ops oa oc k o ans aa ac e w.heap.size s PC N w (w.alloc (.cells #[.int .i64 o.k, .int .i64 o.a, .int .i64 o.b, .int .i64 o.c] 34)) := by
  have hb := X.lt
  obtain ⟨l1, l2⟩ := M.lt
  exact ⟨X.same fun g hg _ => heap_new_lt _ _ hg, M.same fun g hg _ => heap_new_lt _ _ hg, Chg.alloc, heap_alloc_new _ _, by omega, by omega, fun h => hdis b (by rw [h]; exact M.sc) X.sb, fun h => hdis b (by rw [h]; exact M.sm) X.sb⟩
end
noncomputable def reg85_0 := rg Try.f85.body []
theorem z85 : List.range reg85_0.size = [0, 1, 2, 3, 4] := by kernel_rfl
theorem code85_is : Try.f85.body = some (.region 0 reg85_0 false) := by kernel_rfl
noncomputable def reg63_0 := rg Try.f63.body [0]
noncomputable def reg63_1 := rg Try.f63.body [1, 0]
noncomputable def reg63_2 := rg Try.f63.body [1, 1, 0, 0]
noncomputable def reg63_3 := rg Try.f63.body [1, 1, 0, 1, 0, 0]
noncomputable def reg63_4 := rg Try.f63.body [1, 1, 0, 1, 0, 1, 0]
noncomputable def reg63_5 := rg Try.f63.body [1, 1, 0, 1, 0, 1, 1, 0]
noncomputable def reg63_6 := rg Try.f63.body [1, 1, 0, 1, 1, 0]
noncomputable def reg63_7 := rg Try.f63.body [1, 1, 0, 1, 1, 1, 0]
noncomputable def reg63_8 := rg Try.f63.body [1, 1, 0, 1, 1, 1, 1, 0]
noncomputable def reg63_9 := rg Try.f63.body [1, 1, 0, 1, 1, 1, 1, 1, 0, 0]
noncomputable def reg63_10 := rg Try.f63.body [1, 1, 0, 1, 1, 1, 1, 1, 0, 1, 0]
noncomputable def reg63_11 := rg Try.f63.body [1, 1, 0, 1, 1, 1, 1, 1, 0, 1, 1, 0, 0]
noncomputable def reg63_12 := rg Try.f63.body [1, 1, 0, 1, 1, 1, 1, 1, 0, 1, 1, 0, 1]
noncomputable def reg63_13 := rg Try.f63.body [1, 1, 0, 1, 1, 1, 1, 1, 1, 0]
noncomputable def reg63_14 := rg Try.f63.body [1, 1, 0, 1, 1, 1, 1, 1, 1, 1, 0, 0]
noncomputable def reg63_15 := rg Try.f63.body [1, 1, 0, 1, 1, 1, 1, 1, 1, 1, 0, 1]
noncomputable def reg63_16 := rg Try.f63.body [1, 1, 0, 1, 1, 1, 1, 1, 1, 1, 1, 0]
noncomputable def reg63_17 := rg Try.f63.body [1, 1, 0, 1, 1, 1, 1, 1, 1, 1, 1, 1, 0, 0]
noncomputable def reg63_18 := rg Try.f63.body [1, 1, 0, 1, 1, 1, 1, 1, 1, 1, 1, 1, 0, 1]
noncomputable def reg63_19 := rg Try.f63.body [1, 1, 0, 1, 1, 1, 1, 1, 1, 1, 1, 1, 1, 0]
noncomputable def reg63_20 := rg Try.f63.body [1, 1, 0, 1, 1, 1, 1, 1, 1, 1, 1, 1, 1, 1, 0, 0]
noncomputable def reg63_21 := rg Try.f63.body [1, 1, 0, 1, 1, 1, 1, 1, 1, 1, 1, 1, 1, 1, 0, 1, 0]
noncomputable def reg63_22 := rg Try.f63.body [1, 1, 0, 1, 1, 1, 1, 1, 1, 1, 1, 1, 1, 1, 0, 1, 1, 0]
noncomputable def reg63_23 := rg Try.f63.body [1, 1, 0, 1, 1, 1, 1, 1, 1, 1, 1, 1, 1, 1, 1, 0]
noncomputable def reg63_24 := rg Try.f63.body [1, 1, 0, 1, 1, 1, 1, 1, 1, 1, 1, 1, 1, 1, 1, 1, 0]
theorem z63 : List.range reg63_0.size = [0] ∧ List.range reg63_1.size = [0, 1, 2, 3] ∧ List.range reg63_2.size = [0, 1] ∧ List.range reg63_3.size = [0, 1, 2, 3] ∧ List.range reg63_4.size = [0, 1, 2, 3, 4] ∧ List.range reg63_5.size = [0, 1] ∧ List.range reg63_6.size = [0, 1] ∧ List.range reg63_7.size = [0, 1, 2, 3, 4, 5] ∧ List.range reg63_8.size = [0, 1] ∧ List.range reg63_9.size = [0, 1, 2, 3] ∧ List.range reg63_10.size = [0, 1, 2, 3, 4] ∧ List.range reg63_11.size = [0, 1, 2, 3] ∧ List.range reg63_12.size = [0, 1, 2, 3] ∧ List.range reg63_13.size = [0, 1] ∧ List.range reg63_14.size = [0, 1, 2, 3, 4, 5] ∧ List.range reg63_15.size = [0, 1, 2, 3] ∧ List.range reg63_16.size = [0, 1] ∧ List.range reg63_17.size = [0, 1, 2, 3] ∧ List.range reg63_18.size = [0, 1, 2, 3] ∧ List.range reg63_19.size = [0, 1] ∧ List.range reg63_20.size = [0, 1, 2, 3] ∧ List.range reg63_21.size = [0, 1, 2, 3, 4] ∧ List.range reg63_22.size = [0, 1] ∧ List.range reg63_23.size = [0, 1] ∧ List.range reg63_24.size = [0, 1, 2, 3, 4, 5] := by refine ⟨?_, ?_, ?_, ?_, ?_, ?_, ?_, ?_, ?_, ?_, ?_, ?_, ?_, ?_, ?_, ?_, ?_, ?_, ?_, ?_, ?_, ?_, ?_, ?_, ?_⟩ <;> kernel_rfl
theorem code63_is : Try.f63.body = some (.seq (.region 0 reg63_0 false) (.seq (.region 1 reg63_1 false) (.block 0 (.seq (.region 2 reg63_2 false) (.cond (.tmp 12 ) (.seq (.region 3 reg63_3 false) (.seq (.region 4 reg63_4 false) (.cond (.tmp 21 ) (.region 5 reg63_5 false) (.skip)))) (.seq (.region 6 reg63_6 false) (.cond (.tmp 24 ) (.region 7 reg63_7 false) (.seq (.region 8 reg63_8 false) (.cond (.tmp 32 ) (.seq (.region 9 reg63_9 false) (.seq (.region 10 reg63_10 false) (.cond (.tmp 41 ) (.seq (.region 11 reg63_11 false) (.region 12 reg63_12 false)) (.skip)))) (.seq (.region 13 reg63_13 false) (.cond (.tmp 48 ) (.seq (.region 14 reg63_14 false) (.region 15 reg63_15 false)) (.seq (.region 16 reg63_16 false) (.cond (.tmp 58 ) (.seq (.region 17 reg63_17 false) (.region 18 reg63_18 false)) (.seq (.region 19 reg63_19 false) (.cond (.tmp 67 ) (.seq (.region 20 reg63_20 false) (.seq (.region 21 reg63_21 false) (.cond (.tmp 76 ) (.region 22 reg63_22 false) (.skip)))) (.seq (.region 23 reg63_23 false) (.cond (.tmp 79 ) (.region 24 reg63_24 false) (.skip)))))))))))))))))) := by kernel_rfl
section
variable {main : Bool} {S : Nat → Prop} {b : Nat} {ops : List OpV} {oa : Option Addr} {oc k : Nat} {PC : Int} {N : Nat → Int} {ans : List Ans} {aa : Option Addr} {ac : Nat} {e : Bool}
theorem told_w (y : Bool) (x : Int) (w : World) (X : ThX S b ops oa oc (k : Nat) PC N ans aa ac e w) (hk : k ≤ 65536) (hl : ans.length ≤ 65536) :
    CallW Try.prog main (fun _ => none) 85 #[.pointer (some ⟨b, 0, none⟩), .bool y, .int .i64 x] w (fun v w' => v = .tuple #[] ∧ (∃ aa' ac', ThX (fun g => S g ∨ w.heap.size ≤ g) b ops oa oc ((k + 1 : Nat) : Int) 0 N (ans ++ [(y, x)]) aa' ac' e w') ∧ Chg S w w') := by
  intro c cs
  have hh := end_w (main := main) (y, x) w X hk hl
  simp only [ansVal] at hh
  rw [enter_at _ Try.func85 code85_is]
  simp only [Try.ntmps85, ez, Nat.reduceAdd, Nat.reduceSub]
  repeat (first | refine Walk.cx ?_ | (refine Walk.cReg ?_; simp only [z85]) | (refine Walk.oq ?_; try walk_nrm) | (refine Walk.un ?_; walk_nrm))
  refine Walk.callW (Post := fun v w' => v = .tuple #[] ∧ (∃ aa' ac', ThX (fun g => S g ∨ w.heap.size ≤ g) b ops oa oc ((k + 1 : Nat) : Int) 0 N (ans ++ [(y, x)]) aa' ac' e w') ∧ Chg S w w') ?_ (ho_of (by conv => lhs; whnf) (by kernel_rfl)) (by rfl) (by decide) rfl Try.func61 (by kernel_rfl) (by rfl) ?_
  · walk_nrm
    exact hh
  rintro v w3 ⟨rfl, hw3⟩
  walk_nrm
  repeat (first | refine Walk.cx ?_ | (refine Walk.cReg ?_; simp only [z85]) | (refine Walk.oq ?_; try walk_nrm) | (refine Walk.un ?_; walk_nrm))
  refine Walk.ctl rfl (fun w => stepG_leave rfl rfl Try.func85 (results_none rfl _ _ w) (events_results_none rfl _ _)) (.stop fun d => ⟨_, ⟨rfl, ?_⟩, rfl⟩)
  obtain ⟨⟨aa', ac', X3⟩, hC3⟩ := hw3
  exact ⟨⟨aa', ac', X3.at d⟩, hC3.at d⟩
end
section
variable {main : Bool} {Sm St : Nat → Prop} {m cb n cc : Nat} {tl : Value} {b : Nat} {ops : List OpV} {oa : Option Addr} {oc k : Nat} {o : OpV} {PC : Int} {N : Nat → Int} {ans : List Ans} {aa : Option Addr} {ac : Nat} {e : Bool} {s : Oz}
theorem set_g1 (w : World) (X : ThX St b ops oa oc (k : Nat) PC N ans aa ac e w) (M : OmX Sm m cb n cc tl s w) (hdis : ∀ g, Sm g → ¬ St g) (i : Nat) (hd : oR n o PC N (.g1 i)) (hl : ops.length ≤ 65536) (hk : k ≤ 65536) (hal : ans.length = k) :
    CallW Try.prog main (fun _ => none) 63 #[.pointer (some ⟨m, 0, none⟩), .pointer (some ⟨b, 0, none⟩), opVal o, .pointer (some ⟨cb, i * 3, none⟩)] w (fun vz w' => vz = .tuple #[] ∧ MidR Sm St m cb n cc tl b ops oa oc k o ans e (onAct s (.g1 i)) w w') := by
  intro c cs
  have hPC : PC = 10 := hd.1
  subst hPC
  have hi : i < n := hd.2.2
  have H0 := StW.begin (o := o) X M hdis
  simp only [opVal]
  rw [enter_at _ Try.func63 code63_is]
  simp only [Try.ntmps63, ez, Nat.reduceAdd, Nat.reduceSub]
  repeat (first | refine Walk.cx ?_ | (refine Walk.cReg ?_; simp only [z63]) | (refine Walk.oq ?_; try walk_nrm) | (refine Walk.un ?_; walk_nrm))
  (refine Walk.oa ?_; try walk_nrm)
  generalize hP : w.heap.size = P at *
  generalize w.alloc (.cells #[.int .i64 o.k, .int .i64 o.a, .int .i64 o.b, .int .i64 o.c] 34) = w1 at *
  have kP := tcP H0.th.blk
  have zP := frozen_of H0.th.blk 2
  have kS := H0.ma.stc hi
  have zS := H0.ma.z (i * 3)
  repeat (first | refine Walk.cx ?_ | (refine Walk.cReg ?_; simp only [z63]) | (refine Walk.oq ?_; try walk_nrm) | (refine Walk.un ?_; walk_nrm))
  (have hfr := fr0 b 2; refine Walk.os hfr kP ?_; clear hfr; try walk_nrm)
  have H1 := H0.pcS (11)
  clear kP zP kS zS X M H0
  generalize w1.setCell ⟨b, 2, none⟩ (.int .i64 (11)) = w2 at *
  try walk_nrm
  have kS := H1.ma.stc hi
  have zS := H1.ma.z (i * 3)
  by_cases h2 : s.st i = 2
  · have hb2 : (s.st i != 2) = false := by simp [h2]
    repeat (first | refine Walk.cx ?_ | (refine Walk.cReg ?_; simp only [z63]) | (refine Walk.oq ?_; try walk_nrm) | (refine Walk.un ?_; walk_nrm))
    refine Walk.ctl rfl (fun w => stepG_leave rfl rfl Try.func63 (results_none rfl _ _ w) (events_results_none rfl _ _)) (.stop fun d => ⟨_, ⟨rfl, MidR.at ?_ d⟩, rfl⟩)
    rw [show onAct s (.g1 i) = (s, .inr (.g2 i)) from if_pos h2]
    exact H1.on ⟨rfl, hd.2.1, hi⟩
  · have hb2 : (s.st i != 2) = true := by simp [h2]
    repeat (first | refine Walk.cx ?_ | (refine Walk.cReg ?_; simp only [z63]) | (refine Walk.oq ?_; try walk_nrm) | (refine Walk.un ?_; walk_nrm))
    refine Walk.callW (Post := fun v w' => v = .tuple #[] ∧ (∃ aa' ac', ThX (fun g => St g ∨ w2.heap.size ≤ g) b ops oa oc ((k + 1 : Nat) : Int) 0 (N) (ans ++ [(false, 0)]) aa' ac' e w') ∧ Chg St w2 w') ?_ (ho_of (by conv => lhs; whnf) (by kernel_rfl)) (by rfl) (by decide) rfl Try.func85 (by kernel_rfl) (by rfl) ?_
    · walk_nrm
      exact told_w false (0) w2 H1.th hk (by omega)
    rintro v wz ⟨rfl, hz⟩
    have HZ := H1.ends hdis hz
    walk_nrm
    repeat (first | refine Walk.cx ?_ | (refine Walk.cReg ?_; simp only [z63]) | (refine Walk.oq ?_; try walk_nrm) | (refine Walk.un ?_; walk_nrm))
    refine Walk.ctl rfl (fun w => stepG_leave rfl rfl Try.func63 (results_none rfl _ _ w) (events_results_none rfl _ _)) (.stop fun d => ⟨_, ⟨rfl, MidR.at ?_ d⟩, rfl⟩)
    rw [show onAct s (.g1 i) = (s, .inl (false, 0)) from if_neg h2]
    exact HZ
theorem set_g2 (w : World) (X : ThX St b ops oa oc (k : Nat) PC N ans aa ac e w) (M : OmX Sm m cb n cc tl s w) (hdis : ∀ g, Sm g → ¬ St g) (i : Nat) (hd : oR n o PC N (.g2 i)) (hl : ops.length ≤ 65536) (hk : k ≤ 65536) (hal : ans.length = k) :
    CallW Try.prog main (fun _ => none) 63 #[.pointer (some ⟨m, 0, none⟩), .pointer (some ⟨b, 0, none⟩), opVal o, .pointer (some ⟨cb, i * 3, none⟩)] w (fun vz w' => vz = .tuple #[] ∧ MidR Sm St m cb n cc tl b ops oa oc k o ans e (onAct s (.g2 i)) w w') := by
  intro c cs
  have hPC : PC = 11 := hd.1
  subst hPC
  have hi : i < n := hd.2.2
  have H0 := StW.begin (o := o) X M hdis
  simp only [opVal]
  rw [enter_at _ Try.func63 code63_is]
  simp only [Try.ntmps63, ez, Nat.reduceAdd, Nat.reduceSub]
  repeat (first | refine Walk.cx ?_ | (refine Walk.cReg ?_; simp only [z63]) | (refine Walk.oq ?_; try walk_nrm) | (refine Walk.un ?_; walk_nrm))
  (refine Walk.oa ?_; try walk_nrm)
  generalize hP : w.heap.size = P at *
  generalize w.alloc (.cells #[.int .i64 o.k, .int .i64 o.a, .int .i64 o.b, .int .i64 o.c] 34) = w1 at *
  have kP := tcP H0.th.blk
  have zP := frozen_of H0.th.blk 2
  have kV := H0.ma.vlc hi
  have zV := H0.ma.z (i * 3 + 1)
  repeat (first | refine Walk.cx ?_ | (refine Walk.cReg ?_; simp only [z63]) | (refine Walk.oq ?_; try walk_nrm) | (refine Walk.un ?_; walk_nrm))
  refine Walk.callW (Post := fun v w' => v = .tuple #[] ∧ (∃ aa' ac', ThX (fun g => St g ∨ w1.heap.size ≤ g) b ops oa oc ((k + 1 : Nat) : Int) 0 (N) (ans ++ [(true, s.vl i)]) aa' ac' e w') ∧ Chg St w1 w') ?_ (ho_of (by conv => lhs; whnf) (by kernel_rfl)) (by rfl) (by decide) rfl Try.func85 (by kernel_rfl) (by rfl) ?_
  · walk_nrm
    exact told_w true (s.vl i) w1 H0.th hk (by omega)
  rintro v wz ⟨rfl, hz⟩
  have HZ := H0.ends hdis hz
  walk_nrm
  repeat (first | refine Walk.cx ?_ | (refine Walk.cReg ?_; simp only [z63]) | (refine Walk.oq ?_; try walk_nrm) | (refine Walk.un ?_; walk_nrm))
  refine Walk.ctl rfl (fun w => stepG_leave rfl rfl Try.func63 (results_none rfl _ _ w) (events_results_none rfl _ _)) (.stop fun d => ⟨_, ⟨rfl, MidR.at ?_ d⟩, rfl⟩)
  exact HZ
theorem set_s1 (w : World) (X : ThX St b ops oa oc (k : Nat) PC N ans aa ac e w) (M : OmX Sm m cb n cc tl s w) (hdis : ∀ g, Sm g → ¬ St g) (i : Nat) (v : Int) (hd : oR n o PC N (.s1 i v)) (hl : ops.length ≤ 65536) (hk : k ≤ 65536) (hal : ans.length = k) :
    CallW Try.prog main (fun _ => none) 63 #[.pointer (some ⟨m, 0, none⟩), .pointer (some ⟨b, 0, none⟩), opVal o, .pointer (some ⟨cb, i * 3, none⟩)] w (fun vz w' => vz = .tuple #[] ∧ MidR Sm St m cb n cc tl b ops oa oc k o ans e (onAct s (.s1 i v)) w w') := by
  intro c cs
  have hPC : PC = 20 := hd.1
  subst hPC
  have hi : i < n := hd.2.2.1
  have H0 := StW.begin (o := o) X M hdis
  simp only [opVal]
  rw [enter_at _ Try.func63 code63_is]
  simp only [Try.ntmps63, ez, Nat.reduceAdd, Nat.reduceSub]
  repeat (first | refine Walk.cx ?_ | (refine Walk.cReg ?_; simp only [z63]) | (refine Walk.oq ?_; try walk_nrm) | (refine Walk.un ?_; walk_nrm))
  (refine Walk.oa ?_; try walk_nrm)
  generalize hP : w.heap.size = P at *
  generalize w.alloc (.cells #[.int .i64 o.k, .int .i64 o.a, .int .i64 o.b, .int .i64 o.c] 34) = w1 at *
  have kP := tcP H0.th.blk
  have zP := frozen_of H0.th.blk 2
  have kS := H0.ma.stc hi
  have zS := H0.ma.z (i * 3)
  repeat (first | refine Walk.cx ?_ | (refine Walk.cReg ?_; simp only [z63]) | (refine Walk.oq ?_; try walk_nrm) | (refine Walk.un ?_; walk_nrm))
  (have hfr := fr0 b 2; refine Walk.os hfr kP ?_; clear hfr; try walk_nrm)
  have H1 := H0.pcS (23)
  clear kP zP kS zS X M H0
  generalize w1.setCell ⟨b, 2, none⟩ (.int .i64 (23)) = w2 at *
  try walk_nrm
  have kS := H1.ma.stc hi
  have zS := H1.ma.z (i * 3)
  have kP := tcP H1.th.blk
  have zP := frozen_of H1.th.blk 2
  by_cases h2 : s.st i = 0
  · have hb2 : (s.st i == 0) = true := by simp [h2]
    repeat (first | refine Walk.cx ?_ | (refine Walk.cReg ?_; simp only [z63]) | (refine Walk.oq ?_; try walk_nrm) | (refine Walk.un ?_; walk_nrm))
    (have hfr := fr0 cb (i * 3); refine Walk.os hfr kS ?_; clear hfr; try walk_nrm)
    have H2 := H1.stS hdis hi (1)
    clear kS zS kP zP
    generalize w2.setCell ⟨cb, i * 3, none⟩ (.int .i64 (1)) = w3 at *
    try walk_nrm
    have kP := tcP H2.th.blk
    have zP := frozen_of H2.th.blk 2
    repeat (first | refine Walk.cx ?_ | (refine Walk.cReg ?_; simp only [z63]) | (refine Walk.oq ?_; try walk_nrm) | (refine Walk.un ?_; walk_nrm))
    (have hfr := fr0 b 2; refine Walk.os hfr kP ?_; clear hfr; try walk_nrm)
    have H3 := H2.pcS (21)
    clear kP zP
    generalize w3.setCell ⟨b, 2, none⟩ (.int .i64 (21)) = w4 at *
    try walk_nrm
    repeat (first | refine Walk.cx ?_ | (refine Walk.cReg ?_; simp only [z63]) | (refine Walk.oq ?_; try walk_nrm) | (refine Walk.un ?_; walk_nrm))
    refine Walk.ctl rfl (fun w => stepG_leave rfl rfl Try.func63 (results_none rfl _ _ w) (events_results_none rfl _ _)) (.stop fun d => ⟨_, ⟨rfl, MidR.at ?_ d⟩, rfl⟩)
    rw [show onAct s (.s1 i v) = ({ s with st := upd s.st i 1 }, .inr (.s2 i v)) from if_pos h2]
    exact H3.on ⟨rfl, hd.2.1, hi, hd.2.2.2⟩
  · have hb2 : (s.st i == 0) = false := by simp [h2]
    repeat (first | refine Walk.cx ?_ | (refine Walk.cReg ?_; simp only [z63]) | (refine Walk.oq ?_; try walk_nrm) | (refine Walk.un ?_; walk_nrm))
    refine Walk.ctl rfl (fun w => stepG_leave rfl rfl Try.func63 (results_none rfl _ _ w) (events_results_none rfl _ _)) (.stop fun d => ⟨_, ⟨rfl, MidR.at ?_ d⟩, rfl⟩)
    rw [show onAct s (.s1 i v) = (s, .inr (.s4 i)) from if_neg h2]
    exact H1.on ⟨rfl, hd.2.1, hi⟩
theorem set_s2 (w : World) (X : ThX St b ops oa oc (k : Nat) PC N ans aa ac e w) (M : OmX Sm m cb n cc tl s w) (hdis : ∀ g, Sm g → ¬ St g) (i : Nat) (v : Int) (hd : oR n o PC N (.s2 i v)) (hl : ops.length ≤ 65536) (hk : k ≤ 65536) (hal : ans.length = k) :
    CallW Try.prog main (fun _ => none) 63 #[.pointer (some ⟨m, 0, none⟩), .pointer (some ⟨b, 0, none⟩), opVal o, .pointer (some ⟨cb, i * 3, none⟩)] w (fun vz w' => vz = .tuple #[] ∧ MidR Sm St m cb n cc tl b ops oa oc k o ans e (onAct s (.s2 i v)) w w') := by
  intro c cs
  have hPC : PC = 21 := hd.1
  subst hPC
  have hi : i < n := hd.2.2.1
  have H0 := StW.begin (o := o) X M hdis
  simp only [opVal]
  rw [enter_at _ Try.func63 code63_is]
  simp only [Try.ntmps63, ez, Nat.reduceAdd, Nat.reduceSub]
  repeat (first | refine Walk.cx ?_ | (refine Walk.cReg ?_; simp only [z63]) | (refine Walk.oq ?_; try walk_nrm) | (refine Walk.un ?_; walk_nrm))
  (refine Walk.oa ?_; try walk_nrm)
  generalize hP : w.heap.size = P at *
  generalize w.alloc (.cells #[.int .i64 o.k, .int .i64 o.a, .int .i64 o.b, .int .i64 o.c] 34) = w1 at *
  have hv := hd.2.2.2
  subst hv
  have kP := tcP H0.th.blk
  have zP := frozen_of H0.th.blk 2
  have kV := H0.ma.vlc hi
  have zV := H0.ma.z (i * 3 + 1)
  have p0 := (cell_of H0.po 0).trans rfl
  have p2 := (cell_of H0.po 2).trans rfl
  repeat (first | refine Walk.cx ?_ | (refine Walk.cReg ?_; simp only [z63]) | (refine Walk.oq ?_; try walk_nrm) | (refine Walk.un ?_; walk_nrm))
  (have hfr := fr0 cb (i * 3 + 1); refine Walk.os hfr kV ?_; clear hfr; try walk_nrm)
  have H1 := H0.vlS hdis hi (o.b)
  clear kP zP kV zV p0 p2 X M H0
  generalize w1.setCell ⟨cb, i * 3 + 1, none⟩ (.int .i64 (o.b)) = w2 at *
  try walk_nrm
  have kP := tcP H1.th.blk
  have zP := frozen_of H1.th.blk 2
  repeat (first | refine Walk.cx ?_ | (refine Walk.cReg ?_; simp only [z63]) | (refine Walk.oq ?_; try walk_nrm) | (refine Walk.un ?_; walk_nrm))
  (have hfr := fr0 b 2; refine Walk.os hfr kP ?_; clear hfr; try walk_nrm)
  have H2 := H1.pcS (22)
  clear kP zP
  generalize w2.setCell ⟨b, 2, none⟩ (.int .i64 (22)) = w3 at *
  try walk_nrm
  repeat (first | refine Walk.cx ?_ | (refine Walk.cReg ?_; simp only [z63]) | (refine Walk.oq ?_; try walk_nrm) | (refine Walk.un ?_; walk_nrm))
  refine Walk.ctl rfl (fun w => stepG_leave rfl rfl Try.func63 (results_none rfl _ _ w) (events_results_none rfl _ _)) (.stop fun d => ⟨_, ⟨rfl, MidR.at ?_ d⟩, rfl⟩)
  exact H2.on ⟨rfl, hd.2.1, hi, rfl⟩
theorem set_s3 (w : World) (X : ThX St b ops oa oc (k : Nat) PC N ans aa ac e w) (M : OmX Sm m cb n cc tl s w) (hdis : ∀ g, Sm g → ¬ St g) (i : Nat) (v : Int) (hd : oR n o PC N (.s3 i v)) (hl : ops.length ≤ 65536) (hk : k ≤ 65536) (hal : ans.length = k) :
    CallW Try.prog main (fun _ => none) 63 #[.pointer (some ⟨m, 0, none⟩), .pointer (some ⟨b, 0, none⟩), opVal o, .pointer (some ⟨cb, i * 3, none⟩)] w (fun vz w' => vz = .tuple #[] ∧ MidR Sm St m cb n cc tl b ops oa oc k o ans e (onAct s (.s3 i v)) w w') := by
  intro c cs
  have hPC : PC = 22 := hd.1
  subst hPC
  have hi : i < n := hd.2.2.1
  have H0 := StW.begin (o := o) X M hdis
  simp only [opVal]
  rw [enter_at _ Try.func63 code63_is]
  simp only [Try.ntmps63, ez, Nat.reduceAdd, Nat.reduceSub]
  repeat (first | refine Walk.cx ?_ | (refine Walk.cReg ?_; simp only [z63]) | (refine Walk.oq ?_; try walk_nrm) | (refine Walk.un ?_; walk_nrm))
  (refine Walk.oa ?_; try walk_nrm)
  generalize hP : w.heap.size = P at *
  generalize w.alloc (.cells #[.int .i64 o.k, .int .i64 o.a, .int .i64 o.b, .int .i64 o.c] 34) = w1 at *
  have hv := hd.2.2.2
  subst hv
  have kP := tcP H0.th.blk
  have zP := frozen_of H0.th.blk 2
  have kS := H0.ma.stc hi
  have zS := H0.ma.z (i * 3)
  have p0 := (cell_of H0.po 0).trans rfl
  have p2 := (cell_of H0.po 2).trans rfl
  repeat (first | refine Walk.cx ?_ | (refine Walk.cReg ?_; simp only [z63]) | (refine Walk.oq ?_; try walk_nrm) | (refine Walk.un ?_; walk_nrm))
  (have hfr := fr0 cb (i * 3); refine Walk.os hfr kS ?_; clear hfr; try walk_nrm)
  have H1 := H0.stS hdis hi (2)
  clear kP zP kS zS p0 p2 X M H0
  generalize w1.setCell ⟨cb, i * 3, none⟩ (.int .i64 (2)) = w2 at *
  try walk_nrm
  have p0 := (cell_of H1.po 0).trans rfl
  have p2 := (cell_of H1.po 2).trans rfl
  repeat (first | refine Walk.cx ?_ | (refine Walk.cReg ?_; simp only [z63]) | (refine Walk.oq ?_; try walk_nrm) | (refine Walk.un ?_; walk_nrm))
  refine Walk.callW (Post := fun v w' => v = .tuple #[] ∧ (∃ aa' ac', ThX (fun g => St g ∨ w2.heap.size ≤ g) b ops oa oc ((k + 1 : Nat) : Int) 0 (N) (ans ++ [(true, o.b)]) aa' ac' e w') ∧ Chg St w2 w') ?_ (ho_of (by conv => lhs; whnf) (by kernel_rfl)) (by rfl) (by decide) rfl Try.func85 (by kernel_rfl) (by rfl) ?_
  · walk_nrm
    exact told_w true (o.b) w2 H1.th hk (by omega)
  rintro v wz ⟨rfl, hz⟩
  have HZ := H1.ends hdis hz
  walk_nrm
  repeat (first | refine Walk.cx ?_ | (refine Walk.cReg ?_; simp only [z63]) | (refine Walk.oq ?_; try walk_nrm) | (refine Walk.un ?_; walk_nrm))
  refine Walk.ctl rfl (fun w => stepG_leave rfl rfl Try.func63 (results_none rfl _ _ w) (events_results_none rfl _ _)) (.stop fun d => ⟨_, ⟨rfl, MidR.at ?_ d⟩, rfl⟩)
  exact HZ
theorem set_s4 (w : World) (X : ThX St b ops oa oc (k : Nat) PC N ans aa ac e w) (M : OmX Sm m cb n cc tl s w) (hdis : ∀ g, Sm g → ¬ St g) (i : Nat) (hd : oR n o PC N (.s4 i)) (hl : ops.length ≤ 65536) (hk : k ≤ 65536) (hal : ans.length = k) :
    CallW Try.prog main (fun _ => none) 63 #[.pointer (some ⟨m, 0, none⟩), .pointer (some ⟨b, 0, none⟩), opVal o, .pointer (some ⟨cb, i * 3, none⟩)] w (fun vz w' => vz = .tuple #[] ∧ MidR Sm St m cb n cc tl b ops oa oc k o ans e (onAct s (.s4 i)) w w') := by
  intro c cs
  have hPC : PC = 23 := hd.1
  subst hPC
  have hi : i < n := hd.2.2
  have H0 := StW.begin (o := o) X M hdis
  simp only [opVal]
  rw [enter_at _ Try.func63 code63_is]
  simp only [Try.ntmps63, ez, Nat.reduceAdd, Nat.reduceSub]
  repeat (first | refine Walk.cx ?_ | (refine Walk.cReg ?_; simp only [z63]) | (refine Walk.oq ?_; try walk_nrm) | (refine Walk.un ?_; walk_nrm))
  (refine Walk.oa ?_; try walk_nrm)
  generalize hP : w.heap.size = P at *
  generalize w.alloc (.cells #[.int .i64 o.k, .int .i64 o.a, .int .i64 o.b, .int .i64 o.c] 34) = w1 at *
  have kP := tcP H0.th.blk
  have zP := frozen_of H0.th.blk 2
  have kS := H0.ma.stc hi
  have zS := H0.ma.z (i * 3)
  repeat (first | refine Walk.cx ?_ | (refine Walk.cReg ?_; simp only [z63]) | (refine Walk.oq ?_; try walk_nrm) | (refine Walk.un ?_; walk_nrm))
  (have hfr := fr0 b 2; refine Walk.os hfr kP ?_; clear hfr; try walk_nrm)
  have H1 := H0.pcS (24)
  clear kP zP kS zS X M H0
  generalize w1.setCell ⟨b, 2, none⟩ (.int .i64 (24)) = w2 at *
  try walk_nrm
  have kS := H1.ma.stc hi
  have zS := H1.ma.z (i * 3)
  by_cases h2 : s.st i = 2
  · have hb2 : (s.st i != 2) = false := by simp [h2]
    repeat (first | refine Walk.cx ?_ | (refine Walk.cReg ?_; simp only [z63]) | (refine Walk.oq ?_; try walk_nrm) | (refine Walk.un ?_; walk_nrm))
    refine Walk.ctl rfl (fun w => stepG_leave rfl rfl Try.func63 (results_none rfl _ _ w) (events_results_none rfl _ _)) (.stop fun d => ⟨_, ⟨rfl, MidR.at ?_ d⟩, rfl⟩)
    rw [show onAct s (.s4 i) = (s, .inr (.s5 i)) from if_pos h2]
    exact H1.on ⟨rfl, hd.2.1, hi⟩
  · have hb2 : (s.st i != 2) = true := by simp [h2]
    repeat (first | refine Walk.cx ?_ | (refine Walk.cReg ?_; simp only [z63]) | (refine Walk.oq ?_; try walk_nrm) | (refine Walk.un ?_; walk_nrm))
    refine Walk.callW (Post := fun v w' => v = .tuple #[] ∧ (∃ aa' ac', ThX (fun g => St g ∨ w2.heap.size ≤ g) b ops oa oc ((k + 1 : Nat) : Int) 0 (N) (ans ++ [(false, 0)]) aa' ac' e w') ∧ Chg St w2 w') ?_ (ho_of (by conv => lhs; whnf) (by kernel_rfl)) (by rfl) (by decide) rfl Try.func85 (by kernel_rfl) (by rfl) ?_
    · walk_nrm
      exact told_w false (0) w2 H1.th hk (by omega)
    rintro v wz ⟨rfl, hz⟩
    have HZ := H1.ends hdis hz
    walk_nrm
    repeat (first | refine Walk.cx ?_ | (refine Walk.cReg ?_; simp only [z63]) | (refine Walk.oq ?_; try walk_nrm) | (refine Walk.un ?_; walk_nrm))
    refine Walk.ctl rfl (fun w => stepG_leave rfl rfl Try.func63 (results_none rfl _ _ w) (events_results_none rfl _ _)) (.stop fun d => ⟨_, ⟨rfl, MidR.at ?_ d⟩, rfl⟩)
    rw [show onAct s (.s4 i) = (s, .inl (false, 0)) from if_neg h2]
    exact HZ
theorem set_s5 (w : World) (X : ThX St b ops oa oc (k : Nat) PC N ans aa ac e w) (M : OmX Sm m cb n cc tl s w) (hdis : ∀ g, Sm g → ¬ St g) (i : Nat) (hd : oR n o PC N (.s5 i)) (hl : ops.length ≤ 65536) (hk : k ≤ 65536) (hal : ans.length = k) :
    CallW Try.prog main (fun _ => none) 63 #[.pointer (some ⟨m, 0, none⟩), .pointer (some ⟨b, 0, none⟩), opVal o, .pointer (some ⟨cb, i * 3, none⟩)] w (fun vz w' => vz = .tuple #[] ∧ MidR Sm St m cb n cc tl b ops oa oc k o ans e (onAct s (.s5 i)) w w') := by
  intro c cs
  have hPC : PC = 24 := hd.1
  subst hPC
  have hi : i < n := hd.2.2
  have H0 := StW.begin (o := o) X M hdis
  simp only [opVal]
  rw [enter_at _ Try.func63 code63_is]
  simp only [Try.ntmps63, ez, Nat.reduceAdd, Nat.reduceSub]
  repeat (first | refine Walk.cx ?_ | (refine Walk.cReg ?_; simp only [z63]) | (refine Walk.oq ?_; try walk_nrm) | (refine Walk.un ?_; walk_nrm))
  (refine Walk.oa ?_; try walk_nrm)
  generalize hP : w.heap.size = P at *
  generalize w.alloc (.cells #[.int .i64 o.k, .int .i64 o.a, .int .i64 o.b, .int .i64 o.c] 34) = w1 at *
  have kP := tcP H0.th.blk
  have zP := frozen_of H0.th.blk 2
  have kV := H0.ma.vlc hi
  have zV := H0.ma.z (i * 3 + 1)
  repeat (first | refine Walk.cx ?_ | (refine Walk.cReg ?_; simp only [z63]) | (refine Walk.oq ?_; try walk_nrm) | (refine Walk.un ?_; walk_nrm))
  refine Walk.callW (Post := fun v w' => v = .tuple #[] ∧ (∃ aa' ac', ThX (fun g => St g ∨ w1.heap.size ≤ g) b ops oa oc ((k + 1 : Nat) : Int) 0 (N) (ans ++ [(false, s.vl i)]) aa' ac' e w') ∧ Chg St w1 w') ?_ (ho_of (by conv => lhs; whnf) (by kernel_rfl)) (by rfl) (by decide) rfl Try.func85 (by kernel_rfl) (by rfl) ?_
  · walk_nrm
    exact told_w false (s.vl i) w1 H0.th hk (by omega)
  rintro v wz ⟨rfl, hz⟩
  have HZ := H0.ends hdis hz
  walk_nrm
  repeat (first | refine Walk.cx ?_ | (refine Walk.cReg ?_; simp only [z63]) | (refine Walk.oq ?_; try walk_nrm) | (refine Walk.un ?_; walk_nrm))
  refine Walk.ctl rfl (fun w => stepG_leave rfl rfl Try.func63 (results_none rfl _ _ w) (events_results_none rfl _ _)) (.stop fun d => ⟨_, ⟨rfl, MidR.at ?_ d⟩, rfl⟩)
  exact HZ
end
end
end Go.Proofs.Ytdcjgmlgmjjogaa
