/- Part 10. -/
import Derived.Test.YtgfajibjedfkdaaJO3
import Derived.Test.YtgfajibjedfkdaaJO9
set_option linter.unusedSimpArgs false
set_option linter.unusedVariables false
set_option maxHeartbeats 8000000
set_option maxRecDepth 100000
namespace Go.Proofs.Ytgfajibjedfkdaa
open Go.Conc Go.RowKit Go.Relay
open Go.ConcN (upd upd_ne upd_same)
section
structure RX where
  base : World
  p : Nat
  k : Nat
  rb : Nat → Nat
  la : Nat → Option Addr
  ls : Nat → List Int
  lc : Nat → Nat
  bb : Nat
  g : Nat
  sa : Option Addr
  sc : Nat
  ex : World → Prop
  exs : ∀ w w' : World, (∀ (b : Nat) (x : Array Value) (t : TypeId), t ≠ 37 → t ≠ 30 → t ≠ 54 → w.heap[b]? = some (.cells x t) → w'.heap[b]? = some (.cells x t)) → ex w → ex w'
def srcV (r : Nat) : Value := .iface 27 (.pointer (some ⟨r, 0, none⟩))
def cntV (p : Nat) : Value := .iface 35 (.pointer (some ⟨p, 0, none⟩))
def alV (b : Bool) : Int := if b then 1 else 0
structure RI (X : RX) (s : Rs) (w : World) : Prop where
  cnt : w.heap[X.p]? = some (.cells #[.int .i64 (s.n : Nat)] 37)
  src : ∀ i, i < X.k → w.heap[X.rb i]? = some (.cells #[.slice (X.la i) (X.ls i).length (X.lc i), .int .i64 (s.ld i : Nat)] 30)
  num : ∀ i, i < X.k → X.ls i ≠ [] → ∃ (b : Nat) (arr : Array Value), X.la i = some ⟨b, 0, none⟩ ∧ w.heap[b]? = some (.cells arr 2) ∧ ∀ (j : Nat) (z : Int), (X.ls i)[j]? = some z → arr[j]? = some (.int .i64 z)
  inj : ∀ i j, i < X.k → j < X.k → X.rb i = X.rb j → i = j
  bar : w.heap[X.bb]? = some (.cells #[.slice X.sa X.k X.sc, .int .u32 (alV s.al)] 54)
  srcs : 0 < X.k → X.sa = some ⟨X.g, 0, none⟩ ∧ ∃ arr : Array Value, w.heap[X.g]? = some (.cells arr 32) ∧ ∀ i, i < X.k → arr[i]? = some (srcV (X.rb i))
  cap : X.k ≤ X.sc
  old : ∀ b, b < X.base.heap.size → w.heap[b]? = X.base.heap[b]?
  lo : X.base.heap.size ≤ X.p ∧ X.base.heap.size ≤ X.bb ∧ ∀ i, i < X.k → X.base.heap.size ≤ X.rb i
  size : X.base.heap.size ≤ w.heap.size
  ext : X.ex w
theorem RI.same {X : RX} {s : Rs} {w w' : World} (I : RI X s w) (h : ∀ b, b < w.heap.size → w'.heap[b]? = w.heap[b]?) (hs : w.heap.size ≤ w'.heap.size) : RI X s w' := by
  have lt : ∀ {b : Nat} {o : Obj}, w.heap[b]? = some o → w'.heap[b]? = some o := fun {b o} e => (h b (Array.getElem?_eq_some_iff.1 e).1).trans e
  have hz := I.size
  refine ⟨lt I.cnt, fun i hi => lt (I.src i hi), fun i hi hn => ?_, I.inj, lt I.bar, fun hk => ?_, I.cap, fun b hb => (h b (by omega)).trans (I.old b hb), I.lo, by omega, X.exs _ _ (fun b x t _ _ _ e => lt e) I.ext⟩
  · obtain ⟨b, arr, e, h1, h2⟩ := I.num i hi hn
    exact ⟨b, arr, e, lt h1, h2⟩
  · obtain ⟨e, arr, h1, h2⟩ := I.srcs hk
    exact ⟨e, arr, lt h1, h2⟩
theorem RI.at {X : RX} {s : Rs} {w : World} (I : RI X s w) (d : Nat) : RI X s (w.at d) := I.same (fun _ _ => rfl) (Nat.le_refl _)
theorem ne_of_ty {w : World} {b c : Nat} {x y : Array Value} {t u : TypeId} (h1 : w.heap[b]? = some (.cells x t)) (h2 : w.heap[c]? = some (.cells y u)) (h : t ≠ u) : b ≠ c := fun e => by
  subst e
  rw [h1] at h2
  injection h2 with h2
  injection h2 with _ h2
  exact h h2
theorem RI.cntSet {X : RX} {s : Rs} {w : World} (I : RI X s w) (dl : Nat) : RI X (s.tick dl) (w.setCell ⟨X.p, 0, none⟩ (.int .i64 ((s.n + dl : Nat) : Int))) := by
  have ot : ∀ {b : Nat} {x : Array Value} {t : TypeId}, w.heap[b]? = some (.cells x t) → t ≠ 37 → (w.setCell ⟨X.p, 0, none⟩ (.int .i64 ((s.n + dl : Nat) : Int))).heap[b]? = some (.cells x t) := fun {b x t} h ht => (heap_set_other _ _ _ _ (ne_of_ty h I.cnt ht)).trans h
  refine ⟨?_, fun i hi => ot (I.src i hi) (by decide), fun i hi hn => ?_, I.inj, ot I.bar (by decide), fun hk => ?_, I.cap, fun b hb => (heap_set_other _ _ _ _ (fun e : b = X.p => by have := I.lo.1; omega)).trans (I.old b hb), I.lo, by rw [size_set]; exact I.size, X.exs _ _ (fun b x t h1 h2 h3 e => ot e h1) I.ext⟩
  · rw [heap_set_self _ _ I.cnt]
    rfl
  · obtain ⟨b, arr, e, h1, h2⟩ := I.num i hi hn
    exact ⟨b, arr, e, ot h1 (by decide), h2⟩
  · obtain ⟨e, arr, h1, h2⟩ := I.srcs hk
    exact ⟨e, arr, ot h1 (by decide), h2⟩
theorem RI.ldSet {X : RX} {s : Rs} {w : World} (I : RI X s w) (j : Nat) (hj : j < X.k) : RI X ⟨s.n, upd s.ld j (s.ld j + 1), s.al⟩ (w.setCell ⟨X.rb j, 1, none⟩ (.int .i64 ((s.ld j + 1 : Nat) : Int))) := by
  have ot : ∀ {b : Nat} {x : Array Value} {t : TypeId}, w.heap[b]? = some (.cells x t) → t ≠ 30 → (w.setCell ⟨X.rb j, 1, none⟩ (.int .i64 ((s.ld j + 1 : Nat) : Int))).heap[b]? = some (.cells x t) := fun {b x t} h ht => (heap_set_other _ _ _ _ (ne_of_ty h (I.src j hj) ht)).trans h
  refine ⟨ot I.cnt (by decide), fun i hi => ?_, fun i hi hn => ?_, I.inj, ot I.bar (by decide), fun hk => ?_, I.cap, fun b hb => (heap_set_other _ _ _ _ (fun e : b = X.rb j => by have := I.lo.2.2 j hj; omega)).trans (I.old b hb), I.lo, by rw [size_set]; exact I.size, X.exs _ _ (fun b x t h1 h2 h3 e => ot e h2) I.ext⟩
  · by_cases e : i = j
    · subst e
      rw [heap_set_self _ _ (I.src i hi)]
      simp [upd_same]
    · rw [heap_set_other _ _ _ _ (fun h => e (I.inj i j hi hj h)), I.src i hi]
      simp [upd_ne _ _ e]
  · obtain ⟨b, arr, e, h1, h2⟩ := I.num i hi hn
    exact ⟨b, arr, e, ot h1 (by decide), h2⟩
  · obtain ⟨e, arr, h1, h2⟩ := I.srcs hk
    exact ⟨e, arr, ot h1 (by decide), h2⟩
def Tk (X : RX) (sv : Value) (dl : Nat) : Prop := (sv = cntV X.p ∧ dl = 1) ∨ (sv = .nilIface ∧ dl = 0)
theorem und15s : Try.prog.underlying 35 = some (.pointer 37) := by kernel_rfl
theorem und15r : Try.prog.underlying 27 = some (.pointer 30) := by kernel_rfl
theorem undABool : Try.prog.underlying 152 = some (.pointer 50) := by kernel_rfl
theorem undFlag : Try.prog.underlying 150 = some (.pointer 52) := by kernel_rfl
theorem undBarr : Try.prog.underlying 33 = some (.pointer 54) := by kernel_rfl
theorem row15s : rowM 35 "Step" 169 = true := by kernel_rfl
theorem row15r : rowM 27 "Load" 168 = true := by kernel_rfl
theorem rowABool : rowM 152 "Load" 174 = true := by kernel_rfl
noncomputable def reg169_0 := rg Try.f169.body []
theorem z169 : List.range reg169_0.size = [0, 1, 2, 3, 4, 5, 6, 7] := by kernel_rfl
theorem code169_is : Try.f169.body = some (.region 0 reg169_0 false) := by kernel_rfl
noncomputable def reg168_0 := rg Try.f168.body [0]
noncomputable def reg168_1 := rg Try.f168.body [1, 0, 0]
noncomputable def reg168_2 := rg Try.f168.body [1, 0, 1, 0]
noncomputable def reg168_3 := rg Try.f168.body [1, 1, 0]
noncomputable def reg168_4 := rg Try.f168.body [1, 1, 1, 0, 0]
noncomputable def reg168_5 := rg Try.f168.body [1, 1, 1, 0, 1, 0, 0]
noncomputable def reg168_6 := rg Try.f168.body [1, 1, 1, 1, 0]
theorem size168_6 : reg168_6.size = 18 := by kernel_rfl
theorem z168 : List.range reg168_0.size = [0] ∧ List.range reg168_1.size = [0, 1] ∧ List.range reg168_2.size = [0, 1] ∧ List.range reg168_3.size = [0, 1, 2, 3, 4, 5, 6, 7] ∧ List.range reg168_4.size = [0, 1, 2, 3, 4, 5] ∧ List.range reg168_5.size = [0] ∧ List.range reg168_6.size = [0, 1, 2, 3, 4, 5, 6, 7, 8, 9, 10, 11, 12, 13, 14, 15, 16, 17] := by refine ⟨?_, ?_, ?_, ?_, ?_, ?_, ?_⟩ <;> kernel_rfl
theorem code168_is : Try.f168.body = some (.seq (.region 0 reg168_0 false) (.seq (.seq (.region 1 reg168_1 false) (.cond (.tmp 6 ) (.region 2 reg168_2 false) (.skip))) (.seq (.region 3 reg168_3 false) (.seq (.seq (.region 4 reg168_4 false) (.cond (.tmp 21 ) (.seq (.region 5 reg168_5 false) (.ret)) (.skip))) (.seq (.region 6 reg168_6 true) (.ret)))))) := by kernel_rfl
noncomputable def reg174_0 := rg Try.f174.body [0]
noncomputable def reg174_1 := rg Try.f174.body [1, 0]
theorem z174 : List.range reg174_0.size = [0] ∧ List.range reg174_1.size = [0, 1, 2, 3, 4, 5] := by refine ⟨?_, ?_⟩ <;> kernel_rfl
theorem code174_is : Try.f174.body = some (.seq (.region 0 reg174_0 false) (.seq (.region 1 reg174_1 false) (.ret))) := by kernel_rfl
noncomputable def reg77_0 := rg Try.f77.body [0]
noncomputable def reg77_1 := rg Try.f77.body [1, 0]
noncomputable def reg77_2 := rg Try.f77.body [1, 1, 0]
theorem z77 : List.range reg77_0.size = [0] ∧ List.range reg77_1.size = [0, 1] ∧ List.range reg77_2.size = [0, 1, 2, 3] := by refine ⟨?_, ?_, ?_⟩ <;> kernel_rfl
theorem code77_is : Try.f77.body = some (.seq (.region 0 reg77_0 false) (.seq (.region 1 reg77_1 false) (.seq (.region 2 reg77_2 false) (.ret)))) := by kernel_rfl
noncomputable def reg44_0 := rg Try.f44.body [0]
noncomputable def reg44_1 := rg Try.f44.body [1, 0, 0]
noncomputable def reg44_2 := rg Try.f44.body [1, 0, 1, 0, 0]
noncomputable def reg44_3 := rg Try.f44.body [1, 1, 0]
theorem z44 : List.range reg44_0.size = [0] ∧ List.range reg44_1.size = [0, 1] ∧ List.range reg44_2.size = [0] ∧ List.range reg44_3.size = [0, 1, 2, 3, 4, 5] := by refine ⟨?_, ?_, ?_, ?_⟩ <;> kernel_rfl
theorem code44_is : Try.f44.body = some (.seq (.region 0 reg44_0 false) (.seq (.seq (.region 1 reg44_1 false) (.cond (.tmp 6 ) (.seq (.region 2 reg44_2 false) (.ret)) (.skip))) (.seq (.region 3 reg44_3 false) (.ret)))) := by kernel_rfl
section
variable {main : Bool} {V : Nat → Option Wait} {X : RX} {s : Rs} {w : World} {sv : Value} {dl : Nat}
theorem cnt15_w (hA : ∀ b, Apart V b) (I : RI X s w) (hb : s.n < 1152921504606846976) :
    CallW Try.prog main V 169 #[.pointer (some ⟨X.p, 0, none⟩)] w (fun v w' => v = .tuple #[] ∧ RI X (s.tick 1) w') := by
  have h1 : w.cell? ⟨X.p, 0, none⟩ = some (.int .i64 (s.n : Nat)) := (cell_of I.cnt 0).trans rfl
  have hz : w.frozen? ⟨X.p, 0, none⟩ = false := frozen_of I.cnt 0
  have hw1 : IntKind.wrap .i64 ((s.n : Int) + 1) = (s.n : Int) + 1 := by rw [IntKind.wrap_i64]; omega
  have hf' : Free V ⟨X.p, 0, none⟩ := (hA X.p).1 _ rfl
  have I' := I.cntSet 1
  rw [show ((s.n + 1 : Nat) : Int) = (s.n : Int) + 1 by simp] at I'
  generalize (s.n : Int) = z at *
  generalize s.tick 1 = s' at *
  clear I hb hA
  refine callW_in Try.func169 code169_is fun fr cs => ?_
  simp only [Try.ntmps169, ez, Nat.reduceAdd, Nat.reduceSub]
  repeat (first | refine Walk.cx ?_ | (refine Walk.cReg ?_; simp only [z169]) | (refine Walk.oq ?_; try walk_nrm) | (refine Walk.un ?_; walk_nrm))
  (refine Walk.os hf' h1 ?_; try walk_nrm)
  repeat (first | refine Walk.cx ?_ | (refine Walk.cReg ?_; simp only [z169]) | (refine Walk.oq ?_; try walk_nrm) | (refine Walk.un ?_; walk_nrm))
  exact Walk.ret0 rfl rfl Try.func169 rfl fun d => ⟨rfl, I'.at d⟩
theorem step15_c (hA : ∀ b, Apart V b) (I : RI X s w) (hb : s.n < 1152921504606846976) :
    CallW Try.prog main V 78 #[cntV X.p] w (fun v w' => v = .tuple #[] ∧ RI X (s.tick 1) w') := by
  obtain ⟨ms, hu⟩ := undStepperN
  have hc := cnt15_w (main := main) hA I hb
  clear I hb hA
  unfold cntV
  have hn1 := fun w => run_neq_iface (P := Try.prog) (w := w) 113 35 (.pointer (some ⟨X.p, 0, none⟩)) hu
  have hn2 := fun w es => ev_neq_iface (P := Try.prog) (w := w) 113 35 (.pointer (some ⟨X.p, 0, none⟩)) es hu
  refine callW_in Try.func78 code78_is fun fr cs => ?_
  simp only [Try.ntmps78, ez, Nat.reduceAdd, Nat.reduceSub]
  repeat (first | refine Walk.cx ?_ | (refine Walk.cReg ?_; simp only [z78]) | (refine Walk.oq ?_; try walk_nrm) | (refine Walk.un ?_; walk_nrm))
  refine Walk.invokeM und15s row15s X.p 0 (Post := fun v w' => v = .tuple #[] ∧ RI X (s.tick 1) w') ?_ (ho_of (by conv => lhs; whnf) (by kernel_rfl)) (by rfl) (by decide) rfl rfl Try.func169 (by kernel_rfl) (by rfl) ?_
  · try walk_nrm
    exact hc
  rintro v w' ⟨rfl, I'⟩
  clear hc
  walk_nrm
  repeat (first | refine Walk.cx ?_ | (refine Walk.cReg ?_; simp only [z78]) | (refine Walk.oq ?_; try walk_nrm) | (refine Walk.un ?_; walk_nrm))
  exact Walk.ret0 rfl rfl Try.func78 rfl fun d => ⟨rfl, I'.at d⟩
theorem step15_n (w : World) : CallV Try.prog main V 78 #[.nilIface] w (.tuple #[]) w := by
  obtain ⟨ms, hu⟩ := undStepperN
  have hn1 := fun w => run_neq_nilIface (P := Try.prog) (w := w) 113 hu
  have hn2 := fun w es => ev_neq_nilIface (P := Try.prog) (w := w) 113 es hu
  refine callW_in Try.func78 code78_is fun fr cs => ?_
  simp only [Try.ntmps78, ez, Nat.reduceAdd, Nat.reduceSub]
  repeat (first | refine Walk.cx ?_ | (refine Walk.cReg ?_; simp only [z78]) | (refine Walk.oq ?_; try walk_nrm) | (refine Walk.un ?_; walk_nrm))
  exact Walk.ret0 rfl rfl Try.func78 rfl fun d => ⟨rfl, d, rfl⟩
theorem step15 (hA : ∀ b, Apart V b) (I : RI X s w) (hb : s.n < 1152921504606846976) (hT : Tk X sv dl) :
    CallW Try.prog main V 78 #[sv] w (fun v w' => v = .tuple #[] ∧ RI X (s.tick dl) w') := by
  rcases hT with ⟨rfl, rfl⟩ | ⟨rfl, rfl⟩
  · exact step15_c hA I hb
  · intro fr cs
    refine (step15_n w fr cs).mono ?_
    rintro _ _ ⟨v, ⟨rfl, d, rfl⟩, rfl⟩
    exact ⟨_, ⟨rfl, I.at d⟩, rfl⟩
theorem rvl_mem {l : List Int} {a : Nat} (hl : l ≠ []) : l[min (a + 1) l.length - 1]? = some (rvl l a) := by
  have hp := List.length_pos_iff.2 hl
  unfold rvl
  rw [if_neg hl, List.getElem?_eq_getElem (by omega), List.getD_eq_getElem?_getD, List.getElem?_eq_getElem (by omega)]
  rfl
theorem rld_ce (hA : ∀ b, Apart V b) (I : RI X s w) (hb : s.n < 1152921504606846976) (i : Nat) (hi : i < X.k) (hl : s.ld i < 1152921504606846976) (he : X.ls i = []) :
    CallW Try.prog main V 168 #[.pointer (some ⟨X.rb i, 0, none⟩), cntV X.p] w (fun v w' => v = .int .i64 (rvl (X.ls i) (s.ld i)) ∧ RI X (s.load 1 i) w') := by
  obtain ⟨ms, hu⟩ := undStepperN
  have hf' : Free V ⟨X.rb i, 1, none⟩ := (hA (X.rb i)).1 _ rfl
  have hw1 : IntKind.wrap .i64 ((s.ld i : Int) + 1) = (s.ld i : Int) + 1 := by rw [IntKind.wrap_i64]; omega
  have hc := cnt15_w (main := main) hA I hb
  clear I
  unfold cntV
  have hn1 := fun w => run_neq_iface (P := Try.prog) (w := w) 113 35 (.pointer (some ⟨X.p, 0, none⟩)) hu
  have hn2 := fun w es => ev_neq_iface (P := Try.prog) (w := w) 113 35 (.pointer (some ⟨X.p, 0, none⟩)) es hu
  refine callW_in Try.func168 code168_is fun fr cs => ?_
  simp only [Try.ntmps168, ez, Nat.reduceAdd, Nat.reduceSub]
  repeat (first | refine Walk.cx ?_ | (refine Walk.cReg ?_; simp only [z168]) | (refine Walk.oq ?_; try walk_nrm) | (refine Walk.un ?_; walk_nrm))
  refine Walk.invokeM und15s row15s X.p 0 (Post := fun v w' => v = .tuple #[] ∧ RI X (s.tick 1) w') ?_ (ho_of (by conv => lhs; whnf) (by kernel_rfl)) (by rfl) (by decide) rfl rfl Try.func169 (by kernel_rfl) (by rfl) ?_
  · try walk_nrm
    exact hc
  rintro v w1 ⟨rfl, I1⟩
  clear hc hn1 hn2
  walk_nrm
  have c1 : w1.cell? ⟨X.rb i, 1, none⟩ = some (.int .i64 (s.ld i : Nat)) := (cell_of (I1.src i hi) 1).trans rfl
  have z1 : w1.frozen? ⟨X.rb i, 1, none⟩ = false := frozen_of (I1.src i hi) 1
  have I2 : RI X (s.load 1 i) (w1.setCell ⟨X.rb i, 1, none⟩ (.int .i64 ((s.ld i + 1 : Nat) : Int))) := I1.ldSet i hi
  rw [show ((s.ld i + 1 : Nat) : Int) = (s.ld i : Int) + 1 by simp] at I2
  have d0 : (w1.setCell ⟨X.rb i, 1, none⟩ (.int .i64 ((s.ld i : Int) + 1))).cell? ⟨X.rb i, 0, none⟩ = some (.slice (X.la i) (X.ls i).length (X.lc i)) := (cell_of (I2.src i hi) 0).trans rfl
  have d1 : (w1.setCell ⟨X.rb i, 1, none⟩ (.int .i64 ((s.ld i : Int) + 1))).cell? ⟨X.rb i, 1, none⟩ = some (.int .i64 ((s.ld i : Int) + 1)) := (cell_of (I2.src i hi) 1).trans (by simp [Rs.load, upd_same])
  have hr : rvl (X.ls i) (s.ld i) = 0 := by unfold rvl; rw [if_pos he]
  rw [he, List.length_nil] at d0
  rw [hr]
  clear hr he I1 hb hl hi
  generalize s.load 1 i = s' at *
  generalize (s.ld i : Int) = a at *
  repeat (first | refine Walk.cx ?_ | (refine Walk.cReg ?_; simp only [z168]) | (refine Walk.oq ?_; try walk_nrm) | (refine Walk.un ?_; walk_nrm))
  (refine Walk.os hf' c1 ?_; try walk_nrm)
  generalize w1.setCell ⟨X.rb i, 1, none⟩ (.int .i64 (a + 1)) = w2 at *
  clear c1 z1
  repeat (first | refine Walk.cx ?_ | (refine Walk.cReg ?_; simp only [z168]) | (refine Walk.oq ?_; try walk_nrm) | (refine Walk.un ?_; walk_nrm))
  exact Walk.on1 rfl rfl Try.func168 rfl (.stop fun d => ⟨_, ⟨rfl, I2.at d⟩, rfl⟩)
theorem rld_cm (hA : ∀ b, Apart V b) (I : RI X s w) (hb : s.n < 1152921504606846976) (i : Nat) (hi : i < X.k) (hl : s.ld i < 1152921504606846976) (he : X.ls i ≠ []) :
    CallW Try.prog main V 168 #[.pointer (some ⟨X.rb i, 0, none⟩), cntV X.p] w (fun v w' => v = .int .i64 (rvl (X.ls i) (s.ld i)) ∧ RI X (s.load 1 i) w') := by
  obtain ⟨ms, hu⟩ := undStepperN
  have hf' : Free V ⟨X.rb i, 1, none⟩ := (hA (X.rb i)).1 _ rfl
  have hw1 : IntKind.wrap .i64 ((s.ld i : Int) + 1) = (s.ld i : Int) + 1 := by rw [IntKind.wrap_i64]; omega
  have hc := cnt15_w (main := main) hA I hb
  clear I
  unfold cntV
  have hn1 := fun w => run_neq_iface (P := Try.prog) (w := w) 113 35 (.pointer (some ⟨X.p, 0, none⟩)) hu
  have hn2 := fun w es => ev_neq_iface (P := Try.prog) (w := w) 113 35 (.pointer (some ⟨X.p, 0, none⟩)) es hu
  refine callW_in Try.func168 code168_is fun fr cs => ?_
  simp only [Try.ntmps168, ez, Nat.reduceAdd, Nat.reduceSub]
  repeat (first | refine Walk.cx ?_ | (refine Walk.cReg ?_; simp only [z168]) | (refine Walk.oq ?_; try walk_nrm) | (refine Walk.un ?_; walk_nrm))
  refine Walk.invokeM und15s row15s X.p 0 (Post := fun v w' => v = .tuple #[] ∧ RI X (s.tick 1) w') ?_ (ho_of (by conv => lhs; whnf) (by kernel_rfl)) (by rfl) (by decide) rfl rfl Try.func169 (by kernel_rfl) (by rfl) ?_
  · try walk_nrm
    exact hc
  rintro v w1 ⟨rfl, I1⟩
  clear hc hn1 hn2
  walk_nrm
  have c1 : w1.cell? ⟨X.rb i, 1, none⟩ = some (.int .i64 (s.ld i : Nat)) := (cell_of (I1.src i hi) 1).trans rfl
  have z1 : w1.frozen? ⟨X.rb i, 1, none⟩ = false := frozen_of (I1.src i hi) 1
  have I2 : RI X (s.load 1 i) (w1.setCell ⟨X.rb i, 1, none⟩ (.int .i64 ((s.ld i + 1 : Nat) : Int))) := I1.ldSet i hi
  rw [show ((s.ld i + 1 : Nat) : Int) = (s.ld i : Int) + 1 by simp] at I2
  have d0 : (w1.setCell ⟨X.rb i, 1, none⟩ (.int .i64 ((s.ld i : Int) + 1))).cell? ⟨X.rb i, 0, none⟩ = some (.slice (X.la i) (X.ls i).length (X.lc i)) := (cell_of (I2.src i hi) 0).trans rfl
  have d1 : (w1.setCell ⟨X.rb i, 1, none⟩ (.int .i64 ((s.ld i : Int) + 1))).cell? ⟨X.rb i, 1, none⟩ = some (.int .i64 ((s.ld i : Int) + 1)) := (cell_of (I2.src i hi) 1).trans (by simp [Rs.load, upd_same])
  obtain ⟨b, arr, e, x1, x2⟩ := I2.num i hi he
  have hp := List.length_pos_iff.2 he
  have d2 := (cell_of x1 _).trans (x2 _ _ (rvl_mem (a := s.ld i) he))
  obtain ⟨j, hj⟩ : ∃ j, min (s.ld i + 1) (X.ls i).length - 1 = j := ⟨_, rfl⟩
  rw [hj] at d2
  have hmn := @events_min_ints Try.prog
  have hmin : min ((s.ld i : Int) + 1) ((X.ls i).length : Int) = (j : Int) + 1 := by omega
  have hw2 : IntKind.wrap .i64 (j : Int) = j := by rw [IntKind.wrap_i64]; omega
  have hj0 : (0 : Int) ≤ j := by omega
  have hjL : (j : Int) < (X.ls i).length := by omega
  have hjn : j < (X.ls i).length := by omega
  have hL0 : (((X.ls i).length : Int) == 0) = false := by rw [beq_eq_false_iff_ne]; omega
  rw [e] at d0
  generalize rvl (X.ls i) (s.ld i) = z at *
  generalize (X.ls i).length = L at *
  clear hp hj x1 x2 e I1 hb hl hi he
  generalize s.load 1 i = s' at *
  generalize (s.ld i : Int) = a at *
  repeat (first | refine Walk.cx ?_ | (refine Walk.cReg ?_; simp only [z168]) | (refine Walk.oq ?_; try walk_nrm) | (refine Walk.un ?_; walk_nrm))
  (refine Walk.os hf' c1 ?_; try walk_nrm)
  generalize w1.setCell ⟨X.rb i, 1, none⟩ (.int .i64 (a + 1)) = w2 at *
  clear c1 z1
  repeat (first | refine Walk.cx ?_ | (refine Walk.cReg ?_; simp only [z168]) | (refine Walk.oq ?_; try walk_nrm) | (refine Walk.un ?_; walk_nrm))
  (refine Walk.drawnC (by kernel_rfl) size168_6 (by kernel_rfl) (by kernel_rfl) (by decide) ?_; simp only [List.range, List.range.loop]; repeat (first | (refine Cm.oq ?_) | (refine Cm.unw (ho_of (by conv => lhs; whnf) (by kernel_rfl)) (by rfl) ?_; walk_nrm)))
  refine Cm.done ?_
  try walk_nrm
  repeat (first | refine Walk.cx ?_ | (refine Walk.cReg ?_; simp only [z168]) | (refine Walk.oq ?_; try walk_nrm) | (refine Walk.un ?_; walk_nrm))
  exact Walk.on1 rfl rfl Try.func168 rfl (.stop fun d => ⟨_, ⟨rfl, I2.at d⟩, rfl⟩)
theorem rld_ne (hA : ∀ b, Apart V b) (I : RI X s w) (hb : s.n < 1152921504606846976) (i : Nat) (hi : i < X.k) (hl : s.ld i < 1152921504606846976) (he : X.ls i = []) :
    CallW Try.prog main V 168 #[.pointer (some ⟨X.rb i, 0, none⟩), .nilIface] w (fun v w' => v = .int .i64 (rvl (X.ls i) (s.ld i)) ∧ RI X (s.load 0 i) w') := by
  obtain ⟨ms, hu⟩ := undStepperN
  have hf' : Free V ⟨X.rb i, 1, none⟩ := (hA (X.rb i)).1 _ rfl
  have hw1 : IntKind.wrap .i64 ((s.ld i : Int) + 1) = (s.ld i : Int) + 1 := by rw [IntKind.wrap_i64]; omega
  have hn1 := fun w => run_neq_nilIface (P := Try.prog) (w := w) 113 hu
  have hn2 := fun w es => ev_neq_nilIface (P := Try.prog) (w := w) 113 es hu
  have I1 : RI X (s.tick 0) w := I
  clear I
  refine callW_in Try.func168 code168_is fun fr cs => ?_
  simp only [Try.ntmps168, ez, Nat.reduceAdd, Nat.reduceSub]
  repeat (first | refine Walk.cx ?_ | (refine Walk.cReg ?_; simp only [z168]) | (refine Walk.oq ?_; try walk_nrm) | (refine Walk.un ?_; walk_nrm))
  clear hn1 hn2
  generalize w = w1 at *
  have c1 : w1.cell? ⟨X.rb i, 1, none⟩ = some (.int .i64 (s.ld i : Nat)) := (cell_of (I1.src i hi) 1).trans rfl
  have z1 : w1.frozen? ⟨X.rb i, 1, none⟩ = false := frozen_of (I1.src i hi) 1
  have I2 : RI X (s.load 0 i) (w1.setCell ⟨X.rb i, 1, none⟩ (.int .i64 ((s.ld i + 1 : Nat) : Int))) := I1.ldSet i hi
  rw [show ((s.ld i + 1 : Nat) : Int) = (s.ld i : Int) + 1 by simp] at I2
  have d0 : (w1.setCell ⟨X.rb i, 1, none⟩ (.int .i64 ((s.ld i : Int) + 1))).cell? ⟨X.rb i, 0, none⟩ = some (.slice (X.la i) (X.ls i).length (X.lc i)) := (cell_of (I2.src i hi) 0).trans rfl
  have d1 : (w1.setCell ⟨X.rb i, 1, none⟩ (.int .i64 ((s.ld i : Int) + 1))).cell? ⟨X.rb i, 1, none⟩ = some (.int .i64 ((s.ld i : Int) + 1)) := (cell_of (I2.src i hi) 1).trans (by simp [Rs.load, upd_same])
  have hr : rvl (X.ls i) (s.ld i) = 0 := by unfold rvl; rw [if_pos he]
  rw [he, List.length_nil] at d0
  rw [hr]
  clear hr he I1 hb hl hi
  generalize s.load 0 i = s' at *
  generalize (s.ld i : Int) = a at *
  repeat (first | refine Walk.cx ?_ | (refine Walk.cReg ?_; simp only [z168]) | (refine Walk.oq ?_; try walk_nrm) | (refine Walk.un ?_; walk_nrm))
  (refine Walk.os hf' c1 ?_; try walk_nrm)
  generalize w1.setCell ⟨X.rb i, 1, none⟩ (.int .i64 (a + 1)) = w2 at *
  clear c1 z1
  repeat (first | refine Walk.cx ?_ | (refine Walk.cReg ?_; simp only [z168]) | (refine Walk.oq ?_; try walk_nrm) | (refine Walk.un ?_; walk_nrm))
  exact Walk.on1 rfl rfl Try.func168 rfl (.stop fun d => ⟨_, ⟨rfl, I2.at d⟩, rfl⟩)
theorem rld_nm (hA : ∀ b, Apart V b) (I : RI X s w) (hb : s.n < 1152921504606846976) (i : Nat) (hi : i < X.k) (hl : s.ld i < 1152921504606846976) (he : X.ls i ≠ []) :
    CallW Try.prog main V 168 #[.pointer (some ⟨X.rb i, 0, none⟩), .nilIface] w (fun v w' => v = .int .i64 (rvl (X.ls i) (s.ld i)) ∧ RI X (s.load 0 i) w') := by
  obtain ⟨ms, hu⟩ := undStepperN
  have hf' : Free V ⟨X.rb i, 1, none⟩ := (hA (X.rb i)).1 _ rfl
  have hw1 : IntKind.wrap .i64 ((s.ld i : Int) + 1) = (s.ld i : Int) + 1 := by rw [IntKind.wrap_i64]; omega
  have hn1 := fun w => run_neq_nilIface (P := Try.prog) (w := w) 113 hu
  have hn2 := fun w es => ev_neq_nilIface (P := Try.prog) (w := w) 113 es hu
  have I1 : RI X (s.tick 0) w := I
  clear I
  refine callW_in Try.func168 code168_is fun fr cs => ?_
  simp only [Try.ntmps168, ez, Nat.reduceAdd, Nat.reduceSub]
  repeat (first | refine Walk.cx ?_ | (refine Walk.cReg ?_; simp only [z168]) | (refine Walk.oq ?_; try walk_nrm) | (refine Walk.un ?_; walk_nrm))
  clear hn1 hn2
  generalize w = w1 at *
  have c1 : w1.cell? ⟨X.rb i, 1, none⟩ = some (.int .i64 (s.ld i : Nat)) := (cell_of (I1.src i hi) 1).trans rfl
  have z1 : w1.frozen? ⟨X.rb i, 1, none⟩ = false := frozen_of (I1.src i hi) 1
  have I2 : RI X (s.load 0 i) (w1.setCell ⟨X.rb i, 1, none⟩ (.int .i64 ((s.ld i + 1 : Nat) : Int))) := I1.ldSet i hi
  rw [show ((s.ld i + 1 : Nat) : Int) = (s.ld i : Int) + 1 by simp] at I2
  have d0 : (w1.setCell ⟨X.rb i, 1, none⟩ (.int .i64 ((s.ld i : Int) + 1))).cell? ⟨X.rb i, 0, none⟩ = some (.slice (X.la i) (X.ls i).length (X.lc i)) := (cell_of (I2.src i hi) 0).trans rfl
  have d1 : (w1.setCell ⟨X.rb i, 1, none⟩ (.int .i64 ((s.ld i : Int) + 1))).cell? ⟨X.rb i, 1, none⟩ = some (.int .i64 ((s.ld i : Int) + 1)) := (cell_of (I2.src i hi) 1).trans (by simp [Rs.load, upd_same])
  obtain ⟨b, arr, e, x1, x2⟩ := I2.num i hi he
  have hp := List.length_pos_iff.2 he
  have d2 := (cell_of x1 _).trans (x2 _ _ (rvl_mem (a := s.ld i) he))
  obtain ⟨j, hj⟩ : ∃ j, min (s.ld i + 1) (X.ls i).length - 1 = j := ⟨_, rfl⟩
  rw [hj] at d2
  have hmn := @events_min_ints Try.prog
  have hmin : min ((s.ld i : Int) + 1) ((X.ls i).length : Int) = (j : Int) + 1 := by omega
  have hw2 : IntKind.wrap .i64 (j : Int) = j := by rw [IntKind.wrap_i64]; omega
  have hj0 : (0 : Int) ≤ j := by omega
  have hjL : (j : Int) < (X.ls i).length := by omega
  have hjn : j < (X.ls i).length := by omega
  have hL0 : (((X.ls i).length : Int) == 0) = false := by rw [beq_eq_false_iff_ne]; omega
  rw [e] at d0
  generalize rvl (X.ls i) (s.ld i) = z at *
  generalize (X.ls i).length = L at *
  clear hp hj x1 x2 e I1 hb hl hi he
  generalize s.load 0 i = s' at *
  generalize (s.ld i : Int) = a at *
  repeat (first | refine Walk.cx ?_ | (refine Walk.cReg ?_; simp only [z168]) | (refine Walk.oq ?_; try walk_nrm) | (refine Walk.un ?_; walk_nrm))
  (refine Walk.os hf' c1 ?_; try walk_nrm)
  generalize w1.setCell ⟨X.rb i, 1, none⟩ (.int .i64 (a + 1)) = w2 at *
  clear c1 z1
  repeat (first | refine Walk.cx ?_ | (refine Walk.cReg ?_; simp only [z168]) | (refine Walk.oq ?_; try walk_nrm) | (refine Walk.un ?_; walk_nrm))
  (refine Walk.drawnC (by kernel_rfl) size168_6 (by kernel_rfl) (by kernel_rfl) (by decide) ?_; simp only [List.range, List.range.loop]; repeat (first | (refine Cm.oq ?_) | (refine Cm.unw (ho_of (by conv => lhs; whnf) (by kernel_rfl)) (by rfl) ?_; walk_nrm)))
  refine Cm.done ?_
  try walk_nrm
  repeat (first | refine Walk.cx ?_ | (refine Walk.cReg ?_; simp only [z168]) | (refine Walk.oq ?_; try walk_nrm) | (refine Walk.un ?_; walk_nrm))
  exact Walk.on1 rfl rfl Try.func168 rfl (.stop fun d => ⟨_, ⟨rfl, I2.at d⟩, rfl⟩)
theorem rload15 (hA : ∀ b, Apart V b) (I : RI X s w) (hb : s.n < 1152921504606846976) (i : Nat) (hi : i < X.k) (hl : s.ld i < 1152921504606846976) (hT : Tk X sv dl) :
    CallW Try.prog main V 168 #[.pointer (some ⟨X.rb i, 0, none⟩), sv] w (fun v w' => v = .int .i64 (rvl (X.ls i) (s.ld i)) ∧ RI X (s.load dl i) w') := by
  rcases hT with ⟨rfl, rfl⟩ | ⟨rfl, rfl⟩
  · by_cases he : X.ls i = []
    · exact rld_ce hA I hb i hi hl he
    · exact rld_cm hA I hb i hi hl he
  · by_cases he : X.ls i = []
    · exact rld_ne hA I hb i hi hl he
    · exact rld_nm hA I hb i hi hl he
end
end
end Go.Proofs.Ytgfajibjedfkdaa
