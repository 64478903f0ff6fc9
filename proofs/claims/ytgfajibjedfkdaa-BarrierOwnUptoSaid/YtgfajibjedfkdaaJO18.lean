/- Part 18. -/
import Derived.Test.YtgfajibjedfkdaaJO14
import Derived.Test.YtgfajibjedfkdaaJO17
set_option linter.unusedSimpArgs false
set_option linter.unusedVariables false
set_option linter.unusedVariables false
set_option maxHeartbeats 8000000
set_option maxRecDepth 100000
namespace Go.Proofs.Ytgfajibjedfkdaa
open Go.Conc Go.RowKit Go.Relay
open Go.ConcN (upd upd_ne upd_same)
section
noncomputable def reg14_0 := rg Try.f14.body [0]
noncomputable def reg14_1 := rg Try.f14.body [1, 0, 0]
noncomputable def reg14_2 := rg Try.f14.body [1, 0, 1, 0, 0]
noncomputable def reg14_3 := rg Try.f14.body [1, 1, 0, 0]
noncomputable def reg14_4 := rg Try.f14.body [1, 1, 0, 1, 0, 0]
noncomputable def reg14_5 := rg Try.f14.body [1, 1, 1, 0]
noncomputable def reg14_6 := rg Try.f14.body [1, 1, 1, 1, 0]
noncomputable def reg14_8 := rg Try.f14.body [1, 1, 1, 1, 1, 0, 0]
noncomputable def reg14_9 := rg Try.f14.body [1, 1, 1, 1, 1, 0, 1, 0, 0]
noncomputable def reg14_10 := rg Try.f14.body [1, 1, 1, 1, 1, 0, 1, 1, 0]
noncomputable def reg14_11 := rg Try.f14.body [1, 1, 1, 1, 1, 0, 1, 1, 1, 0, 0]
noncomputable def reg14_7 := rg Try.f14.body [1, 1, 1, 1, 1, 0, 1, 1, 1, 1, 0]
theorem z14 : List.range reg14_0.size = [0, 1] ∧ List.range reg14_1.size = [0, 1, 2, 3, 4, 5] ∧ List.range reg14_2.size = [0, 1] ∧ List.range reg14_3.size = [0, 1] ∧ List.range reg14_4.size = [0, 1] ∧ List.range reg14_5.size = [0, 1, 2, 3] ∧ List.range reg14_6.size = [0] ∧ List.range reg14_7.size = [0, 1, 2, 3, 4, 5, 6, 7, 8] ∧ List.range reg14_8.size = [0, 1] ∧ List.range reg14_9.size = [0, 1, 2, 3, 4, 5, 6, 7, 8] ∧ List.range reg14_10.size = [0, 1] ∧ List.range reg14_11.size = [0, 1, 2, 3, 4, 5, 6, 7, 8] := by refine ⟨?_, ?_, ?_, ?_, ?_, ?_, ?_, ?_, ?_, ?_, ?_, ?_⟩ <;> kernel_rfl
theorem code14_is : Try.f14.body = some (.seq (.region 0 reg14_0 false) (.seq (.seq (.region 1 reg14_1 false) (.cond (.tmp 17 ) (.seq (.region 2 reg14_2 false) (.ret)) (.skip))) (.seq (.seq (.region 3 reg14_3 false) (.cond (.tmp 19 ) (.seq (.region 4 reg14_4 false) (.ret)) (.skip))) (.seq (.region 5 reg14_5 false) (.seq (.region 6 reg14_6 false) (.block 0 (.seq (.region 8 reg14_8 false) (.cond (.tmp 31 ) (.seq (.region 9 reg14_9 false) (.ret)) (.seq (.region 10 reg14_10 false) (.cond (.tmp 40 ) (.seq (.region 11 reg14_11 false) (.ret)) (.seq (.region 7 reg14_7 false) (.ret)))))))))))) := by kernel_rfl
section
variable {main : Bool} {V : Nat → Option Wait} {X : RX} {s : Rs} {w : World} {sv : Value} {dl : Nat}
theorem wait_kind1 (bv : Value) (q tries way : Int) (hw : way < 1) (w : World) : CallV Try.prog main V 14 #[bv, sv, .int .i64 q, .int .i64 tries, .int .i64 way] w (.tuple #[.int .i64 0, .int .i64 2]) w := by
  have h1 : decide (way < 1) = true := decide_eq_true hw
  refine callW_in Try.func14 code14_is fun fr cs => ?_
  simp only [Try.ntmps14, ez, Nat.reduceAdd, Nat.reduceSub]
  repeat (first | refine Walk.cx ?_ | (refine Walk.cReg ?_; simp only [z14]) | (refine Walk.oq ?_; try walk_nrm) | (refine Walk.un ?_; walk_nrm))
  exact Walk.on2 rfl rfl Try.func14 rfl (.stop fun d => ⟨_, ⟨rfl, d, rfl⟩, rfl⟩)
theorem wait_kind3 (bv : Value) (q tries way : Int) (hw : 3 < way) (w : World) : CallV Try.prog main V 14 #[bv, sv, .int .i64 q, .int .i64 tries, .int .i64 way] w (.tuple #[.int .i64 0, .int .i64 2]) w := by
  have h1 : decide (way < 1) = false := decide_eq_false (by omega)
  have h3 : decide (3 < way) = true := decide_eq_true hw
  refine callW_in Try.func14 code14_is fun fr cs => ?_
  simp only [Try.ntmps14, ez, Nat.reduceAdd, Nat.reduceSub]
  repeat (first | refine Walk.cx ?_ | (refine Walk.cReg ?_; simp only [z14]) | (refine Walk.oq ?_; try walk_nrm) | (refine Walk.un ?_; walk_nrm))
  exact Walk.on2 rfl rfl Try.func14 rfl (.stop fun d => ⟨_, ⟨rfl, d, rfl⟩, rfl⟩)
theorem wait_kind (bv : Value) (q tries way : Int) (hw : way < 1 ∨ 3 < way) (w : World) : CallV Try.prog main V 14 #[bv, sv, .int .i64 q, .int .i64 tries, .int .i64 way] w (.tuple #[.int .i64 0, .int .i64 2]) w := by
  rcases hw with h | h
  · exact wait_kind1 bv q tries way h w
  · exact wait_kind3 bv q tries way h w
theorem wait_none (bv : Value) (q tries way : Int) (h1 : 1 ≤ way) (h3 : way ≤ 3) (w : World) (hn : CallV Try.prog main V 41 #[bv] w (.bool true) w) : CallV Try.prog main V 14 #[bv, sv, .int .i64 q, .int .i64 tries, .int .i64 way] w (.tuple #[.int .i64 0, .int .i64 6]) w := by
  have g1 : decide (way < 1) = false := decide_eq_false (by omega)
  have g3 : decide (3 < way) = false := decide_eq_false (by omega)
  clear h1 h3
  refine callW_in Try.func14 code14_is fun fr cs => ?_
  simp only [Try.ntmps14, ez, Nat.reduceAdd, Nat.reduceSub]
  repeat (first | refine Walk.cx ?_ | (refine Walk.cReg ?_; simp only [z14]) | (refine Walk.oq ?_; try walk_nrm) | (refine Walk.un ?_; walk_nrm))
  refine Walk.callV (x := .bool true) (W := w) ?_ (ho_of (by conv => lhs; whnf) (by kernel_rfl)) (by rfl) (by decide) rfl Try.func41 (by kernel_rfl) (by rfl) ?_
  · try walk_nrm
    exact hn
  clear hn
  walk_nrm
  repeat (first | refine Walk.cx ?_ | (refine Walk.cReg ?_; simp only [z14]) | (refine Walk.oq ?_; try walk_nrm) | (refine Walk.un ?_; walk_nrm))
  exact Walk.on2 rfl rfl Try.func14 rfl (.stop fun d => ⟨_, ⟨rfl, d, rfl⟩, rfl⟩)
theorem wait_1 (hA : ∀ b, Apart V b) (hT : Tk X sv dl) (hk : 0 < X.k) (hkm : X.k ≤ 1000000) (q tries : Int) (I : RI X s w) (hb : Bd X s ((X.k + 2) * 1024)) :
    CallW Try.prog main V 14 #[.pointer (some ⟨X.bb, 0, none⟩), sv, .int .i64 q, .int .i64 tries, .int .i64 1] w (fun v w' => v = .tuple #[.int .i64 (togR X.ls X.k dl q 1 (triesN tries) 0 s).2.1, .int .i64 (togR X.ls X.k dl q 1 (triesN tries) 0 s).2.2] ∧ RI X (togR X.ls X.k dl q 1 (triesN tries) 0 s).1 w') := by
  have hn := none15_no (main := main) (V := V) I hk
  have hmn := @events_min_ints Try.prog
  have hmx := @events_max_ints Try.prog
  have htr : min (max tries 1) 1024 = ((triesN tries : Nat) : Int) := by unfold triesN; omega
  have hc := together15_1 (main := main) hA hT hk hkm q (triesN tries) (by unfold triesN; omega) I (hb.le (by omega))
  clear hb I hk hkm hT hA
  generalize togR X.ls X.k dl q 1 (triesN tries) 0 s = R at *
  generalize triesN tries = N at *
  refine callW_in Try.func14 code14_is fun fr cs => ?_
  simp only [Try.ntmps14, ez, Nat.reduceAdd, Nat.reduceSub]
  repeat (first | refine Walk.cx ?_ | (refine Walk.cReg ?_; simp only [z14]) | (refine Walk.oq ?_; try walk_nrm) | (refine Walk.un ?_; walk_nrm))
  refine Walk.callV (x := .bool false) (W := w) ?_ (ho_of (by conv => lhs; whnf) (by kernel_rfl)) (by rfl) (by decide) rfl Try.func41 (by kernel_rfl) (by rfl) ?_
  · try walk_nrm
    exact hn
  clear hn
  walk_nrm
  repeat (first | refine Walk.cx ?_ | (refine Walk.cReg ?_; simp only [z14]) | (refine Walk.oq ?_; try walk_nrm) | (refine Walk.un ?_; walk_nrm))
  refine Walk.callW (Post := fun v w' => v = .tuple #[.int .i64 R.2.1, .int .i64 R.2.2] ∧ RI X R.1 w') ?_ (ho_of (by conv => lhs; whnf) (by kernel_rfl)) (by rfl) (by decide) rfl Try.func43 (by kernel_rfl) (by rfl) ?_
  · try walk_nrm
    exact hc
  rintro v w1 ⟨rfl, I1⟩
  clear hc hmn hmx htr
  walk_nrm
  repeat (first | refine Walk.cx ?_ | (refine Walk.cReg ?_; simp only [z14]) | (refine Walk.oq ?_; try walk_nrm) | (refine Walk.un ?_; walk_nrm))
  exact Walk.on2 rfl rfl Try.func14 rfl (.stop fun d => ⟨_, ⟨rfl, I1.at d⟩, rfl⟩)
theorem wait_2 (hA : ∀ b, Apart V b) (hT : Tk X sv dl) (hk : 0 < X.k) (hkm : X.k ≤ 1000000) (q tries : Int) (I : RI X s w) (hb : Bd X s ((X.k + 2) * 1024)) :
    CallW Try.prog main V 14 #[.pointer (some ⟨X.bb, 0, none⟩), sv, .int .i64 q, .int .i64 tries, .int .i64 2] w (fun v w' => v = .tuple #[.int .i64 (oneR X.ls X.k dl q (triesN tries) 0 9223372036854775807 s).2.1, .int .i64 (oneR X.ls X.k dl q (triesN tries) 0 9223372036854775807 s).2.2] ∧ RI X (oneR X.ls X.k dl q (triesN tries) 0 9223372036854775807 s).1 w') := by
  have hn := none15_no (main := main) (V := V) I hk
  have hmn := @events_min_ints Try.prog
  have hmx := @events_max_ints Try.prog
  have htr : min (max tries 1) 1024 = ((triesN tries : Nat) : Int) := by unfold triesN; omega
  have hc := oneByOne15 (main := main) hA hT hk hkm q (triesN tries) (by unfold triesN; omega) I (hb.le (by omega))
  clear hb I hk hkm hT hA
  generalize oneR X.ls X.k dl q (triesN tries) 0 9223372036854775807 s = R at *
  generalize triesN tries = N at *
  refine callW_in Try.func14 code14_is fun fr cs => ?_
  simp only [Try.ntmps14, ez, Nat.reduceAdd, Nat.reduceSub]
  repeat (first | refine Walk.cx ?_ | (refine Walk.cReg ?_; simp only [z14]) | (refine Walk.oq ?_; try walk_nrm) | (refine Walk.un ?_; walk_nrm))
  refine Walk.callV (x := .bool false) (W := w) ?_ (ho_of (by conv => lhs; whnf) (by kernel_rfl)) (by rfl) (by decide) rfl Try.func41 (by kernel_rfl) (by rfl) ?_
  · try walk_nrm
    exact hn
  clear hn
  walk_nrm
  repeat (first | refine Walk.cx ?_ | (refine Walk.cReg ?_; simp only [z14]) | (refine Walk.oq ?_; try walk_nrm) | (refine Walk.un ?_; walk_nrm))
  refine Walk.callW (Post := fun v w' => v = .tuple #[.int .i64 R.2.1, .int .i64 R.2.2] ∧ RI X R.1 w') ?_ (ho_of (by conv => lhs; whnf) (by kernel_rfl)) (by rfl) (by decide) rfl Try.func42 (by kernel_rfl) (by rfl) ?_
  · try walk_nrm
    exact hc
  rintro v w1 ⟨rfl, I1⟩
  clear hc hmn hmx htr
  walk_nrm
  repeat (first | refine Walk.cx ?_ | (refine Walk.cReg ?_; simp only [z14]) | (refine Walk.oq ?_; try walk_nrm) | (refine Walk.un ?_; walk_nrm))
  exact Walk.on2 rfl rfl Try.func14 rfl (.stop fun d => ⟨_, ⟨rfl, I1.at d⟩, rfl⟩)
theorem wait_3 (hA : ∀ b, Apart V b) (hT : Tk X sv dl) (hk : 0 < X.k) (hkm : X.k ≤ 1000000) (q tries : Int) (I : RI X s w) (hb : Bd X s ((X.k + 2) * 1024)) :
    CallW Try.prog main V 14 #[.pointer (some ⟨X.bb, 0, none⟩), sv, .int .i64 q, .int .i64 tries, .int .i64 3] w (fun v w' => v = .tuple #[.int .i64 (togR X.ls X.k dl q 8 (triesN tries) 0 s).2.1, .int .i64 (togR X.ls X.k dl q 8 (triesN tries) 0 s).2.2] ∧ RI X (togR X.ls X.k dl q 8 (triesN tries) 0 s).1 w') := by
  have hn := none15_no (main := main) (V := V) I hk
  have hmn := @events_min_ints Try.prog
  have hmx := @events_max_ints Try.prog
  have htr : min (max tries 1) 1024 = ((triesN tries : Nat) : Int) := by unfold triesN; omega
  have hc := together15_8 (main := main) hA hT hk hkm q (triesN tries) (by unfold triesN; omega) I (hb.le (by omega))
  clear hb I hk hkm hT hA
  generalize togR X.ls X.k dl q 8 (triesN tries) 0 s = R at *
  generalize triesN tries = N at *
  refine callW_in Try.func14 code14_is fun fr cs => ?_
  simp only [Try.ntmps14, ez, Nat.reduceAdd, Nat.reduceSub]
  repeat (first | refine Walk.cx ?_ | (refine Walk.cReg ?_; simp only [z14]) | (refine Walk.oq ?_; try walk_nrm) | (refine Walk.un ?_; walk_nrm))
  refine Walk.callV (x := .bool false) (W := w) ?_ (ho_of (by conv => lhs; whnf) (by kernel_rfl)) (by rfl) (by decide) rfl Try.func41 (by kernel_rfl) (by rfl) ?_
  · try walk_nrm
    exact hn
  clear hn
  walk_nrm
  repeat (first | refine Walk.cx ?_ | (refine Walk.cReg ?_; simp only [z14]) | (refine Walk.oq ?_; try walk_nrm) | (refine Walk.un ?_; walk_nrm))
  refine Walk.callW (Post := fun v w' => v = .tuple #[.int .i64 R.2.1, .int .i64 R.2.2] ∧ RI X R.1 w') ?_ (ho_of (by conv => lhs; whnf) (by kernel_rfl)) (by rfl) (by decide) rfl Try.func43 (by kernel_rfl) (by rfl) ?_
  · try walk_nrm
    exact hc
  rintro v w1 ⟨rfl, I1⟩
  clear hc hmn hmx htr
  walk_nrm
  repeat (first | refine Walk.cx ?_ | (refine Walk.cReg ?_; simp only [z14]) | (refine Walk.oq ?_; try walk_nrm) | (refine Walk.un ?_; walk_nrm))
  exact Walk.on2 rfl rfl Try.func14 rfl (.stop fun d => ⟨_, ⟨rfl, I1.at d⟩, rfl⟩)
theorem wait15 (hA : ∀ b, Apart V b) (hT : Tk X sv dl) (hkm : X.k ≤ 1000000) (q tries way : Int) (I : RI X s w) (hb : Bd X s ((X.k + 2) * 1024)) :
    CallW Try.prog main V 14 #[.pointer (some ⟨X.bb, 0, none⟩), sv, .int .i64 q, .int .i64 tries, .int .i64 way] w (fun v w' => v = .tuple #[.int .i64 (waitR X.ls X.k dl q tries way s).2.1, .int .i64 (waitR X.ls X.k dl q tries way s).2.2] ∧ RI X (waitR X.ls X.k dl q tries way s).1 w') := by
  unfold waitR
  by_cases hw : way < 1 ∨ 3 < way
  · rw [if_pos hw]
    intro fr cs
    refine (wait_kind (.pointer (some ⟨X.bb, 0, none⟩)) q tries way hw w fr cs).mono ?_
    rintro _ _ ⟨v, ⟨rfl, d, rfl⟩, rfl⟩
    exact ⟨_, ⟨rfl, I.at d⟩, rfl⟩
  · rw [if_neg hw]
    by_cases hk : X.k = 0
    · rw [if_pos hk]
      have hc := I.slCell
      rw [hk] at hc
      intro fr cs
      refine (wait_none (.pointer (some ⟨X.bb, 0, none⟩)) q tries way (by omega) (by omega) w (none15_yes X.bb _ _ w hc) fr cs).mono ?_
      rintro _ _ ⟨v, ⟨rfl, d, rfl⟩, rfl⟩
      exact ⟨_, ⟨rfl, I.at d⟩, rfl⟩
    · rw [if_neg hk]
      have h3 : way = 1 ∨ way = 2 ∨ way = 3 := by omega
      rcases h3 with rfl | rfl | rfl
      · rw [if_neg (by decide), if_neg (by decide)]
        exact wait_1 hA hT (by omega) hkm q tries I hb
      · rw [if_pos rfl]
        exact wait_2 hA hT (by omega) hkm q tries I hb
      · rw [if_neg (by decide), if_pos rfl]
        exact wait_3 hA hT (by omega) hkm q tries I hb
end
end
section
noncomputable def reg13_0 := rg Try.f13.body [0]
noncomputable def reg13_1 := rg Try.f13.body [1, 0]
noncomputable def reg13_2 := rg Try.f13.body [1, 1, 0]
theorem z13 : List.range reg13_0.size = [0] ∧ List.range reg13_1.size = [0, 1, 2, 3, 4, 5] ∧ List.range reg13_2.size = [0, 1, 2, 3, 4] := by refine ⟨?_, ?_, ?_⟩ <;> kernel_rfl
theorem code13_is : Try.f13.body = some (.seq (.region 0 reg13_0 false) (.seq (.region 1 reg13_1 false) (.seq (.region 2 reg13_2 false) (.ret)))) := by kernel_rfl
theorem SbI.ds {T : Nat} {w0 w : World} {g m cap : Nat} {xs : List (Option Nat)} (I : SbI T w0 g m cap xs w) : DsM g xs.length cap (fun k => xs.getD k none) w := by
  have hl := I.len
  rcases I.row.2 with ⟨e, _⟩ | ⟨g', cap', cur, e, _, hg, hle, hmx, hsz, ht⟩
  · cases e
  · injection e with e1 _ e3
    injection e1 with e1
    injection e1 with e1 _
    subst e1 e3
    refine ⟨⟨cur, hg, by omega, fun k hk => ?_⟩, by omega, hmx⟩
    have h2 : (cur.toList.take (m * 1))[k]? = some (srcO (xs.getD k none)) := by
      rw [ht, List.getElem?_map, List.getElem?_eq_getElem hk, List.getD_eq_getElem?_getD, List.getElem?_eq_getElem hk]
      rfl
    rw [List.getElem?_take, if_pos (by omega)] at h2
    simpa using h2
structure NewB (w : World) (K : List (Option Nat)) (bb g sc : Nat) (w' : World) : Prop where
  bar : w'.heap[bb]? = some (.cells #[.slice (some ⟨g, 0, none⟩) K.length sc, .int .u32 0] 54)
  lo : w.heap.size ≤ bb
  src : ∃ arr : Array Value, w'.heap[g]? = some (.cells arr 32) ∧ ∀ (i r : Nat), K[i]? = some (some r) → arr[i]? = some (srcV r)
  cap : K.length ≤ sc
  old : ∀ b, b < w.heap.size → w'.heap[b]? = w.heap[b]?
  size : w.heap.size ≤ w'.heap.size
theorem NewB.at {w : World} {K : List (Option Nat)} {bb g sc : Nat} {w' : World} (h : NewB w K bb g sc w') (d : Nat) : NewB w K bb g sc (w'.at d) := ⟨h.bar, h.lo, h.src, h.cap, h.old, h.size⟩
section
variable {main : Bool} {V : Nat → Option Wait}
theorem newB_n (r : Nat) (ba : Option Addr) (bn bc n m : Nat) (w : World) (D1 D2 : Nat → Nat → World → Prop)
    (hc : CallW Try.prog main V 38 #[.slice (some ⟨w.heap.size + 1, 0, none⟩) 2 2] ((w.alloc (.cells #[.nilIface] 32)).alloc (.cells #[.slice (some ⟨w.heap.size, 0, none⟩) 1 1, .slice ba bn bc] 25)) (fun v w' => ∃ g cap, v = .slice (some ⟨g, 0, none⟩) n cap ∧ D1 g cap w'))
    (hd : ∀ g cap w', D1 g cap w' → CallW Try.prog main V 39 #[.slice (some ⟨g, 0, none⟩) n cap, .func (.func 40) #[] #[]] w' (fun v w2 => v = .slice (some ⟨g, 0, none⟩) m cap ∧ D2 g cap w2)) :
    CallW Try.prog main V 13 #[.nilIface, .slice ba bn bc] w (fun v w' => ∃ g cap w2 d, D2 g cap w2 ∧ v = .pointer (some ⟨w2.heap.size, 0, none⟩) ∧ w' = (w2.alloc (.cells #[.slice (some ⟨g, 0, none⟩) m cap, .int .u32 0] 54)).at d) := by
  have s1 : (w.alloc (.cells #[.nilIface] 32)).heap.size = w.heap.size + 1 := by simp
  refine callW_in Try.func13 code13_is fun fr cs => ?_
  simp only [Try.ntmps13, ez, Nat.reduceAdd, Nat.reduceSub]
  repeat (first | refine Walk.cx ?_ | (refine Walk.cReg ?_; simp only [z13]) | (refine Walk.oq ?_; try walk_nrm) | (refine Walk.un ?_; walk_nrm))
  (refine Walk.oa ?_; try walk_nrm)
  generalize w.heap.size = T at *
  generalize w.alloc (.cells #[.nilIface] 32) = w1 at *
  repeat (first | (refine Walk.oq ?_; try walk_nrm) | (refine Walk.un ?_; walk_nrm))
  (refine Walk.oa ?_; try walk_nrm)
  try rw [s1]
  generalize w1.alloc (.cells #[.slice (some ⟨T, 0, none⟩) 1 1, .slice ba bn bc] 25) = w2 at *
  clear s1
  repeat (first | refine Walk.cx ?_ | (refine Walk.cReg ?_; simp only [z13]) | (refine Walk.oq ?_; try walk_nrm) | (refine Walk.un ?_; walk_nrm))
  refine Walk.callW (Post := fun v w' => ∃ g cap, v = .slice (some ⟨g, 0, none⟩) n cap ∧ D1 g cap w') ?_ (ho_of (by conv => lhs; whnf) (by kernel_rfl)) (by rfl) (by decide) rfl Try.func38 (by kernel_rfl) (by rfl) ?_
  · try walk_nrm
    exact hc
  rintro v w3 ⟨g, cap, rfl, h1⟩
  have hd1 := hd g cap w3 h1
  clear hc hd h1
  walk_nrm
  repeat (first | refine Walk.cx ?_ | (refine Walk.cReg ?_; simp only [z13]) | (refine Walk.oq ?_; try walk_nrm) | (refine Walk.un ?_; walk_nrm))
  refine Walk.callW (Post := fun v w2 => v = .slice (some ⟨g, 0, none⟩) m cap ∧ D2 g cap w2) ?_ (ho_of (by conv => lhs; whnf) (by kernel_rfl)) (by rfl) (by decide) rfl Try.func39 (by kernel_rfl) (by rfl) ?_
  · try walk_nrm
    exact hd1
  rintro v w4 ⟨rfl, h2⟩
  clear hd1
  walk_nrm
  repeat (first | refine Walk.cx ?_ | (refine Walk.cReg ?_; simp only [z13]) | (refine Walk.oq ?_; try walk_nrm) | (refine Walk.un ?_; walk_nrm))
  (refine Walk.oa ?_; try walk_nrm)
  repeat (first | refine Walk.cx ?_ | (refine Walk.cReg ?_; simp only [z13]) | (refine Walk.oq ?_; try walk_nrm) | (refine Walk.un ?_; walk_nrm))
  exact Walk.on1 rfl rfl Try.func13 rfl (.stop fun d => ⟨_, ⟨g, cap, w4, d, h2, rfl, rfl⟩, rfl⟩)
theorem newB_s (r : Nat) (ba : Option Addr) (bn bc n m : Nat) (w : World) (D1 D2 : Nat → Nat → World → Prop)
    (hc : CallW Try.prog main V 38 #[.slice (some ⟨w.heap.size + 1, 0, none⟩) 2 2] ((w.alloc (.cells #[.iface 27 (.pointer (some ⟨r, 0, none⟩))] 32)).alloc (.cells #[.slice (some ⟨w.heap.size, 0, none⟩) 1 1, .slice ba bn bc] 25)) (fun v w' => ∃ g cap, v = .slice (some ⟨g, 0, none⟩) n cap ∧ D1 g cap w'))
    (hd : ∀ g cap w', D1 g cap w' → CallW Try.prog main V 39 #[.slice (some ⟨g, 0, none⟩) n cap, .func (.func 40) #[] #[]] w' (fun v w2 => v = .slice (some ⟨g, 0, none⟩) m cap ∧ D2 g cap w2)) :
    CallW Try.prog main V 13 #[.iface 27 (.pointer (some ⟨r, 0, none⟩)), .slice ba bn bc] w (fun v w' => ∃ g cap w2 d, D2 g cap w2 ∧ v = .pointer (some ⟨w2.heap.size, 0, none⟩) ∧ w' = (w2.alloc (.cells #[.slice (some ⟨g, 0, none⟩) m cap, .int .u32 0] 54)).at d) := by
  have s1 : (w.alloc (.cells #[.iface 27 (.pointer (some ⟨r, 0, none⟩))] 32)).heap.size = w.heap.size + 1 := by simp
  refine callW_in Try.func13 code13_is fun fr cs => ?_
  simp only [Try.ntmps13, ez, Nat.reduceAdd, Nat.reduceSub]
  repeat (first | refine Walk.cx ?_ | (refine Walk.cReg ?_; simp only [z13]) | (refine Walk.oq ?_; try walk_nrm) | (refine Walk.un ?_; walk_nrm))
  (refine Walk.oa ?_; try walk_nrm)
  generalize w.heap.size = T at *
  generalize w.alloc (.cells #[.iface 27 (.pointer (some ⟨r, 0, none⟩))] 32) = w1 at *
  repeat (first | (refine Walk.oq ?_; try walk_nrm) | (refine Walk.un ?_; walk_nrm))
  (refine Walk.oa ?_; try walk_nrm)
  try rw [s1]
  generalize w1.alloc (.cells #[.slice (some ⟨T, 0, none⟩) 1 1, .slice ba bn bc] 25) = w2 at *
  clear s1
  repeat (first | refine Walk.cx ?_ | (refine Walk.cReg ?_; simp only [z13]) | (refine Walk.oq ?_; try walk_nrm) | (refine Walk.un ?_; walk_nrm))
  refine Walk.callW (Post := fun v w' => ∃ g cap, v = .slice (some ⟨g, 0, none⟩) n cap ∧ D1 g cap w') ?_ (ho_of (by conv => lhs; whnf) (by kernel_rfl)) (by rfl) (by decide) rfl Try.func38 (by kernel_rfl) (by rfl) ?_
  · try walk_nrm
    exact hc
  rintro v w3 ⟨g, cap, rfl, h1⟩
  have hd1 := hd g cap w3 h1
  clear hc hd h1
  walk_nrm
  repeat (first | refine Walk.cx ?_ | (refine Walk.cReg ?_; simp only [z13]) | (refine Walk.oq ?_; try walk_nrm) | (refine Walk.un ?_; walk_nrm))
  refine Walk.callW (Post := fun v w2 => v = .slice (some ⟨g, 0, none⟩) m cap ∧ D2 g cap w2) ?_ (ho_of (by conv => lhs; whnf) (by kernel_rfl)) (by rfl) (by decide) rfl Try.func39 (by kernel_rfl) (by rfl) ?_
  · try walk_nrm
    exact hd1
  rintro v w4 ⟨rfl, h2⟩
  clear hd1
  walk_nrm
  repeat (first | refine Walk.cx ?_ | (refine Walk.cReg ?_; simp only [z13]) | (refine Walk.oq ?_; try walk_nrm) | (refine Walk.un ?_; walk_nrm))
  (refine Walk.oa ?_; try walk_nrm)
  repeat (first | refine Walk.cx ?_ | (refine Walk.cReg ?_; simp only [z13]) | (refine Walk.oq ?_; try walk_nrm) | (refine Walk.un ?_; walk_nrm))
  exact Walk.on1 rfl rfl Try.func13 rfl (.stop fun d => ⟨_, ⟨g, cap, w4, d, h2, rfl, rfl⟩, rfl⟩)
theorem cw_imp' {f : FuncId} {args : Array Value} {w : World} {Post Post' : Value → World → Prop} (h : CallW Try.prog main V f args w Post) (hp : ∀ v w', Post v w' → Post' v w') : CallW Try.prog main V f args w Post' :=
  fun fr cs => (h fr cs).mono fun g w' ⟨v, hv, hg⟩ => ⟨v, hp v w' hv, hg⟩
theorem newB_o (o0 : Option Nat) (ba : Option Addr) (bn bc n m : Nat) (w : World) (D1 D2 : Nat → Nat → World → Prop)
    (hc : CallW Try.prog main V 38 #[.slice (some ⟨w.heap.size + 1, 0, none⟩) 2 2] ((w.alloc (.cells #[srcO o0] 32)).alloc (.cells #[.slice (some ⟨w.heap.size, 0, none⟩) 1 1, .slice ba bn bc] 25)) (fun v w' => ∃ g cap, v = .slice (some ⟨g, 0, none⟩) n cap ∧ D1 g cap w'))
    (hd : ∀ g cap w', D1 g cap w' → CallW Try.prog main V 39 #[.slice (some ⟨g, 0, none⟩) n cap, .func (.func 40) #[] #[]] w' (fun v w2 => v = .slice (some ⟨g, 0, none⟩) m cap ∧ D2 g cap w2)) :
    CallW Try.prog main V 13 #[srcO o0, .slice ba bn bc] w (fun v w' => ∃ g cap w2 d, D2 g cap w2 ∧ v = .pointer (some ⟨w2.heap.size, 0, none⟩) ∧ w' = (w2.alloc (.cells #[.slice (some ⟨g, 0, none⟩) m cap, .int .u32 0] 54)).at d) := by
  cases o0 with
  | none => exact newB_n 0 ba bn bc n m w D1 D2 hc hd
  | some r => exact newB_s r ba bn bc n m w D1 D2 hc hd
theorem newB_w (o0 : Option Nat) (l : List (Option Nat)) (ba : Option Addr) (bc : Nat) (hl : l.length ≤ 500) (hA : ∀ b, Apart V b) (w : World) (hb : SrcA ba l w) :
    CallW Try.prog main V 13 #[srcO o0, .slice ba l.length bc] w (fun v w' => ∃ bb g sc, v = .pointer (some ⟨bb, 0, none⟩) ∧ NewB w (kept (o0 :: l) (o0 :: l).length) bb g sc w') := by
  generalize hcv : srcO o0 = cv
  have s1 : (w.alloc (.cells #[cv] 32)).heap.size = w.heap.size + 1 := by simp
  have d1 := heap_alloc_new w (.cells #[cv] 32)
  have o1 : ∀ b, b < w.heap.size → (w.alloc (.cells #[cv] 32)).heap[b]? = w.heap[b]? := fun b hb => heap_new_lt _ _ hb
  obtain ⟨w1, hw1⟩ : ∃ w1, w.alloc (.cells #[cv] 32) = w1 := ⟨_, rfl⟩
  rw [hw1] at s1 d1 o1
  have s2 : (w1.alloc (.cells #[.slice (some ⟨w.heap.size, 0, none⟩) 1 1, .slice ba l.length bc] 25)).heap.size = w.heap.size + 2 := by simp [s1]
  have d2 := heap_alloc_new w1 (.cells #[.slice (some ⟨w.heap.size, 0, none⟩) 1 1, .slice ba l.length bc] 25)
  have o2 : ∀ b, b < w1.heap.size → (w1.alloc (.cells #[.slice (some ⟨w.heap.size, 0, none⟩) 1 1, .slice ba l.length bc] 25)).heap[b]? = w1.heap[b]? := fun b hb => heap_new_lt _ _ hb
  obtain ⟨w2, hw2⟩ : ∃ w2, w1.alloc (.cells #[.slice (some ⟨w.heap.size, 0, none⟩) 1 1, .slice ba l.length bc] 25) = w2 := ⟨_, rfl⟩
  rw [hw2] at s2 d2 o2
  rw [s1] at d2 o2
  have n1 : SrcA (some ⟨w.heap.size, 0, none⟩) [o0] w2 := fun j z hj => by
    cases j with
    | zero =>
      cases hj
      exact ⟨w.heap.size, 0, rfl, (cell_of ((o2 w.heap.size (by omega)).trans d1) 0).trans (by rw [hcv]; rfl)⟩
    | succ j => simp at hj
  have n2 : SrcA ba l w2 := hb.same fun b h => (o2 b (by omega)).trans (o1 b h)
  have hc := concatS_w (main := main) (V := V) (w.heap.size + 1) (some ⟨w.heap.size, 0, none⟩) ba [o0] l 1 bc (by simp) hl (by simp; omega) w2 d2 n1 n2 (fun b _ => hA b)
  have key : CallW Try.prog main V 13 #[cv, .slice ba l.length bc] w (fun v w' => ∃ g cap w3 d, (∃ w0, SbI w2.heap.size w2 g (1 + l.length) cap (o0 :: l) w0 ∧ (∃ f, DsM g (kept (o0 :: l) (o0 :: l).length).length cap f w3 ∧ ∀ k, k < (kept (o0 :: l) (o0 :: l).length).length → (kept (o0 :: l) (o0 :: l).length)[k]? = some (f k)) ∧ (∀ b, b ≠ g → w3.heap[b]? = w0.heap[b]?) ∧ w3.heap.size = w0.heap.size) ∧ v = .pointer (some ⟨w3.heap.size, 0, none⟩) ∧ w' = (w3.alloc (.cells #[.slice (some ⟨g, 0, none⟩) (kept (o0 :: l) (o0 :: l).length).length cap, .int .u32 0] 54)).at d) := by
    have hdel : ∀ g cap w0, SbI w2.heap.size w2 g (1 + l.length) cap (o0 :: l) w0 → CallW Try.prog main V 39 #[.slice (some ⟨g, 0, none⟩) (1 + l.length) cap, .func (.func 40) #[] #[]] w0 (fun v w3 => v = .slice (some ⟨g, 0, none⟩) (kept (o0 :: l) (o0 :: l).length).length cap ∧ (∃ f, DsM g (kept (o0 :: l) (o0 :: l).length).length cap f w3 ∧ ∀ k, k < (kept (o0 :: l) (o0 :: l).length).length → (kept (o0 :: l) (o0 :: l).length)[k]? = some (f k)) ∧ (∀ b, b ≠ g → w3.heap[b]? = w0.heap[b]?) ∧ w3.heap.size = w0.heap.size) := fun g cap w0 I => by
      have h := deleteS_w (main := main) (V := V) g cap (o0 :: l) (by simp; omega) (hA g) w0 (fun k => (o0 :: l).getD k none) (fun k hk => by rw [List.getD_eq_getElem?_getD, List.getElem?_eq_getElem hk]; rfl) I.ds
      rw [show (o0 :: l).length = 1 + l.length by simp [Nat.add_comm]] at h ⊢
      exact h
    have hc' : CallW Try.prog main V 38 #[.slice (some ⟨w.heap.size + 1, 0, none⟩) 2 2] w2 (fun v w' => ∃ g cap, v = .slice (some ⟨g, 0, none⟩) (1 + l.length) cap ∧ SbI w2.heap.size w2 g (1 + l.length) cap (o0 :: l) w') := hc
    have h := newB_o (main := main) (V := V) o0 ba l.length bc (1 + l.length) (kept (o0 :: l) (o0 :: l).length).length w (fun g cap w0 => SbI w2.heap.size w2 g (1 + l.length) cap (o0 :: l) w0) (fun g cap w3 => ∃ w0, SbI w2.heap.size w2 g (1 + l.length) cap (o0 :: l) w0 ∧ (∃ f, DsM g (kept (o0 :: l) (o0 :: l).length).length cap f w3 ∧ ∀ k, k < (kept (o0 :: l) (o0 :: l).length).length → (kept (o0 :: l) (o0 :: l).length)[k]? = some (f k)) ∧ (∀ b, b ≠ g → w3.heap[b]? = w0.heap[b]?) ∧ w3.heap.size = w0.heap.size) (by rw [hcv, hw1, hw2]; exact hc') (fun g cap w0 I => cw_imp' (hdel g cap w0 I) fun v w3 ⟨e, h1, h2, h3⟩ => ⟨e, w0, I, h1, h2, h3⟩)
    rw [hcv] at h
    exact h
  intro fr cs
  refine (key fr cs).mono ?_
  rintro gr w' ⟨v, ⟨g, cap, w3, d, ⟨w0, I, ⟨f, M, hf⟩, hO, hS⟩, rfl, rfl⟩, rfl⟩
  have hlt := I.lt
  have o3 : ∀ b, b < w3.heap.size → (w3.alloc (.cells #[.slice (some ⟨g, 0, none⟩) (kept (o0 :: l) (o0 :: l).length).length cap, .int .u32 0] 54)).heap[b]? = w3.heap[b]? := fun b hb => heap_new_lt _ _ hb
  refine ⟨_, ⟨w3.heap.size, g, cap, rfl, heap_alloc_new w3 _, by omega, ?_, M.le.1, fun b hb => ?_, ?_⟩, rfl⟩
  · obtain ⟨cur, x1, x2, x3⟩ := M.row
    refine ⟨cur, (o3 g (by omega)).trans x1, fun i r hi => ?_⟩
    have hil := (List.getElem?_eq_some_iff.1 hi).1
    have h1 := hf i hil
    rw [hi] at h1
    rw [x3 i hil, ← Option.some.inj h1]
    rfl
  · exact (o3 b (by omega)).trans ((hO b (by omega)).trans ((I.old b (by omega)).trans ((o2 b (by omega)).trans (o1 b hb))))
  · show w.heap.size ≤ (w3.alloc _).heap.size
    simp
    omega
end
end
end Go.Proofs.Ytgfajibjedfkdaa
