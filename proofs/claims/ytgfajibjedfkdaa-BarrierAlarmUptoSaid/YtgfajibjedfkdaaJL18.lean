/- Part 18. -/
import Derived.Test.YtgfajibjedfkdaaJL17
set_option linter.unusedSimpArgs false
set_option linter.unusedVariables false
set_option maxHeartbeats 8000000
set_option maxRecDepth 100000
namespace Go.Proofs.Ytgfajibjedfkdaa
open Go.Conc Go.RowKit Go.Relay
open Go.ConcN (upd upd_ne upd_same)
section
noncomputable def reg14_0 : Array Oper := match Try.f14.body with | some (.seq (.region _ ops _) _) => ops | _ => #[]
theorem size14_0 : reg14_0.size = 2 := by kernel_rfl
noncomputable def reg14_1 : Array Oper := match Try.f14.body with | some (.seq _ (.seq (.seq (.region _ ops _) _) _)) => ops | _ => #[]
theorem size14_1 : reg14_1.size = 6 := by kernel_rfl
noncomputable def reg14_2 : Array Oper := match Try.f14.body with | some (.seq _ (.seq (.seq _ (.cond _ (.seq (.region _ ops _) _) _)) _)) => ops | _ => #[]
theorem size14_2 : reg14_2.size = 2 := by kernel_rfl
noncomputable def reg14_3 : Array Oper := match Try.f14.body with | some (.seq _ (.seq _ (.seq (.seq (.region _ ops _) _) _))) => ops | _ => #[]
theorem size14_3 : reg14_3.size = 2 := by kernel_rfl
noncomputable def reg14_4 : Array Oper := match Try.f14.body with | some (.seq _ (.seq _ (.seq (.seq _ (.cond _ (.seq (.region _ ops _) _) _)) _))) => ops | _ => #[]
theorem size14_4 : reg14_4.size = 2 := by kernel_rfl
noncomputable def reg14_5 : Array Oper := match Try.f14.body with | some (.seq _ (.seq _ (.seq _ (.seq (.region _ ops _) _)))) => ops | _ => #[]
theorem size14_5 : reg14_5.size = 4 := by kernel_rfl
noncomputable def reg14_6 : Array Oper := match Try.f14.body with | some (.seq _ (.seq _ (.seq _ (.seq _ (.seq (.region _ ops _) _))))) => ops | _ => #[]
theorem size14_6 : reg14_6.size = 1 := by kernel_rfl
noncomputable def reg14_8 : Array Oper := match Try.f14.body with | some (.seq _ (.seq _ (.seq _ (.seq _ (.seq _ (.block _ (.seq (.region _ ops _) _))))))) => ops | _ => #[]
theorem size14_8 : reg14_8.size = 2 := by kernel_rfl
noncomputable def reg14_9 : Array Oper := match Try.f14.body with | some (.seq _ (.seq _ (.seq _ (.seq _ (.seq _ (.block _ (.seq _ (.cond _ (.seq (.region _ ops _) _) _)))))))) => ops | _ => #[]
theorem size14_9 : reg14_9.size = 9 := by kernel_rfl
noncomputable def reg14_10 : Array Oper := match Try.f14.body with | some (.seq _ (.seq _ (.seq _ (.seq _ (.seq _ (.block _ (.seq _ (.cond _ _ (.seq (.region _ ops _) _))))))))) => ops | _ => #[]
theorem size14_10 : reg14_10.size = 2 := by kernel_rfl
noncomputable def reg14_11 : Array Oper := match Try.f14.body with | some (.seq _ (.seq _ (.seq _ (.seq _ (.seq _ (.block _ (.seq _ (.cond _ _ (.seq _ (.cond _ (.seq (.region _ ops _) _) _)))))))))) => ops | _ => #[]
theorem size14_11 : reg14_11.size = 9 := by kernel_rfl
noncomputable def reg14_7 : Array Oper := match Try.f14.body with | some (.seq _ (.seq _ (.seq _ (.seq _ (.seq _ (.block _ (.seq _ (.cond _ _ (.seq _ (.cond _ _ (.seq (.region _ ops _) _))))))))))) => ops | _ => #[]
theorem size14_7 : reg14_7.size = 9 := by kernel_rfl
theorem code14_is : Try.f14.body = some (.seq (.region 0 reg14_0 false) (.seq (.seq (.region 1 reg14_1 false) (.cond (.tmp 17 ) (.seq (.region 2 reg14_2 false) (.ret)) (.skip))) (.seq (.seq (.region 3 reg14_3 false) (.cond (.tmp 19 ) (.seq (.region 4 reg14_4 false) (.ret)) (.skip))) (.seq (.region 5 reg14_5 false) (.seq (.region 6 reg14_6 false) (.block 0 (.seq (.region 8 reg14_8 false) (.cond (.tmp 31 ) (.seq (.region 9 reg14_9 false) (.ret)) (.seq (.region 10 reg14_10 false) (.cond (.tmp 40 ) (.seq (.region 11 reg14_11 false) (.ret)) (.seq (.region 7 reg14_7 false) (.ret)))))))))))) := by kernel_rfl
section
variable {main : Bool} {V : Nat → Option Wait} {X : RX} {s : Rs} {w : World} {sv : Value} {dl : Nat}
theorem wait_kind1 (bv : Value) (q tries way : Int) (hw : way < 1) (w : World) : CallV Try.prog main V 14 #[bv, sv, .int .i64 q, .int .i64 tries, .int .i64 way] w (.tuple #[.int .i64 0, .int .i64 2]) w := by
  have h1 : decide (way < 1) = true := decide_eq_true hw
  refine callW_in Try.func14 code14_is fun fr cs => ?_
  simp only [Try.ntmps14, List.size_toArray, List.length_cons, List.length_nil, Nat.reduceAdd, Nat.reduceSub, Array.replicate_succ, Array.replicate_zero, List.push_toArray, List.append_toArray, List.nil_append, List.cons_append]
  repeat (first | refine Walk.c rfl ?_ | refine Walk.cRet ?_ | refine Walk.cEnd ?_ | (refine Walk.cReg ?_; simp only [size14_0, size14_1, size14_2, size14_3, size14_4, size14_5, size14_6, size14_8, size14_9, size14_10, size14_11, size14_7, List.range, List.range.loop]) | (refine Walk.oq ?_; try walk_nrm) | (refine Walk.un ?_; walk_nrm))
  exact Walk.on2 rfl rfl Try.func14 rfl (.stop fun d => ⟨_, ⟨rfl, d, rfl⟩, rfl⟩)
theorem wait_kind3 (bv : Value) (q tries way : Int) (hw : 3 < way) (w : World) : CallV Try.prog main V 14 #[bv, sv, .int .i64 q, .int .i64 tries, .int .i64 way] w (.tuple #[.int .i64 0, .int .i64 2]) w := by
  have h1 : decide (way < 1) = false := decide_eq_false (by omega)
  have h3 : decide (3 < way) = true := decide_eq_true hw
  refine callW_in Try.func14 code14_is fun fr cs => ?_
  simp only [Try.ntmps14, List.size_toArray, List.length_cons, List.length_nil, Nat.reduceAdd, Nat.reduceSub, Array.replicate_succ, Array.replicate_zero, List.push_toArray, List.append_toArray, List.nil_append, List.cons_append]
  repeat (first | refine Walk.c rfl ?_ | refine Walk.cRet ?_ | refine Walk.cEnd ?_ | (refine Walk.cReg ?_; simp only [size14_0, size14_1, size14_2, size14_3, size14_4, size14_5, size14_6, size14_8, size14_9, size14_10, size14_11, size14_7, List.range, List.range.loop]) | (refine Walk.oq ?_; try walk_nrm) | (refine Walk.un ?_; walk_nrm))
  exact Walk.on2 rfl rfl Try.func14 rfl (.stop fun d => ⟨_, ⟨rfl, d, rfl⟩, rfl⟩)
theorem wait_kind (bv : Value) (q tries way : Int) (hw : way < 1 ∨ 3 < way) (w : World) : CallV Try.prog main V 14 #[bv, sv, .int .i64 q, .int .i64 tries, .int .i64 way] w (.tuple #[.int .i64 0, .int .i64 2]) w := by
  rcases hw with h | h
  · exact wait_kind1 bv q tries way h w
  · exact wait_kind3 bv q tries way h w
theorem wait_none (bv : Value) (q tries way : Int) (h1 : 1 ≤ way) (h3 : way ≤ 3) (w : World) (hn : CallV Try.prog main V 41 #[bv] w (.bool true) w) : CallV Try.prog main V 14 #[bv, sv, .int .i64 q, .int .i64 tries, .int .i64 way] w (.tuple #[.int .i64 0, .int .i64 6]) w := by
  have g1 : decide (way < 1) = false := decide_eq_false (by omega)
  have g3 : decide (3 < way) = false := decide_eq_false (by omega)
  clear h1 h3
  refine callW_in Try.func14 code14_is fun fr cs => ?_
  simp only [Try.ntmps14, List.size_toArray, List.length_cons, List.length_nil, Nat.reduceAdd, Nat.reduceSub, Array.replicate_succ, Array.replicate_zero, List.push_toArray, List.append_toArray, List.nil_append, List.cons_append]
  repeat (first | refine Walk.c rfl ?_ | refine Walk.cRet ?_ | refine Walk.cEnd ?_ | (refine Walk.cReg ?_; simp only [size14_0, size14_1, size14_2, size14_3, size14_4, size14_5, size14_6, size14_8, size14_9, size14_10, size14_11, size14_7, List.range, List.range.loop]) | (refine Walk.oq ?_; try walk_nrm) | (refine Walk.un ?_; walk_nrm))
  refine Walk.callV (x := .bool true) (W := w) ?_ (ho_of (by conv => lhs; whnf) (by kernel_rfl)) (by rfl) (by decide) rfl Try.func41 (by kernel_rfl) (by rfl) ?_
  · try walk_nrm
    exact hn
  clear hn
  walk_nrm
  repeat (first | refine Walk.c rfl ?_ | refine Walk.cRet ?_ | refine Walk.cEnd ?_ | (refine Walk.cReg ?_; simp only [size14_0, size14_1, size14_2, size14_3, size14_4, size14_5, size14_6, size14_8, size14_9, size14_10, size14_11, size14_7, List.range, List.range.loop]) | (refine Walk.oq ?_; try walk_nrm) | (refine Walk.un ?_; walk_nrm))
  exact Walk.on2 rfl rfl Try.func14 rfl (.stop fun d => ⟨_, ⟨rfl, d, rfl⟩, rfl⟩)
theorem wait_1 (hA : ∀ b, Apart V b) (hT : Tk X sv dl) (hk : 0 < X.k) (hkm : X.k ≤ 1000000) (q tries : Int) (I : RI X s w) (hb : Bd X s ((X.k + 2) * 1024)) :
    CallW Try.prog main V 14 #[.pointer (some ⟨X.bb, 0, none⟩), sv, .int .i64 q, .int .i64 tries, .int .i64 1] w (fun v w' => v = .tuple #[.int .i64 (togR X.ls X.k dl q 1 (triesN tries) 0 s).2.1, .int .i64 (togR X.ls X.k dl q 1 (triesN tries) 0 s).2.2] ∧ RI X (togR X.ls X.k dl q 1 (triesN tries) 0 s).1 w') := by
  have hn := none15_no (main := main) (V := V) I hk
  have hmn := @events_min_ints Try.prog
  have hmx := @events_max_ints Try.prog
  have htr : min (max tries 1) 1024 = ((triesN tries : Nat) : Int) := by unfold triesN; omega
  have hc := together15_1 (main := main) hA hT hk hkm q (triesN tries) (by unfold triesN; omega) I (hb.le (by omega))
  clear hb I hk hkm hT hA
  generalize togR X.ls X.k dl q 1 (triesN tries) 0 s = R at *
  generalize triesN tries = N at *
  refine callW_in Try.func14 code14_is fun fr cs => ?_
  simp only [Try.ntmps14, List.size_toArray, List.length_cons, List.length_nil, Nat.reduceAdd, Nat.reduceSub, Array.replicate_succ, Array.replicate_zero, List.push_toArray, List.append_toArray, List.nil_append, List.cons_append]
  repeat (first | refine Walk.c rfl ?_ | refine Walk.cRet ?_ | refine Walk.cEnd ?_ | (refine Walk.cReg ?_; simp only [size14_0, size14_1, size14_2, size14_3, size14_4, size14_5, size14_6, size14_8, size14_9, size14_10, size14_11, size14_7, List.range, List.range.loop]) | (refine Walk.oq ?_; try walk_nrm) | (refine Walk.un ?_; walk_nrm))
  refine Walk.callV (x := .bool false) (W := w) ?_ (ho_of (by conv => lhs; whnf) (by kernel_rfl)) (by rfl) (by decide) rfl Try.func41 (by kernel_rfl) (by rfl) ?_
  · try walk_nrm
    exact hn
  clear hn
  walk_nrm
  repeat (first | refine Walk.c rfl ?_ | refine Walk.cRet ?_ | refine Walk.cEnd ?_ | (refine Walk.cReg ?_; simp only [size14_0, size14_1, size14_2, size14_3, size14_4, size14_5, size14_6, size14_8, size14_9, size14_10, size14_11, size14_7, List.range, List.range.loop]) | (refine Walk.oq ?_; try walk_nrm) | (refine Walk.un ?_; walk_nrm))
  refine Walk.callW (Post := fun v w' => v = .tuple #[.int .i64 R.2.1, .int .i64 R.2.2] ∧ RI X R.1 w') ?_ (ho_of (by conv => lhs; whnf) (by kernel_rfl)) (by rfl) (by decide) rfl Try.func43 (by kernel_rfl) (by rfl) ?_
  · try walk_nrm
    exact hc
  rintro v w1 ⟨rfl, I1⟩
  clear hc hmn hmx htr
  walk_nrm
  repeat (first | refine Walk.c rfl ?_ | refine Walk.cRet ?_ | refine Walk.cEnd ?_ | (refine Walk.cReg ?_; simp only [size14_0, size14_1, size14_2, size14_3, size14_4, size14_5, size14_6, size14_8, size14_9, size14_10, size14_11, size14_7, List.range, List.range.loop]) | (refine Walk.oq ?_; try walk_nrm) | (refine Walk.un ?_; walk_nrm))
  exact Walk.on2 rfl rfl Try.func14 rfl (.stop fun d => ⟨_, ⟨rfl, I1.at d⟩, rfl⟩)
theorem wait_2 (hA : ∀ b, Apart V b) (hT : Tk X sv dl) (hk : 0 < X.k) (hkm : X.k ≤ 1000000) (q tries : Int) (I : RI X s w) (hb : Bd X s ((X.k + 2) * 1024)) :
    CallW Try.prog main V 14 #[.pointer (some ⟨X.bb, 0, none⟩), sv, .int .i64 q, .int .i64 tries, .int .i64 2] w (fun v w' => v = .tuple #[.int .i64 (oneR X.ls X.k dl q (triesN tries) 0 9223372036854775807 s).2.1, .int .i64 (oneR X.ls X.k dl q (triesN tries) 0 9223372036854775807 s).2.2] ∧ RI X (oneR X.ls X.k dl q (triesN tries) 0 9223372036854775807 s).1 w') := by
  have hn := none15_no (main := main) (V := V) I hk
  have hmn := @events_min_ints Try.prog
  have hmx := @events_max_ints Try.prog
  have htr : min (max tries 1) 1024 = ((triesN tries : Nat) : Int) := by unfold triesN; omega
  have hc := oneByOne15 (main := main) hA hT hk hkm q (triesN tries) (by unfold triesN; omega) I (hb.le (by omega))
  clear hb I hk hkm hT hA
  generalize oneR X.ls X.k dl q (triesN tries) 0 9223372036854775807 s = R at *
  generalize triesN tries = N at *
  refine callW_in Try.func14 code14_is fun fr cs => ?_
  simp only [Try.ntmps14, List.size_toArray, List.length_cons, List.length_nil, Nat.reduceAdd, Nat.reduceSub, Array.replicate_succ, Array.replicate_zero, List.push_toArray, List.append_toArray, List.nil_append, List.cons_append]
  repeat (first | refine Walk.c rfl ?_ | refine Walk.cRet ?_ | refine Walk.cEnd ?_ | (refine Walk.cReg ?_; simp only [size14_0, size14_1, size14_2, size14_3, size14_4, size14_5, size14_6, size14_8, size14_9, size14_10, size14_11, size14_7, List.range, List.range.loop]) | (refine Walk.oq ?_; try walk_nrm) | (refine Walk.un ?_; walk_nrm))
  refine Walk.callV (x := .bool false) (W := w) ?_ (ho_of (by conv => lhs; whnf) (by kernel_rfl)) (by rfl) (by decide) rfl Try.func41 (by kernel_rfl) (by rfl) ?_
  · try walk_nrm
    exact hn
  clear hn
  walk_nrm
  repeat (first | refine Walk.c rfl ?_ | refine Walk.cRet ?_ | refine Walk.cEnd ?_ | (refine Walk.cReg ?_; simp only [size14_0, size14_1, size14_2, size14_3, size14_4, size14_5, size14_6, size14_8, size14_9, size14_10, size14_11, size14_7, List.range, List.range.loop]) | (refine Walk.oq ?_; try walk_nrm) | (refine Walk.un ?_; walk_nrm))
  refine Walk.callW (Post := fun v w' => v = .tuple #[.int .i64 R.2.1, .int .i64 R.2.2] ∧ RI X R.1 w') ?_ (ho_of (by conv => lhs; whnf) (by kernel_rfl)) (by rfl) (by decide) rfl Try.func42 (by kernel_rfl) (by rfl) ?_
  · try walk_nrm
    exact hc
  rintro v w1 ⟨rfl, I1⟩
  clear hc hmn hmx htr
  walk_nrm
  repeat (first | refine Walk.c rfl ?_ | refine Walk.cRet ?_ | refine Walk.cEnd ?_ | (refine Walk.cReg ?_; simp only [size14_0, size14_1, size14_2, size14_3, size14_4, size14_5, size14_6, size14_8, size14_9, size14_10, size14_11, size14_7, List.range, List.range.loop]) | (refine Walk.oq ?_; try walk_nrm) | (refine Walk.un ?_; walk_nrm))
  exact Walk.on2 rfl rfl Try.func14 rfl (.stop fun d => ⟨_, ⟨rfl, I1.at d⟩, rfl⟩)
theorem wait_3 (hA : ∀ b, Apart V b) (hT : Tk X sv dl) (hk : 0 < X.k) (hkm : X.k ≤ 1000000) (q tries : Int) (I : RI X s w) (hb : Bd X s ((X.k + 2) * 1024)) :
    CallW Try.prog main V 14 #[.pointer (some ⟨X.bb, 0, none⟩), sv, .int .i64 q, .int .i64 tries, .int .i64 3] w (fun v w' => v = .tuple #[.int .i64 (togR X.ls X.k dl q 8 (triesN tries) 0 s).2.1, .int .i64 (togR X.ls X.k dl q 8 (triesN tries) 0 s).2.2] ∧ RI X (togR X.ls X.k dl q 8 (triesN tries) 0 s).1 w') := by
  have hn := none15_no (main := main) (V := V) I hk
  have hmn := @events_min_ints Try.prog
  have hmx := @events_max_ints Try.prog
  have htr : min (max tries 1) 1024 = ((triesN tries : Nat) : Int) := by unfold triesN; omega
  have hc := together15_8 (main := main) hA hT hk hkm q (triesN tries) (by unfold triesN; omega) I (hb.le (by omega))
  clear hb I hk hkm hT hA
  generalize togR X.ls X.k dl q 8 (triesN tries) 0 s = R at *
  generalize triesN tries = N at *
  refine callW_in Try.func14 code14_is fun fr cs => ?_
  simp only [Try.ntmps14, List.size_toArray, List.length_cons, List.length_nil, Nat.reduceAdd, Nat.reduceSub, Array.replicate_succ, Array.replicate_zero, List.push_toArray, List.append_toArray, List.nil_append, List.cons_append]
  repeat (first | refine Walk.c rfl ?_ | refine Walk.cRet ?_ | refine Walk.cEnd ?_ | (refine Walk.cReg ?_; simp only [size14_0, size14_1, size14_2, size14_3, size14_4, size14_5, size14_6, size14_8, size14_9, size14_10, size14_11, size14_7, List.range, List.range.loop]) | (refine Walk.oq ?_; try walk_nrm) | (refine Walk.un ?_; walk_nrm))
  refine Walk.callV (x := .bool false) (W := w) ?_ (ho_of (by conv => lhs; whnf) (by kernel_rfl)) (by rfl) (by decide) rfl Try.func41 (by kernel_rfl) (by rfl) ?_
  · try walk_nrm
    exact hn
  clear hn
  walk_nrm
  repeat (first | refine Walk.c rfl ?_ | refine Walk.cRet ?_ | refine Walk.cEnd ?_ | (refine Walk.cReg ?_; simp only [size14_0, size14_1, size14_2, size14_3, size14_4, size14_5, size14_6, size14_8, size14_9, size14_10, size14_11, size14_7, List.range, List.range.loop]) | (refine Walk.oq ?_; try walk_nrm) | (refine Walk.un ?_; walk_nrm))
  refine Walk.callW (Post := fun v w' => v = .tuple #[.int .i64 R.2.1, .int .i64 R.2.2] ∧ RI X R.1 w') ?_ (ho_of (by conv => lhs; whnf) (by kernel_rfl)) (by rfl) (by decide) rfl Try.func43 (by kernel_rfl) (by rfl) ?_
  · try walk_nrm
    exact hc
  rintro v w1 ⟨rfl, I1⟩
  clear hc hmn hmx htr
  walk_nrm
  repeat (first | refine Walk.c rfl ?_ | refine Walk.cRet ?_ | refine Walk.cEnd ?_ | (refine Walk.cReg ?_; simp only [size14_0, size14_1, size14_2, size14_3, size14_4, size14_5, size14_6, size14_8, size14_9, size14_10, size14_11, size14_7, List.range, List.range.loop]) | (refine Walk.oq ?_; try walk_nrm) | (refine Walk.un ?_; walk_nrm))
  exact Walk.on2 rfl rfl Try.func14 rfl (.stop fun d => ⟨_, ⟨rfl, I1.at d⟩, rfl⟩)
theorem wait15 (hA : ∀ b, Apart V b) (hT : Tk X sv dl) (hkm : X.k ≤ 1000000) (q tries way : Int) (I : RI X s w) (hb : Bd X s ((X.k + 2) * 1024)) :
    CallW Try.prog main V 14 #[.pointer (some ⟨X.bb, 0, none⟩), sv, .int .i64 q, .int .i64 tries, .int .i64 way] w (fun v w' => v = .tuple #[.int .i64 (waitR X.ls X.k dl q tries way s).2.1, .int .i64 (waitR X.ls X.k dl q tries way s).2.2] ∧ RI X (waitR X.ls X.k dl q tries way s).1 w') := by
  unfold waitR
  by_cases hw : way < 1 ∨ 3 < way
  · rw [if_pos hw]
    intro fr cs
    refine (wait_kind (.pointer (some ⟨X.bb, 0, none⟩)) q tries way hw w fr cs).mono ?_
    rintro _ _ ⟨v, ⟨rfl, d, rfl⟩, rfl⟩
    exact ⟨_, ⟨rfl, I.at d⟩, rfl⟩
  · rw [if_neg hw]
    by_cases hk : X.k = 0
    · rw [if_pos hk]
      have hc := I.slCell
      rw [hk] at hc
      intro fr cs
      refine (wait_none (.pointer (some ⟨X.bb, 0, none⟩)) q tries way (by omega) (by omega) w (none15_yes X.bb _ _ w hc) fr cs).mono ?_
      rintro _ _ ⟨v, ⟨rfl, d, rfl⟩, rfl⟩
      exact ⟨_, ⟨rfl, I.at d⟩, rfl⟩
    · rw [if_neg hk]
      have h3 : way = 1 ∨ way = 2 ∨ way = 3 := by omega
      rcases h3 with rfl | rfl | rfl
      · rw [if_neg (by decide), if_neg (by decide)]
        exact wait_1 hA hT (by omega) hkm q tries I hb
      · rw [if_pos rfl]
        exact wait_2 hA hT (by omega) hkm q tries I hb
      · rw [if_neg (by decide), if_pos rfl]
        exact wait_3 hA hT (by omega) hkm q tries I hb
end
end
end Go.Proofs.Ytgfajibjedfkdaa
