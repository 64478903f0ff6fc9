/- Part 24. -/
import Derived.Test.YtgfajibjedfkdaaJO22
set_option linter.unusedSimpArgs false
set_option linter.unusedVariables false
set_option maxHeartbeats 8000000
set_option maxRecDepth 100000
namespace Go.Proofs.Ytgfajibjedfkdaa
open Go.Conc Go.RowKit Go.Relay
open Go.ConcN (upd upd_ne upd_same)
theorem sizg3_0 : reg3_0.size = 1 := by kernel_rfl
theorem sizg3_1 : reg3_1.size = 2 := by kernel_rfl
theorem sizg3_2 : reg3_2.size = 1 := by kernel_rfl
theorem sizg3_3 : reg3_3.size = 1 := by kernel_rfl
theorem sizg3_4 : reg3_4.size = 1 := by kernel_rfl
theorem sizg3_5 : reg3_5.size = 7 := by kernel_rfl
theorem sizg3_6 : reg3_6.size = 1 := by kernel_rfl
theorem sizg3_7 : reg3_7.size = 3 := by kernel_rfl
theorem sizg3_8 : reg3_8.size = 3 := by kernel_rfl
theorem sizg3_9 : reg3_9.size = 1 := by kernel_rfl
theorem sizg3_10 : reg3_10.size = 3 := by kernel_rfl
theorem sizg3_11 : reg3_11.size = 1 := by kernel_rfl
theorem sizg3_12 : reg3_12.size = 3 := by kernel_rfl
theorem sizg3_13 : reg3_13.size = 6 := by kernel_rfl
theorem sizg3_14 : reg3_14.size = 11 := by kernel_rfl
theorem sizg3_15 : reg3_15.size = 2 := by kernel_rfl
theorem sizg3_16 : reg3_16.size = 5 := by kernel_rfl
theorem sizg3_17 : reg3_17.size = 6 := by kernel_rfl
theorem sizg3_18 : reg3_18.size = 2 := by kernel_rfl
theorem sizg3_19 : reg3_19.size = 1 := by kernel_rfl
theorem sizg3_20 : reg3_20.size = 3 := by kernel_rfl
theorem sizg3_21 : reg3_21.size = 8 := by kernel_rfl
theorem sizg3_22 : reg3_22.size = 4 := by kernel_rfl
theorem sizg3_23 : reg3_23.size = 4 := by kernel_rfl
theorem sizg3_24 : reg3_24.size = 3 := by kernel_rfl
theorem sizg3_25 : reg3_25.size = 1 := by kernel_rfl
theorem sizg3_26 : reg3_26.size = 2 := by kernel_rfl
theorem sizg3_27 : reg3_27.size = 12 := by kernel_rfl
theorem sizg3_28 : reg3_28.size = 12 := by kernel_rfl
theorem sizg3_29 : reg3_29.size = 1 := by kernel_rfl
theorem sizg3_30 : reg3_30.size = 9 := by kernel_rfl
theorem sizg3_31 : reg3_31.size = 1 := by kernel_rfl
theorem sizg3_32 : reg3_32.size = 8 := by kernel_rfl
theorem sizg3_33 : reg3_33.size = 2 := by kernel_rfl
theorem sizg3_34 : reg3_34.size = 3 := by kernel_rfl
theorem sizg3_35 : reg3_35.size = 12 := by kernel_rfl
theorem sizg3_36 : reg3_36.size = 1 := by kernel_rfl
theorem sizg3_37 : reg3_37.size = 3 := by kernel_rfl
theorem sizg3_38 : reg3_38.size = 1 := by kernel_rfl
theorem sizg3_39 : reg3_39.size = 3 := by kernel_rfl
theorem sizg3_40 : reg3_40.size = 7 := by kernel_rfl
theorem sizg3_41 : reg3_41.size = 2 := by kernel_rfl
theorem sizg3_42 : reg3_42.size = 7 := by kernel_rfl
theorem sizg3_43 : reg3_43.size = 14 := by kernel_rfl
theorem sizg3_44 : reg3_44.size = 4 := by kernel_rfl
theorem sizg3_45 : reg3_45.size = 28 := by kernel_rfl
theorem sizg3_46 : reg3_46.size = 20 := by kernel_rfl
theorem sizg3_47 : reg3_47.size = 1 := by kernel_rfl
theorem sizg3_48 : reg3_48.size = 4 := by kernel_rfl
theorem sizg3_49 : reg3_49.size = 7 := by kernel_rfl
theorem sizg3_50 : reg3_50.size = 2 := by kernel_rfl
theorem sizg3_51 : reg3_51.size = 18 := by kernel_rfl
theorem sizg3_52 : reg3_52.size = 5 := by kernel_rfl
theorem sizg3_53 : reg3_53.size = 23 := by kernel_rfl
theorem sizg3_54 : reg3_54.size = 1 := by kernel_rfl
theorem sizg3_55 : reg3_55.size = 2 := by kernel_rfl
theorem sizg3_56 : reg3_56.size = 6 := by kernel_rfl
theorem sizg3_57 : reg3_57.size = 4 := by kernel_rfl
section
section
variable {main : Bool} {V : Nat → Option Wait}
theorem of_a (hA : ∀ b, Apart V b) (oa : Option Addr) (K oc : Nat) (bb P : Nat) (q tries way : Int) (hw : way < 1) (w : World) (hs : w.cell? ⟨P, 0, none⟩ = some (.int .i64 0)) (ld : Int) (u : Nat → Value) :
    Walk Try.prog main (DR V) (fun g w' => Closing 3 8 (.bool true) g ∧ (∃ d, w' = w.at d)) (G (hdOd oa K oc (.pointer (some ⟨bb, 0, none⟩)) P q tries way 0 2 ld K u) []) w := by
  have hi1 : decide ((K : Int) < K) = false := by simp
  have hi3 : decide (K < K) = false := by simp
  have g1 : decide (way < 1) = true := decide_eq_true hw
  conv => arg 5; unfold hdOd
  repeat (first | refine Walk.c rfl ?_ | refine Walk.cRet ?_ | refine Walk.cEnd ?_ | (refine Walk.cReg ?_; simp only [sizg3_0, sizg3_1, sizg3_2, sizg3_3, sizg3_4, sizg3_5, sizg3_6, sizg3_7, sizg3_8, sizg3_9, sizg3_10, sizg3_11, sizg3_12, sizg3_13, sizg3_14, sizg3_15, sizg3_16, sizg3_17, sizg3_18, sizg3_19, sizg3_20, sizg3_21, sizg3_22, sizg3_23, sizg3_24, sizg3_25, sizg3_26, sizg3_27, sizg3_28, sizg3_29, sizg3_30, sizg3_31, sizg3_32, sizg3_33, sizg3_34, sizg3_35, sizg3_36, sizg3_37, sizg3_38, sizg3_39, sizg3_40, sizg3_41, sizg3_42, sizg3_43, sizg3_44, sizg3_45, sizg3_46, sizg3_47, sizg3_48, sizg3_49, sizg3_50, sizg3_51, sizg3_52, sizg3_53, sizg3_54, sizg3_55, sizg3_56, sizg3_57, List.range, List.range.loop]) | (refine Walk.oq ?_; try walk_nrm) | (refine Walk.un ?_; walk_nrm))
  exact .stop fun d => ⟨⟨_, rfl, rfl, rfl, rfl, rfl, rfl⟩, d, rfl⟩
theorem of_b (hA : ∀ b, Apart V b) (oa : Option Addr) (K oc : Nat) (bb P : Nat) (q tries way : Int) (hw : 3 < way) (w : World) (hs : w.cell? ⟨P, 0, none⟩ = some (.int .i64 0)) (ld : Int) (u : Nat → Value) :
    Walk Try.prog main (DR V) (fun g w' => Closing 3 8 (.bool true) g ∧ (∃ d, w' = w.at d)) (G (hdOd oa K oc (.pointer (some ⟨bb, 0, none⟩)) P q tries way 0 2 ld K u) []) w := by
  have hi1 : decide ((K : Int) < K) = false := by simp
  have hi3 : decide (K < K) = false := by simp
  have g1 : decide (way < 1) = false := decide_eq_false (by omega)
  have g3 : decide (3 < way) = true := decide_eq_true hw
  conv => arg 5; unfold hdOd
  repeat (first | refine Walk.c rfl ?_ | refine Walk.cRet ?_ | refine Walk.cEnd ?_ | (refine Walk.cReg ?_; simp only [sizg3_0, sizg3_1, sizg3_2, sizg3_3, sizg3_4, sizg3_5, sizg3_6, sizg3_7, sizg3_8, sizg3_9, sizg3_10, sizg3_11, sizg3_12, sizg3_13, sizg3_14, sizg3_15, sizg3_16, sizg3_17, sizg3_18, sizg3_19, sizg3_20, sizg3_21, sizg3_22, sizg3_23, sizg3_24, sizg3_25, sizg3_26, sizg3_27, sizg3_28, sizg3_29, sizg3_30, sizg3_31, sizg3_32, sizg3_33, sizg3_34, sizg3_35, sizg3_36, sizg3_37, sizg3_38, sizg3_39, sizg3_40, sizg3_41, sizg3_42, sizg3_43, sizg3_44, sizg3_45, sizg3_46, sizg3_47, sizg3_48, sizg3_49, sizg3_50, sizg3_51, sizg3_52, sizg3_53, sizg3_54, sizg3_55, sizg3_56, sizg3_57, List.range, List.range.loop]) | (refine Walk.oq ?_; try walk_nrm) | (refine Walk.un ?_; walk_nrm))
  exact .stop fun d => ⟨⟨_, rfl, rfl, rfl, rfl, rfl, rfl⟩, d, rfl⟩
theorem of_c (hA : ∀ b, Apart V b) (oa : Option Addr) (oc : Nat) (bb P : Nat) (q tries way : Int) (hw1 : 1 ≤ way) (hw3 : way ≤ 3) (w : World) (hs : w.cell? ⟨P, 0, none⟩ = some (.int .i64 0)) (ld : Int) (sa : Option Addr) (sc : Nat) (hb : w.cell? ⟨bb, 0, none⟩ = some (.slice sa 0 sc)) (u : Nat → Value) :
    Walk Try.prog main (DR V) (fun g w' => Closing 3 8 (.bool true) g ∧ (∃ d, w' = w.at d)) (G (hdOd oa 0 oc (.pointer (some ⟨bb, 0, none⟩)) P q tries way 0 6 ld 0 u) []) w := by
  have hi1 : decide (((0 : Nat) : Int) < (0 : Nat)) = false := by simp
  have hi3 : decide ((0 : Nat) < 0) = false := by simp
  have r3 := run_ifaceS
  have r4 := ev_ifaceS
  have g1 : decide (way < 1) = false := decide_eq_false (by omega)
  have g3 : decide (3 < way) = false := decide_eq_false (by omega)
  have hc := limit_none (main := main) (V := V) (sv := cntV P) (.pointer (some ⟨bb, 0, none⟩)) w (none15_yes bb sa sc w hb)
  unfold cntV at hc
  clear hw1 hw3
  conv => arg 5; unfold hdOd
  repeat (first | refine Walk.c rfl ?_ | refine Walk.cRet ?_ | refine Walk.cEnd ?_ | (refine Walk.cReg ?_; simp only [sizg3_0, sizg3_1, sizg3_2, sizg3_3, sizg3_4, sizg3_5, sizg3_6, sizg3_7, sizg3_8, sizg3_9, sizg3_10, sizg3_11, sizg3_12, sizg3_13, sizg3_14, sizg3_15, sizg3_16, sizg3_17, sizg3_18, sizg3_19, sizg3_20, sizg3_21, sizg3_22, sizg3_23, sizg3_24, sizg3_25, sizg3_26, sizg3_27, sizg3_28, sizg3_29, sizg3_30, sizg3_31, sizg3_32, sizg3_33, sizg3_34, sizg3_35, sizg3_36, sizg3_37, sizg3_38, sizg3_39, sizg3_40, sizg3_41, sizg3_42, sizg3_43, sizg3_44, sizg3_45, sizg3_46, sizg3_47, sizg3_48, sizg3_49, sizg3_50, sizg3_51, sizg3_52, sizg3_53, sizg3_54, sizg3_55, sizg3_56, sizg3_57, List.range, List.range.loop]) | (refine Walk.oq ?_; try walk_nrm) | (refine Walk.un ?_; walk_nrm))
  refine Walk.callV (x := .int .i64 (-1)) (W := w) ?_ (ho_of (by conv => lhs; whnf) (by kernel_rfl)) (by rfl) (by decide) rfl Try.func15 (by kernel_rfl) (by rfl) ?_
  · try walk_nrm
    exact hc
  clear hc
  walk_nrm
  repeat (first | refine Walk.c rfl ?_ | refine Walk.cRet ?_ | refine Walk.cEnd ?_ | (refine Walk.cReg ?_; simp only [sizg3_0, sizg3_1, sizg3_2, sizg3_3, sizg3_4, sizg3_5, sizg3_6, sizg3_7, sizg3_8, sizg3_9, sizg3_10, sizg3_11, sizg3_12, sizg3_13, sizg3_14, sizg3_15, sizg3_16, sizg3_17, sizg3_18, sizg3_19, sizg3_20, sizg3_21, sizg3_22, sizg3_23, sizg3_24, sizg3_25, sizg3_26, sizg3_27, sizg3_28, sizg3_29, sizg3_30, sizg3_31, sizg3_32, sizg3_33, sizg3_34, sizg3_35, sizg3_36, sizg3_37, sizg3_38, sizg3_39, sizg3_40, sizg3_41, sizg3_42, sizg3_43, sizg3_44, sizg3_45, sizg3_46, sizg3_47, sizg3_48, sizg3_49, sizg3_50, sizg3_51, sizg3_52, sizg3_53, sizg3_54, sizg3_55, sizg3_56, sizg3_57, List.range, List.range.loop]) | (refine Walk.oq ?_; try walk_nrm) | (refine Walk.un ?_; walk_nrm))
  exact .stop fun d => ⟨⟨_, rfl, rfl, rfl, rfl, rfl, rfl⟩, d, rfl⟩
end
end
section
section
variable {main : Bool} {V : Nat → Option Wait}
theorem of_10 (hA : ∀ b, Apart V b) (oa : Option Addr) (K oc : Nat) (bb P : Nat) (q tries : Int) (hK : 0 < K) (hK5 : K ≤ 5) (N : Nat) (hN : N = triesN tries) (n : Int) (hqn : q ≤ n) (tn : Nat) (htn : tn ≤ N) (htn1 : 1 ≤ tn) (ld sn al : Nat) (hld : ld = K * tn) (hal : al = tn) (hsn : sn = ld + al) {w : World} (hs : w.cell? ⟨P, 0, none⟩ = some (.int .i64 sn)) (u : Nat → Value) :
    Walk Try.prog main (DR V) (fun g w' => Closing 3 8 (.bool true) g ∧ (∃ d, w' = w.at d)) (G (hdOd oa K oc (.pointer (some ⟨bb, 0, none⟩)) P q tries 1 n 0 (ld : Int) K u) []) w := by
  have hi1 : decide ((K : Int) < K) = false := by simp
  have hi3 : decide (K < K) = false := by simp
  have k0 : ((K : Int) == 0) = false := by rw [beq_eq_false_iff_ne]; omega
  have k1 : ¬ (K : Int) = 0 := by omega
  have k2 : ¬ K = 0 := by omega
  have hmn := @events_min_ints Try.prog
  have hmx := @events_max_ints Try.prog
  have htr : min (max tries 1) 1024 = (N : Int) := by rw [hN]; unfold triesN; omega
  have hnq : decide (n < q) = false := decide_eq_false (by omega)
  have hN2 : N ≤ 1024 := by rw [hN]; unfold triesN; omega
  have hN1 : 1 ≤ N := by rw [hN]; unfold triesN; omega
  have hlb : ld ≤ 5120 := by
    rw [hld]
    have : K * tn ≤ 5 * 1024 := Nat.mul_le_mul hK5 (by omega)
    omega
  have haw : IntKind.wrap .i64 ((sn : Int) - (ld : Int)) = (al : Int) := by rw [IntKind.wrap_i64]; omega
  have hq1 : Int.tdiv (ld : Int) K = (tn : Int) := by
    have h : Int.tdiv (ld : Int) K = ((ld / K : Nat) : Int) := rfl
    rw [h, hld, Nat.mul_div_cancel_left _ hK]
  have hq2 : Int.tmod (ld : Int) K = 0 := by
    have h : Int.tmod (ld : Int) K = ((ld % K : Nat) : Int) := rfl
    rw [h, hld, Nat.mul_mod_right]
    rfl
  have hwq : IntKind.wrap .i64 (tn : Int) = (tn : Int) := by rw [IntKind.wrap_i64]; omega
  have hw00 : IntKind.wrap .i64 0 = 0 := by decide
  have hgt : decide ((N : Int) < tn) = false := decide_eq_false (by omega)
  have hgt2 : decide (N < tn) = false := decide_eq_false (by omega)
  have hl1 : decide ((tn : Int) < 1) = false := decide_eq_false (by omega)
  subst hal
  clear hsn hld hlb
  clear hN
  conv => arg 5; unfold hdOd
  repeat (first | refine Walk.c rfl ?_ | refine Walk.cRet ?_ | refine Walk.cEnd ?_ | (refine Walk.cReg ?_; simp only [sizg3_0, sizg3_1, sizg3_2, sizg3_3, sizg3_4, sizg3_5, sizg3_6, sizg3_7, sizg3_8, sizg3_9, sizg3_10, sizg3_11, sizg3_12, sizg3_13, sizg3_14, sizg3_15, sizg3_16, sizg3_17, sizg3_18, sizg3_19, sizg3_20, sizg3_21, sizg3_22, sizg3_23, sizg3_24, sizg3_25, sizg3_26, sizg3_27, sizg3_28, sizg3_29, sizg3_30, sizg3_31, sizg3_32, sizg3_33, sizg3_34, sizg3_35, sizg3_36, sizg3_37, sizg3_38, sizg3_39, sizg3_40, sizg3_41, sizg3_42, sizg3_43, sizg3_44, sizg3_45, sizg3_46, sizg3_47, sizg3_48, sizg3_49, sizg3_50, sizg3_51, sizg3_52, sizg3_53, sizg3_54, sizg3_55, sizg3_56, sizg3_57, List.range, List.range.loop]) | (refine Walk.oq ?_; try walk_nrm) | (refine Walk.un ?_; walk_nrm))
  exact .stop fun d => ⟨⟨_, rfl, rfl, rfl, rfl, rfl, rfl⟩, d, rfl⟩
end
end
section
section
variable {main : Bool} {V : Nat → Option Wait}
theorem of_14 (hA : ∀ b, Apart V b) (oa : Option Addr) (K oc : Nat) (bb P : Nat) (q tries : Int) (hK : 0 < K) (hK5 : K ≤ 5) (N : Nat) (hN : N = triesN tries) (ld sn al : Nat) (hld : ld = K * N) (hal : al = N) (hsn : sn = ld + al) {w : World} (hs : w.cell? ⟨P, 0, none⟩ = some (.int .i64 sn)) (u : Nat → Value) :
    Walk Try.prog main (DR V) (fun g w' => Closing 3 8 (.bool true) g ∧ (∃ d, w' = w.at d)) (G (hdOd oa K oc (.pointer (some ⟨bb, 0, none⟩)) P q tries 1 0 4 (ld : Int) K u) []) w := by
  have hi1 : decide ((K : Int) < K) = false := by simp
  have hi3 : decide (K < K) = false := by simp
  have k0 : ((K : Int) == 0) = false := by rw [beq_eq_false_iff_ne]; omega
  have k1 : ¬ (K : Int) = 0 := by omega
  have k2 : ¬ K = 0 := by omega
  have hmn := @events_min_ints Try.prog
  have hmx := @events_max_ints Try.prog
  have htr : min (max tries 1) 1024 = (N : Int) := by rw [hN]; unfold triesN; omega
  have hN2 : N ≤ 1024 := by rw [hN]; unfold triesN; omega
  have hN1 : 1 ≤ N := by rw [hN]; unfold triesN; omega
  have hlb : ld ≤ 5120 := by
    rw [hld]
    have : K * N ≤ 5 * 1024 := Nat.mul_le_mul hK5 (by omega)
    omega
  have haw : IntKind.wrap .i64 ((sn : Int) - (ld : Int)) = (al : Int) := by rw [IntKind.wrap_i64]; omega
  have hq1 : Int.tdiv (ld : Int) K = (N : Int) := by
    have h : Int.tdiv (ld : Int) K = ((ld / K : Nat) : Int) := rfl
    rw [h, hld, Nat.mul_div_cancel_left _ hK]
  have hq2 : Int.tmod (ld : Int) K = 0 := by
    have h : Int.tmod (ld : Int) K = ((ld % K : Nat) : Int) := rfl
    rw [h, hld, Nat.mul_mod_right]
    rfl
  have hwq : IntKind.wrap .i64 (N : Int) = (N : Int) := by rw [IntKind.wrap_i64]; omega
  have hw00 : IntKind.wrap .i64 0 = 0 := by decide
  have hl1 : decide ((N : Int) < 1) = false := decide_eq_false (by omega)
  subst hal
  clear hsn hld hlb
  clear hN
  conv => arg 5; unfold hdOd
  repeat (first | refine Walk.c rfl ?_ | refine Walk.cRet ?_ | refine Walk.cEnd ?_ | (refine Walk.cReg ?_; simp only [sizg3_0, sizg3_1, sizg3_2, sizg3_3, sizg3_4, sizg3_5, sizg3_6, sizg3_7, sizg3_8, sizg3_9, sizg3_10, sizg3_11, sizg3_12, sizg3_13, sizg3_14, sizg3_15, sizg3_16, sizg3_17, sizg3_18, sizg3_19, sizg3_20, sizg3_21, sizg3_22, sizg3_23, sizg3_24, sizg3_25, sizg3_26, sizg3_27, sizg3_28, sizg3_29, sizg3_30, sizg3_31, sizg3_32, sizg3_33, sizg3_34, sizg3_35, sizg3_36, sizg3_37, sizg3_38, sizg3_39, sizg3_40, sizg3_41, sizg3_42, sizg3_43, sizg3_44, sizg3_45, sizg3_46, sizg3_47, sizg3_48, sizg3_49, sizg3_50, sizg3_51, sizg3_52, sizg3_53, sizg3_54, sizg3_55, sizg3_56, sizg3_57, List.range, List.range.loop]) | (refine Walk.oq ?_; try walk_nrm) | (refine Walk.un ?_; walk_nrm))
  exact .stop fun d => ⟨⟨_, rfl, rfl, rfl, rfl, rfl, rfl⟩, d, rfl⟩
end
end
end Go.Proofs.Ytgfajibjedfkdaa
