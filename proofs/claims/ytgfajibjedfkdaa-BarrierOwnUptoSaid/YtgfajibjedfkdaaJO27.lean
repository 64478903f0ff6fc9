/- Part 27. -/
import Derived.Test.YtgfajibjedfkdaaJO22
set_option linter.unusedSimpArgs false
set_option linter.unusedVariables false
set_option maxHeartbeats 8000000
set_option maxRecDepth 100000
namespace Go.Proofs.Ytgfajibjedfkdaa
open Go.Conc Go.RowKit Go.Relay
open Go.ConcN (upd upd_ne upd_same)
theorem sizf3_0 : reg3_0.size = 1 := by kernel_rfl
theorem sizf3_1 : reg3_1.size = 2 := by kernel_rfl
theorem sizf3_2 : reg3_2.size = 1 := by kernel_rfl
theorem sizf3_3 : reg3_3.size = 1 := by kernel_rfl
theorem sizf3_4 : reg3_4.size = 1 := by kernel_rfl
theorem sizf3_5 : reg3_5.size = 7 := by kernel_rfl
theorem sizf3_6 : reg3_6.size = 1 := by kernel_rfl
theorem sizf3_7 : reg3_7.size = 3 := by kernel_rfl
theorem sizf3_8 : reg3_8.size = 3 := by kernel_rfl
theorem sizf3_9 : reg3_9.size = 1 := by kernel_rfl
theorem sizf3_10 : reg3_10.size = 3 := by kernel_rfl
theorem sizf3_11 : reg3_11.size = 1 := by kernel_rfl
theorem sizf3_12 : reg3_12.size = 3 := by kernel_rfl
theorem sizf3_13 : reg3_13.size = 6 := by kernel_rfl
theorem sizf3_14 : reg3_14.size = 11 := by kernel_rfl
theorem sizf3_15 : reg3_15.size = 2 := by kernel_rfl
theorem sizf3_16 : reg3_16.size = 5 := by kernel_rfl
theorem sizf3_17 : reg3_17.size = 6 := by kernel_rfl
theorem sizf3_18 : reg3_18.size = 2 := by kernel_rfl
theorem sizf3_19 : reg3_19.size = 1 := by kernel_rfl
theorem sizf3_20 : reg3_20.size = 3 := by kernel_rfl
theorem sizf3_21 : reg3_21.size = 8 := by kernel_rfl
theorem sizf3_22 : reg3_22.size = 4 := by kernel_rfl
theorem sizf3_23 : reg3_23.size = 4 := by kernel_rfl
theorem sizf3_24 : reg3_24.size = 3 := by kernel_rfl
theorem sizf3_25 : reg3_25.size = 1 := by kernel_rfl
theorem sizf3_26 : reg3_26.size = 2 := by kernel_rfl
theorem sizf3_27 : reg3_27.size = 12 := by kernel_rfl
theorem sizf3_28 : reg3_28.size = 12 := by kernel_rfl
theorem sizf3_29 : reg3_29.size = 1 := by kernel_rfl
theorem sizf3_30 : reg3_30.size = 9 := by kernel_rfl
theorem sizf3_31 : reg3_31.size = 1 := by kernel_rfl
theorem sizf3_32 : reg3_32.size = 8 := by kernel_rfl
theorem sizf3_33 : reg3_33.size = 2 := by kernel_rfl
theorem sizf3_34 : reg3_34.size = 3 := by kernel_rfl
theorem sizf3_35 : reg3_35.size = 12 := by kernel_rfl
theorem sizf3_36 : reg3_36.size = 1 := by kernel_rfl
theorem sizf3_37 : reg3_37.size = 3 := by kernel_rfl
theorem sizf3_38 : reg3_38.size = 1 := by kernel_rfl
theorem sizf3_39 : reg3_39.size = 3 := by kernel_rfl
theorem sizf3_40 : reg3_40.size = 7 := by kernel_rfl
theorem sizf3_41 : reg3_41.size = 2 := by kernel_rfl
theorem sizf3_42 : reg3_42.size = 7 := by kernel_rfl
theorem sizf3_43 : reg3_43.size = 14 := by kernel_rfl
theorem sizf3_44 : reg3_44.size = 4 := by kernel_rfl
theorem sizf3_45 : reg3_45.size = 28 := by kernel_rfl
theorem sizf3_46 : reg3_46.size = 20 := by kernel_rfl
theorem sizf3_47 : reg3_47.size = 1 := by kernel_rfl
theorem sizf3_48 : reg3_48.size = 4 := by kernel_rfl
theorem sizf3_49 : reg3_49.size = 7 := by kernel_rfl
theorem sizf3_50 : reg3_50.size = 2 := by kernel_rfl
theorem sizf3_51 : reg3_51.size = 18 := by kernel_rfl
theorem sizf3_52 : reg3_52.size = 5 := by kernel_rfl
theorem sizf3_53 : reg3_53.size = 23 := by kernel_rfl
theorem sizf3_54 : reg3_54.size = 1 := by kernel_rfl
theorem sizf3_55 : reg3_55.size = 2 := by kernel_rfl
theorem sizf3_56 : reg3_56.size = 6 := by kernel_rfl
theorem sizf3_57 : reg3_57.size = 4 := by kernel_rfl
section
section
variable {main : Bool} {V : Nat → Option Wait}
theorem of_20 (hA : ∀ b, Apart V b) (oa : Option Addr) (K oc : Nat) (bb P : Nat) (q tries : Int) (hK : 0 < K) (hK5 : K ≤ 5) (N : Nat) (hN : N = triesN tries) (n : Int) (hqn : q ≤ n) (ld : Nat) (hld : ld ≤ N) {w : World} (hs : w.cell? ⟨P, 0, none⟩ = some (.int .i64 (((2 * ld : Nat)) : Int))) (u : Nat → Value) :
    Walk Try.prog main (DR V) (fun g w' => Closing 3 8 (.bool true) g ∧ (∃ d, w' = w.at d)) (G (hdOd oa K oc (.pointer (some ⟨bb, 0, none⟩)) P q tries 2 n 0 (ld : Int) K u) []) w := by
  have hi1 : decide ((K : Int) < K) = false := by simp
  have hi3 : decide (K < K) = false := by simp
  have k0 : ((K : Int) == 0) = false := by rw [beq_eq_false_iff_ne]; omega
  have k1 : ¬ (K : Int) = 0 := by omega
  have k2 : ¬ K = 0 := by omega
  have hmn := @events_min_ints Try.prog
  have hmx := @events_max_ints Try.prog
  have htr : min (max tries 1) 1024 = (N : Int) := by rw [hN]; unfold triesN; omega
  have hnq : decide (n < q) = false := decide_eq_false (by omega)
  have hN2 : N ≤ 1024 := by rw [hN]; unfold triesN; omega
  have haw : IntKind.wrap .i64 (((2 * ld : Nat) : Int) - (ld : Int)) = (ld : Int) := by rw [IntKind.wrap_i64]; omega
  have hle : decide ((ld : Int) ≤ N) = true := decide_eq_true (by omega)
  have hle2 : decide (ld ≤ N) = true := decide_eq_true (by omega)
  generalize ((2 * ld : Nat) : Int) = sn at *
  clear hN
  conv => arg 5; unfold hdOd
  repeat (first | refine Walk.c rfl ?_ | refine Walk.cRet ?_ | refine Walk.cEnd ?_ | (refine Walk.cReg ?_; simp only [sizf3_0, sizf3_1, sizf3_2, sizf3_3, sizf3_4, sizf3_5, sizf3_6, sizf3_7, sizf3_8, sizf3_9, sizf3_10, sizf3_11, sizf3_12, sizf3_13, sizf3_14, sizf3_15, sizf3_16, sizf3_17, sizf3_18, sizf3_19, sizf3_20, sizf3_21, sizf3_22, sizf3_23, sizf3_24, sizf3_25, sizf3_26, sizf3_27, sizf3_28, sizf3_29, sizf3_30, sizf3_31, sizf3_32, sizf3_33, sizf3_34, sizf3_35, sizf3_36, sizf3_37, sizf3_38, sizf3_39, sizf3_40, sizf3_41, sizf3_42, sizf3_43, sizf3_44, sizf3_45, sizf3_46, sizf3_47, sizf3_48, sizf3_49, sizf3_50, sizf3_51, sizf3_52, sizf3_53, sizf3_54, sizf3_55, sizf3_56, sizf3_57, List.range, List.range.loop]) | (refine Walk.oq ?_; try walk_nrm) | (refine Walk.un ?_; walk_nrm))
  exact .stop fun d => ⟨⟨_, rfl, rfl, rfl, rfl, rfl, rfl⟩, d, rfl⟩
theorem of_24 (hA : ∀ b, Apart V b) (oa : Option Addr) (K oc : Nat) (bb P : Nat) (q tries : Int) (hK : 0 < K) (hK5 : K ≤ 5) (N : Nat) (hN : N = triesN tries) {w : World} (hs : w.cell? ⟨P, 0, none⟩ = some (.int .i64 (((2 * N : Nat)) : Int))) (u : Nat → Value) :
    Walk Try.prog main (DR V) (fun g w' => Closing 3 8 (.bool true) g ∧ (∃ d, w' = w.at d)) (G (hdOd oa K oc (.pointer (some ⟨bb, 0, none⟩)) P q tries 2 0 4 (N : Int) K u) []) w := by
  have hi1 : decide ((K : Int) < K) = false := by simp
  have hi3 : decide (K < K) = false := by simp
  have k0 : ((K : Int) == 0) = false := by rw [beq_eq_false_iff_ne]; omega
  have k1 : ¬ (K : Int) = 0 := by omega
  have k2 : ¬ K = 0 := by omega
  have hmn := @events_min_ints Try.prog
  have hmx := @events_max_ints Try.prog
  have htr : min (max tries 1) 1024 = (N : Int) := by rw [hN]; unfold triesN; omega
  have hN2 : N ≤ 1024 := by rw [hN]; unfold triesN; omega
  have haw : IntKind.wrap .i64 (((2 * N : Nat) : Int) - (N : Int)) = (N : Int) := by rw [IntKind.wrap_i64]; omega
  generalize ((2 * N : Nat) : Int) = sn at *
  clear hN
  conv => arg 5; unfold hdOd
  repeat (first | refine Walk.c rfl ?_ | refine Walk.cRet ?_ | refine Walk.cEnd ?_ | (refine Walk.cReg ?_; simp only [sizf3_0, sizf3_1, sizf3_2, sizf3_3, sizf3_4, sizf3_5, sizf3_6, sizf3_7, sizf3_8, sizf3_9, sizf3_10, sizf3_11, sizf3_12, sizf3_13, sizf3_14, sizf3_15, sizf3_16, sizf3_17, sizf3_18, sizf3_19, sizf3_20, sizf3_21, sizf3_22, sizf3_23, sizf3_24, sizf3_25, sizf3_26, sizf3_27, sizf3_28, sizf3_29, sizf3_30, sizf3_31, sizf3_32, sizf3_33, sizf3_34, sizf3_35, sizf3_36, sizf3_37, sizf3_38, sizf3_39, sizf3_40, sizf3_41, sizf3_42, sizf3_43, sizf3_44, sizf3_45, sizf3_46, sizf3_47, sizf3_48, sizf3_49, sizf3_50, sizf3_51, sizf3_52, sizf3_53, sizf3_54, sizf3_55, sizf3_56, sizf3_57, List.range, List.range.loop]) | (refine Walk.oq ?_; try walk_nrm) | (refine Walk.un ?_; walk_nrm))
  exact .stop fun d => ⟨⟨_, rfl, rfl, rfl, rfl, rfl, rfl⟩, d, rfl⟩
end
end
section
section
variable {main : Bool} {V : Nat → Option Wait}
theorem of_30 (hA : ∀ b, Apart V b) (oa : Option Addr) (K oc : Nat) (bb P : Nat) (q tries : Int) (hK : 0 < K) (hK5 : K ≤ 5) (N : Nat) (hN : N = triesN tries) (n : Int) (hqn : q ≤ n) (tn : Nat) (htn : tn ≤ N) (htn1 : 1 ≤ tn) (ld sn al : Nat) (hld : ld = K * tn) (hal : al = (tn + 7) / 8) (hsn : sn = ld + al) {w : World} (hs : w.cell? ⟨P, 0, none⟩ = some (.int .i64 sn)) (u : Nat → Value) :
    Walk Try.prog main (DR V) (fun g w' => Closing 3 8 (.bool true) g ∧ (∃ d, w' = w.at d)) (G (hdOd oa K oc (.pointer (some ⟨bb, 0, none⟩)) P q tries 3 n 0 (ld : Int) K u) []) w := by
  have hi1 : decide ((K : Int) < K) = false := by simp
  have hi3 : decide (K < K) = false := by simp
  have k0 : ((K : Int) == 0) = false := by rw [beq_eq_false_iff_ne]; omega
  have k1 : ¬ (K : Int) = 0 := by omega
  have k2 : ¬ K = 0 := by omega
  have hmn := @events_min_ints Try.prog
  have hmx := @events_max_ints Try.prog
  have htr : min (max tries 1) 1024 = (N : Int) := by rw [hN]; unfold triesN; omega
  have hnq : decide (n < q) = false := decide_eq_false (by omega)
  have hN2 : N ≤ 1024 := by rw [hN]; unfold triesN; omega
  have hN1 : 1 ≤ N := by rw [hN]; unfold triesN; omega
  have hlb : ld ≤ 5120 := by
    rw [hld]
    have : K * tn ≤ 5 * 1024 := Nat.mul_le_mul hK5 (by omega)
    omega
  have haw : IntKind.wrap .i64 ((sn : Int) - (ld : Int)) = (al : Int) := by rw [IntKind.wrap_i64]; omega
  have hq1 : Int.tdiv (ld : Int) K = (tn : Int) := by
    have h : Int.tdiv (ld : Int) K = ((ld / K : Nat) : Int) := rfl
    rw [h, hld, Nat.mul_div_cancel_left _ hK]
  have hq2 : Int.tmod (ld : Int) K = 0 := by
    have h : Int.tmod (ld : Int) K = ((ld % K : Nat) : Int) := rfl
    rw [h, hld, Nat.mul_mod_right]
    rfl
  have hwq : IntKind.wrap .i64 (tn : Int) = (tn : Int) := by rw [IntKind.wrap_i64]; omega
  have hw00 : IntKind.wrap .i64 0 = 0 := by decide
  have hgt : decide ((N : Int) < tn) = false := decide_eq_false (by omega)
  have hgt2 : decide (N < tn) = false := decide_eq_false (by omega)
  have hl1 : decide ((tn : Int) < 1) = false := decide_eq_false (by omega)
  have hw8 : IntKind.wrap .i64 ((tn : Int) + 7) = (tn : Int) + 7 := by rw [IntKind.wrap_i64]; omega
  have hq8 : Int.tdiv ((tn : Int) + 7) 8 = (al : Int) := by
    have h : Int.tdiv (((tn + 7 : Nat)) : Int) 8 = (((tn + 7) / 8 : Nat) : Int) := rfl
    rw [hal, ← h]
    rfl
  have hwa : IntKind.wrap .i64 (al : Int) = (al : Int) := by rw [IntKind.wrap_i64]; omega
  clear hal
  clear hsn hld hlb
  clear hN
  conv => arg 5; unfold hdOd
  repeat (first | refine Walk.c rfl ?_ | refine Walk.cRet ?_ | refine Walk.cEnd ?_ | (refine Walk.cReg ?_; simp only [sizf3_0, sizf3_1, sizf3_2, sizf3_3, sizf3_4, sizf3_5, sizf3_6, sizf3_7, sizf3_8, sizf3_9, sizf3_10, sizf3_11, sizf3_12, sizf3_13, sizf3_14, sizf3_15, sizf3_16, sizf3_17, sizf3_18, sizf3_19, sizf3_20, sizf3_21, sizf3_22, sizf3_23, sizf3_24, sizf3_25, sizf3_26, sizf3_27, sizf3_28, sizf3_29, sizf3_30, sizf3_31, sizf3_32, sizf3_33, sizf3_34, sizf3_35, sizf3_36, sizf3_37, sizf3_38, sizf3_39, sizf3_40, sizf3_41, sizf3_42, sizf3_43, sizf3_44, sizf3_45, sizf3_46, sizf3_47, sizf3_48, sizf3_49, sizf3_50, sizf3_51, sizf3_52, sizf3_53, sizf3_54, sizf3_55, sizf3_56, sizf3_57, List.range, List.range.loop]) | (refine Walk.oq ?_; try walk_nrm) | (refine Walk.un ?_; walk_nrm))
  exact .stop fun d => ⟨⟨_, rfl, rfl, rfl, rfl, rfl, rfl⟩, d, rfl⟩
end
end
section
section
variable {main : Bool} {V : Nat → Option Wait}
theorem of_34 (hA : ∀ b, Apart V b) (oa : Option Addr) (K oc : Nat) (bb P : Nat) (q tries : Int) (hK : 0 < K) (hK5 : K ≤ 5) (N : Nat) (hN : N = triesN tries) (ld sn al : Nat) (hld : ld = K * N) (hal : al = (N + 7) / 8) (hsn : sn = ld + al) {w : World} (hs : w.cell? ⟨P, 0, none⟩ = some (.int .i64 sn)) (u : Nat → Value) :
    Walk Try.prog main (DR V) (fun g w' => Closing 3 8 (.bool true) g ∧ (∃ d, w' = w.at d)) (G (hdOd oa K oc (.pointer (some ⟨bb, 0, none⟩)) P q tries 3 0 4 (ld : Int) K u) []) w := by
  have hi1 : decide ((K : Int) < K) = false := by simp
  have hi3 : decide (K < K) = false := by simp
  have k0 : ((K : Int) == 0) = false := by rw [beq_eq_false_iff_ne]; omega
  have k1 : ¬ (K : Int) = 0 := by omega
  have k2 : ¬ K = 0 := by omega
  have hmn := @events_min_ints Try.prog
  have hmx := @events_max_ints Try.prog
  have htr : min (max tries 1) 1024 = (N : Int) := by rw [hN]; unfold triesN; omega
  have hN2 : N ≤ 1024 := by rw [hN]; unfold triesN; omega
  have hN1 : 1 ≤ N := by rw [hN]; unfold triesN; omega
  have hlb : ld ≤ 5120 := by
    rw [hld]
    have : K * N ≤ 5 * 1024 := Nat.mul_le_mul hK5 (by omega)
    omega
  have haw : IntKind.wrap .i64 ((sn : Int) - (ld : Int)) = (al : Int) := by rw [IntKind.wrap_i64]; omega
  have hq1 : Int.tdiv (ld : Int) K = (N : Int) := by
    have h : Int.tdiv (ld : Int) K = ((ld / K : Nat) : Int) := rfl
    rw [h, hld, Nat.mul_div_cancel_left _ hK]
  have hq2 : Int.tmod (ld : Int) K = 0 := by
    have h : Int.tmod (ld : Int) K = ((ld % K : Nat) : Int) := rfl
    rw [h, hld, Nat.mul_mod_right]
    rfl
  have hwq : IntKind.wrap .i64 (N : Int) = (N : Int) := by rw [IntKind.wrap_i64]; omega
  have hw00 : IntKind.wrap .i64 0 = 0 := by decide
  have hl1 : decide ((N : Int) < 1) = false := decide_eq_false (by omega)
  have hw8 : IntKind.wrap .i64 ((N : Int) + 7) = (N : Int) + 7 := by rw [IntKind.wrap_i64]; omega
  have hq8 : Int.tdiv ((N : Int) + 7) 8 = (al : Int) := by
    have h : Int.tdiv (((N + 7 : Nat)) : Int) 8 = (((N + 7) / 8 : Nat) : Int) := rfl
    rw [hal, ← h]
    rfl
  have hwa : IntKind.wrap .i64 (al : Int) = (al : Int) := by rw [IntKind.wrap_i64]; omega
  clear hal
  clear hsn hld hlb
  clear hN
  conv => arg 5; unfold hdOd
  repeat (first | refine Walk.c rfl ?_ | refine Walk.cRet ?_ | refine Walk.cEnd ?_ | (refine Walk.cReg ?_; simp only [sizf3_0, sizf3_1, sizf3_2, sizf3_3, sizf3_4, sizf3_5, sizf3_6, sizf3_7, sizf3_8, sizf3_9, sizf3_10, sizf3_11, sizf3_12, sizf3_13, sizf3_14, sizf3_15, sizf3_16, sizf3_17, sizf3_18, sizf3_19, sizf3_20, sizf3_21, sizf3_22, sizf3_23, sizf3_24, sizf3_25, sizf3_26, sizf3_27, sizf3_28, sizf3_29, sizf3_30, sizf3_31, sizf3_32, sizf3_33, sizf3_34, sizf3_35, sizf3_36, sizf3_37, sizf3_38, sizf3_39, sizf3_40, sizf3_41, sizf3_42, sizf3_43, sizf3_44, sizf3_45, sizf3_46, sizf3_47, sizf3_48, sizf3_49, sizf3_50, sizf3_51, sizf3_52, sizf3_53, sizf3_54, sizf3_55, sizf3_56, sizf3_57, List.range, List.range.loop]) | (refine Walk.oq ?_; try walk_nrm) | (refine Walk.un ?_; walk_nrm))
  exact .stop fun d => ⟨⟨_, rfl, rfl, rfl, rfl, rfl, rfl⟩, d, rfl⟩
end
end
end Go.Proofs.Ytgfajibjedfkdaa
