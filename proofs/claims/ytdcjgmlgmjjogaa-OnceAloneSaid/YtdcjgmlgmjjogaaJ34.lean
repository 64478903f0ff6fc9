/- Part 34. -/
import Derived.Test.YtdcjgmlgmjjogaaJ24
set_option linter.unusedSimpArgs false
set_option linter.unusedVariables false
set_option maxHeartbeats 8000000
set_option maxRecDepth 100000
namespace Go.Proofs.Ytdcjgmlgmjjogaa
open Go.Conc Go.RowKit Go.Relay
open Go.ConcN (upd upd_ne upd_same)
section
noncomputable def reg36_0 := rg Try.f36.body [0]
noncomputable def reg36_1 := rg Try.f36.body [1, 0]
noncomputable def reg36_2 := rg Try.f36.body [1, 1, 0, 0]
noncomputable def reg36_3 := rg Try.f36.body [1, 1, 0, 1, 0, 0, 0, 0]
noncomputable def reg36_5 := rg Try.f36.body [1, 1, 0, 1, 0, 0, 1, 0, 0, 0]
noncomputable def reg36_6 := rg Try.f36.body [1, 1, 0, 1, 0, 0, 1, 0, 0, 1, 0]
noncomputable def reg36_4 := rg Try.f36.body [1, 1, 0, 1, 0, 0, 1, 1]
noncomputable def reg36_7 := rg Try.f36.body [1, 1, 1, 0, 0]
noncomputable def reg36_8 := rg Try.f36.body [1, 1, 1, 0, 1, 0, 0]
noncomputable def reg36_9 := rg Try.f36.body [1, 1, 1, 1, 0, 0]
theorem size36_9 : reg36_9.size = 10 := by kernel_rfl
noncomputable def reg36_10 := rg Try.f36.body [1, 1, 1, 1, 0, 1, 0, 0]
noncomputable def reg36_11 := rg Try.f36.body [1, 1, 1, 1, 0, 1, 0, 1, 0]
noncomputable def reg36_12 := rg Try.f36.body [1, 1, 1, 1, 1, 0, 0, 0, 0, 0]
theorem size36_12 : reg36_12.size = 10 := by kernel_rfl
noncomputable def reg36_13 := rg Try.f36.body [1, 1, 1, 1, 1, 0, 0, 0, 1, 0, 0]
theorem size36_13 : reg36_13.size = 11 := by kernel_rfl
noncomputable def reg36_14 := rg Try.f36.body [1, 1, 1, 1, 1, 0, 0, 0, 1, 0, 1, 0]
noncomputable def reg36_15 := rg Try.f36.body [1, 1, 1, 1, 1, 0, 0, 0, 1, 0, 1, 1, 0]
noncomputable def reg36_16 := rg Try.f36.body [1, 1, 1, 1, 1, 0, 0, 0, 1, 0, 1, 1, 1, 0, 0]
noncomputable def reg36_17 := rg Try.f36.body [1, 1, 1, 1, 1, 0, 0, 0, 1, 0, 1, 1, 1, 0, 1, 0]
noncomputable def reg36_18 := rg Try.f36.body [1, 1, 1, 1, 1, 1, 0, 0, 0, 0, 0]
noncomputable def reg36_19 := rg Try.f36.body [1, 1, 1, 1, 1, 1, 0, 0, 0, 1, 0]
noncomputable def reg36_20 := rg Try.f36.body [1, 1, 1, 1, 1, 1, 1, 0]
noncomputable def reg36_21 := rg Try.f36.body [1, 1, 1, 1, 1, 1, 1, 1, 0]
noncomputable def reg36_22 := rg Try.f36.body [1, 1, 1, 1, 1, 1, 1, 1, 1, 0]
noncomputable def reg36_23 := rg Try.f36.body [1, 1, 1, 1, 1, 1, 1, 1, 1, 1, 0]
theorem z36 : List.range reg36_0.size = [0] ∧ List.range reg36_1.size = [0] ∧ List.range reg36_2.size = [0] ∧ List.range reg36_3.size = [0, 1, 2, 3] ∧ List.range reg36_4.size = [0, 1, 2] ∧ List.range reg36_5.size = [0, 1, 2, 3, 4, 5, 6, 7] ∧ List.range reg36_6.size = [0, 1, 2] ∧ List.range reg36_7.size = [0, 1] ∧ List.range reg36_8.size = [0] ∧ List.range reg36_9.size = [0, 1, 2, 3, 4, 5, 6, 7, 8, 9] ∧ List.range reg36_10.size = [0, 1, 2, 3] ∧ List.range reg36_11.size = [0] ∧ List.range reg36_12.size = [0, 1, 2, 3, 4, 5, 6, 7, 8, 9] ∧ List.range reg36_13.size = [0, 1, 2, 3, 4, 5, 6, 7, 8, 9, 10] ∧ List.range reg36_14.size = [0, 1, 2, 3, 4, 5, 6, 7, 8] ∧ List.range reg36_15.size = [0, 1, 2, 3, 4, 5, 6, 7, 8, 9, 10, 11, 12, 13, 14, 15, 16, 17] ∧ List.range reg36_16.size = [0, 1, 2, 3, 4, 5, 6, 7, 8, 9, 10] ∧ List.range reg36_17.size = [0, 1] ∧ List.range reg36_18.size = [0, 1, 2, 3, 4, 5, 6, 7, 8, 9] ∧ List.range reg36_19.size = [0, 1, 2, 3, 4, 5, 6, 7, 8, 9, 10, 11] ∧ List.range reg36_20.size = [0, 1, 2, 3, 4] ∧ List.range reg36_21.size = [0, 1, 2, 3, 4, 5, 6, 7, 8, 9, 10, 11] ∧ List.range reg36_22.size = [0, 1, 2, 3, 4, 5, 6, 7, 8, 9, 10] ∧ List.range reg36_23.size = [0, 1] := by refine ⟨?_, ?_, ?_, ?_, ?_, ?_, ?_, ?_, ?_, ?_, ?_, ?_, ?_, ?_, ?_, ?_, ?_, ?_, ?_, ?_, ?_, ?_, ?_, ?_⟩ <;> kernel_rfl
theorem code36_is : Try.f36.body = some (.seq (.region 0 reg36_0 false) (.seq (.region 1 reg36_1 false) (.seq (.seq (.region 2 reg36_2 false) (.block 0 (.loop (.seq (.seq (.region 3 reg36_3 false) (.cond (.tmp 12 ) (.skip) (.exit 0))) (.seq (.block 1 (.seq (.region 5 reg36_5 false) (.cond (.tmp 22 ) (.region 6 reg36_6 false) (.skip)))) (.region 4 reg36_4 false)))))) (.seq (.seq (.region 7 reg36_7 false) (.cond (.tmp 26 ) (.seq (.region 8 reg36_8 false) (.ret)) (.skip))) (.seq (.seq (.region 9 reg36_9 true) (.cond (.tmp 36 ) (.seq (.region 10 reg36_10 false) (.seq (.region 11 reg36_11 false) (.ret))) (.skip))) (.seq (.block 2 (.loop (.seq (.seq (.region 12 reg36_12 true) (.cond (.tmp 49 ) (.skip) (.exit 2))) (.block 3 (.seq (.region 13 reg36_13 true) (.seq (.region 14 reg36_14 false) (.seq (.region 15 reg36_15 false) (.cond (.tmp 85 ) (.seq (.region 16 reg36_16 false) (.seq (.region 17 reg36_17 false) (.ret))) (.skip))))))))) (.seq (.block 4 (.loop (.seq (.seq (.region 18 reg36_18 false) (.cond (.tmp 106 ) (.skip) (.exit 4))) (.block 5 (.region 19 reg36_19 false))))) (.seq (.region 20 reg36_20 false) (.seq (.region 21 reg36_21 false) (.seq (.region 22 reg36_22 false) (.seq (.region 23 reg36_23 false) (.ret)))))))))))) := by kernel_rfl
noncomputable def hdP0 (B : Nat) (tv : Value) (left i : Nat) (u : Nat → Value) : Frame :=
 (base 36).at { tmps := #[.pointer (some ⟨B, 0, none⟩), tv, u 2, u 3, u 4, .int .i64 left, .int .i64 i, u 7, u 8, u 9, u 10, u 11, u 12, u 13, u 14, u 15, u 16, u 17, u 18, u 19, u 20, u 21, u 22, u 23, u 24, u 25, u 26, u 27, u 28, u 29, u 30, u 31, u 32, u 33, u 34, u 35, u 36, u 37, u 38, u 39, u 40, u 41, u 42, u 43, u 44, u 45, u 46, u 47, u 48, u 49, u 50, u 51, u 52, u 53, u 54, u 55, u 56, u 57, u 58, u 59, u 60, u 61, u 62, u 63, u 64, u 65, u 66, u 67, u 68, u 69, u 70, u 71, u 72, u 73, u 74, u 75, u 76, u 77, u 78, u 79, u 80, u 81, u 82, u 83, u 84, u 85, u 86, u 87, u 88, u 89, u 90, u 91, u 92, u 93, u 94, u 95, u 96, u 97, u 98, u 99, u 100, u 101, u 102, u 103, u 104, u 105, u 106, u 107, u 108, u 109, u 110, u 111, u 112, u 113, u 114, u 115, u 116, u 117, u 118, u 119, u 120, u 121, u 122, u 123, u 124, u 125, u 126, u 127, u 128, u 129, u 130, u 131, u 132, u 133, u 134, u 135, u 136, u 137, u 138, u 139, u 140, u 141, u 142, u 143], defers := [] } [.code (.seq (.seq (.region 3 reg36_3 false) (.cond (.tmp 12 ) (.skip) (.exit 0))) (.seq (.block 1 (.seq (.region 5 reg36_5 false) (.cond (.tmp 22 ) (.region 6 reg36_6 false) (.skip)))) (.region 4 reg36_4 false))), .inLoop (.seq (.seq (.region 3 reg36_3 false) (.cond (.tmp 12 ) (.skip) (.exit 0))) (.seq (.block 1 (.seq (.region 5 reg36_5 false) (.cond (.tmp 22 ) (.region 6 reg36_6 false) (.skip)))) (.region 4 reg36_4 false))), .inBlock 0, .code (.seq (.seq (.region 7 reg36_7 false) (.cond (.tmp 26 ) (.seq (.region 8 reg36_8 false) (.ret)) (.skip))) (.seq (.seq (.region 9 reg36_9 true) (.cond (.tmp 36 ) (.seq (.region 10 reg36_10 false) (.seq (.region 11 reg36_11 false) (.ret))) (.skip))) (.seq (.block 2 (.loop (.seq (.seq (.region 12 reg36_12 true) (.cond (.tmp 49 ) (.skip) (.exit 2))) (.block 3 (.seq (.region 13 reg36_13 true) (.seq (.region 14 reg36_14 false) (.seq (.region 15 reg36_15 false) (.cond (.tmp 85 ) (.seq (.region 16 reg36_16 false) (.seq (.region 17 reg36_17 false) (.ret))) (.skip))))))))) (.seq (.block 4 (.loop (.seq (.seq (.region 18 reg36_18 false) (.cond (.tmp 106 ) (.skip) (.exit 4))) (.block 5 (.region 19 reg36_19 false))))) (.seq (.region 20 reg36_20 false) (.seq (.region 21 reg36_21 false) (.seq (.region 22 reg36_22 false) (.seq (.region 23 reg36_23 false) (.ret)))))))))]
noncomputable def hdP1 (B : Nat) (tv : Value) (u : Nat → Value) : Frame :=
 (base 36).at { tmps := #[.pointer (some ⟨B, 0, none⟩), tv, u 2, u 3, u 4, u 5, u 6, u 7, u 8, u 9, u 10, u 11, u 12, u 13, u 14, u 15, u 16, u 17, u 18, u 19, u 20, u 21, u 22, u 23, u 24, u 25, u 26, u 27, u 28, u 29, u 30, u 31, u 32, u 33, u 34, u 35, u 36, u 37, u 38, u 39, u 40, u 41, u 42, u 43, u 44, u 45, u 46, u 47, u 48, u 49, u 50, u 51, u 52, u 53, u 54, u 55, u 56, u 57, u 58, u 59, u 60, u 61, u 62, u 63, u 64, u 65, u 66, u 67, u 68, u 69, u 70, u 71, u 72, u 73, u 74, u 75, u 76, u 77, u 78, u 79, u 80, u 81, u 82, u 83, u 84, u 85, u 86, u 87, u 88, u 89, u 90, u 91, u 92, u 93, u 94, u 95, u 96, u 97, u 98, u 99, u 100, u 101, u 102, u 103, u 104, u 105, u 106, u 107, u 108, u 109, u 110, u 111, u 112, u 113, u 114, u 115, u 116, u 117, u 118, u 119, u 120, u 121, u 122, u 123, u 124, u 125, u 126, u 127, u 128, u 129, u 130, u 131, u 132, u 133, u 134, u 135, u 136, u 137, u 138, u 139, u 140, u 141, u 142, u 143], defers := [] } [.code (.seq (.seq (.region 12 reg36_12 true) (.cond (.tmp 49 ) (.skip) (.exit 2))) (.block 3 (.seq (.region 13 reg36_13 true) (.seq (.region 14 reg36_14 false) (.seq (.region 15 reg36_15 false) (.cond (.tmp 85 ) (.seq (.region 16 reg36_16 false) (.seq (.region 17 reg36_17 false) (.ret))) (.skip))))))), .inLoop (.seq (.seq (.region 12 reg36_12 true) (.cond (.tmp 49 ) (.skip) (.exit 2))) (.block 3 (.seq (.region 13 reg36_13 true) (.seq (.region 14 reg36_14 false) (.seq (.region 15 reg36_15 false) (.cond (.tmp 85 ) (.seq (.region 16 reg36_16 false) (.seq (.region 17 reg36_17 false) (.ret))) (.skip))))))), .inBlock 2, .code (.seq (.block 4 (.loop (.seq (.seq (.region 18 reg36_18 false) (.cond (.tmp 106 ) (.skip) (.exit 4))) (.block 5 (.region 19 reg36_19 false))))) (.seq (.region 20 reg36_20 false) (.seq (.region 21 reg36_21 false) (.seq (.region 22 reg36_22 false) (.seq (.region 23 reg36_23 false) (.ret))))))]
noncomputable def hdP2 (B : Nat) (tv : Value) (u : Nat → Value) : Frame :=
 (base 36).at { tmps := #[.pointer (some ⟨B, 0, none⟩), tv, u 2, u 3, u 4, u 5, u 6, u 7, u 8, u 9, u 10, u 11, u 12, u 13, u 14, u 15, u 16, u 17, u 18, u 19, u 20, u 21, u 22, u 23, u 24, u 25, u 26, u 27, u 28, u 29, u 30, u 31, u 32, u 33, u 34, u 35, u 36, u 37, u 38, u 39, u 40, u 41, u 42, u 43, u 44, u 45, u 46, u 47, u 48, u 49, u 50, u 51, u 52, u 53, u 54, u 55, u 56, u 57, u 58, u 59, u 60, u 61, u 62, u 63, u 64, u 65, u 66, u 67, u 68, u 69, u 70, u 71, u 72, u 73, u 74, u 75, u 76, u 77, u 78, u 79, u 80, u 81, u 82, u 83, u 84, u 85, u 86, u 87, u 88, u 89, u 90, u 91, u 92, u 93, u 94, u 95, u 96, u 97, u 98, u 99, u 100, u 101, u 102, u 103, u 104, u 105, u 106, u 107, u 108, u 109, u 110, u 111, u 112, u 113, u 114, u 115, u 116, u 117, u 118, u 119, u 120, u 121, u 122, u 123, u 124, u 125, u 126, u 127, u 128, u 129, u 130, u 131, u 132, u 133, u 134, u 135, u 136, u 137, u 138, u 139, u 140, u 141, u 142, u 143], defers := [] } [.code (.seq (.seq (.region 18 reg36_18 false) (.cond (.tmp 106 ) (.skip) (.exit 4))) (.block 5 (.region 19 reg36_19 false))), .inLoop (.seq (.seq (.region 18 reg36_18 false) (.cond (.tmp 106 ) (.skip) (.exit 4))) (.block 5 (.region 19 reg36_19 false))), .inBlock 4, .code (.seq (.region 20 reg36_20 false) (.seq (.region 21 reg36_21 false) (.seq (.region 22 reg36_22 false) (.seq (.region 23 reg36_23 false) (.ret)))))]
section
variable {main : Bool}
theorem pick_in (B : Nat) (tv : Value) (cs : List Frame) (w : World) :
  Walk Try.prog main (DR (fun _ => none)) (fun g w' => (∃ u, g = G (hdP0 B tv 0 0 u) cs) ∧ ∃ d, w' = w.at d) (G (Frame.enter Try.prog 36 #[.pointer (some ⟨B, 0, none⟩), tv] .normal) cs) w := by
 rw [enter_at _ Try.func36 code36_is]
 simp only [Try.ntmps36, ez, Nat.reduceAdd, Nat.reduceSub]
 repeat (first | refine Walk.cx ?_ | (refine Walk.cReg ?_; simp only [z36]) | (refine Walk.oq ?_; try walk_nrm) | (refine Walk.un ?_; walk_nrm))
 refine Walk.ctl rfl (fun w => stepG_loop) ?_
 refine .stop fun d => ⟨at_slots ?_, d, rfl⟩
 simp only [hdP0]
 rfl
theorem pick_cnt (B tl o n tc q i left : Nat) (e : Bool) (u : Nat → Value) (cs : List Frame) (w : World) (hi : i < n) (hn : n ≤ 64) (hl : left ≤ i) (h1 : w.cell? ⟨tl, o + i, none⟩ = some (.pointer (some ⟨q, 0, none⟩))) (h2 : w.cell? ⟨q, 13, none⟩ = some (.bool e)) :
  Walk Try.prog main (DR (fun _ => none)) (fun g w' => (∃ u', g = G (hdP0 B (.slice (some ⟨tl, o, none⟩) n tc) (if e then left else left + 1) (i + 1) u') cs) ∧ ∃ d, w' = w.at d) (G (hdP0 B (.slice (some ⟨tl, o, none⟩) n tc) left i u) cs) w := by
 have hw1 : IntKind.wrap .i64 ((i : Int) + 1) = (i : Int) + 1 := by rw [IntKind.wrap_i64]; omega
 have hw2 : IntKind.wrap .i64 ((left : Int) + 1) = (left : Int) + 1 := by rw [IntKind.wrap_i64]; omega
 conv => arg 5; unfold hdP0
 cases e with
 | false =>
  repeat (first | refine Walk.cx ?_ | (refine Walk.cReg ?_; simp only [z36]) | (refine Walk.oq ?_; try walk_nrm) | (refine Walk.un ?_; walk_nrm))
  refine Walk.ctl rfl (fun w => stepG_inLoop) ?_
  refine .stop fun d => ⟨at_slots ?_, d, rfl⟩
  have hc : ((i + 1 : Nat) : Int) = (i : Int) + 1 := by simp
  have hc2 : ((left + 1 : Nat) : Int) = (left : Int) + 1 := by simp
  simp only [hdP0, hc, hc2, Bool.false_eq_true, if_false]
  rfl
 | true =>
  repeat (first | refine Walk.cx ?_ | (refine Walk.cReg ?_; simp only [z36]) | (refine Walk.oq ?_; try walk_nrm) | (refine Walk.un ?_; walk_nrm))
  refine Walk.ctl rfl (fun w => stepG_inLoop) ?_
  refine .stop fun d => ⟨at_slots ?_, d, rfl⟩
  have hc : ((i + 1 : Nat) : Int) = (i : Int) + 1 := by simp
  simp only [hdP0, hc, if_true]
  rfl
theorem pick_count (S : Nat → Prop) (B : Nat) (ta : Option Addr) (n tc : Nat) (f : Nat → Bool) (cs : List Frame) (w : World) (hn : n ≤ 64) (he : EndAt S ta n f w) : ∀ (r i left : Nat) (u : Nat → Value), i + r = n → left ≤ i →
  Walk Try.prog main (DR (fun _ => none)) (fun g w' => (∃ u', g = G (hdP0 B (.slice ta n tc) (left + (List.range' i r).countP (fun j => !f j)) n u') cs) ∧ ∃ d, w' = w.at d) (G (hdP0 B (.slice ta n tc) left i u) cs) w := by
 intro r
 induction r with
 | zero =>
  intro i left u hi hl
  obtain rfl : i = n := hi
  exact .stop fun d => ⟨⟨u, rfl⟩, d, rfl⟩
 | succ r ih =>
  intro i left u hi hl
  obtain ⟨tl, o, q, rfl, h1, h2, _, _⟩ := he i (by omega)
  refine (pick_cnt B tl o n tc q i left (f i) u cs w (by omega) hn hl h1 h2).then ?_
  rintro g w' ⟨⟨u', rfl⟩, d, rfl⟩
  refine Walk.back ?_ d
  have := ih (i + 1) (if f i then left else left + 1) u' (by omega) (by split <;> omega)
  have e : (if f i then left else left + 1) + (List.range' (i + 1) r).countP (fun j => !f j) = left + (List.range' i (r + 1)).countP (fun j => !f j) := by
   rw [List.range'_succ, List.countP_cons]
   cases f i <;> simp <;> omega
  rw [e] at this
  exact this
section
variable {S : Nat → Prop} {B : Nat} {la : Option Addr} {lc : Nat} {sl : List Int} {most : Int} {p rd : Nat} {oa : Option Addr} {oc : Nat} {ord : List Nat}
theorem pick_none (B : Nat) (ta : Option Addr) (n tc : Nat) (u : Nat → Value) (c : Frame) (cs : List Frame) (w : World) :
  Walk Try.prog main (DR (fun _ => none)) (fun g w' => g = G (c.finish (.int .i64 (-1))) cs ∧ ∃ d, w' = w.at d) (G (hdP0 B (.slice ta n tc) 0 n u) (c :: cs)) w := by
 unfold hdP0
 repeat (first | refine Walk.cx ?_ | (refine Walk.cReg ?_; simp only [z36]) | (refine Walk.oq ?_; try walk_nrm) | (refine Walk.un ?_; walk_nrm))
 exact Walk.on1 rfl rfl Try.func36 rfl (.stop fun d => ⟨rfl, d, rfl⟩)
theorem pick_most (B : Nat) (ta : Option Addr) (n tc left : Nat) (u : Nat → Value) (c : Frame) (cs : List Frame) (w : World) (hl : left ≠ 0) (X : TuX S B la lc sl most p rd oa oc ord false w) (hm : most ≤ ord.length) :
  Walk Try.prog main (DR (fun _ => none)) (fun g w' => g = G (c.finish (.int .i64 (-1))) cs ∧ TuX S B la lc sl most p rd oa oc ord true w' ∧ Chg S w w') (G (hdP0 B (.slice ta n tc) left n u) (c :: cs)) w := by
 have c4 : w.cell? ⟨B, 4, none⟩ = some (.slice oa ord.length oc) := (cell_of X.blk 4).trans rfl
 have c3 : w.cell? ⟨B, 3, none⟩ = some (.int .i64 most) := (cell_of X.blk 3).trans rfl
 have c5 : w.cell? ⟨B, 5, none⟩ = some (.bool false) := (cell_of X.blk 5).trans rfl
 have z5 := frozen_of X.blk 5
 have hl0 : ((left : Int) == 0) = false := by simpa using hl
 have hl1 : decide (left = 0) = false := by simpa using hl
 have hl2 : (left == 0) = false := by simpa using hl
 have hm' : decide (most ≤ (ord.length : Int)) = true := by simpa using hm
 unfold hdP0
 repeat (first | refine Walk.cx ?_ | (refine Walk.cReg ?_; simp only [z36]) | (refine Walk.oq ?_; try walk_nrm) | (refine Walk.un ?_; walk_nrm))
 (refine Walk.drawnC (by kernel_rfl) size36_9 (by kernel_rfl) (by kernel_rfl) (by decide) ?_; simp only [List.range, List.range.loop]; repeat (first | (refine Cm.oq ?_) | (refine Cm.unw (ho_of (by conv => lhs; whnf) (by kernel_rfl)) (by rfl) ?_; walk_nrm)))
 refine Cm.done ?_
 repeat (first | refine Walk.cx ?_ | (refine Walk.cReg ?_; simp only [z36]) | (refine Walk.oq ?_; try walk_nrm) | (refine Walk.un ?_; walk_nrm))
 (have hfr := fr0 B 5; refine Walk.os hfr c5 ?_; clear hfr; try walk_nrm)
 have hX : TuX S B la lc sl most p rd oa oc ord true (w.setCell ⟨B, 5, none⟩ (.bool true)) := X.put (by rw [heap_set_self _ _ X.blk]; simp [tuA]) fun g hg _ _ => heap_set_other _ _ _ _ hg
 have hC : Chg S w (w.setCell ⟨B, 5, none⟩ (.bool true)) := Chg.set X.sb
 generalize w.setCell ⟨B, 5, none⟩ (.bool true) = w1 at *
 repeat (first | refine Walk.cx ?_ | (refine Walk.cReg ?_; simp only [z36]) | (refine Walk.oq ?_; try walk_nrm) | (refine Walk.un ?_; walk_nrm))
 exact Walk.on1 rfl rfl Try.func36 rfl (.stop fun d => ⟨rfl, hX.at d, hC.at d⟩)
theorem pick_go (B : Nat) (ta : Option Addr) (n tc left : Nat) (u : Nat → Value) (cs : List Frame) (w : World) (hl : left ≠ 0) (X : TuX S B la lc sl most p rd oa oc ord false w) (hm : (ord.length : Int) < most) :
  Walk Try.prog main (DR (fun _ => none)) (fun g w' => (∃ u', g = G (hdP1 B (.slice ta n tc) u') cs) ∧ ∃ d, w' = w.at d) (G (hdP0 B (.slice ta n tc) left n u) cs) w := by
 have c4 : w.cell? ⟨B, 4, none⟩ = some (.slice oa ord.length oc) := (cell_of X.blk 4).trans rfl
 have c3 : w.cell? ⟨B, 3, none⟩ = some (.int .i64 most) := (cell_of X.blk 3).trans rfl
 have hl0 : ((left : Int) == 0) = false := by simpa using hl
 have hl1 : decide (left = 0) = false := by simpa using hl
 have hl2 : (left == 0) = false := by simpa using hl
 have hm' : decide (most ≤ (ord.length : Int)) = false := by simpa using hm
 conv => arg 5; unfold hdP0
 repeat (first | refine Walk.cx ?_ | (refine Walk.cReg ?_; simp only [z36]) | (refine Walk.oq ?_; try walk_nrm) | (refine Walk.un ?_; walk_nrm))
 (refine Walk.drawnC (by kernel_rfl) size36_9 (by kernel_rfl) (by kernel_rfl) (by decide) ?_; simp only [List.range, List.range.loop]; repeat (first | (refine Cm.oq ?_) | (refine Cm.unw (ho_of (by conv => lhs; whnf) (by kernel_rfl)) (by rfl) ?_; walk_nrm)))
 refine Cm.done ?_
 repeat (first | refine Walk.cx ?_ | (refine Walk.cReg ?_; simp only [z36]) | (refine Walk.oq ?_; try walk_nrm) | (refine Walk.un ?_; walk_nrm))
 refine Walk.ctl rfl (fun w => stepG_loop) ?_
 refine .stop fun d => ⟨at_slots ?_, d, rfl⟩
 simp only [hdP1]
 rfl
theorem pick_skip (tl o n tc : Nat) (f : Nat → Bool) (z : Int) (u : Nat → Value) (cs : List Frame) (w : World) (hn : n ≤ 64) (X : TuX S B la lc sl most p rd oa oc ord false w) (hp : p < sl.length) (hL : sl.length ≤ 17592186044416) (hz : sl[p]? = some z) (he : EndAt S (some ⟨tl, o, none⟩) n f w) (hno : ¬ (0 ≤ z ∧ z < n ∧ f z.toNat = false)) :
  Walk Try.prog main (DR (fun _ => none)) (fun g w' => (∃ u', g = G (hdP1 B (.slice (some ⟨tl, o, none⟩) n tc) u') cs) ∧ ∃ d, w' = (w.setCell ⟨B, 1, none⟩ (.int .i64 ((p + 1 : Nat) : Int))).at d) (G (hdP1 B (.slice (some ⟨tl, o, none⟩) n tc) u) cs) w := by
 obtain ⟨lb, rfl, hzc, hzB, hzS⟩ := X.num hz
 have c0 : w.cell? ⟨B, 0, none⟩ = some (.slice (some ⟨lb, 0, none⟩) sl.length lc) := (cell_of X.blk 0).trans rfl
 have c1 : w.cell? ⟨B, 1, none⟩ = some (.int .i64 (p : Nat)) := (cell_of X.blk 1).trans rfl
 have z1 := frozen_of X.blk 1
 have hk : ∀ i, i < n → 0 ≤ z → z = (i : Int) → ∃ q, (w.setCell ⟨B, 1, none⟩ (.int .i64 ((p : Int) + 1))).cell? ⟨tl, o + i, none⟩ = some (.pointer (some ⟨q, 0, none⟩)) ∧ (w.setCell ⟨B, 1, none⟩ (.int .i64 ((p : Int) + 1))).cell? ⟨q, 13, none⟩ = some (.bool (f i)) := fun i hi _ _ => by
  obtain ⟨tl', o', q, e, h1, h2, h3, h4⟩ := he i hi
  cases e
  exact ⟨q, (World.cell?_of_block (a := ⟨tl, o + i, none⟩) (heap_set_other _ _ _ _ (fun e => h3 (by have e : tl = B := e; rw [e]; exact X.sb)))).trans h1, (World.cell?_of_block (a := ⟨q, 13, none⟩) (heap_set_other _ _ _ _ (fun e => h4 (by have e : q = B := e; rw [e]; exact X.sb)))).trans h2⟩
 have hw1 : IntKind.wrap .i64 ((p : Int) + 1) = (p : Int) + 1 := by rw [IntKind.wrap_i64]; omega
 have hc : ((p + 1 : Nat) : Int) = (p : Int) + 1 := by simp
 rw [hc]
 clear X he hz
 generalize hsl : sl.length = L at *
 conv => arg 5; unfold hdP1
 repeat (first | refine Walk.cx ?_ | (refine Walk.cReg ?_; simp only [z36]) | (refine Walk.oq ?_; try walk_nrm) | (refine Walk.un ?_; walk_nrm))
 (refine Walk.drawnC (by kernel_rfl) size36_12 (by kernel_rfl) (by kernel_rfl) (by decide) ?_; simp only [List.range, List.range.loop]; repeat (first | (refine Cm.oq ?_) | (refine Cm.unw (ho_of (by conv => lhs; whnf) (by kernel_rfl)) (by rfl) ?_; walk_nrm)))
 refine Cm.done ?_
 repeat (first | refine Walk.cx ?_ | (refine Walk.cReg ?_; simp only [z36]) | (refine Walk.oq ?_; try walk_nrm) | (refine Walk.un ?_; walk_nrm))
 (refine Walk.drawnC (by kernel_rfl) size36_13 (by kernel_rfl) (by kernel_rfl) (by decide) ?_; simp only [List.range, List.range.loop]; repeat (first | (refine Cm.oq ?_) | (refine Cm.unw (ho_of (by conv => lhs; whnf) (by kernel_rfl)) (by rfl) ?_; walk_nrm)))
 refine Cm.done ?_
 repeat (first | refine Walk.cx ?_ | (refine Walk.cReg ?_; simp only [z36]) | (refine Walk.oq ?_; try walk_nrm) | (refine Walk.un ?_; walk_nrm))
 (have hfr := fr0 B 1; refine Walk.os hfr c1 ?_; clear hfr; try walk_nrm)
 clear c0 c1 z1 hzc hw1
 generalize w.setCell ⟨B, 1, none⟩ (.int .i64 ((p : Int) + 1)) = w1 at *
 by_cases hz0 : 0 ≤ z
 ·by_cases hzn : z < n
  ·obtain ⟨m, rfl⟩ : ∃ m : Nat, z = m := ⟨z.toNat, by omega⟩
   have hm : m < n := by omega
   have hfm : f m = true := by
    cases e : f m with
    | true => rfl
    | false => exact absurd ⟨hz0, hzn, by simpa using e⟩ hno
   obtain ⟨q, hx, hy⟩ := hk m hm hz0 rfl
   rw [hfm] at hy
   clear hk hno
   repeat (first | refine Walk.cx ?_ | (refine Walk.cReg ?_; simp only [z36]) | (refine Walk.oq ?_; try walk_nrm) | (refine Walk.un ?_; walk_nrm))
   refine Walk.ctl rfl (fun w => stepG_inLoop) ?_
   refine .stop fun d' => ⟨at_slots ?_, d', rfl⟩
   simp only [hdP1]
   rfl
  ·clear hk hno
   have hzd : decide (z < (n : Int)) = false := by simpa using hzn
   repeat (first | refine Walk.cx ?_ | (refine Walk.cReg ?_; simp only [z36]) | (refine Walk.oq ?_; try walk_nrm) | (refine Walk.un ?_; walk_nrm))
   refine Walk.ctl rfl (fun w => stepG_inLoop) ?_
   refine .stop fun d' => ⟨at_slots ?_, d', rfl⟩
   simp only [hdP1]
   rfl
 ·clear hk hno
  have hzd : decide (0 ≤ z) = false := by simpa using hz0
  repeat (first | refine Walk.cx ?_ | (refine Walk.cReg ?_; simp only [z36]) | (refine Walk.oq ?_; try walk_nrm) | (refine Walk.un ?_; walk_nrm))
  refine Walk.ctl rfl (fun w => stepG_inLoop) ?_
  refine .stop fun d' => ⟨at_slots ?_, d', rfl⟩
  simp only [hdP1]
  rfl
theorem pick_next (ta : Option Addr) (n tc : Nat) (u : Nat → Value) (cs : List Frame) (w : World) (X : TuX S B la lc sl most sl.length rd oa oc ord false w) :
  Walk Try.prog main (DR (fun _ => none)) (fun g w' => (∃ u', g = G (hdP2 B (.slice ta n tc) u') cs) ∧ ∃ d, w' = w.at d) (G (hdP1 B (.slice ta n tc) u) cs) w := by
 have c0 : w.cell? ⟨B, 0, none⟩ = some (.slice la sl.length lc) := (cell_of X.blk 0).trans rfl
 have c1 : w.cell? ⟨B, 1, none⟩ = some (.int .i64 (sl.length : Nat)) := (cell_of X.blk 1).trans rfl
 conv => arg 5; unfold hdP1
 repeat (first | refine Walk.cx ?_ | (refine Walk.cReg ?_; simp only [z36]) | (refine Walk.oq ?_; try walk_nrm) | (refine Walk.un ?_; walk_nrm))
 (refine Walk.drawnC (by kernel_rfl) size36_12 (by kernel_rfl) (by kernel_rfl) (by decide) ?_; simp only [List.range, List.range.loop]; repeat (first | (refine Cm.oq ?_) | (refine Cm.unw (ho_of (by conv => lhs; whnf) (by kernel_rfl)) (by rfl) ?_; walk_nrm)))
 refine Cm.done ?_
 repeat (first | refine Walk.cx ?_ | (refine Walk.cReg ?_; simp only [z36]) | (refine Walk.oq ?_; try walk_nrm) | (refine Walk.un ?_; walk_nrm))
 refine Walk.ctl rfl (fun w => stepG_loop) ?_
 refine .stop fun d' => ⟨at_slots ?_, d', rfl⟩
 simp only [hdP2]
 rfl
theorem pick_pass (tl o n tc q : Nat) (u : Nat → Value) (cs : List Frame) (w : World) (hn : n ≤ 64) (X : TuX S B la lc sl most p rd oa oc ord false w) (hrd : rd < n) (h1 : w.cell? ⟨tl, o + rd, none⟩ = some (.pointer (some ⟨q, 0, none⟩))) (h2 : w.cell? ⟨q, 13, none⟩ = some (.bool true)) :
  Walk Try.prog main (DR (fun _ => none)) (fun g w' => (∃ u', g = G (hdP2 B (.slice (some ⟨tl, o, none⟩) n tc) u') cs) ∧ ∃ d, w' = (w.setCell ⟨B, 2, none⟩ (.int .i64 (((rd + 1) % n : Nat) : Int))).at d) (G (hdP2 B (.slice (some ⟨tl, o, none⟩) n tc) u) cs) w := by
 have c2 : w.cell? ⟨B, 2, none⟩ = some (.int .i64 (rd : Nat)) := (cell_of X.blk 2).trans rfl
 have z2 := frozen_of X.blk 2
 have hw1 : IntKind.wrap .i64 ((rd : Int) + 1) = (rd : Int) + 1 := by rw [IntKind.wrap_i64]; omega
 have ht : Int.tmod ((rd : Int) + 1) (n : Int) = (((rd + 1) % n : Nat) : Int) := by
  rw [Int.tmod_eq_emod_of_nonneg (by omega)]
  simp
 have hn0 : ¬ n = 0 := by omega
 generalize (rd + 1) % n = x at *
 conv => arg 5; unfold hdP2
 repeat (first | refine Walk.cx ?_ | (refine Walk.cReg ?_; simp only [z36]) | (refine Walk.oq ?_; try walk_nrm) | (refine Walk.un ?_; walk_nrm))
 (have hfr := fr0 B 2; refine Walk.os hfr c2 ?_; clear hfr; try walk_nrm)
 repeat (first | refine Walk.cx ?_ | (refine Walk.cReg ?_; simp only [z36]) | (refine Walk.oq ?_; try walk_nrm) | (refine Walk.un ?_; walk_nrm))
 refine Walk.ctl rfl (fun w => stepG_inLoop) ?_
 refine .stop fun d' => ⟨at_slots ?_, d', rfl⟩
 simp only [hdP2]
 rfl
end
end
end
end Go.Proofs.Ytdcjgmlgmjjogaa
