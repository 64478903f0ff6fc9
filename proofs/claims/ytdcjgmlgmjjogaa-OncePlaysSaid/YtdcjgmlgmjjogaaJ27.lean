/- Part 27. -/
import Derived.Test.YtdcjgmlgmjjogaaJ21
set_option linter.unusedSimpArgs false
set_option linter.unusedVariables false
set_option maxHeartbeats 8000000
set_option maxRecDepth 100000
namespace Go.Proofs.Ytdcjgmlgmjjogaa
open Go.Conc Go.RowKit Go.Relay
open Go.ConcN (upd upd_ne upd_same)
section
noncomputable def reg36_0 := rg Try.f36.body [0]
noncomputable def reg36_1 := rg Try.f36.body [1, 0]
noncomputable def reg36_2 := rg Try.f36.body [1, 1, 0, 0]
noncomputable def reg36_3 := rg Try.f36.body [1, 1, 0, 1, 0, 0, 0, 0]
noncomputable def reg36_5 := rg Try.f36.body [1, 1, 0, 1, 0, 0, 1, 0, 0, 0]
noncomputable def reg36_6 := rg Try.f36.body [1, 1, 0, 1, 0, 0, 1, 0, 0, 1, 0]
noncomputable def reg36_4 := rg Try.f36.body [1, 1, 0, 1, 0, 0, 1, 1]
noncomputable def reg36_7 := rg Try.f36.body [1, 1, 1, 0, 0]
noncomputable def reg36_8 := rg Try.f36.body [1, 1, 1, 0, 1, 0, 0]
noncomputable def reg36_9 := rg Try.f36.body [1, 1, 1, 1, 0, 0]
theorem size36_9 : reg36_9.size = 10 := by kernel_rfl
noncomputable def reg36_10 := rg Try.f36.body [1, 1, 1, 1, 0, 1, 0, 0]
noncomputable def reg36_11 := rg Try.f36.body [1, 1, 1, 1, 0, 1, 0, 1, 0]
noncomputable def reg36_12 := rg Try.f36.body [1, 1, 1, 1, 1, 0, 0, 0, 0, 0]
theorem size36_12 : reg36_12.size = 10 := by kernel_rfl
noncomputable def reg36_13 := rg Try.f36.body [1, 1, 1, 1, 1, 0, 0, 0, 1, 0, 0]
theorem size36_13 : reg36_13.size = 11 := by kernel_rfl
noncomputable def reg36_14 := rg Try.f36.body [1, 1, 1, 1, 1, 0, 0, 0, 1, 0, 1, 0]
noncomputable def reg36_15 := rg Try.f36.body [1, 1, 1, 1, 1, 0, 0, 0, 1, 0, 1, 1, 0]
noncomputable def reg36_16 := rg Try.f36.body [1, 1, 1, 1, 1, 0, 0, 0, 1, 0, 1, 1, 1, 0, 0]
noncomputable def reg36_17 := rg Try.f36.body [1, 1, 1, 1, 1, 0, 0, 0, 1, 0, 1, 1, 1, 0, 1, 0]
noncomputable def reg36_18 := rg Try.f36.body [1, 1, 1, 1, 1, 1, 0, 0, 0, 0, 0]
noncomputable def reg36_19 := rg Try.f36.body [1, 1, 1, 1, 1, 1, 0, 0, 0, 1, 0]
noncomputable def reg36_20 := rg Try.f36.body [1, 1, 1, 1, 1, 1, 1, 0]
noncomputable def reg36_21 := rg Try.f36.body [1, 1, 1, 1, 1, 1, 1, 1, 0]
noncomputable def reg36_22 := rg Try.f36.body [1, 1, 1, 1, 1, 1, 1, 1, 1, 0]
noncomputable def reg36_23 := rg Try.f36.body [1, 1, 1, 1, 1, 1, 1, 1, 1, 1, 0]
theorem z36 : List.range reg36_0.size = [0] ∧ List.range reg36_1.size = [0] ∧ List.range reg36_2.size = [0] ∧ List.range reg36_3.size = [0, 1, 2, 3] ∧ List.range reg36_4.size = [0, 1, 2] ∧ List.range reg36_5.size = [0, 1, 2, 3, 4, 5, 6, 7] ∧ List.range reg36_6.size = [0, 1, 2] ∧ List.range reg36_7.size = [0, 1] ∧ List.range reg36_8.size = [0] ∧ List.range reg36_9.size = [0, 1, 2, 3, 4, 5, 6, 7, 8, 9] ∧ List.range reg36_10.size = [0, 1, 2, 3] ∧ List.range reg36_11.size = [0] ∧ List.range reg36_12.size = [0, 1, 2, 3, 4, 5, 6, 7, 8, 9] ∧ List.range reg36_13.size = [0, 1, 2, 3, 4, 5, 6, 7, 8, 9, 10] ∧ List.range reg36_14.size = [0, 1, 2, 3, 4, 5, 6, 7, 8] ∧ List.range reg36_15.size = [0, 1, 2, 3, 4, 5, 6, 7, 8, 9, 10, 11, 12, 13, 14, 15, 16, 17] ∧ List.range reg36_16.size = [0, 1, 2, 3, 4, 5, 6, 7, 8, 9, 10] ∧ List.range reg36_17.size = [0, 1] ∧ List.range reg36_18.size = [0, 1, 2, 3, 4, 5, 6, 7, 8, 9] ∧ List.range reg36_19.size = [0, 1, 2, 3, 4, 5, 6, 7, 8, 9, 10, 11] ∧ List.range reg36_20.size = [0, 1, 2, 3, 4] ∧ List.range reg36_21.size = [0, 1, 2, 3, 4, 5, 6, 7, 8, 9, 10, 11] ∧ List.range reg36_22.size = [0, 1, 2, 3, 4, 5, 6, 7, 8, 9, 10] ∧ List.range reg36_23.size = [0, 1] := by refine ⟨?_, ?_, ?_, ?_, ?_, ?_, ?_, ?_, ?_, ?_, ?_, ?_, ?_, ?_, ?_, ?_, ?_, ?_, ?_, ?_, ?_, ?_, ?_, ?_⟩ <;> kernel_rfl
theorem code36_is : Try.f36.body = some (.seq (.region 0 reg36_0 false) (.seq (.region 1 reg36_1 false) (.seq (.seq (.region 2 reg36_2 false) (.block 0 (.loop (.seq (.seq (.region 3 reg36_3 false) (.cond (.tmp 12 ) (.skip) (.exit 0))) (.seq (.block 1 (.seq (.region 5 reg36_5 false) (.cond (.tmp 22 ) (.region 6 reg36_6 false) (.skip)))) (.region 4 reg36_4 false)))))) (.seq (.seq (.region 7 reg36_7 false) (.cond (.tmp 26 ) (.seq (.region 8 reg36_8 false) (.ret)) (.skip))) (.seq (.seq (.region 9 reg36_9 true) (.cond (.tmp 36 ) (.seq (.region 10 reg36_10 false) (.seq (.region 11 reg36_11 false) (.ret))) (.skip))) (.seq (.block 2 (.loop (.seq (.seq (.region 12 reg36_12 true) (.cond (.tmp 49 ) (.skip) (.exit 2))) (.block 3 (.seq (.region 13 reg36_13 true) (.seq (.region 14 reg36_14 false) (.seq (.region 15 reg36_15 false) (.cond (.tmp 85 ) (.seq (.region 16 reg36_16 false) (.seq (.region 17 reg36_17 false) (.ret))) (.skip))))))))) (.seq (.block 4 (.loop (.seq (.seq (.region 18 reg36_18 false) (.cond (.tmp 106 ) (.skip) (.exit 4))) (.block 5 (.region 19 reg36_19 false))))) (.seq (.region 20 reg36_20 false) (.seq (.region 21 reg36_21 false) (.seq (.region 22 reg36_22 false) (.seq (.region 23 reg36_23 false) (.ret)))))))))))) := by kernel_rfl
noncomputable def hdP0 (B : Nat) (tv : Value) (left i : Nat) (u : Nat → Value) : Frame :=
  (base 36).at { tmps := #[.pointer (some ⟨B, 0, none⟩), tv, u 2, u 3, u 4, .int .i64 left, .int .i64 i, u 7, u 8, u 9, u 10, u 11, u 12, u 13, u 14, u 15, u 16, u 17, u 18, u 19, u 20, u 21, u 22, u 23, u 24, u 25, u 26, u 27, u 28, u 29, u 30, u 31, u 32, u 33, u 34, u 35, u 36, u 37, u 38, u 39, u 40, u 41, u 42, u 43, u 44, u 45, u 46, u 47, u 48, u 49, u 50, u 51, u 52, u 53, u 54, u 55, u 56, u 57, u 58, u 59, u 60, u 61, u 62, u 63, u 64, u 65, u 66, u 67, u 68, u 69, u 70, u 71, u 72, u 73, u 74, u 75, u 76, u 77, u 78, u 79, u 80, u 81, u 82, u 83, u 84, u 85, u 86, u 87, u 88, u 89, u 90, u 91, u 92, u 93, u 94, u 95, u 96, u 97, u 98, u 99, u 100, u 101, u 102, u 103, u 104, u 105, u 106, u 107, u 108, u 109, u 110, u 111, u 112, u 113, u 114, u 115, u 116, u 117, u 118, u 119, u 120, u 121, u 122, u 123, u 124, u 125, u 126, u 127, u 128, u 129, u 130, u 131, u 132, u 133, u 134, u 135, u 136, u 137, u 138, u 139, u 140, u 141, u 142, u 143], defers := [] } [.code (.seq (.seq (.region 3 reg36_3 false) (.cond (.tmp 12 ) (.skip) (.exit 0))) (.seq (.block 1 (.seq (.region 5 reg36_5 false) (.cond (.tmp 22 ) (.region 6 reg36_6 false) (.skip)))) (.region 4 reg36_4 false))), .inLoop (.seq (.seq (.region 3 reg36_3 false) (.cond (.tmp 12 ) (.skip) (.exit 0))) (.seq (.block 1 (.seq (.region 5 reg36_5 false) (.cond (.tmp 22 ) (.region 6 reg36_6 false) (.skip)))) (.region 4 reg36_4 false))), .inBlock 0, .code (.seq (.seq (.region 7 reg36_7 false) (.cond (.tmp 26 ) (.seq (.region 8 reg36_8 false) (.ret)) (.skip))) (.seq (.seq (.region 9 reg36_9 true) (.cond (.tmp 36 ) (.seq (.region 10 reg36_10 false) (.seq (.region 11 reg36_11 false) (.ret))) (.skip))) (.seq (.block 2 (.loop (.seq (.seq (.region 12 reg36_12 true) (.cond (.tmp 49 ) (.skip) (.exit 2))) (.block 3 (.seq (.region 13 reg36_13 true) (.seq (.region 14 reg36_14 false) (.seq (.region 15 reg36_15 false) (.cond (.tmp 85 ) (.seq (.region 16 reg36_16 false) (.seq (.region 17 reg36_17 false) (.ret))) (.skip))))))))) (.seq (.block 4 (.loop (.seq (.seq (.region 18 reg36_18 false) (.cond (.tmp 106 ) (.skip) (.exit 4))) (.block 5 (.region 19 reg36_19 false))))) (.seq (.region 20 reg36_20 false) (.seq (.region 21 reg36_21 false) (.seq (.region 22 reg36_22 false) (.seq (.region 23 reg36_23 false) (.ret)))))))))]
noncomputable def hdP1 (B : Nat) (tv : Value) (u : Nat → Value) : Frame :=
  (base 36).at { tmps := #[.pointer (some ⟨B, 0, none⟩), tv, u 2, u 3, u 4, u 5, u 6, u 7, u 8, u 9, u 10, u 11, u 12, u 13, u 14, u 15, u 16, u 17, u 18, u 19, u 20, u 21, u 22, u 23, u 24, u 25, u 26, u 27, u 28, u 29, u 30, u 31, u 32, u 33, u 34, u 35, u 36, u 37, u 38, u 39, u 40, u 41, u 42, u 43, u 44, u 45, u 46, u 47, u 48, u 49, u 50, u 51, u 52, u 53, u 54, u 55, u 56, u 57, u 58, u 59, u 60, u 61, u 62, u 63, u 64, u 65, u 66, u 67, u 68, u 69, u 70, u 71, u 72, u 73, u 74, u 75, u 76, u 77, u 78, u 79, u 80, u 81, u 82, u 83, u 84, u 85, u 86, u 87, u 88, u 89, u 90, u 91, u 92, u 93, u 94, u 95, u 96, u 97, u 98, u 99, u 100, u 101, u 102, u 103, u 104, u 105, u 106, u 107, u 108, u 109, u 110, u 111, u 112, u 113, u 114, u 115, u 116, u 117, u 118, u 119, u 120, u 121, u 122, u 123, u 124, u 125, u 126, u 127, u 128, u 129, u 130, u 131, u 132, u 133, u 134, u 135, u 136, u 137, u 138, u 139, u 140, u 141, u 142, u 143], defers := [] } [.code (.seq (.seq (.region 12 reg36_12 true) (.cond (.tmp 49 ) (.skip) (.exit 2))) (.block 3 (.seq (.region 13 reg36_13 true) (.seq (.region 14 reg36_14 false) (.seq (.region 15 reg36_15 false) (.cond (.tmp 85 ) (.seq (.region 16 reg36_16 false) (.seq (.region 17 reg36_17 false) (.ret))) (.skip))))))), .inLoop (.seq (.seq (.region 12 reg36_12 true) (.cond (.tmp 49 ) (.skip) (.exit 2))) (.block 3 (.seq (.region 13 reg36_13 true) (.seq (.region 14 reg36_14 false) (.seq (.region 15 reg36_15 false) (.cond (.tmp 85 ) (.seq (.region 16 reg36_16 false) (.seq (.region 17 reg36_17 false) (.ret))) (.skip))))))), .inBlock 2, .code (.seq (.block 4 (.loop (.seq (.seq (.region 18 reg36_18 false) (.cond (.tmp 106 ) (.skip) (.exit 4))) (.block 5 (.region 19 reg36_19 false))))) (.seq (.region 20 reg36_20 false) (.seq (.region 21 reg36_21 false) (.seq (.region 22 reg36_22 false) (.seq (.region 23 reg36_23 false) (.ret))))))]
noncomputable def hdP2 (B : Nat) (tv : Value) (u : Nat → Value) : Frame :=
  (base 36).at { tmps := #[.pointer (some ⟨B, 0, none⟩), tv, u 2, u 3, u 4, u 5, u 6, u 7, u 8, u 9, u 10, u 11, u 12, u 13, u 14, u 15, u 16, u 17, u 18, u 19, u 20, u 21, u 22, u 23, u 24, u 25, u 26, u 27, u 28, u 29, u 30, u 31, u 32, u 33, u 34, u 35, u 36, u 37, u 38, u 39, u 40, u 41, u 42, u 43, u 44, u 45, u 46, u 47, u 48, u 49, u 50, u 51, u 52, u 53, u 54, u 55, u 56, u 57, u 58, u 59, u 60, u 61, u 62, u 63, u 64, u 65, u 66, u 67, u 68, u 69, u 70, u 71, u 72, u 73, u 74, u 75, u 76, u 77, u 78, u 79, u 80, u 81, u 82, u 83, u 84, u 85, u 86, u 87, u 88, u 89, u 90, u 91, u 92, u 93, u 94, u 95, u 96, u 97, u 98, u 99, u 100, u 101, u 102, u 103, u 104, u 105, u 106, u 107, u 108, u 109, u 110, u 111, u 112, u 113, u 114, u 115, u 116, u 117, u 118, u 119, u 120, u 121, u 122, u 123, u 124, u 125, u 126, u 127, u 128, u 129, u 130, u 131, u 132, u 133, u 134, u 135, u 136, u 137, u 138, u 139, u 140, u 141, u 142, u 143], defers := [] } [.code (.seq (.seq (.region 18 reg36_18 false) (.cond (.tmp 106 ) (.skip) (.exit 4))) (.block 5 (.region 19 reg36_19 false))), .inLoop (.seq (.seq (.region 18 reg36_18 false) (.cond (.tmp 106 ) (.skip) (.exit 4))) (.block 5 (.region 19 reg36_19 false))), .inBlock 4, .code (.seq (.region 20 reg36_20 false) (.seq (.region 21 reg36_21 false) (.seq (.region 22 reg36_22 false) (.seq (.region 23 reg36_23 false) (.ret)))))]
section
variable {main : Bool}
theorem pick_in (B : Nat) (tv : Value) (cs : List Frame) (w : World) :
    Walk Try.prog main (DR (fun _ => none)) (fun g w' => (∃ u, g = G (hdP0 B tv 0 0 u) cs) ∧ ∃ d, w' = w.at d) (G (Frame.enter Try.prog 36 #[.pointer (some ⟨B, 0, none⟩), tv] .normal) cs) w := by
  rw [enter_at _ Try.func36 code36_is]
  simp only [Try.ntmps36, ez, Nat.reduceAdd, Nat.reduceSub]
  repeat (first | refine Walk.cx ?_ | (refine Walk.cReg ?_; simp only [z36]) | (refine Walk.oq ?_; try walk_nrm) | (refine Walk.un ?_; walk_nrm))
  refine Walk.ctl rfl (fun w => stepG_loop) ?_
  refine .stop fun d => ⟨at_slots ?_, d, rfl⟩
  simp only [hdP0]
  rfl
theorem pick_cnt (B tl o n tc q i left : Nat) (e : Bool) (u : Nat → Value) (cs : List Frame) (w : World) (hi : i < n) (hn : n ≤ 64) (hl : left ≤ i) (h1 : w.cell? ⟨tl, o + i, none⟩ = some (.pointer (some ⟨q, 0, none⟩))) (h2 : w.cell? ⟨q, 13, none⟩ = some (.bool e)) :
    Walk Try.prog main (DR (fun _ => none)) (fun g w' => (∃ u', g = G (hdP0 B (.slice (some ⟨tl, o, none⟩) n tc) (if e then left else left + 1) (i + 1) u') cs) ∧ ∃ d, w' = w.at d) (G (hdP0 B (.slice (some ⟨tl, o, none⟩) n tc) left i u) cs) w := by
  have hw1 : IntKind.wrap .i64 ((i : Int) + 1) = (i : Int) + 1 := by rw [IntKind.wrap_i64]; omega
  have hw2 : IntKind.wrap .i64 ((left : Int) + 1) = (left : Int) + 1 := by rw [IntKind.wrap_i64]; omega
  conv => arg 5; unfold hdP0
  cases e with
  | false =>
    repeat (first | refine Walk.cx ?_ | (refine Walk.cReg ?_; simp only [z36]) | (refine Walk.oq ?_; try walk_nrm) | (refine Walk.un ?_; walk_nrm))
    refine Walk.ctl rfl (fun w => stepG_inLoop) ?_
    refine .stop fun d => ⟨at_slots ?_, d, rfl⟩
    have hc : ((i + 1 : Nat) : Int) = (i : Int) + 1 := by simp
    have hc2 : ((left + 1 : Nat) : Int) = (left : Int) + 1 := by simp
    simp only [hdP0, hc, hc2, Bool.false_eq_true, if_false]
    rfl
  | true =>
    repeat (first | refine Walk.cx ?_ | (refine Walk.cReg ?_; simp only [z36]) | (refine Walk.oq ?_; try walk_nrm) | (refine Walk.un ?_; walk_nrm))
    refine Walk.ctl rfl (fun w => stepG_inLoop) ?_
    refine .stop fun d => ⟨at_slots ?_, d, rfl⟩
    have hc : ((i + 1 : Nat) : Int) = (i : Int) + 1 := by simp
    simp only [hdP0, hc, if_true]
    rfl
theorem pick_count (S : Nat → Prop) (B : Nat) (ta : Option Addr) (n tc : Nat) (f : Nat → Bool) (cs : List Frame) (w : World) (hn : n ≤ 64) (he : EndAt S ta n f w) : ∀ (r i left : Nat) (u : Nat → Value), i + r = n → left ≤ i →
    Walk Try.prog main (DR (fun _ => none)) (fun g w' => (∃ u', g = G (hdP0 B (.slice ta n tc) (left + (List.range' i r).countP (fun j => !f j)) n u') cs) ∧ ∃ d, w' = w.at d) (G (hdP0 B (.slice ta n tc) left i u) cs) w := by
  intro r
  induction r with
  | zero =>
    intro i left u hi hl
    obtain rfl : i = n := hi
    exact .stop fun d => ⟨⟨u, rfl⟩, d, rfl⟩
  | succ r ih =>
    intro i left u hi hl
    obtain ⟨tl, o, q, rfl, h1, h2, _, _⟩ := he i (by omega)
    refine (pick_cnt B tl o n tc q i left (f i) u cs w (by omega) hn hl h1 h2).then ?_
    rintro g w' ⟨⟨u', rfl⟩, d, rfl⟩
    refine Walk.back ?_ d
    have := ih (i + 1) (if f i then left else left + 1) u' (by omega) (by split <;> omega)
    have e : (if f i then left else left + 1) + (List.range' (i + 1) r).countP (fun j => !f j) = left + (List.range' i (r + 1)).countP (fun j => !f j) := by
      rw [List.range'_succ, List.countP_cons]
      cases f i <;> simp <;> omega
    rw [e] at this
    exact this
section
variable {S : Nat → Prop} {B : Nat} {la : Option Addr} {lc : Nat} {sl : List Int} {most : Int} {p rd : Nat} {oa : Option Addr} {oc : Nat} {ord : List Nat}
theorem pick_none (B : Nat) (ta : Option Addr) (n tc : Nat) (u : Nat → Value) (c : Frame) (cs : List Frame) (w : World) :
    Walk Try.prog main (DR (fun _ => none)) (fun g w' => g = G (c.finish (.int .i64 (-1))) cs ∧ ∃ d, w' = w.at d) (G (hdP0 B (.slice ta n tc) 0 n u) (c :: cs)) w := by
  unfold hdP0
  repeat (first | refine Walk.cx ?_ | (refine Walk.cReg ?_; simp only [z36]) | (refine Walk.oq ?_; try walk_nrm) | (refine Walk.un ?_; walk_nrm))
  exact Walk.on1 rfl rfl Try.func36 rfl (.stop fun d => ⟨rfl, d, rfl⟩)
theorem pick_most (B : Nat) (ta : Option Addr) (n tc left : Nat) (u : Nat → Value) (c : Frame) (cs : List Frame) (w : World) (hl : left ≠ 0) (X : TuX S B la lc sl most p rd oa oc ord false w) (hm : most ≤ ord.length) :
    Walk Try.prog main (DR (fun _ => none)) (fun g w' => g = G (c.finish (.int .i64 (-1))) cs ∧ TuX S B la lc sl most p rd oa oc ord true w' ∧ Chg S w w') (G (hdP0 B (.slice ta n tc) left n u) (c :: cs)) w := by
  have c4 : w.cell? ⟨B, 4, none⟩ = some (.slice oa ord.length oc) := (cell_of X.blk 4).trans rfl
  have c3 : w.cell? ⟨B, 3, none⟩ = some (.int .i64 most) := (cell_of X.blk 3).trans rfl
  have c5 : w.cell? ⟨B, 5, none⟩ = some (.bool false) := (cell_of X.blk 5).trans rfl
  have z5 := frozen_of X.blk 5
  have hl0 : ((left : Int) == 0) = false := by simpa using hl
  have hl1 : decide (left = 0) = false := by simpa using hl
  have hl2 : (left == 0) = false := by simpa using hl
  have hm' : decide (most ≤ (ord.length : Int)) = true := by simpa using hm
  unfold hdP0
  repeat (first | refine Walk.cx ?_ | (refine Walk.cReg ?_; simp only [z36]) | (refine Walk.oq ?_; try walk_nrm) | (refine Walk.un ?_; walk_nrm))
  (refine Walk.drawnC (by kernel_rfl) size36_9 (by kernel_rfl) (by kernel_rfl) (by decide) ?_; simp only [List.range, List.range.loop]; repeat (first | (refine Cm.oq ?_) | (refine Cm.unw (ho_of (by conv => lhs; whnf) (by kernel_rfl)) (by rfl) ?_; walk_nrm)))
  refine Cm.done ?_
  repeat (first | refine Walk.cx ?_ | (refine Walk.cReg ?_; simp only [z36]) | (refine Walk.oq ?_; try walk_nrm) | (refine Walk.un ?_; walk_nrm))
  (have hfr := fr0 B 5; refine Walk.os hfr c5 ?_; clear hfr; try walk_nrm)
  have hX : TuX S B la lc sl most p rd oa oc ord true (w.setCell ⟨B, 5, none⟩ (.bool true)) := X.put (by rw [heap_set_self _ _ X.blk]; simp [tuA]) fun g hg _ _ => heap_set_other _ _ _ _ hg
  have hC : Chg S w (w.setCell ⟨B, 5, none⟩ (.bool true)) := Chg.set X.sb
  generalize w.setCell ⟨B, 5, none⟩ (.bool true) = w1 at *
  repeat (first | refine Walk.cx ?_ | (refine Walk.cReg ?_; simp only [z36]) | (refine Walk.oq ?_; try walk_nrm) | (refine Walk.un ?_; walk_nrm))
  exact Walk.on1 rfl rfl Try.func36 rfl (.stop fun d => ⟨rfl, hX.at d, hC.at d⟩)
theorem pick_go (B : Nat) (ta : Option Addr) (n tc left : Nat) (u : Nat → Value) (cs : List Frame) (w : World) (hl : left ≠ 0) (X : TuX S B la lc sl most p rd oa oc ord false w) (hm : (ord.length : Int) < most) :
    Walk Try.prog main (DR (fun _ => none)) (fun g w' => (∃ u', g = G (hdP1 B (.slice ta n tc) u') cs) ∧ ∃ d, w' = w.at d) (G (hdP0 B (.slice ta n tc) left n u) cs) w := by
  have c4 : w.cell? ⟨B, 4, none⟩ = some (.slice oa ord.length oc) := (cell_of X.blk 4).trans rfl
  have c3 : w.cell? ⟨B, 3, none⟩ = some (.int .i64 most) := (cell_of X.blk 3).trans rfl
  have hl0 : ((left : Int) == 0) = false := by simpa using hl
  have hl1 : decide (left = 0) = false := by simpa using hl
  have hl2 : (left == 0) = false := by simpa using hl
  have hm' : decide (most ≤ (ord.length : Int)) = false := by simpa using hm
  conv => arg 5; unfold hdP0
  repeat (first | refine Walk.cx ?_ | (refine Walk.cReg ?_; simp only [z36]) | (refine Walk.oq ?_; try walk_nrm) | (refine Walk.un ?_; walk_nrm))
  (refine Walk.drawnC (by kernel_rfl) size36_9 (by kernel_rfl) (by kernel_rfl) (by decide) ?_; simp only [List.range, List.range.loop]; repeat (first | (refine Cm.oq ?_) | (refine Cm.unw (ho_of (by conv => lhs; whnf) (by kernel_rfl)) (by rfl) ?_; walk_nrm)))
  refine Cm.done ?_
  repeat (first | refine Walk.cx ?_ | (refine Walk.cReg ?_; simp only [z36]) | (refine Walk.oq ?_; try walk_nrm) | (refine Walk.un ?_; walk_nrm))
  refine Walk.ctl rfl (fun w => stepG_loop) ?_
  refine .stop fun d => ⟨at_slots ?_, d, rfl⟩
  simp only [hdP1]
  rfl
theorem pick_skip (tl o n tc : Nat) (f : Nat → Bool) (z : Int) (u : Nat → Value) (cs : List Frame) (w : World) (hn : n ≤ 64) (X : TuX S B la lc sl most p rd oa oc ord false w) (hp : p < sl.length) (hL : sl.length ≤ 17592186044416) (hz : sl[p]? = some z) (he : EndAt S (some ⟨tl, o, none⟩) n f w) (hno : ¬ (0 ≤ z ∧ z < n ∧ f z.toNat = false)) :
    Walk Try.prog main (DR (fun _ => none)) (fun g w' => (∃ u', g = G (hdP1 B (.slice (some ⟨tl, o, none⟩) n tc) u') cs) ∧ ∃ d, w' = (w.setCell ⟨B, 1, none⟩ (.int .i64 ((p + 1 : Nat) : Int))).at d) (G (hdP1 B (.slice (some ⟨tl, o, none⟩) n tc) u) cs) w := by
  obtain ⟨lb, rfl, hzc, hzB, hzS⟩ := X.num hz
  have c0 : w.cell? ⟨B, 0, none⟩ = some (.slice (some ⟨lb, 0, none⟩) sl.length lc) := (cell_of X.blk 0).trans rfl
  have c1 : w.cell? ⟨B, 1, none⟩ = some (.int .i64 (p : Nat)) := (cell_of X.blk 1).trans rfl
  have z1 := frozen_of X.blk 1
  have hk : ∀ i, i < n → 0 ≤ z → z = (i : Int) → ∃ q, (w.setCell ⟨B, 1, none⟩ (.int .i64 ((p : Int) + 1))).cell? ⟨tl, o + i, none⟩ = some (.pointer (some ⟨q, 0, none⟩)) ∧ (w.setCell ⟨B, 1, none⟩ (.int .i64 ((p : Int) + 1))).cell? ⟨q, 13, none⟩ = some (.bool (f i)) := fun i hi _ _ => by
    obtain ⟨tl', o', q, e, h1, h2, h3, h4⟩ := he i hi
    cases e
    exact ⟨q, (World.cell?_of_block (a := ⟨tl, o + i, none⟩) (heap_set_other _ _ _ _ (fun e => h3 (by have e : tl = B := e; rw [e]; exact X.sb)))).trans h1, (World.cell?_of_block (a := ⟨q, 13, none⟩) (heap_set_other _ _ _ _ (fun e => h4 (by have e : q = B := e; rw [e]; exact X.sb)))).trans h2⟩
  have hw1 : IntKind.wrap .i64 ((p : Int) + 1) = (p : Int) + 1 := by rw [IntKind.wrap_i64]; omega
  have hc : ((p + 1 : Nat) : Int) = (p : Int) + 1 := by simp
  rw [hc]
  clear X he hz
  generalize hsl : sl.length = L at *
  conv => arg 5; unfold hdP1
  repeat (first | refine Walk.cx ?_ | (refine Walk.cReg ?_; simp only [z36]) | (refine Walk.oq ?_; try walk_nrm) | (refine Walk.un ?_; walk_nrm))
  (refine Walk.drawnC (by kernel_rfl) size36_12 (by kernel_rfl) (by kernel_rfl) (by decide) ?_; simp only [List.range, List.range.loop]; repeat (first | (refine Cm.oq ?_) | (refine Cm.unw (ho_of (by conv => lhs; whnf) (by kernel_rfl)) (by rfl) ?_; walk_nrm)))
  refine Cm.done ?_
  repeat (first | refine Walk.cx ?_ | (refine Walk.cReg ?_; simp only [z36]) | (refine Walk.oq ?_; try walk_nrm) | (refine Walk.un ?_; walk_nrm))
  (refine Walk.drawnC (by kernel_rfl) size36_13 (by kernel_rfl) (by kernel_rfl) (by decide) ?_; simp only [List.range, List.range.loop]; repeat (first | (refine Cm.oq ?_) | (refine Cm.unw (ho_of (by conv => lhs; whnf) (by kernel_rfl)) (by rfl) ?_; walk_nrm)))
  refine Cm.done ?_
  repeat (first | refine Walk.cx ?_ | (refine Walk.cReg ?_; simp only [z36]) | (refine Walk.oq ?_; try walk_nrm) | (refine Walk.un ?_; walk_nrm))
  (have hfr := fr0 B 1; refine Walk.os hfr c1 ?_; clear hfr; try walk_nrm)
  clear c0 c1 z1 hzc hw1
  generalize w.setCell ⟨B, 1, none⟩ (.int .i64 ((p : Int) + 1)) = w1 at *
  by_cases hz0 : 0 ≤ z
  · by_cases hzn : z < n
    · obtain ⟨m, rfl⟩ : ∃ m : Nat, z = m := ⟨z.toNat, by omega⟩
      have hm : m < n := by omega
      have hfm : f m = true := by
        cases e : f m with
        | true => rfl
        | false => exact absurd ⟨hz0, hzn, by simpa using e⟩ hno
      obtain ⟨q, hx, hy⟩ := hk m hm hz0 rfl
      rw [hfm] at hy
      clear hk hno
      repeat (first | refine Walk.cx ?_ | (refine Walk.cReg ?_; simp only [z36]) | (refine Walk.oq ?_; try walk_nrm) | (refine Walk.un ?_; walk_nrm))
      refine Walk.ctl rfl (fun w => stepG_inLoop) ?_
      refine .stop fun d' => ⟨at_slots ?_, d', rfl⟩
      simp only [hdP1]
      rfl
    · clear hk hno
      have hzd : decide (z < (n : Int)) = false := by simpa using hzn
      repeat (first | refine Walk.cx ?_ | (refine Walk.cReg ?_; simp only [z36]) | (refine Walk.oq ?_; try walk_nrm) | (refine Walk.un ?_; walk_nrm))
      refine Walk.ctl rfl (fun w => stepG_inLoop) ?_
      refine .stop fun d' => ⟨at_slots ?_, d', rfl⟩
      simp only [hdP1]
      rfl
  · clear hk hno
    have hzd : decide (0 ≤ z) = false := by simpa using hz0
    repeat (first | refine Walk.cx ?_ | (refine Walk.cReg ?_; simp only [z36]) | (refine Walk.oq ?_; try walk_nrm) | (refine Walk.un ?_; walk_nrm))
    refine Walk.ctl rfl (fun w => stepG_inLoop) ?_
    refine .stop fun d' => ⟨at_slots ?_, d', rfl⟩
    simp only [hdP1]
    rfl
theorem pick_next (ta : Option Addr) (n tc : Nat) (u : Nat → Value) (cs : List Frame) (w : World) (X : TuX S B la lc sl most sl.length rd oa oc ord false w) :
    Walk Try.prog main (DR (fun _ => none)) (fun g w' => (∃ u', g = G (hdP2 B (.slice ta n tc) u') cs) ∧ ∃ d, w' = w.at d) (G (hdP1 B (.slice ta n tc) u) cs) w := by
  have c0 : w.cell? ⟨B, 0, none⟩ = some (.slice la sl.length lc) := (cell_of X.blk 0).trans rfl
  have c1 : w.cell? ⟨B, 1, none⟩ = some (.int .i64 (sl.length : Nat)) := (cell_of X.blk 1).trans rfl
  conv => arg 5; unfold hdP1
  repeat (first | refine Walk.cx ?_ | (refine Walk.cReg ?_; simp only [z36]) | (refine Walk.oq ?_; try walk_nrm) | (refine Walk.un ?_; walk_nrm))
  (refine Walk.drawnC (by kernel_rfl) size36_12 (by kernel_rfl) (by kernel_rfl) (by decide) ?_; simp only [List.range, List.range.loop]; repeat (first | (refine Cm.oq ?_) | (refine Cm.unw (ho_of (by conv => lhs; whnf) (by kernel_rfl)) (by rfl) ?_; walk_nrm)))
  refine Cm.done ?_
  repeat (first | refine Walk.cx ?_ | (refine Walk.cReg ?_; simp only [z36]) | (refine Walk.oq ?_; try walk_nrm) | (refine Walk.un ?_; walk_nrm))
  refine Walk.ctl rfl (fun w => stepG_loop) ?_
  refine .stop fun d' => ⟨at_slots ?_, d', rfl⟩
  simp only [hdP2]
  rfl
theorem pick_pass (tl o n tc q : Nat) (u : Nat → Value) (cs : List Frame) (w : World) (hn : n ≤ 64) (X : TuX S B la lc sl most p rd oa oc ord false w) (hrd : rd < n) (h1 : w.cell? ⟨tl, o + rd, none⟩ = some (.pointer (some ⟨q, 0, none⟩))) (h2 : w.cell? ⟨q, 13, none⟩ = some (.bool true)) :
    Walk Try.prog main (DR (fun _ => none)) (fun g w' => (∃ u', g = G (hdP2 B (.slice (some ⟨tl, o, none⟩) n tc) u') cs) ∧ ∃ d, w' = (w.setCell ⟨B, 2, none⟩ (.int .i64 (((rd + 1) % n : Nat) : Int))).at d) (G (hdP2 B (.slice (some ⟨tl, o, none⟩) n tc) u) cs) w := by
  have c2 : w.cell? ⟨B, 2, none⟩ = some (.int .i64 (rd : Nat)) := (cell_of X.blk 2).trans rfl
  have z2 := frozen_of X.blk 2
  have hw1 : IntKind.wrap .i64 ((rd : Int) + 1) = (rd : Int) + 1 := by rw [IntKind.wrap_i64]; omega
  have ht : Int.tmod ((rd : Int) + 1) (n : Int) = (((rd + 1) % n : Nat) : Int) := by
    rw [Int.tmod_eq_emod_of_nonneg (by omega)]
    simp
  have hn0 : ¬ n = 0 := by omega
  generalize (rd + 1) % n = x at *
  conv => arg 5; unfold hdP2
  repeat (first | refine Walk.cx ?_ | (refine Walk.cReg ?_; simp only [z36]) | (refine Walk.oq ?_; try walk_nrm) | (refine Walk.un ?_; walk_nrm))
  (have hfr := fr0 B 2; refine Walk.os hfr c2 ?_; clear hfr; try walk_nrm)
  repeat (first | refine Walk.cx ?_ | (refine Walk.cReg ?_; simp only [z36]) | (refine Walk.oq ?_; try walk_nrm) | (refine Walk.un ?_; walk_nrm))
  refine Walk.ctl rfl (fun w => stepG_inLoop) ?_
  refine .stop fun d' => ⟨at_slots ?_, d', rfl⟩
  simp only [hdP2]
  rfl
end
end
end
section
section
variable {main : Bool} {S : Nat → Prop} {B : Nat} {la : Option Addr} {lc : Nat} {sl : List Int} {most : Int} {p rd : Nat} {oa : Option Addr} {oc : Nat} {ord : List Nat}
theorem tu_app {w w3 : World} {o : Obj} {x g cap : Nat} (X : TuX S B la lc sl most p rd oa oc ord false w) (hown : w3.ownsRow 0 3 1 (.slice (some ⟨g, 0, none⟩) (ord.length + 1) cap) (ord.length + 1) (ordRow ord ++ [.int .i64 (x : Nat)])) (hg : (w.alloc o).grownBy w3 (Value.slice oa ord.length oc).ownBlock) (hat : (Value.slice oa ord.length oc).ownBlock = some g ∨ g = (w.alloc o).heap.size) :
    TuX (fun g => S g ∨ w.heap.size ≤ g) B la lc sl most p rd (some ⟨g, 0, none⟩) cap (ord ++ [x]) false (w3.setCell ⟨B, 4, none⟩ (.slice (some ⟨g, 0, none⟩) (ord.length + 1) cap)) ∧ Chg S w (w3.setCell ⟨B, 4, none⟩ (.slice (some ⟨g, 0, none⟩) (ord.length + 1) cap)) := by
  have hs : (w.alloc o).heap.size = w.heap.size + 1 := by simp
  have hgs := hg.size
  have hlB := X.lt
  have far : ∀ y, y < w.heap.size → (Value.slice oa ord.length oc).ownBlock ≠ some y → w3.heap[y]? = w.heap[y]? := fun y hy hn => (hg.block y (by omega) (fun e => hn e.symm)).trans (heap_new_lt _ _ hy)
  have hB3 : w3.heap[B]? = w.heap[B]? := far B hlB fun e => (X.so B e).2.1 rfl
  have hgB : g ≠ B := fun e => by
    rcases hat with h | h
    · exact (X.so g h).2.1 e
    · omega
  have hl : (ord ++ [x]).length = ord.length + 1 := by simp
  refine ⟨⟨?_, ?_, ?_, .inl X.sb, fun y hy => ⟨.inl (X.sq y hy).1, (X.sq y hy).2⟩, fun y hy => ?_⟩, by rw [size_set]; omega, fun y hy hn => ?_⟩
  · rw [hl, heap_set_self _ _ (hB3.trans X.blk)]
    simp [tuA]
  · refine row_same X.lst fun y hy => (heap_set_other _ _ _ _ (X.sq y hy).2).trans (far y (X.lst.lt y hy).2 fun e => (X.so y e).2.2 hy)
  · rw [hl, ordRow_snoc]
    exact row_same hown fun y hy => heap_set_other _ _ _ _ (by
      simp only [Value.ownBlock, Option.some.injEq] at hy
      show y ≠ B
      omega)
  · simp only [Value.ownBlock, Option.some.injEq] at hy
    subst hy
    rcases hat with h | h
    · exact ⟨.inl (X.so g h).1, (X.so g h).2⟩
    · refine ⟨.inr (by omega), hgB, fun e => ?_⟩
      have := (X.lst.lt g e).2
      omega
  · rw [heap_set_other _ _ _ _ (fun e => hn (by rw [e]; exact X.sb))]
    exact far y hy fun e => hn (X.so y e).1
def PickOut (S : Nat → Prop) (B : Nat) (la : Option Addr) (lc : Nat) (sl : List Int) (most : Int) (p rd : Nat) (ord : List Nat) (x : Nat) (w w' : World) : Prop := ∃ oa oc, TuX (fun g => S g ∨ w.heap.size ≤ g) B la lc sl most p rd oa oc (ord ++ [x]) false w' ∧ Chg S w w'
theorem PickOut.pre {x : Nat} {w w1 w' : World} (hC : Chg S w w1) (H : PickOut S B la lc sl most p rd ord x w1 w') : PickOut S B la lc sl most p rd ord x w w' := by
  obtain ⟨oa, oc, X, h⟩ := H
  have := hC.size
  exact ⟨oa, oc, X.mono fun g hg => hg.imp id fun h => by omega, hC.trans h fun _ _ h => h⟩
theorem pick_take (tl o n tc q m : Nat) (u : Nat → Value) (c : Frame) (cs : List Frame) (w : World) (hn : n ≤ 64) (X : TuX S B la lc sl most p rd oa oc ord false w) (hp : p < sl.length) (hL : sl.length ≤ 17592186044416) (hord : ord.length ≤ 1048576) (hz : sl[p]? = some (m : Int)) (hm : m < n) (h1 : w.cell? ⟨tl, o + m, none⟩ = some (.pointer (some ⟨q, 0, none⟩))) (h2 : w.cell? ⟨q, 13, none⟩ = some (.bool false)) (h3 : ¬ S tl) (h4 : ¬ S q) :
    Walk Try.prog main (DR (fun _ => none)) (fun g w' => g = G (c.finish (.int .i64 (m : Nat))) cs ∧ PickOut S B la lc sl most (p + 1) rd ord m w w') (G (hdP1 B (.slice (some ⟨tl, o, none⟩) n tc) u) (c :: cs)) w := by
  obtain ⟨lb, rfl, hzc, hzB, hzS⟩ := X.num hz
  have c0 : w.cell? ⟨B, 0, none⟩ = some (.slice (some ⟨lb, 0, none⟩) sl.length lc) := (cell_of X.blk 0).trans rfl
  have c1 : w.cell? ⟨B, 1, none⟩ = some (.int .i64 (p : Nat)) := (cell_of X.blk 1).trans rfl
  have z1 := frozen_of X.blk 1
  have hw1 : IntKind.wrap .i64 ((p : Int) + 1) = (p : Int) + 1 := by rw [IntKind.wrap_i64]; omega
  have hc : ((p + 1 : Nat) : Int) = (p : Int) + 1 := by simp
  have hm0 : (0 : Int) ≤ (m : Int) := by omega
  have k1 : (w.setCell ⟨B, 1, none⟩ (.int .i64 ((p : Int) + 1))).cell? ⟨tl, o + m, none⟩ = some (.pointer (some ⟨q, 0, none⟩)) := (World.cell?_of_block (a := ⟨tl, o + m, none⟩) (heap_set_other _ _ _ _ (fun e => h3 (by have e : tl = B := e; rw [e]; exact X.sb)))).trans h1
  have k2 : (w.setCell ⟨B, 1, none⟩ (.int .i64 ((p : Int) + 1))).cell? ⟨q, 13, none⟩ = some (.bool false) := (World.cell?_of_block (a := ⟨q, 13, none⟩) (heap_set_other _ _ _ _ (fun e => h4 (by have e : q = B := e; rw [e]; exact X.sb)))).trans h2
  have X1 := X.setP (p + 1)
  rw [hc] at X1
  have hC1 : Chg S w (w.setCell ⟨B, 1, none⟩ (.int .i64 ((p : Int) + 1))) := Chg.set X.sb
  clear X hz
  generalize hsl : sl.length = L at *
  unfold hdP1
  repeat (first | refine Walk.cx ?_ | (refine Walk.cReg ?_; simp only [z36]) | (refine Walk.oq ?_; try walk_nrm) | (refine Walk.un ?_; walk_nrm))
  (refine Walk.drawnC (by kernel_rfl) size36_12 (by kernel_rfl) (by kernel_rfl) (by decide) ?_; simp only [List.range, List.range.loop]; repeat (first | (refine Cm.oq ?_) | (refine Cm.unw (ho_of (by conv => lhs; whnf) (by kernel_rfl)) (by rfl) ?_; walk_nrm)))
  refine Cm.done ?_
  repeat (first | refine Walk.cx ?_ | (refine Walk.cReg ?_; simp only [z36]) | (refine Walk.oq ?_; try walk_nrm) | (refine Walk.un ?_; walk_nrm))
  (refine Walk.drawnC (by kernel_rfl) size36_13 (by kernel_rfl) (by kernel_rfl) (by decide) ?_; simp only [List.range, List.range.loop]; repeat (first | (refine Cm.oq ?_) | (refine Cm.unw (ho_of (by conv => lhs; whnf) (by kernel_rfl)) (by rfl) ?_; walk_nrm)))
  refine Cm.done ?_
  repeat (first | refine Walk.cx ?_ | (refine Walk.cReg ?_; simp only [z36]) | (refine Walk.oq ?_; try walk_nrm) | (refine Walk.un ?_; walk_nrm))
  (have hfr := fr0 B 1; refine Walk.os hfr c1 ?_; clear hfr; try walk_nrm)
  clear c0 c1 z1 hzc hw1 h1 h2
  generalize w.setCell ⟨B, 1, none⟩ (.int .i64 ((p : Int) + 1)) = w1 at *
  have c4 : w1.cell? ⟨B, 4, none⟩ = some (.slice oa ord.length oc) := (cell_of X1.blk 4).trans rfl
  repeat (first | refine Walk.cx ?_ | (refine Walk.cReg ?_; simp only [z36]) | (refine Walk.oq ?_; try walk_nrm) | (refine Walk.un ?_; walk_nrm))
  (refine Walk.oa ?_; try walk_nrm)
  have hrow : (w1.alloc (.cells #[.int .i64 (m : Nat)] 3)).ownsRow 0 3 1 (.slice oa ord.length oc) ord.length (ordRow ord) := row_same X1.row fun g hg => heap_new_lt _ _ (X1.row.lt g hg).2
  have hnew : ∀ y v, ([.int .i64 (m : Nat)] : List Value)[y]? = some v → (w1.alloc (.cells #[.int .i64 (m : Nat)] 3)).cell? ((⟨w1.heap.size, 0, none⟩ : Addr).add y) = some v := fun y v hv => by
    rw [add_none, Nat.zero_add]
    refine (cell_of (heap_alloc_new _ _) y).trans ?_
    simpa using hv
  have hi3 := Option.some_get (show (Try.prog.info? 3).isSome = true by kernel_rfl)
  refine Walk.append (.tmp 90) (.tmp 92) 23 (ho_of (by conv => lhs; whnf) (by kernel_rfl)) (by rfl) (by decide) rfl 0 3 _ (.int .i64 0) 1 8 (by kernel_rfl) hi3.symm (by rfl) (by rfl) (by rfl) (by rfl) (by decide) (.slice oa ord.length oc) ord.length (ordRow ord) rfl hrow ⟨w1.heap.size, 0, none⟩ 1 1 [.int .i64 (m : Nat)] ?_ (by rfl) hnew (by simp [Value.oneCell']) (by decide) (by simp [maxLen]; omega) (by omega) (Nat.zero_le _) (fun g _ => ap0 g) (fun g cap w3 hown hg hat hlt => ?_)
  · simp [Act.eval]
  clear hi3 hnew hrow
  obtain ⟨X4, hC4⟩ := tu_app (x := m) X1 hown hg hat
  have hP : PickOut S B (some ⟨lb, 0, none⟩) lc sl most (p + 1) rd ord m w (w3.setCell ⟨B, 4, none⟩ (.slice (some ⟨g, 0, none⟩) (ord.length + 1) cap)) := PickOut.pre hC1 ⟨_, _, X4, hC4⟩
  have hB3 : w3.heap[B]? = w1.heap[B]? := (hg.block B (by simp; have := X1.lt; omega) (fun e => (X1.so B e.symm).2.1 rfl)).trans (heap_new_lt _ _ X1.lt)
  have k4 : w3.cell? ⟨B, 4, none⟩ = some (.slice oa ord.length oc) := (World.cell?_of_block (a := ⟨B, 4, none⟩) hB3).trans c4
  have z4 : w3.frozen? ⟨B, 4, none⟩ = false := frozen_of (hB3.trans X1.blk) 4
  clear hown hg hat X4 hC4 c4 hB3
  walk_nrm
  repeat (first | refine Walk.cx ?_ | (refine Walk.cReg ?_; simp only [z36]) | (refine Walk.oq ?_; try walk_nrm) | (refine Walk.un ?_; walk_nrm))
  (have hfr := fr0 B 4; refine Walk.os hfr k4 ?_; clear hfr; try walk_nrm)
  generalize w3.setCell ⟨B, 4, none⟩ (.slice (some ⟨g, 0, none⟩) (ord.length + 1) cap) = w4 at *
  repeat (first | refine Walk.cx ?_ | (refine Walk.cReg ?_; simp only [z36]) | (refine Walk.oq ?_; try walk_nrm) | (refine Walk.un ?_; walk_nrm))
  refine Walk.on1 rfl rfl Try.func36 rfl (.stop fun d => ⟨rfl, ?_⟩)
  obtain ⟨oa', oc', h, h'⟩ := hP
  exact ⟨oa', oc', h.at d, h'.at d⟩
theorem pick_last (tl o n tc q : Nat) (u : Nat → Value) (c : Frame) (cs : List Frame) (w : World) (hn : n ≤ 64) (X : TuX S B la lc sl most p rd oa oc ord false w) (hord : ord.length ≤ 1048576) (hrd : rd < n) (h1 : w.cell? ⟨tl, o + rd, none⟩ = some (.pointer (some ⟨q, 0, none⟩))) (h2 : w.cell? ⟨q, 13, none⟩ = some (.bool false)) :
    Walk Try.prog main (DR (fun _ => none)) (fun g w' => g = G (c.finish (.int .i64 (rd : Nat))) cs ∧ PickOut S B la lc sl most p ((rd + 1) % n) ord rd w w') (G (hdP2 B (.slice (some ⟨tl, o, none⟩) n tc) u) (c :: cs)) w := by
  have c2 : w.cell? ⟨B, 2, none⟩ = some (.int .i64 (rd : Nat)) := (cell_of X.blk 2).trans rfl
  have z2 := frozen_of X.blk 2
  have hw1 : IntKind.wrap .i64 ((rd : Int) + 1) = (rd : Int) + 1 := by rw [IntKind.wrap_i64]; omega
  have ht : Int.tmod ((rd : Int) + 1) (n : Int) = (((rd + 1) % n : Nat) : Int) := by
    rw [Int.tmod_eq_emod_of_nonneg (by omega)]
    simp
  have hn0 : ¬ n = 0 := by omega
  generalize (rd + 1) % n = x at *
  have X1 := X.setR x
  have hC1 : Chg S w (w.setCell ⟨B, 2, none⟩ (.int .i64 (x : Nat))) := Chg.set X.sb
  clear X
  unfold hdP2
  repeat (first | refine Walk.cx ?_ | (refine Walk.cReg ?_; simp only [z36]) | (refine Walk.oq ?_; try walk_nrm) | (refine Walk.un ?_; walk_nrm))
  (have hfr := fr0 B 2; refine Walk.os hfr c2 ?_; clear hfr; try walk_nrm)
  clear c2 z2 hw1 h1 h2 ht
  generalize w.setCell ⟨B, 2, none⟩ (.int .i64 (x : Nat)) = w1 at *
  have c4 : w1.cell? ⟨B, 4, none⟩ = some (.slice oa ord.length oc) := (cell_of X1.blk 4).trans rfl
  repeat (first | refine Walk.cx ?_ | (refine Walk.cReg ?_; simp only [z36]) | (refine Walk.oq ?_; try walk_nrm) | (refine Walk.un ?_; walk_nrm))
  (refine Walk.oa ?_; try walk_nrm)
  have hrow : (w1.alloc (.cells #[.int .i64 (rd : Nat)] 3)).ownsRow 0 3 1 (.slice oa ord.length oc) ord.length (ordRow ord) := row_same X1.row fun g hg => heap_new_lt _ _ (X1.row.lt g hg).2
  have hnew : ∀ y v, ([.int .i64 (rd : Nat)] : List Value)[y]? = some v → (w1.alloc (.cells #[.int .i64 (rd : Nat)] 3)).cell? ((⟨w1.heap.size, 0, none⟩ : Addr).add y) = some v := fun y v hv => by
    rw [add_none, Nat.zero_add]
    refine (cell_of (heap_alloc_new _ _) y).trans ?_
    simpa using hv
  have hi3 := Option.some_get (show (Try.prog.info? 3).isSome = true by kernel_rfl)
  refine Walk.append (.tmp 137) (.tmp 139) 23 (ho_of (by conv => lhs; whnf) (by kernel_rfl)) (by rfl) (by decide) rfl 0 3 _ (.int .i64 0) 1 8 (by kernel_rfl) hi3.symm (by rfl) (by rfl) (by rfl) (by rfl) (by decide) (.slice oa ord.length oc) ord.length (ordRow ord) rfl hrow ⟨w1.heap.size, 0, none⟩ 1 1 [.int .i64 (rd : Nat)] ?_ (by rfl) hnew (by simp [Value.oneCell']) (by decide) (by simp [maxLen]; omega) (by omega) (Nat.zero_le _) (fun g _ => ap0 g) (fun g cap w3 hown hg hat hlt => ?_)
  · simp [Act.eval]
  clear hi3 hnew hrow
  obtain ⟨X4, hC4⟩ := tu_app (x := rd) X1 hown hg hat
  have hP : PickOut S B la lc sl most p x ord rd w (w3.setCell ⟨B, 4, none⟩ (.slice (some ⟨g, 0, none⟩) (ord.length + 1) cap)) := PickOut.pre hC1 ⟨_, _, X4, hC4⟩
  have hB3 : w3.heap[B]? = w1.heap[B]? := (hg.block B (by simp; have := X1.lt; omega) (fun e => (X1.so B e.symm).2.1 rfl)).trans (heap_new_lt _ _ X1.lt)
  have k4 : w3.cell? ⟨B, 4, none⟩ = some (.slice oa ord.length oc) := (World.cell?_of_block (a := ⟨B, 4, none⟩) hB3).trans c4
  have z4 : w3.frozen? ⟨B, 4, none⟩ = false := frozen_of (hB3.trans X1.blk) 4
  clear hown hg hat X4 hC4 c4 hB3
  walk_nrm
  repeat (first | refine Walk.cx ?_ | (refine Walk.cReg ?_; simp only [z36]) | (refine Walk.oq ?_; try walk_nrm) | (refine Walk.un ?_; walk_nrm))
  (have hfr := fr0 B 4; refine Walk.os hfr k4 ?_; clear hfr; try walk_nrm)
  generalize w3.setCell ⟨B, 4, none⟩ (.slice (some ⟨g, 0, none⟩) (ord.length + 1) cap) = w4 at *
  repeat (first | refine Walk.cx ?_ | (refine Walk.cReg ?_; simp only [z36]) | (refine Walk.oq ?_; try walk_nrm) | (refine Walk.un ?_; walk_nrm))
  refine Walk.on1 rfl rfl Try.func36 rfl (.stop fun d => ⟨rfl, ?_⟩)
  obtain ⟨oa', oc', h, h'⟩ := hP
  exact ⟨oa', oc', h.at d, h'.at d⟩
end
section
variable {main : Bool} {Y : Type} {A : Abs Y} {F st : Y × List Nat} {S : Nat → Prop} {B : Nat} {la : Option Addr} {lc : Nat} {sl : List Int} {most : Int} {p rd : Nat} {oa : Option Addr} {oc : Nat} {ta : Option Addr} {tc : Nat} {f : Nat → Bool} {c : Frame} {cs : List Frame}
def NextP (A : Abs Y) (F st : Y × List Nat) (sl : List Int) (S : Nat → Prop) (B : Nat) (la : Option Addr) (lc : Nat) (most : Int) (w : World) (v : Value) (w' : World) : Prop :=
  ∃ x p' rd', x < A.n ∧ A.out st.1 x = none ∧ v = .int .i64 (x : Nat) ∧ Ahead A F sl p' rd' (A.next st.1 x, st.2 ++ [x]) ∧ rd' < A.n ∧ PickOut S B la lc sl most p' rd' st.2 x w w'
theorem NextP.pre {w w1 w' : World} {v : Value} (hC : Chg S w w1) (H : NextP A F st sl S B la lc most w1 v w') : NextP A F st sl S B la lc most w v w' := by
  obtain ⟨x, p', rd', h1, h2, h3, h4, h5, h6⟩ := H
  exact ⟨x, p', rd', h1, h2, h3, h4, h5, h6.pre hC⟩
theorem Ahead.mod {rd' : Nat} (H : Ahead A F sl p rd st) (h : rd' % A.n = rd % A.n) : Ahead A F sl p rd' st := by
  obtain ⟨⟨f, x, h1, h2, h3, h4⟩, h5, h6⟩ := H
  exact ⟨⟨f, x, h1, h.trans h2, h3, h4⟩, h5, h6⟩
variable (hov : overA A st = false) (hf : ∀ i, i < A.n → f i = (A.out st.1 i).isSome) (hn : A.n ≤ 64) (hord : st.2.length ≤ 1048576)
include hov hf hn hord
theorem pick_rounds : ∀ (k rd : Nat) (u : Nat → Value) (w : World), A.out st.1 ((rd + k) % A.n) = none → rd < A.n → TuX S B la lc sl most sl.length rd oa oc st.2 false w → EndAt S ta A.n f w → Ahead A F sl sl.length rd st →
    Walk Try.prog main (DR (fun _ => none)) (fun g w' => ∃ v, NextP A F st sl S B la lc most w v w' ∧ g = G (c.finish v) cs) (G (hdP2 B (.slice ta A.n tc) u) (c :: cs)) w := by
  intro k
  induction k with
  | zero =>
    intro rd u w hk hrd X he H
    rw [Nat.add_zero, Nat.mod_eq_of_lt hrd] at hk
    obtain ⟨tl, o, q, rfl, h1, h2, h3, h4⟩ := he rd hrd
    rw [hf _ hrd, hk] at h2
    refine (pick_last tl o A.n tc q u c cs w hn X hord hrd h1 h2).mono ?_
    rintro g w' ⟨rfl, hP⟩
    refine ⟨_, ⟨rd, sl.length, (rd + 1) % A.n, hrd, hk, rfl, ?_, Nat.mod_lt _ (by omega), hP⟩, rfl⟩
    have := (H.turn hov).1
    rw [Nat.mod_eq_of_lt hrd, step_yes hov hrd hk] at this
    exact this.mod (Nat.mod_mod _ _)
  | succ k ih =>
    intro rd u w hk hrd X he H
    obtain ⟨tl, o, q, rfl, h1, h2, h3, h4⟩ := he rd hrd
    cases ho : A.out st.1 rd with
    | none =>
      rw [hf _ hrd, ho] at h2
      refine (pick_last tl o A.n tc q u c cs w hn X hord hrd h1 h2).mono ?_
      rintro g w' ⟨rfl, hP⟩
      refine ⟨_, ⟨rd, sl.length, (rd + 1) % A.n, hrd, ho, rfl, ?_, Nat.mod_lt _ (by omega), hP⟩, rfl⟩
      have := (H.turn hov).1
      rw [Nat.mod_eq_of_lt hrd, step_yes hov hrd ho] at this
      exact this.mod (Nat.mod_mod _ _)
    | some b =>
      rw [hf _ hrd, ho] at h2
      refine (pick_pass tl o A.n tc q u (c :: cs) w hn X hrd h1 h2).then ?_
      rintro g w' ⟨⟨u', rfl⟩, d, rfl⟩
      refine Walk.back ?_ d
      have hA := (H.turn hov).2
      rw [Nat.mod_eq_of_lt hrd, step_no (by
        rintro ⟨_, _, h⟩
        rw [Int.toNat_natCast, ho] at h
        cases h)] at hA
      have hC : Chg S w (w.setCell ⟨B, 2, none⟩ (.int .i64 (((rd + 1) % A.n : Nat) : Int))) := Chg.set X.sb
      refine (ih ((rd + 1) % A.n) u' _ ?_ (Nat.mod_lt _ (by omega)) (X.setR _) (he.chg hC fun _ _ h => h) (hA.mod (Nat.mod_mod _ _))).mono fun g w' ⟨v, h, hg⟩ => ⟨v, h.pre hC, hg⟩
      rw [Nat.add_mod, Nat.mod_mod, ← Nat.add_mod, show rd + 1 + k = rd + (k + 1) by omega]
      exact hk
theorem pick_list (hsl : sl.length ≤ 17592186044416) : ∀ (r p : Nat) (u : Nat → Value) (w : World), p + r = sl.length → rd < A.n → TuX S B la lc sl most p rd oa oc st.2 false w → EndAt S ta A.n f w → Ahead A F sl p rd st →
    Walk Try.prog main (DR (fun _ => none)) (fun g w' => ∃ v, NextP A F st sl S B la lc most w v w' ∧ g = G (c.finish v) cs) (G (hdP1 B (.slice ta A.n tc) u) (c :: cs)) w := by
  intro r
  induction r with
  | zero =>
    intro p u w hp hrd X he H
    have hp : p = sl.length := hp
    subst hp
    refine (pick_next ta A.n tc u (c :: cs) w X).then ?_
    rintro g w' ⟨⟨u', rfl⟩, d, rfl⟩
    refine Walk.back ?_ d
    obtain ⟨k, hk, ho⟩ := over_far hov rd
    exact pick_rounds hov hf hn hord k rd u' w ho hrd X he H
  | succ r ih =>
    intro p u w hp hrd X he H
    have hpl : p < sl.length := by omega
    have hz : sl[p]? = some sl[p] := List.getElem?_eq_getElem hpl
    generalize sl[p] = z at hz
    have hA := H.take hz
    have hpos : 0 < A.n := by omega
    obtain ⟨tl, o, q0, rfl, _⟩ := he 0 hpos
    by_cases hok : 0 ≤ z ∧ z < A.n ∧ A.out st.1 z.toNat = none
    · obtain ⟨h0, h1, h2⟩ := hok
      obtain ⟨m, rfl⟩ : ∃ m : Nat, z = m := ⟨z.toNat, by omega⟩
      have hm : m < A.n := by omega
      rw [Int.toNat_natCast] at h2
      obtain ⟨tl', o', q, e, e1, e2, e3, e4⟩ := he m hm
      cases e
      rw [hf _ hm, h2] at e2
      refine (pick_take tl o A.n tc q m u c cs w hn X hpl hsl hord hz hm e1 e2 e3 e4).mono ?_
      rintro g w' ⟨rfl, hP⟩
      refine ⟨_, ⟨m, p + 1, rd, hm, h2, rfl, ?_, hrd, hP⟩, rfl⟩
      rw [step_yes hov hm h2] at hA
      exact hA
    · rw [step_no hok] at hA
      have hno : ¬ (0 ≤ z ∧ z < A.n ∧ f z.toNat = false) := by
        rintro ⟨h0, h1, h2⟩
        have hzn : z.toNat < A.n := by omega
        rw [hf _ hzn] at h2
        refine hok ⟨h0, h1, ?_⟩
        cases e : A.out st.1 z.toNat with
        | none => rfl
        | some b => rw [e] at h2; cases h2
      refine (pick_skip tl o A.n tc f z u (c :: cs) w hn X hpl hsl hz he hno).then ?_
      rintro g w' ⟨⟨u', rfl⟩, d, rfl⟩
      refine Walk.back ?_ d
      have hC : Chg S w (w.setCell ⟨B, 1, none⟩ (.int .i64 ((p + 1 : Nat) : Int))) := Chg.set X.sb
      exact (ih (p + 1) u' _ (by omega) hrd (X.setP _) (he.chg hC fun _ _ h => h) hA).mono fun g w' ⟨v, h, hg⟩ => ⟨v, h.pre hC, hg⟩
end
section
variable {main : Bool} {Y : Type} {A : Abs Y} {F st : Y × List Nat} {S : Nat → Prop} {B : Nat} {la : Option Addr} {lc : Nat} {sl : List Int} {p rd : Nat} {oa : Option Addr} {oc : Nat} {ta : Option Addr} {tc : Nat} {f : Nat → Bool}
def PickIs (A : Abs Y) (F st : Y × List Nat) (sl : List Int) (S : Nat → Prop) (B : Nat) (la : Option Addr) (lc p rd : Nat) (oa : Option Addr) (oc : Nat) (w : World) (v : Value) (w' : World) : Prop :=
  (v = .int .i64 (-1) ∧ overA A st = true ∧ TuX S B la lc sl A.most p rd oa oc st.2 (decide (0 < goingA A st.1)) w' ∧ Chg S w w') ∨ (overA A st = false ∧ NextP A F st sl S B la lc A.most w v w')
theorem pick_w (hf : ∀ i, i < A.n → f i = (A.out st.1 i).isSome) (hn : A.n ≤ 64) (hm : A.most ≤ 1048576) (hsl : sl.length ≤ 17592186044416) (w : World) (X : TuX S B la lc sl A.most p rd oa oc st.2 false w) (he : EndAt S ta A.n f w) (H : Ahead A F sl p rd st) (hrd : rd < A.n ∨ A.n = 0) :
    CallW Try.prog main (fun _ => none) 36 #[.pointer (some ⟨B, 0, none⟩), .slice ta A.n tc] w (PickIs A F st sl S B la lc p rd oa oc w) := by
  intro c cs
  refine (pick_in B (.slice ta A.n tc) (c :: cs) w).then ?_
  rintro g w1 ⟨⟨u, rfl⟩, d, rfl⟩
  refine Walk.back ?_ d
  refine (pick_count S B ta A.n tc f (c :: cs) w hn he A.n 0 0 u (by omega) (Nat.le_refl _)).then ?_
  rintro g w1 ⟨⟨u1, rfl⟩, d1, rfl⟩
  refine Walk.back ?_ d1
  have hcount : 0 + (List.range' 0 A.n).countP (fun j => !f j) = goingA A st.1 := by
    rw [Nat.zero_add, ← List.range_eq_range']
    unfold goingA
    refine List.countP_congr fun i hi => ?_
    rw [hf i (List.mem_range.1 hi)]
    cases A.out st.1 i <;> simp
  rw [hcount]
  by_cases h0 : goingA A st.1 = 0
  · rw [h0]
    refine (pick_none B ta A.n tc u1 c cs w).mono ?_
    rintro g w' ⟨rfl, d, rfl⟩
    refine ⟨_, .inl ⟨rfl, ?_, ?_, Chg.refl.at d⟩, rfl⟩
    · unfold overA
      rw [h0]
      simp
    · rw [h0]
      exact X.at d
  · by_cases h1 : A.most ≤ st.2.length
    · refine (pick_most B ta A.n tc _ u1 c cs w h0 X h1).mono ?_
      rintro g w' ⟨rfl, X', hC⟩
      refine ⟨_, .inl ⟨rfl, ?_, ?_, hC⟩, rfl⟩
      · unfold overA
        rw [decide_eq_true h1, Bool.or_true]
      · rw [decide_eq_true (Nat.pos_of_ne_zero h0)]
        exact X'
    · have hov : overA A st = false := by
        unfold overA
        rw [decide_eq_false h0, decide_eq_false h1]
        rfl
      have hrd' : rd < A.n := by
        rcases hrd with h | h
        · exact h
        · obtain ⟨_, j, hj, _⟩ := over_len hov
          omega
      refine (pick_go B ta A.n tc _ u1 (c :: cs) w h0 X (by omega)).then ?_
      rintro g w' ⟨⟨u2, rfl⟩, d2, rfl⟩
      refine Walk.back ?_ d2
      have hord : st.2.length ≤ 1048576 := by omega
      have hp : p + (sl.length - p) = sl.length := by have := H.le; omega
      refine (pick_list hov hf hn hord hsl (sl.length - p) p u2 w hp hrd' X he H).mono ?_
      rintro g w' ⟨v, hN, rfl⟩
      exact ⟨v, .inr ⟨hov, hN⟩, rfl⟩
end
end
end Go.Proofs.Ytdcjgmlgmjjogaa
