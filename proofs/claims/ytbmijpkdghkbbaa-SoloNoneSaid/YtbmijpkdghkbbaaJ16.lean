/- Part 16. -/
import Derived.Test.YtbmijpkdghkbbaaJ5
import Derived.Test.YtbmijpkdghkbbaaJ14
import Derived.Test.YtbmijpkdghkbbaaJ15
import Derived.Laws.CopyRow
set_option linter.unusedSimpArgs false
set_option linter.unusedVariables false
set_option linter.unusedVariables false
set_option maxHeartbeats 8000000
set_option maxRecDepth 100000
namespace Go.Proofs.Ytbmijpkdghkbbaa
open Go.Conc Go.RowKit Go.Relay
open Go.ConcN (upd upd_ne upd_same)
section
theorem undRing : Try.prog.underlying 35 = some (.pointer 72) := by kernel_rfl
noncomputable def reg66_0 := rg Try.f66.body [0]
noncomputable def reg66_1 := rg Try.f66.body [1, 0]
theorem z66 : List.range reg66_0.size = [0] ∧ List.range reg66_1.size = [0, 1, 2, 3, 4, 5, 6] := by refine ⟨?_, ?_⟩ <;> kernel_rfl
theorem code66_is : Try.f66.body = some (.seq (.region 0 reg66_0 false) (.seq (.region 1 reg66_1 false) (.ret))) := by kernel_rfl
noncomputable def reg20_0 := rg Try.f20.body [0]
noncomputable def reg20_1 := rg Try.f20.body [1, 0, 0]
noncomputable def reg20_2 := rg Try.f20.body [1, 0, 1, 0, 0]
noncomputable def reg20_3 := rg Try.f20.body [1, 1, 0]
theorem z20 : List.range reg20_0.size = [0] ∧ List.range reg20_1.size = [0, 1] ∧ List.range reg20_2.size = [0] ∧ List.range reg20_3.size = [0, 1, 2, 3, 4, 5] := by refine ⟨?_, ?_, ?_, ?_⟩ <;> kernel_rfl
theorem code20_is : Try.f20.body = some (.seq (.region 0 reg20_0 false) (.seq (.seq (.region 1 reg20_1 false) (.cond (.tmp 4 ) (.seq (.region 2 reg20_2 false) (.ret)) (.skip))) (.seq (.region 3 reg20_3 false) (.ret)))) := by kernel_rfl
noncomputable def reg65_0 := rg Try.f65.body [0]
noncomputable def reg65_1 := rg Try.f65.body [1, 0]
theorem z65 : List.range reg65_0.size = [0] ∧ List.range reg65_1.size = [0, 1, 2, 3, 4, 5, 6, 7] := by refine ⟨?_, ?_⟩ <;> kernel_rfl
theorem code65_is : Try.f65.body = some (.seq (.region 0 reg65_0 false) (.seq (.region 1 reg65_1 false) (.ret))) := by kernel_rfl
noncomputable def reg24_0 := rg Try.f24.body [0]
noncomputable def reg24_1 := rg Try.f24.body [1, 0, 0]
noncomputable def reg24_2 := rg Try.f24.body [1, 0, 1, 0, 0]
noncomputable def reg24_3 := rg Try.f24.body [1, 1, 0]
theorem z24 : List.range reg24_0.size = [0] ∧ List.range reg24_1.size = [0, 1, 2, 3] ∧ List.range reg24_2.size = [0] ∧ List.range reg24_3.size = [0, 1, 2, 3, 4] := by refine ⟨?_, ?_, ?_, ?_⟩ <;> kernel_rfl
theorem code24_is : Try.f24.body = some (.seq (.region 0 reg24_0 false) (.seq (.seq (.region 1 reg24_1 false) (.cond (.tmp 8 ) (.seq (.region 2 reg24_2 false) (.ret)) (.skip))) (.seq (.region 3 reg24_3 false) (.ret)))) := by kernel_rfl
noncomputable def reg25_0 := rg Try.f25.body [0]
noncomputable def reg25_1 := rg Try.f25.body [1, 0, 0, 0]
noncomputable def reg25_2 := rg Try.f25.body [1, 0, 0, 1, 0, 0]
noncomputable def reg25_3 := rg Try.f25.body [1, 0, 0, 1, 1, 0]
noncomputable def reg25_4 := rg Try.f25.body [1, 0, 0, 1, 1, 1, 0, 0]
noncomputable def reg25_5 := rg Try.f25.body [1, 1, 0]
theorem z25 : List.range reg25_0.size = [0] ∧ List.range reg25_1.size = [0, 1, 2, 3] ∧ List.range reg25_2.size = [0] ∧ List.range reg25_3.size = [0, 1, 2, 3, 4] ∧ List.range reg25_4.size = [0] ∧ List.range reg25_5.size = [0, 1, 2, 3, 4] := by refine ⟨?_, ?_, ?_, ?_, ?_, ?_⟩ <;> kernel_rfl
theorem code25_is : Try.f25.body = some (.seq (.region 0 reg25_0 false) (.seq (.block 0 (.seq (.region 1 reg25_1 false) (.cond (.tmp 5 ) (.seq (.region 2 reg25_2 false) (.ret)) (.seq (.region 3 reg25_3 false) (.cond (.tmp 9 ) (.seq (.region 4 reg25_4 false) (.ret)) (.skip)))))) (.seq (.region 5 reg25_5 false) (.ret)))) := by kernel_rfl
section
variable {main : Bool} {V : Nat → Option Wait} {rb sb n : Nat} {s : Rg}
theorem good_yes (q : Int) (w : World) (h0 : 0 ≤ q) : CallV Try.prog main V 66 #[.int .i64 q] w (.bool (decide (q < 4611686018427387904))) w := by
  refine callW_in Try.func66 code66_is fun fr cs => ?_
  simp only [Try.ntmps66, ez, Nat.reduceAdd, Nat.reduceSub]
  repeat (first | refine Walk.cx ?_ | (refine Walk.cReg ?_; simp only [z66]) | (refine Walk.oq ?_; try walk_nrm) | (refine Walk.un ?_; walk_nrm))
  exact Walk.ret1 rfl rfl Try.func66 rfl fun d => ⟨rfl, d, rfl⟩
theorem good_no (q : Int) (w : World) (h0 : ¬ 0 ≤ q) : CallV Try.prog main V 66 #[.int .i64 q] w (.bool false) w := by
  have h1 : q < 0 := by omega
  refine callW_in Try.func66 code66_is fun fr cs => ?_
  simp only [Try.ntmps66, ez, Nat.reduceAdd, Nat.reduceSub]
  repeat (first | refine Walk.cx ?_ | (refine Walk.cReg ?_; simp only [z66]) | (refine Walk.oq ?_; try walk_nrm) | (refine Walk.un ?_; walk_nrm))
  exact Walk.ret1 rfl rfl Try.func66 rfl fun d => ⟨rfl, d, rfl⟩
theorem good_w (q : Int) (w : World) : CallV Try.prog main V 66 #[.int .i64 q] w (.bool (decide (good q))) w := by
  by_cases h0 : 0 ≤ q
  · have e : decide (good q) = decide (q < 4611686018427387904) := by simp [good, h0]
    rw [e]
    exact good_yes q w h0
  · have e : decide (good q) = false := by simp [good, h0]
    rw [e]
    exact good_no q w h0
theorem size_w (w : World) (I : RgI rb sb n s w) : CallV Try.prog main V 20 #[.pointer (some ⟨rb, 0, none⟩)] w (.int .i64 (n : Nat)) w := by
  have c1 := I.size
  have hp1 := fun w => run_eql_ptr (P := Try.prog) 35 undRing (some ⟨rb, 0, none⟩) w
  have hp2 := fun w es => ev_eql_ptr (P := Try.prog) 35 undRing (some ⟨rb, 0, none⟩) w es
  simp only [Option.isNone_some] at hp1
  clear I
  refine callW_in Try.func20 code20_is fun fr cs => ?_
  simp only [Try.ntmps20, ez, Nat.reduceAdd, Nat.reduceSub]
  repeat (first | refine Walk.cx ?_ | (refine Walk.cReg ?_; simp only [z20]) | (refine Walk.oq ?_; try walk_nrm) | (refine Walk.un ?_; walk_nrm))
  exact Walk.ret1 rfl rfl Try.func20 rfl fun d => ⟨rfl, d, rfl⟩
theorem size_nil (w : World) : CallV Try.prog main V 20 #[.pointer none] w (.int .i64 0) w := by
  have hp1 := fun w => run_eql_ptr (P := Try.prog) 35 undRing none w
  have hp2 := fun w es => ev_eql_ptr (P := Try.prog) 35 undRing none w es
  simp only [Option.isNone_none] at hp1
  refine callW_in Try.func20 code20_is fun fr cs => ?_
  simp only [Try.ntmps20, ez, Nat.reduceAdd, Nat.reduceSub]
  repeat (first | refine Walk.cx ?_ | (refine Walk.cReg ?_; simp only [z20]) | (refine Walk.oq ?_; try walk_nrm) | (refine Walk.un ?_; walk_nrm))
  exact Walk.ret1 rfl rfl Try.func20 rfl fun d => ⟨rfl, d, rfl⟩
theorem holds_yes (w : World) (I : RgI rb sb n s w) (q : Int) (h : good q) : CallV Try.prog main V 65 #[.pointer (some ⟨rb, 0, none⟩), .int .i64 q] w (.bool true) w := by
  have hg := good_w (main := main) (V := V) q w
  have hsz := size_w (main := main) (V := V) w I
  have hn := I.pos.1
  have hn1 : decide ((0 : Int) < (n : Int)) = true := by simp; omega
  have hn2 : decide (0 < n) = true := by simp; omega
  clear I
  have e : decide (good q) = true := by simp [h]
  rw [e] at hg
  refine callW_in Try.func65 code65_is fun fr cs => ?_
  simp only [Try.ntmps65, ez, Nat.reduceAdd, Nat.reduceSub]
  repeat (first | refine Walk.cx ?_ | (refine Walk.cReg ?_; simp only [z65]) | (refine Walk.oq ?_; try walk_nrm) | (refine Walk.un ?_; walk_nrm))
  refine Walk.callV (x := .bool true) (W := w) ?_ (ho_of (by conv => lhs; whnf) (by kernel_rfl)) (by rfl) (by decide) rfl Try.func66 (by kernel_rfl) (by rfl) ?_
  · walk_nrm
    exact hg
  walk_nrm
  repeat (first | refine Walk.cx ?_ | (refine Walk.cReg ?_; simp only [z65]) | (refine Walk.oq ?_; try walk_nrm) | (refine Walk.un ?_; walk_nrm))
  refine Walk.callV (x := .int .i64 (n : Nat)) (W := w) ?_ (ho_of (by conv => lhs; whnf) (by kernel_rfl)) (by rfl) (by decide) rfl Try.func20 (by kernel_rfl) (by rfl) ?_
  · walk_nrm
    exact hsz
  walk_nrm
  repeat (first | refine Walk.cx ?_ | (refine Walk.cReg ?_; simp only [z65]) | (refine Walk.oq ?_; try walk_nrm) | (refine Walk.un ?_; walk_nrm))
  exact Walk.ret1 rfl rfl Try.func65 rfl fun d => ⟨rfl, d, rfl⟩
theorem holds_no (r : Value) (w : World) (q : Int) (h : ¬ good q) : CallV Try.prog main V 65 #[r, .int .i64 q] w (.bool false) w := by
  have hg := good_w (main := main) (V := V) q w
  have e : decide (good q) = false := by simp [h]
  rw [e] at hg
  refine callW_in Try.func65 code65_is fun fr cs => ?_
  simp only [Try.ntmps65, ez, Nat.reduceAdd, Nat.reduceSub]
  repeat (first | refine Walk.cx ?_ | (refine Walk.cReg ?_; simp only [z65]) | (refine Walk.oq ?_; try walk_nrm) | (refine Walk.un ?_; walk_nrm))
  refine Walk.callV (x := .bool false) (W := w) ?_ (ho_of (by conv => lhs; whnf) (by kernel_rfl)) (by rfl) (by decide) rfl Try.func66 (by kernel_rfl) (by rfl) ?_
  · walk_nrm
    exact hg
  walk_nrm
  repeat (first | refine Walk.cx ?_ | (refine Walk.cReg ?_; simp only [z65]) | (refine Walk.oq ?_; try walk_nrm) | (refine Walk.un ?_; walk_nrm))
  exact Walk.ret1 rfl rfl Try.func65 rfl fun d => ⟨rfl, d, rfl⟩
theorem holds_w (w : World) (I : RgI rb sb n s w) (q : Int) : CallV Try.prog main V 65 #[.pointer (some ⟨rb, 0, none⟩), .int .i64 q] w (.bool (decide (good q))) w := by
  by_cases h : good q
  · rw [show decide (good q) = true by simp [h]]
    exact holds_yes w I q h
  · rw [show decide (good q) = false by simp [h]]
    exact holds_no _ w q h
theorem ixR_tmod {n : Nat} (hn : 1 ≤ n) {q : Int} (hq : 0 ≤ q) : q.tmod n = ((ixR n q : Nat) : Int) := by
  have h1 := Int.emod_nonneg q (show (n : Int) ≠ 0 by omega)
  rw [Int.tmod_eq_emod_of_nonneg hq]
  unfold ixR
  omega
theorem laR_tdiv {n : Nat} {q : Int} (hq : 0 ≤ q) : q.tdiv n = q / n := Int.tdiv_eq_ediv_of_nonneg hq
theorem slot_w (w : World) (I : RgI rb sb n s w) (q : Int) (hq : good q) : CallV Try.prog main V 24 #[.pointer (some ⟨rb, 0, none⟩), .int .i64 q] w (.int .i64 (ixR n q : Nat)) w := by
  have hh := holds_w (main := main) (V := V) w I q
  have hsz := size_w (main := main) (V := V) w I
  have e : decide (good q) = true := by simp [hq]
  rw [e] at hh
  have hn := I.pos
  have hm := ixR_tmod hn.1 hq.1
  have hn0 : ¬ ((n : Int) = 0) := by omega
  have hn1 : ¬ (n = 0) := by omega
  have hlt := ixR_lt hn.1 q
  have hw : IntKind.wrap .i64 (q.tmod n) = ((ixR n q : Nat) : Int) := by rw [hm, IntKind.wrap_i64]; omega
  clear I
  refine callW_in Try.func24 code24_is fun fr cs => ?_
  simp only [Try.ntmps24, ez, Nat.reduceAdd, Nat.reduceSub]
  repeat (first | refine Walk.cx ?_ | (refine Walk.cReg ?_; simp only [z24]) | (refine Walk.oq ?_; try walk_nrm) | (refine Walk.un ?_; walk_nrm))
  refine Walk.callV (x := .bool true) (W := w) ?_ (ho_of (by conv => lhs; whnf) (by kernel_rfl)) (by rfl) (by decide) rfl Try.func65 (by kernel_rfl) (by rfl) ?_
  · walk_nrm
    exact hh
  walk_nrm
  repeat (first | refine Walk.cx ?_ | (refine Walk.cReg ?_; simp only [z24]) | (refine Walk.oq ?_; try walk_nrm) | (refine Walk.un ?_; walk_nrm))
  refine Walk.callV (x := .int .i64 (n : Nat)) (W := w) ?_ (ho_of (by conv => lhs; whnf) (by kernel_rfl)) (by rfl) (by decide) rfl Try.func20 (by kernel_rfl) (by rfl) ?_
  · walk_nrm
    exact hsz
  walk_nrm
  repeat (first | refine Walk.cx ?_ | (refine Walk.cReg ?_; simp only [z24]) | (refine Walk.oq ?_; try walk_nrm) | (refine Walk.un ?_; walk_nrm))
  exact Walk.ret1 rfl rfl Try.func24 rfl fun d => ⟨by simp [hm, hw], d, rfl⟩
theorem lap_w (w : World) (I : RgI rb sb n s w) (q : Int) (hq : good q) : CallV Try.prog main V 25 #[.pointer (some ⟨rb, 0, none⟩), .int .i64 q] w (.int .i64 (q / n)) w := by
  have hg := good_w (main := main) (V := V) q w
  have hh := holds_w (main := main) (V := V) w I q
  have hsz := size_w (main := main) (V := V) w I
  have e : decide (good q) = true := by simp [hq]
  rw [e] at hh hg
  have hn := I.pos
  have hm := laR_tdiv (n := n) hq.1
  have hn0 : ¬ ((n : Int) = 0) := by omega
  have hn1 : ¬ (n = 0) := by omega
  have hb : 0 ≤ q / (n : Int) ∧ q / (n : Int) ≤ q := ⟨Int.ediv_nonneg hq.1 (by omega), Int.ediv_le_self _ hq.1⟩
  have hq2 := hq.2
  have hw : IntKind.wrap .i64 (q / (n : Int)) = q / n := by rw [IntKind.wrap_i64]; omega
  clear I
  refine callW_in Try.func25 code25_is fun fr cs => ?_
  simp only [Try.ntmps25, ez, Nat.reduceAdd, Nat.reduceSub]
  repeat (first | refine Walk.cx ?_ | (refine Walk.cReg ?_; simp only [z25]) | (refine Walk.oq ?_; try walk_nrm) | (refine Walk.un ?_; walk_nrm))
  refine Walk.callV (x := .bool true) (W := w) ?_ (ho_of (by conv => lhs; whnf) (by kernel_rfl)) (by rfl) (by decide) rfl Try.func66 (by kernel_rfl) (by rfl) ?_
  · walk_nrm
    exact hg
  walk_nrm
  repeat (first | refine Walk.cx ?_ | (refine Walk.cReg ?_; simp only [z25]) | (refine Walk.oq ?_; try walk_nrm) | (refine Walk.un ?_; walk_nrm))
  refine Walk.callV (x := .bool true) (W := w) ?_ (ho_of (by conv => lhs; whnf) (by kernel_rfl)) (by rfl) (by decide) rfl Try.func65 (by kernel_rfl) (by rfl) ?_
  · walk_nrm
    exact hh
  walk_nrm
  repeat (first | refine Walk.cx ?_ | (refine Walk.cReg ?_; simp only [z25]) | (refine Walk.oq ?_; try walk_nrm) | (refine Walk.un ?_; walk_nrm))
  refine Walk.callV (x := .int .i64 (n : Nat)) (W := w) ?_ (ho_of (by conv => lhs; whnf) (by kernel_rfl)) (by rfl) (by decide) rfl Try.func20 (by kernel_rfl) (by rfl) ?_
  · walk_nrm
    exact hsz
  walk_nrm
  repeat (first | refine Walk.cx ?_ | (refine Walk.cReg ?_; simp only [z25]) | (refine Walk.oq ?_; try walk_nrm) | (refine Walk.un ?_; walk_nrm))
  exact Walk.ret1 rfl rfl Try.func25 rfl fun d => ⟨by simp [hm, hw], d, rfl⟩
end
end
section
noncomputable def reg72_0 := rg Try.f72.body [0]
noncomputable def reg72_1 := rg Try.f72.body [1, 0]
theorem size72_1 : reg72_1.size = 14 := by kernel_rfl
theorem z72 : List.range reg72_0.size = [0, 1] ∧ List.range reg72_1.size = [0, 1, 2, 3, 4, 5, 6, 7, 8, 9, 10, 11, 12, 13] := by refine ⟨?_, ?_⟩ <;> kernel_rfl
theorem code72_is : Try.f72.body = some (.seq (.region 0 reg72_0 false) (.seq (.region 1 reg72_1 true) (.ret))) := by kernel_rfl
noncomputable def reg35_0 := rg Try.f35.body [0]
noncomputable def reg35_1 := rg Try.f35.body [1, 0, 0]
noncomputable def reg35_2 := rg Try.f35.body [1, 0, 1, 0, 0]
noncomputable def reg35_3 := rg Try.f35.body [1, 1, 0]
noncomputable def reg35_4 := rg Try.f35.body [1, 1, 1, 0]
theorem z35 : List.range reg35_0.size = [0] ∧ List.range reg35_1.size = [0, 1, 2, 3] ∧ List.range reg35_2.size = [0] ∧ List.range reg35_3.size = [0, 1, 2, 3, 4, 5, 6, 7] ∧ List.range reg35_4.size = [0, 1, 2, 3, 4, 5, 6, 7] := by refine ⟨?_, ?_, ?_, ?_, ?_⟩ <;> kernel_rfl
theorem code35_is : Try.f35.body = some (.seq (.region 0 reg35_0 false) (.seq (.seq (.region 1 reg35_1 false) (.cond (.tmp 12 ) (.seq (.region 2 reg35_2 false) (.ret)) (.skip))) (.seq (.region 3 reg35_3 false) (.seq (.region 4 reg35_4 false) (.ret))))) := by kernel_rfl
noncomputable def reg33_0 := rg Try.f33.body [0]
noncomputable def reg33_1 := rg Try.f33.body [1, 0, 0]
noncomputable def reg33_2 := rg Try.f33.body [1, 0, 1, 0, 0]
noncomputable def reg33_3 := rg Try.f33.body [1, 1, 0]
noncomputable def reg33_4 := rg Try.f33.body [1, 1, 1, 0]
noncomputable def reg33_5 := rg Try.f33.body [1, 1, 1, 1, 0]
noncomputable def reg33_6 := rg Try.f33.body [1, 1, 1, 1, 1, 0]
noncomputable def reg33_7 := rg Try.f33.body [1, 1, 1, 1, 1, 1, 0]
theorem z33 : List.range reg33_0.size = [0] ∧ List.range reg33_1.size = [0, 1, 2, 3] ∧ List.range reg33_2.size = [0] ∧ List.range reg33_3.size = [0, 1, 2, 3, 4, 5, 6, 7] ∧ List.range reg33_4.size = [0, 1, 2, 3, 4, 5, 6] ∧ List.range reg33_5.size = [0, 1, 2, 3, 4, 5] ∧ List.range reg33_6.size = [0, 1, 2, 3, 4, 5] ∧ List.range reg33_7.size = [0] := by refine ⟨?_, ?_, ?_, ?_, ?_, ?_, ?_, ?_⟩ <;> kernel_rfl
theorem code33_is : Try.f33.body = some (.seq (.region 0 reg33_0 false) (.seq (.seq (.region 1 reg33_1 false) (.cond (.tmp 14 ) (.seq (.region 2 reg33_2 false) (.ret)) (.skip))) (.seq (.region 3 reg33_3 false) (.seq (.region 4 reg33_4 false) (.seq (.region 5 reg33_5 false) (.seq (.region 6 reg33_6 false) (.seq (.region 7 reg33_7 false) (.ret)))))))) := by kernel_rfl
theorem laR_in {n : Nat} (hn : 1 ≤ n) {q : Int} (hq : good q) : 0 ≤ laR n q ∧ laR n q < 9223372036854775808 := by
  have hb : 0 ≤ q / (n : Int) ∧ q / (n : Int) ≤ q := ⟨Int.ediv_nonneg hq.1 (by omega), Int.ediv_le_self _ hq.1⟩
  have := hq.2
  unfold laR
  omega
section
variable {main : Bool} {V : Nat → Option Wait} {rb sb n : Nat} {s : Rg}
theorem at_w (w : World) (I : RgI rb sb n s w) (q : Int) (hq : good q) : CallV Try.prog main V 72 #[.pointer (some ⟨rb, 0, none⟩), .int .i64 q] w (.tuple #[.pointer (some ⟨sb, ixR n q * 2, none⟩), .int .i64 (laR n q)]) w := by
  have hsl := slot_w (main := main) (V := V) w I q hq
  have hlp := lap_w (main := main) (V := V) w I q hq
  have c1 := I.size
  have hn := I.pos
  have hb := laR_in hn.1 hq
  have hw : IntKind.wrap .i64 (2 * (q / (n : Int))) = laR n q := by
    have e : laR n q = 2 * (q / (n : Int)) := rfl
    rw [← e, IntKind.wrap_i64]
    omega
  have hlt := ixR_lt hn.1 q
  have hl1 : ((ixR n q : Nat) : Int) < (n : Int) := by omega
  generalize laR n q = la at *
  generalize ixR n q = ix at *
  generalize q / (n : Int) = qn at *
  clear I
  refine callW_in Try.func72 code72_is fun fr cs => ?_
  simp only [Try.ntmps72, ez, Nat.reduceAdd, Nat.reduceSub]
  repeat (first | refine Walk.cx ?_ | (refine Walk.cReg ?_; simp only [z72]) | (refine Walk.oq ?_; try walk_nrm) | (refine Walk.un ?_; walk_nrm))
  (refine Walk.drawnCW (by kernel_rfl) size72_1 (by kernel_rfl) (by kernel_rfl) (by decide) ?_; simp only [List.range, List.range.loop]; repeat (first | (refine Cm.oq ?_) | (refine Cm.unw (ho_of (by conv => lhs; whnf) (by kernel_rfl)) (by rfl) ?_; walk_nrm)))
  refine Cm.callV (x := .int .i64 (ix : Nat)) ?_ (ho_of (by conv => lhs; whnf) (by kernel_rfl)) (by rfl) rfl Try.func24 (by kernel_rfl) (by rfl) ?_
  · intro w' he
    subst he
    walk_nrm
    exact hsl
  walk_nrm
  repeat (first | (refine Cm.oq ?_) | (refine Cm.unw (ho_of (by conv => lhs; whnf) (by kernel_rfl)) (by rfl) ?_; walk_nrm))
  refine Cm.callV (x := .int .i64 qn) ?_ (ho_of (by conv => lhs; whnf) (by kernel_rfl)) (by rfl) rfl Try.func25 (by kernel_rfl) (by rfl) ?_
  · intro w' he
    subst he
    walk_nrm
    exact hlp
  walk_nrm
  repeat (first | (refine Cm.oq ?_) | (refine Cm.unw (ho_of (by conv => lhs; whnf) (by kernel_rfl)) (by rfl) ?_; walk_nrm))
  refine Cm.done ?_
  repeat (first | refine Walk.cx ?_ | (refine Walk.cReg ?_; simp only [z72]) | (refine Walk.oq ?_; try walk_nrm) | (refine Walk.un ?_; walk_nrm))
  exact Walk.on2 rfl rfl Try.func72 rfl (.stop fun d => ⟨_, ⟨rfl, d, rfl⟩, rfl⟩)
end
section
variable {rb sb n : Nat} {sv : Value}
theorem load_stp (K : Lg (rgLa rb sb n) sv) (i : Nat) (hi : i < n) (e : K.E) (d : RD) (ht : K.tgt e = (K.s e, .inr d)) : SCall K.toLb 73 #[.pointer (some ⟨sb, i * 2, none⟩), sv] e (fun v e' => Aft K.toLb e d e' ∧ v = .int .i64 ((K.s e' : Rg).st i)) := word_load K (stpW i hi) e d trivial ht
theorem load_vlu (K : Lg (rgLa rb sb n) sv) (i : Nat) (hi : i < n) (e : K.E) (d : RD) (ht : K.tgt e = (K.s e, .inr d)) : SCall K.toLb 73 #[.pointer (some ⟨sb, i * 2 + 1, none⟩), sv] e (fun v e' => Aft K.toLb e d e' ∧ v = .int .i64 ((K.s e' : Rg).va i)) := word_load K (vluW i hi) e d trivial ht
theorem store_stp (K : Lg (rgLa rb sb n) sv) (i : Nat) (hi : i < n) (e : K.E) (d : RD) (x : Int) (ht : K.tgt e = (K.s e, .inr d)) : SCall K.toLb 63 #[.pointer (some ⟨sb, i * 2, none⟩), sv, .int .i64 x] e (fun _ e' => ∃ s : Rg, Wrote K e d s (rgPutS s i x) e') := word_store K (stpW i hi) e d x trivial trivial ht
theorem store_vlu (K : Lg (rgLa rb sb n) sv) (i : Nat) (hi : i < n) (e : K.E) (d : RD) (x : Int) (ht : K.tgt e = (K.s e, .inr d)) : SCall K.toLb 63 #[.pointer (some ⟨sb, i * 2 + 1, none⟩), sv, .int .i64 x] e (fun _ e' => ∃ s : Rg, Wrote K e d s (rgPutV s i x) e') := word_store K (vluW i hi) e d x trivial trivial ht
theorem there_s (K : Lg (rgLa rb sb n) sv) (e : K.E) (q : Int) (hq : good q) (d : RD) (ht : K.tgt e = (K.s e, .inr d)) : SCall K.toLb 35 #[.pointer (some ⟨rb, 0, none⟩), sv, .int .i64 q] e (fun v e' => Aft K.toLb e d e' ∧ v = .bool (decide ((K.s e' : Rg).st (ixR n q) = laR n q))) := by
  intro fr l hp hl hk
  have I := K.inv e
  have hh := holds_yes (main := K.main) (V := K.V e) (K.w e) I q hq
  have ha := at_w (main := K.main) (V := K.V e) (K.w e) I q hq
  have hw := load_stp K (ixR n q) (ixR_lt I.pos.1 q) e d ht
  generalize ixR n q = ix at *
  generalize laR n q = la at *
  unfold LW
  clear I
  rw [enter_at _ Try.func35 code35_is]
  simp only [Try.ntmps35, ez, Nat.reduceAdd, Nat.reduceSub]
  repeat (first | refine Walk.cx ?_ | (refine Walk.cReg ?_; simp only [z35]) | (refine Walk.oq ?_; try walk_nrm) | (refine Walk.un ?_; walk_nrm))
  refine Walk.callV (x := .bool true) (W := K.w e) ?_ (ho_of (by conv => lhs; whnf) (by kernel_rfl)) (by rfl) (by decide) rfl Try.func65 (by kernel_rfl) (by rfl) ?_
  · walk_nrm
    exact hh
  walk_nrm
  clear hh
  repeat (first | refine Walk.cx ?_ | (refine Walk.cReg ?_; simp only [z35]) | (refine Walk.oq ?_; try walk_nrm) | (refine Walk.un ?_; walk_nrm))
  refine Walk.callV (x := .tuple #[.pointer (some ⟨sb, ix * 2, none⟩), .int .i64 la]) (W := K.w e) ?_ (ho_of (by conv => lhs; whnf) (by kernel_rfl)) (by rfl) (by decide) rfl Try.func72 (by kernel_rfl) (by rfl) ?_
  · walk_nrm
    exact ha
  walk_nrm
  clear ha
  repeat (first | refine Walk.cx ?_ | (refine Walk.cReg ?_; simp only [z35]) | (refine Walk.oq ?_; try walk_nrm) | (refine Walk.un ?_; walk_nrm))
  refine LW.callS (K := K.toLb) (e := e) (l := fr :: l) (f := 73) (Q := fun v e' => Aft K.toLb e d e' ∧ v = .int .i64 ((K.s e' : Rg).st ix)) ?_ (ho_of (by conv => lhs; whnf) (by kernel_rfl)) (by rfl) (by decide) rfl Try.func73 (by kernel_rfl) (by rfl) ⟨rfl, rfl, _, Try.func35⟩ (plain_cons hp hl) ?_
  · walk_nrm
    exact hw
  rintro v e1 ⟨ha, rfl⟩
  have hkk := hk (.bool (decide ((K.s e1 : Rg).st ix = la))) e1 ⟨ha, rfl⟩
  generalize (K.s e1 : Rg).st ix = x at *
  have eb : decide (x = la) = (x == la) := by by_cases h : x = la <;> simp [h]
  rw [eb] at hkk
  unfold LW at hkk ⊢
  walk_nrm
  repeat (first | refine Walk.cx ?_ | (refine Walk.cReg ?_; simp only [z35]) | (refine Walk.oq ?_; try walk_nrm) | (refine Walk.un ?_; walk_nrm))
  exact Walk.on1 rfl rfl Try.func35 rfl hkk
theorem put_s (K : Lg (rgLa rb sb n) sv) (e : K.E) (q v : Int) (hq : good q) (ht : K.tgt e = (K.s e, .inr (.p1 q v))) : SCall K.toLb 33 #[.pointer (some ⟨rb, 0, none⟩), sv, .int .i64 q, .int .i64 v] e (fun x e' => x = .int .i64 0 ∧ K.tgt e' = (K.s e', .inl ⟨true, 0, []⟩)) := by
  intro fr l hp hl hk
  have I := K.inv e
  have hh := holds_yes (main := K.main) (V := K.V e) (K.w e) I q hq
  have ha := at_w (main := K.main) (V := K.V e) (K.w e) I q hq
  have hix := ixR_lt I.pos.1 q
  have hb := laR_in I.pos.1 hq
  have w1 := store_stp K (ixR n q) hix e (.p1 q v) (laR n q - 1) ht
  have h1 : ∀ (e1 : K.E) (s1 : Rg), Wrote K e (.p1 q v) s1 (rgPutS s1 (ixR n q) (laR n q - 1)) e1 → K.tgt e1 = (K.s e1, .inr (.p2 q v)) := fun e1 s1 h => by
    rw [h.tgt]
    have : (K.s e1 : Rg) = rgPutS s1 (ixR n q) (laR n q - 1) := h.s
    rw [this]
    rfl
  have w2 := fun (e1 : K.E) (h : K.tgt e1 = (K.s e1, .inr (.p2 q v))) => store_vlu K (ixR n q) hix e1 (.p2 q v) v h
  have h2 : ∀ (e1 e2 : K.E) (s1 : Rg), Wrote K e1 (.p2 q v) s1 (rgPutV s1 (ixR n q) v) e2 → K.tgt e2 = (K.s e2, .inr (.p3 q)) := fun e1 e2 s1 h => by
    rw [h.tgt]
    have : (K.s e2 : Rg) = rgPutV s1 (ixR n q) v := h.s
    rw [this]
    rfl
  have w3 := fun (e1 : K.E) (h : K.tgt e1 = (K.s e1, .inr (.p3 q))) => store_stp K (ixR n q) hix e1 (.p3 q) (laR n q) h
  have h3 : ∀ (e1 e2 : K.E) (s1 : Rg), Wrote K e1 (.p3 q) s1 (rgPutS s1 (ixR n q) (laR n q)) e2 → K.tgt e2 = (K.s e2, .inl ⟨true, 0, []⟩) := fun e1 e2 s1 h => by
    rw [h.tgt]
    have : (K.s e2 : Rg) = rgPutS s1 (ixR n q) (laR n q) := h.s
    rw [this]
    rfl
  have hw1 : IntKind.wrap .i64 (laR n q - 1) = laR n q - 1 := by rw [IntKind.wrap_i64]; omega
  generalize ixR n q = ix at *
  generalize laR n q = la at *
  unfold LW
  clear I
  rw [enter_at _ Try.func33 code33_is]
  simp only [Try.ntmps33, ez, Nat.reduceAdd, Nat.reduceSub]
  repeat (first | refine Walk.cx ?_ | (refine Walk.cReg ?_; simp only [z33]) | (refine Walk.oq ?_; try walk_nrm) | (refine Walk.un ?_; walk_nrm))
  refine Walk.callV (x := .bool true) (W := K.w e) ?_ (ho_of (by conv => lhs; whnf) (by kernel_rfl)) (by rfl) (by decide) rfl Try.func65 (by kernel_rfl) (by rfl) ?_
  · walk_nrm
    exact hh
  walk_nrm
  clear hh
  repeat (first | refine Walk.cx ?_ | (refine Walk.cReg ?_; simp only [z33]) | (refine Walk.oq ?_; try walk_nrm) | (refine Walk.un ?_; walk_nrm))
  refine Walk.callV (x := .tuple #[.pointer (some ⟨sb, ix * 2, none⟩), .int .i64 la]) (W := K.w e) ?_ (ho_of (by conv => lhs; whnf) (by kernel_rfl)) (by rfl) (by decide) rfl Try.func72 (by kernel_rfl) (by rfl) ?_
  · walk_nrm
    exact ha
  walk_nrm
  clear ha
  repeat (first | refine Walk.cx ?_ | (refine Walk.cReg ?_; simp only [z33]) | (refine Walk.oq ?_; try walk_nrm) | (refine Walk.un ?_; walk_nrm))
  refine LW.callS (K := K.toLb) (e := e) (l := fr :: l) (f := 63) (Q := fun _ e' => ∃ s : Rg, Wrote K e (.p1 q v) s (rgPutS s ix (la - 1)) e') ?_ (ho_of (by conv => lhs; whnf) (by kernel_rfl)) (by rfl) (by decide) rfl Try.func63 (by kernel_rfl) (by rfl) ⟨rfl, rfl, _, Try.func33⟩ (plain_cons hp hl) ?_
  · walk_nrm
    exact w1
  rintro x e1 ⟨s1, hs1⟩
  have g1 := h1 e1 s1 hs1
  unfold LW
  walk_nrm
  repeat (first | refine Walk.cx ?_ | (refine Walk.cReg ?_; simp only [z33]) | (refine Walk.oq ?_; try walk_nrm) | (refine Walk.un ?_; walk_nrm))
  refine LW.callS (K := K.toLb) (e := e1) (l := fr :: l) (f := 63) (Q := fun _ e' => ∃ s : Rg, Wrote K e1 (.p2 q v) s (rgPutV s ix v) e') ?_ (ho_of (by conv => lhs; whnf) (by kernel_rfl)) (by rfl) (by decide) rfl Try.func63 (by kernel_rfl) (by rfl) ⟨rfl, rfl, _, Try.func33⟩ (plain_cons hp hl) ?_
  · walk_nrm
    exact w2 e1 g1
  rintro x2 e2 ⟨s2, hs2⟩
  have g2 := h2 e1 e2 s2 hs2
  unfold LW
  walk_nrm
  repeat (first | refine Walk.cx ?_ | (refine Walk.cReg ?_; simp only [z33]) | (refine Walk.oq ?_; try walk_nrm) | (refine Walk.un ?_; walk_nrm))
  refine LW.callS (K := K.toLb) (e := e2) (l := fr :: l) (f := 63) (Q := fun _ e' => ∃ s : Rg, Wrote K e2 (.p3 q) s (rgPutS s ix la) e') ?_ (ho_of (by conv => lhs; whnf) (by kernel_rfl)) (by rfl) (by decide) rfl Try.func63 (by kernel_rfl) (by rfl) ⟨rfl, rfl, _, Try.func33⟩ (plain_cons hp hl) ?_
  · walk_nrm
    exact w3 e2 g2
  rintro x3 e3 ⟨s3, hs3⟩
  have hkk := hk (.int .i64 0) e3 ⟨rfl, h3 e2 e3 s3 hs3⟩
  unfold LW at hkk ⊢
  walk_nrm
  repeat (first | refine Walk.cx ?_ | (refine Walk.cReg ?_; simp only [z33]) | (refine Walk.oq ?_; try walk_nrm) | (refine Walk.un ?_; walk_nrm))
  exact Walk.on1 rfl rfl Try.func33 rfl hkk
end
end
end Go.Proofs.Ytbmijpkdghkbbaa
