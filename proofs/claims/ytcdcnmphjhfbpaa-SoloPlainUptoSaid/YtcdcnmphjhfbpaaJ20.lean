/- Part 20. -/
import Derived.Test.YtcdcnmphjhfbpaaJ6
import Derived.Test.YtcdcnmphjhfbpaaJ14
import Derived.Test.YtcdcnmphjhfbpaaJ18
import Derived.Test.YtcdcnmphjhfbpaaJ19
set_option linter.unusedSimpArgs false
set_option linter.unusedVariables false
set_option linter.unusedVariables false
set_option maxHeartbeats 8000000
set_option maxRecDepth 100000
namespace Go.Proofs.Ytcdcnmphjhfbpaa
open Go.Conc Go.RowKit Go.Relay
open Go.ConcN (upd upd_ne upd_same)
section
noncomputable def reg43_0 := rg Try.f43.body [0]
noncomputable def reg43_1 := rg Try.f43.body [1, 0, 0]
noncomputable def reg43_2 := rg Try.f43.body [1, 0, 1, 0, 0]
noncomputable def reg43_3 := rg Try.f43.body [1, 1, 0, 0]
noncomputable def reg43_4 := rg Try.f43.body [1, 1, 0, 1, 0, 0, 0, 0]
noncomputable def reg43_6 := rg Try.f43.body [1, 1, 0, 1, 0, 0, 1, 0, 0, 0]
theorem size43_6 : reg43_6.size = 9 := by kernel_rfl
noncomputable def reg43_7 := rg Try.f43.body [1, 1, 0, 1, 0, 0, 1, 0, 0, 1, 0, 0]
noncomputable def reg43_5 := rg Try.f43.body [1, 1, 0, 1, 0, 0, 1, 1]
noncomputable def reg43_8 := rg Try.f43.body [1, 1, 1, 0]
theorem z43 : List.range reg43_0.size = [0] ∧ List.range reg43_1.size = [0, 1, 2, 3, 4] ∧ List.range reg43_2.size = [0] ∧ List.range reg43_3.size = [0] ∧ List.range reg43_4.size = [0, 1, 2, 3] ∧ List.range reg43_5.size = [0, 1, 2] ∧ List.range reg43_6.size = [0, 1, 2, 3, 4, 5, 6, 7, 8] ∧ List.range reg43_7.size = [0] ∧ List.range reg43_8.size = [0] := by refine ⟨?_, ?_, ?_, ?_, ?_, ?_, ?_, ?_, ?_⟩ <;> kernel_rfl
theorem code43_is : Try.f43.body = some (.seq (.region 0 reg43_0 false) (.seq (.seq (.region 1 reg43_1 false) (.cond (.tmp 10 ) (.seq (.region 2 reg43_2 false) (.ret)) (.skip))) (.seq (.seq (.region 3 reg43_3 false) (.block 0 (.loop (.seq (.seq (.region 4 reg43_4 false) (.cond (.tmp 14 ) (.skip) (.exit 0))) (.seq (.block 1 (.seq (.region 6 reg43_6 true) (.cond (.tmp 25 ) (.seq (.region 7 reg43_7 false) (.ret)) (.skip)))) (.region 5 reg43_5 false)))))) (.seq (.region 8 reg43_8 false) (.ret))))) := by kernel_rfl
noncomputable def hdSame3 (av bv : Value) (i : Nat) (u : Nat → Value) : Frame :=
  (base 43).at { tmps := #[av, bv, u 2, u 3, u 4, .int .i64 i, u 6, u 7, u 8, u 9, u 10, u 11, u 12, u 13, u 14, u 15, u 16, u 17, u 18, u 19, u 20, u 21, u 22, u 23, u 24, u 25], defers := [] } [.code (.seq (.seq (.region 4 reg43_4 false) (.cond (.tmp 14 ) (.skip) (.exit 0))) (.seq (.block 1 (.seq (.region 6 reg43_6 true) (.cond (.tmp 25 ) (.seq (.region 7 reg43_7 false) (.ret)) (.skip)))) (.region 5 reg43_5 false))), .inLoop (.seq (.seq (.region 4 reg43_4 false) (.cond (.tmp 14 ) (.skip) (.exit 0))) (.seq (.block 1 (.seq (.region 6 reg43_6 true) (.cond (.tmp 25 ) (.seq (.region 7 reg43_7 false) (.ret)) (.skip)))) (.region 5 reg43_5 false))), .inBlock 0, .code (.seq (.region 8 reg43_8 false) (.ret))]
def intRow3 (l : List Int) : List Value := l.map (.int .i64)
section
variable {main : Bool} {V : Nat → Option Wait}
theorem same3_round (ga gb n ca cb i : Nat) (x : Int) (w : World) (hi : i < n) (hn : n ≤ 65536) (h1 : w.cell? ⟨ga, i, none⟩ = some (.int .i64 x)) (h2 : w.cell? ⟨gb, i, none⟩ = some (.int .i64 x)) (u : Nat → Value) (cs : List Frame) :
    Walk Try.prog main (DR V) (fun g w' => (∃ u, g = G (hdSame3 (.slice (some ⟨ga, 0, none⟩) n ca) (.slice (some ⟨gb, 0, none⟩) n cb) (i + 1) u) cs) ∧ ∃ d, w' = w.at d) (G (hdSame3 (.slice (some ⟨ga, 0, none⟩) n ca) (.slice (some ⟨gb, 0, none⟩) n cb) i u) cs) w := by
  have hi0 : (0 : Int) ≤ i := by omega
  have hi1 : decide ((i : Int) < n) = true := by simp; omega
  have hi3 : decide (i < n) = true := by simp; omega
  have hw1 : IntKind.wrap .i64 ((i : Int) + 1) = (i : Int) + 1 := by rw [IntKind.wrap_i64]; omega
  have hx : (x != x) = false := by simp
  unfold hdSame3
  repeat (first | refine Walk.cx ?_ | (refine Walk.cReg ?_; simp only [z43]) | (refine Walk.oq ?_; try walk_nrm) | (refine Walk.un ?_; walk_nrm))
  (refine Walk.drawnCW (by kernel_rfl) size43_6 (by kernel_rfl) (by kernel_rfl) (by decide) ?_; simp only [List.range, List.range.loop]; repeat (first | (refine Cm.oq ?_) | (refine Cm.unw (ho_of (by conv => lhs; whnf) (by kernel_rfl)) (by rfl) ?_; walk_nrm)))
  refine Cm.done ?_
  try simp only [hx]
  repeat (first | refine Walk.cx ?_ | (refine Walk.cReg ?_; simp only [z43]) | (refine Walk.oq ?_; try walk_nrm) | (refine Walk.un ?_; walk_nrm))
  refine Walk.ctl rfl (fun w => stepG_inLoop) ?_
  refine .stop fun d => ⟨at_slots ?_, d, rfl⟩
  have hc : ((i + 1 : Nat) : Int) = (i : Int) + 1 := by simp
  simp only [hdSame3, hc]
  rfl
theorem same3_end (av bv : Value) (ga gb n ca cb : Nat) (w : World) (u : Nat → Value) (c : Frame) (cs : List Frame) :
    Walk Try.prog main (DR V) (fun g w' => g = G (c.finish (.bool true)) cs ∧ ∃ d, w' = w.at d) (G (hdSame3 (.slice (some ⟨ga, 0, none⟩) n ca) (.slice (some ⟨gb, 0, none⟩) n cb) n u) (c :: cs)) w := by
  unfold hdSame3
  repeat (first | refine Walk.cx ?_ | (refine Walk.cReg ?_; simp only [z43]) | (refine Walk.oq ?_; try walk_nrm) | (refine Walk.un ?_; walk_nrm))
  exact Walk.on1 rfl rfl Try.func43 rfl (.stop fun d => ⟨rfl, d, rfl⟩)
theorem same3_w (l : List Int) (ga gb ca cb : Nat) (w : World) (hl : l.length ≤ 65536) (h1 : ∀ (j : Nat) (x : Value), (intRow3 l)[j]? = some x → w.cell? ⟨ga, j, none⟩ = some x) (h2 : ∀ (j : Nat) (x : Value), (intRow3 l)[j]? = some x → w.cell? ⟨gb, j, none⟩ = some x) :
    CallV Try.prog main V 43 #[.slice (some ⟨ga, 0, none⟩) l.length ca, .slice (some ⟨gb, 0, none⟩) l.length cb] w (.bool true) w := by
  intro c cs
  have loop : ∀ (r i : Nat) (u : Nat → Value) (d : Nat), i + r = l.length →
      Walk Try.prog main (DR V) (fun g w' => ∃ v, (v = .bool true ∧ ∃ d, w' = w.at d) ∧ g = G (c.finish v) cs) (G (hdSame3 (.slice (some ⟨ga, 0, none⟩) l.length ca) (.slice (some ⟨gb, 0, none⟩) l.length cb) i u) (c :: cs)) (w.at d) := by
    intro r
    induction r with
    | zero =>
      intro i u d hi
      obtain rfl : i = l.length := hi
      refine (same3_end undef undef ga gb _ ca cb (w.at d) u c cs).mono ?_
      rintro g w' ⟨rfl, d', rfl⟩
      exact ⟨_, ⟨rfl, d', rfl⟩, rfl⟩
    | succ r ih =>
      intro i u d hi
      have hil : i < l.length := by omega
      have hget : (intRow3 l)[i]? = some (.int .i64 l[i]) := by simp [intRow3, List.getElem?_eq_getElem hil]
      refine (same3_round ga gb l.length ca cb i l[i] (w.at d) hil hl (h1 i _ hget) (h2 i _ hget) u (c :: cs)).then ?_
      rintro g w' ⟨⟨u', rfl⟩, d', rfl⟩
      exact ih (i + 1) u' d' (by omega)
  have key := fun u => loop l.length 0 u w.drawn (by omega)
  have hbn : ((l.length : Int) != l.length) = false := by simp
  rw [enter_at _ Try.func43 code43_is]
  simp only [Try.ntmps43, ez, Nat.reduceAdd, Nat.reduceSub]
  repeat (first | refine Walk.cx ?_ | (refine Walk.cReg ?_; simp only [z43]) | (refine Walk.oq ?_; try walk_nrm) | (refine Walk.un ?_; walk_nrm))
  refine Walk.ctl rfl (fun w => stepG_loop) ?_
  refine slots_walk (F := fun u => G (hdSame3 (.slice (some ⟨ga, 0, none⟩) l.length ca) (.slice (some ⟨gb, 0, none⟩) l.length cb) 0 u) (c :: cs)) key ?_
  simp only [hdSame3]
  rfl
end
end
structure Closing (f : FuncId) (t : Tmp) (v : Value) (g : Goroutine) : Prop where
  all : ∃ fr, g = G fr [] ∧ fr.mode = .returning ∧ fr.kind = .normal ∧ fr.defers = [] ∧ fr.fn = f ∧ fr.tmps.getD t undef = v
noncomputable def reg9_0 := rg Try.f9.body [0]
noncomputable def reg9_1 := rg Try.f9.body [1, 0, 0]
noncomputable def reg9_2 := rg Try.f9.body [1, 0, 1, 0, 0]
noncomputable def reg9_3 := rg Try.f9.body [1, 1, 0]
noncomputable def reg9_4 := rg Try.f9.body [1, 1, 1, 0]
noncomputable def reg9_5 := rg Try.f9.body [1, 1, 1, 1, 0, 0]
noncomputable def reg9_6 := rg Try.f9.body [1, 1, 1, 1, 0, 1, 0, 0]
noncomputable def reg9_7 := rg Try.f9.body [1, 1, 1, 1, 1, 0]
noncomputable def reg9_8 := rg Try.f9.body [1, 1, 1, 1, 1, 1, 0]
noncomputable def reg9_9 := rg Try.f9.body [1, 1, 1, 1, 1, 1, 1, 0, 0]
noncomputable def reg9_10 := rg Try.f9.body [1, 1, 1, 1, 1, 1, 1, 0, 1, 0, 0, 0]
noncomputable def reg9_11 := rg Try.f9.body [1, 1, 1, 1, 1, 1, 1, 0, 1, 0, 0, 1, 1, 0, 0, 0]
noncomputable def reg9_12 := rg Try.f9.body [1, 1, 1, 1, 1, 1, 1, 0, 1, 0, 0, 1, 1, 0, 0, 1, 0]
noncomputable def reg9_13 := rg Try.f9.body [1, 1, 1, 1, 1, 1, 1, 0, 1, 0, 0, 1, 1, 0, 0, 1, 1, 0, 0]
noncomputable def reg9_14 := rg Try.f9.body [1, 1, 1, 1, 1, 1, 1, 0, 1, 0, 0, 1, 1, 0, 0, 1, 1, 0, 1, 0, 0]
noncomputable def reg9_15 := rg Try.f9.body [1, 1, 1, 1, 1, 1, 1, 0, 1, 0, 0, 1, 1, 0, 0, 1, 1, 0, 1, 0, 1, 0]
noncomputable def reg9_16 := rg Try.f9.body [1, 1, 1, 1, 1, 1, 1, 0, 1, 0, 0, 1, 1, 0, 0, 1, 1, 0, 1, 0, 1, 1, 0, 0]
noncomputable def reg9_17 := rg Try.f9.body [1, 1, 1, 1, 1, 1, 1, 0, 1, 0, 0, 1, 1, 0, 0, 1, 1, 0, 1, 0, 1, 1, 0, 1, 0, 0, 0]
noncomputable def reg9_18 := rg Try.f9.body [1, 1, 1, 1, 1, 1, 1, 0, 1, 0, 0, 1, 1, 0, 0, 1, 1, 0, 1, 0, 1, 1, 0, 1, 0, 0, 1, 1, 0, 0, 0]
noncomputable def reg9_19 := rg Try.f9.body [1, 1, 1, 1, 1, 1, 1, 0, 1, 0, 0, 1, 1, 0, 0, 1, 1, 0, 1, 0, 1, 1, 0, 1, 0, 0, 1, 1, 0, 0, 1]
noncomputable def reg9_20 := rg Try.f9.body [1, 1, 1, 1, 1, 1, 1, 0, 1, 0, 0, 1, 1, 0, 0, 1, 1, 0, 1, 0, 1, 1, 0, 1, 0, 0, 1, 1, 1]
noncomputable def reg9_21 := rg Try.f9.body [1, 1, 1, 1, 1, 1, 1, 0, 1, 0, 0, 1, 1, 0, 0, 1, 1, 0, 1, 0, 1, 1, 1, 0]
noncomputable def reg9_22 := rg Try.f9.body [1, 1, 1, 1, 1, 1, 1, 0, 1, 0, 0, 1, 1, 0, 0, 1, 1, 0, 1, 0, 1, 1, 1, 1, 0, 0]
noncomputable def reg9_23 := rg Try.f9.body [1, 1, 1, 1, 1, 1, 1, 0, 1, 0, 0, 1, 1, 0, 0, 1, 1, 0, 1, 0, 1, 1, 1, 1, 0, 1, 0, 0, 0]
noncomputable def reg9_24 := rg Try.f9.body [1, 1, 1, 1, 1, 1, 1, 0, 1, 0, 0, 1, 1, 0, 0, 1, 1, 0, 1, 0, 1, 1, 1, 1, 0, 1, 0, 0, 1, 1, 0, 0, 0]
noncomputable def reg9_25 := rg Try.f9.body [1, 1, 1, 1, 1, 1, 1, 0, 1, 0, 0, 1, 1, 0, 0, 1, 1, 0, 1, 0, 1, 1, 1, 1, 0, 1, 0, 0, 1, 1, 0, 0, 1]
noncomputable def reg9_26 := rg Try.f9.body [1, 1, 1, 1, 1, 1, 1, 0, 1, 0, 0, 1, 1, 0, 0, 1, 1, 0, 1, 0, 1, 1, 1, 1, 0, 1, 0, 0, 1, 1, 1]
noncomputable def reg9_27 := rg Try.f9.body [1, 1, 1, 1, 1, 1, 1, 0, 1, 0, 0, 1, 1, 0, 0, 1, 1, 0, 1, 0, 1, 1, 1, 1, 1, 0]
noncomputable def reg9_28 := rg Try.f9.body [1, 1, 1, 1, 1, 1, 1, 0, 1, 0, 0, 1, 1, 0, 0, 1, 1, 0, 1, 0, 1, 1, 1, 1, 1, 1, 0, 0]
noncomputable def reg9_29 := rg Try.f9.body [1, 1, 1, 1, 1, 1, 1, 0, 1, 0, 0, 1, 1, 0, 0, 1, 1, 0, 1, 0, 1, 1, 1, 1, 1, 1, 0, 1, 0]
noncomputable def reg9_30 := rg Try.f9.body [1, 1, 1, 1, 1, 1, 1, 0, 1, 0, 0, 1, 1, 0, 0, 1, 1, 0, 1, 0, 1, 1, 1, 1, 1, 1, 0, 1, 1, 0]
noncomputable def reg9_31 := rg Try.f9.body [1, 1, 1, 1, 1, 1, 1, 0, 1, 0, 0, 1, 1, 0, 0, 1, 1, 0, 1, 0, 1, 1, 1, 1, 1, 1, 0, 1, 1, 1, 0]
noncomputable def reg9_32 := rg Try.f9.body [1, 1, 1, 1, 1, 1, 1, 0, 1, 0, 0, 1, 1, 0, 0, 1, 1, 0, 1, 0, 1, 1, 1, 1, 1, 1, 1, 0]
noncomputable def reg9_33 := rg Try.f9.body [1, 1, 1, 1, 1, 1, 1, 0, 1, 0, 0, 1, 1, 0, 0, 1, 1, 0, 1, 0, 1, 1, 1, 1, 1, 1, 1, 1, 0, 0]
noncomputable def reg9_34 := rg Try.f9.body [1, 1, 1, 1, 1, 1, 1, 0, 1, 0, 0, 1, 1, 0, 0, 1, 1, 0, 1, 0, 1, 1, 1, 1, 1, 1, 1, 1, 0, 1, 0, 0]
noncomputable def reg9_35 := rg Try.f9.body [1, 1, 1, 1, 1, 1, 1, 0, 1, 0, 0, 1, 1, 0, 0, 1, 1, 0, 1, 0, 1, 1, 1, 1, 1, 1, 1, 1, 1, 0, 0]
noncomputable def reg9_36 := rg Try.f9.body [1, 1, 1, 1, 1, 1, 1, 0, 1, 0, 0, 1, 1, 0, 0, 1, 1, 0, 1, 0, 1, 1, 1, 1, 1, 1, 1, 1, 1, 0, 1, 0]
noncomputable def reg9_37 := rg Try.f9.body [1, 1, 1, 1, 1, 1, 1, 0, 1, 0, 0, 1, 1, 0, 0, 1, 1, 1, 0]
noncomputable def reg9_38 := rg Try.f9.body [1, 1, 1, 1, 1, 1, 1, 0, 1, 0, 0, 1, 1, 0, 0, 1, 1, 1, 1, 0]
noncomputable def reg9_39 := rg Try.f9.body [1, 1, 1, 1, 1, 1, 1, 0, 1, 0, 0, 1, 1, 0, 0, 1, 1, 1, 1, 1, 0]
noncomputable def reg9_40 := rg Try.f9.body [1, 1, 1, 1, 1, 1, 1, 0, 1, 0, 0, 1, 1, 0, 0, 1, 1, 1, 1, 1, 1, 0, 0]
noncomputable def reg9_41 := rg Try.f9.body [1, 1, 1, 1, 1, 1, 1, 0, 1, 0, 0, 1, 1, 0, 0, 1, 1, 1, 1, 1, 1, 0, 1, 0, 0, 0]
noncomputable def reg9_42 := rg Try.f9.body [1, 1, 1, 1, 1, 1, 1, 0, 1, 0, 0, 1, 1, 0, 0, 1, 1, 1, 1, 1, 1, 0, 1, 0, 0, 1, 0, 0]
noncomputable def reg9_43 := rg Try.f9.body [1, 1, 1, 1, 1, 1, 1, 0, 1, 0, 0, 1, 1, 0, 0, 1, 1, 1, 1, 1, 1, 1, 0]
noncomputable def reg9_44 := rg Try.f9.body [1, 1, 1, 1, 1, 1, 1, 0, 1, 0, 0, 1, 1, 0, 0, 1, 1, 1, 1, 1, 1, 1, 1, 0, 0]
noncomputable def reg9_45 := rg Try.f9.body [1, 1, 1, 1, 1, 1, 1, 0, 1, 0, 0, 1, 1, 0, 0, 1, 1, 1, 1, 1, 1, 1, 1, 0, 1, 0, 0]
noncomputable def reg9_46 := rg Try.f9.body [1, 1, 1, 1, 1, 1, 1, 0, 1, 0, 0, 1, 1, 0, 0, 1, 1, 1, 1, 1, 1, 1, 1, 1]
noncomputable def reg9_47 := rg Try.f9.body [1, 1, 1, 1, 1, 1, 1, 0, 1, 0, 0, 1, 1, 1]
noncomputable def reg9_48 := rg Try.f9.body [1, 1, 1, 1, 1, 1, 1, 1, 0]
noncomputable def reg9_49 := rg Try.f9.body [1, 1, 1, 1, 1, 1, 1, 1, 1, 0, 0]
noncomputable def reg9_50 := rg Try.f9.body [1, 1, 1, 1, 1, 1, 1, 1, 1, 0, 1, 0, 0]
noncomputable def reg9_51 := rg Try.f9.body [1, 1, 1, 1, 1, 1, 1, 1, 1, 1, 0, 0]
noncomputable def reg9_52 := rg Try.f9.body [1, 1, 1, 1, 1, 1, 1, 1, 1, 1, 0, 1, 0, 0, 0]
noncomputable def reg9_53 := rg Try.f9.body [1, 1, 1, 1, 1, 1, 1, 1, 1, 1, 0, 1, 0, 0, 1, 1, 0, 0, 0]
noncomputable def reg9_54 := rg Try.f9.body [1, 1, 1, 1, 1, 1, 1, 1, 1, 1, 0, 1, 0, 0, 1, 1, 0, 0, 1, 0]
noncomputable def reg9_55 := rg Try.f9.body [1, 1, 1, 1, 1, 1, 1, 1, 1, 1, 0, 1, 0, 0, 1, 1, 0, 0, 1, 1, 0, 0]
noncomputable def reg9_56 := rg Try.f9.body [1, 1, 1, 1, 1, 1, 1, 1, 1, 1, 0, 1, 0, 0, 1, 1, 1]
noncomputable def reg9_57 := rg Try.f9.body [1, 1, 1, 1, 1, 1, 1, 1, 1, 1, 1, 0]
theorem z9 : List.range reg9_0.size = [0] ∧ List.range reg9_1.size = [0, 1] ∧ List.range reg9_2.size = [0] ∧ List.range reg9_3.size = [0, 1, 2, 3, 4, 5, 6, 7] ∧ List.range reg9_4.size = [0, 1, 2, 3, 4, 5, 6, 7] ∧ List.range reg9_5.size = [0, 1, 2, 3, 4, 5, 6, 7, 8, 9, 10, 11, 12, 13, 14, 15, 16, 17] ∧ List.range reg9_6.size = [0] ∧ List.range reg9_7.size = [0] ∧ List.range reg9_8.size = [0, 1, 2] ∧ List.range reg9_9.size = [0, 1, 2] ∧ List.range reg9_10.size = [0] ∧ List.range reg9_11.size = [0, 1, 2, 3] ∧ List.range reg9_12.size = [0, 1, 2, 3, 4, 5, 6] ∧ List.range reg9_13.size = [0, 1] ∧ List.range reg9_14.size = [0, 1, 2, 3, 4, 5, 6, 7, 8, 9] ∧ List.range reg9_15.size = [0] ∧ List.range reg9_16.size = [0, 1] ∧ List.range reg9_17.size = [0] ∧ List.range reg9_18.size = [0, 1] ∧ List.range reg9_19.size = [0, 1, 2, 3, 4, 5, 6, 7, 8] ∧ List.range reg9_20.size = [0, 1] ∧ List.range reg9_21.size = [0, 1, 2, 3, 4] ∧ List.range reg9_22.size = [0, 1, 2] ∧ List.range reg9_23.size = [0] ∧ List.range reg9_24.size = [0, 1, 2] ∧ List.range reg9_25.size = [0, 1, 2, 3] ∧ List.range reg9_26.size = [0, 1] ∧ List.range reg9_27.size = [0] ∧ List.range reg9_28.size = [0, 1, 2, 3, 4, 5, 6] ∧ List.range reg9_29.size = [0] ∧ List.range reg9_30.size = [0, 1, 2, 3, 4, 5, 6, 7] ∧ List.range reg9_31.size = [0] ∧ List.range reg9_32.size = [0, 1, 2, 3, 4, 5, 6, 7] ∧ List.range reg9_33.size = [0, 1, 2, 3, 4, 5, 6, 7, 8, 9, 10, 11, 12, 13, 14, 15, 16, 17, 18, 19, 20] ∧ List.range reg9_34.size = [0] ∧ List.range reg9_35.size = [0, 1] ∧ List.range reg9_36.size = [0, 1, 2, 3] ∧ List.range reg9_37.size = [0, 1, 2, 3, 4, 5, 6] ∧ List.range reg9_38.size = [0, 1, 2, 3, 4, 5, 6, 7, 8, 9] ∧ List.range reg9_39.size = [0, 1, 2, 3, 4, 5, 6, 7] ∧ List.range reg9_40.size = [0, 1, 2] ∧ List.range reg9_41.size = [0, 1, 2, 3, 4, 5, 6] ∧ List.range reg9_42.size = [0] ∧ List.range reg9_43.size = [0, 1, 2, 3, 4, 5, 6, 7] ∧ List.range reg9_44.size = [0, 1, 2, 3, 4, 5, 6, 7] ∧ List.range reg9_45.size = [0] ∧ List.range reg9_46.size = [0, 1, 2, 3, 4, 5, 6, 7, 8, 9] ∧ List.range reg9_47.size = [0, 1] ∧ List.range reg9_48.size = [0, 1, 2, 3, 4, 5, 6, 7, 8] ∧ List.range reg9_49.size = [0, 1, 2, 3, 4, 5, 6, 7, 8, 9, 10, 11, 12, 13, 14, 15] ∧ List.range reg9_50.size = [0] ∧ List.range reg9_51.size = [0, 1, 2] ∧ List.range reg9_52.size = [0] ∧ List.range reg9_53.size = [0, 1, 2, 3, 4] ∧ List.range reg9_54.size = [0, 1, 2, 3, 4, 5, 6] ∧ List.range reg9_55.size = [0] ∧ List.range reg9_56.size = [0, 1] ∧ List.range reg9_57.size = [0] := by refine ⟨?_, ?_, ?_, ?_, ?_, ?_, ?_, ?_, ?_, ?_, ?_, ?_, ?_, ?_, ?_, ?_, ?_, ?_, ?_, ?_, ?_, ?_, ?_, ?_, ?_, ?_, ?_, ?_, ?_, ?_, ?_, ?_, ?_, ?_, ?_, ?_, ?_, ?_, ?_, ?_, ?_, ?_, ?_, ?_, ?_, ?_, ?_, ?_, ?_, ?_, ?_, ?_, ?_, ?_, ?_, ?_, ?_, ?_⟩ <;> kernel_rfl
theorem code9_is : Try.f9.body = some (.seq (.region 0 reg9_0 false) (.seq (.seq (.region 1 reg9_1 false) (.cond (.tmp 35 ) (.seq (.region 2 reg9_2 false) (.ret)) (.skip))) (.seq (.region 3 reg9_3 false) (.seq (.region 4 reg9_4 false) (.seq (.seq (.region 5 reg9_5 false) (.cond (.tmp 65 ) (.seq (.region 6 reg9_6 false) (.ret)) (.skip))) (.seq (.region 7 reg9_7 false) (.seq (.region 8 reg9_8 false) (.seq (.seq (.region 9 reg9_9 false) (.block 0 (.loop (.seq (.region 10 reg9_10 false) (.seq (.cond (.tmp 71 ) (.skip) (.exit 0)) (.seq (.block 1 (.seq (.region 11 reg9_11 false) (.seq (.region 12 reg9_12 false) (.seq (.seq (.region 13 reg9_13 false) (.cond (.tmp 81 ) (.seq (.region 14 reg9_14 false) (.seq (.region 15 reg9_15 false) (.seq (.seq (.region 16 reg9_16 false) (.block 2 (.loop (.seq (.region 17 reg9_17 false) (.seq (.cond (.tmp 93 ) (.skip) (.exit 2)) (.seq (.block 3 (.seq (.region 18 reg9_18 false) (.region 19 reg9_19 false))) (.region 20 reg9_20 false))))))) (.seq (.region 21 reg9_21 false) (.seq (.seq (.region 22 reg9_22 false) (.block 4 (.loop (.seq (.region 23 reg9_23 false) (.seq (.cond (.tmp 111 ) (.skip) (.exit 4)) (.seq (.block 5 (.seq (.region 24 reg9_24 false) (.region 25 reg9_25 false))) (.region 26 reg9_26 false))))))) (.seq (.region 27 reg9_27 false) (.seq (.seq (.region 28 reg9_28 false) (.cond (.tmp 124 ) (.region 29 reg9_29 false) (.seq (.region 30 reg9_30 false) (.cond (.tmp 132 ) (.region 31 reg9_31 false) (.skip))))) (.seq (.region 32 reg9_32 false) (.seq (.seq (.region 33 reg9_33 false) (.cond (.tmp 159 ) (.seq (.region 34 reg9_34 false) (.ret)) (.skip))) (.seq (.seq (.region 35 reg9_35 false) (.cond (.tmp 161 ) (.region 36 reg9_36 false) (.skip))) (.exit 1))))))))))) (.skip))) (.seq (.region 37 reg9_37 false) (.seq (.region 38 reg9_38 false) (.seq (.region 39 reg9_39 false) (.seq (.seq (.region 40 reg9_40 false) (.cond (.tmp 188 ) (.seq (.seq (.region 41 reg9_41 false) (.cond (.tmp 195 ) (.seq (.region 42 reg9_42 false) (.ret)) (.skip))) (.exit 1)) (.skip))) (.seq (.region 43 reg9_43 false) (.seq (.seq (.region 44 reg9_44 false) (.cond (.tmp 210 ) (.seq (.region 45 reg9_45 false) (.ret)) (.skip))) (.region 46 reg9_46 false))))))))))) (.region 47 reg9_47 false))))))) (.seq (.region 48 reg9_48 false) (.seq (.seq (.region 49 reg9_49 false) (.cond (.tmp 242 ) (.seq (.region 50 reg9_50 false) (.ret)) (.skip))) (.seq (.seq (.region 51 reg9_51 false) (.block 6 (.loop (.seq (.region 52 reg9_52 false) (.seq (.cond (.tmp 246 ) (.skip) (.exit 6)) (.seq (.block 7 (.seq (.region 53 reg9_53 false) (.seq (.region 54 reg9_54 false) (.cond (.tmp 256 ) (.seq (.region 55 reg9_55 false) (.ret)) (.skip))))) (.region 56 reg9_56 false))))))) (.seq (.region 57 reg9_57 false) (.ret))))))))))))) := by kernel_rfl
noncomputable def hdPa (n k ob : Nat) (av tv sv : Value) (L i : Nat) (u : Nat → Value) : Frame :=
  (base 9).at { tmps := #[u 0, u 1, u 2, u 3, u 4, u 5, .bool false, .int .i64 n, .int .i64 k, .pointer (some ⟨ob, 0, none⟩), u 10, av, tv, u 13, u 14, u 15, u 16, u 17, u 18, u 19, u 20, u 21, u 22, u 23, u 24, u 25, u 26, u 27, u 28, u 29, u 30, u 31, u 32, u 33, u 34, u 35, u 36, u 37, u 38, u 39, u 40, u 41, u 42, u 43, u 44, u 45, u 46, u 47, u 48, u 49, u 50, u 51, u 52, u 53, u 54, u 55, u 56, u 57, u 58, u 59, u 60, u 61, u 62, u 63, u 64, u 65, u 66, u 67, sv, .int .i64 L, .int .i64 i, u 71, u 72, u 73, u 74, u 75, u 76, u 77, u 78, u 79, u 80, u 81, u 82, u 83, u 84, u 85, u 86, u 87, u 88, u 89, u 90, u 91, u 92, u 93, u 94, u 95, u 96, u 97, u 98, u 99, u 100, u 101, u 102, u 103, u 104, u 105, u 106, u 107, u 108, u 109, u 110, u 111, u 112, u 113, u 114, u 115, u 116, u 117, u 118, u 119, u 120, u 121, u 122, u 123, u 124, u 125, u 126, u 127, u 128, u 129, u 130, u 131, u 132, u 133, u 134, u 135, u 136, u 137, u 138, u 139, u 140, u 141, u 142, u 143, u 144, u 145, u 146, u 147, u 148, u 149, u 150, u 151, u 152, u 153, u 154, u 155, u 156, u 157, u 158, u 159, u 160, u 161, u 162, u 163, u 164, u 165, u 166, u 167, u 168, u 169, u 170, u 171, u 172, u 173, u 174, u 175, u 176, u 177, u 178, u 179, u 180, u 181, u 182, u 183, u 184, u 185, u 186, u 187, u 188, u 189, u 190, u 191, u 192, u 193, u 194, u 195, u 196, u 197, u 198, u 199, u 200, u 201, u 202, u 203, u 204, u 205, u 206, u 207, u 208, u 209, u 210, u 211, u 212, u 213, u 214, u 215, u 216, u 217, u 218, u 219, u 220, u 221, u 222, u 223, u 224, u 225, u 226, u 227, u 228, u 229, u 230, u 231, u 232, u 233, u 234, u 235, u 236, u 237, u 238, u 239, u 240, u 241, u 242, u 243, u 244, u 245, u 246, u 247, u 248, u 249, u 250, u 251, u 252, u 253, u 254, u 255, u 256, u 257], defers := [] } [.code (.seq (.region 10 reg9_10 false) (.seq (.cond (.tmp 71 ) (.skip) (.exit 0)) (.seq (.block 1 (.seq (.region 11 reg9_11 false) (.seq (.region 12 reg9_12 false) (.seq (.seq (.region 13 reg9_13 false) (.cond (.tmp 81 ) (.seq (.region 14 reg9_14 false) (.seq (.region 15 reg9_15 false) (.seq (.seq (.region 16 reg9_16 false) (.block 2 (.loop (.seq (.region 17 reg9_17 false) (.seq (.cond (.tmp 93 ) (.skip) (.exit 2)) (.seq (.block 3 (.seq (.region 18 reg9_18 false) (.region 19 reg9_19 false))) (.region 20 reg9_20 false))))))) (.seq (.region 21 reg9_21 false) (.seq (.seq (.region 22 reg9_22 false) (.block 4 (.loop (.seq (.region 23 reg9_23 false) (.seq (.cond (.tmp 111 ) (.skip) (.exit 4)) (.seq (.block 5 (.seq (.region 24 reg9_24 false) (.region 25 reg9_25 false))) (.region 26 reg9_26 false))))))) (.seq (.region 27 reg9_27 false) (.seq (.seq (.region 28 reg9_28 false) (.cond (.tmp 124 ) (.region 29 reg9_29 false) (.seq (.region 30 reg9_30 false) (.cond (.tmp 132 ) (.region 31 reg9_31 false) (.skip))))) (.seq (.region 32 reg9_32 false) (.seq (.seq (.region 33 reg9_33 false) (.cond (.tmp 159 ) (.seq (.region 34 reg9_34 false) (.ret)) (.skip))) (.seq (.seq (.region 35 reg9_35 false) (.cond (.tmp 161 ) (.region 36 reg9_36 false) (.skip))) (.exit 1))))))))))) (.skip))) (.seq (.region 37 reg9_37 false) (.seq (.region 38 reg9_38 false) (.seq (.region 39 reg9_39 false) (.seq (.seq (.region 40 reg9_40 false) (.cond (.tmp 188 ) (.seq (.seq (.region 41 reg9_41 false) (.cond (.tmp 195 ) (.seq (.region 42 reg9_42 false) (.ret)) (.skip))) (.exit 1)) (.skip))) (.seq (.region 43 reg9_43 false) (.seq (.seq (.region 44 reg9_44 false) (.cond (.tmp 210 ) (.seq (.region 45 reg9_45 false) (.ret)) (.skip))) (.region 46 reg9_46 false))))))))))) (.region 47 reg9_47 false)))), .inLoop (.seq (.region 10 reg9_10 false) (.seq (.cond (.tmp 71 ) (.skip) (.exit 0)) (.seq (.block 1 (.seq (.region 11 reg9_11 false) (.seq (.region 12 reg9_12 false) (.seq (.seq (.region 13 reg9_13 false) (.cond (.tmp 81 ) (.seq (.region 14 reg9_14 false) (.seq (.region 15 reg9_15 false) (.seq (.seq (.region 16 reg9_16 false) (.block 2 (.loop (.seq (.region 17 reg9_17 false) (.seq (.cond (.tmp 93 ) (.skip) (.exit 2)) (.seq (.block 3 (.seq (.region 18 reg9_18 false) (.region 19 reg9_19 false))) (.region 20 reg9_20 false))))))) (.seq (.region 21 reg9_21 false) (.seq (.seq (.region 22 reg9_22 false) (.block 4 (.loop (.seq (.region 23 reg9_23 false) (.seq (.cond (.tmp 111 ) (.skip) (.exit 4)) (.seq (.block 5 (.seq (.region 24 reg9_24 false) (.region 25 reg9_25 false))) (.region 26 reg9_26 false))))))) (.seq (.region 27 reg9_27 false) (.seq (.seq (.region 28 reg9_28 false) (.cond (.tmp 124 ) (.region 29 reg9_29 false) (.seq (.region 30 reg9_30 false) (.cond (.tmp 132 ) (.region 31 reg9_31 false) (.skip))))) (.seq (.region 32 reg9_32 false) (.seq (.seq (.region 33 reg9_33 false) (.cond (.tmp 159 ) (.seq (.region 34 reg9_34 false) (.ret)) (.skip))) (.seq (.seq (.region 35 reg9_35 false) (.cond (.tmp 161 ) (.region 36 reg9_36 false) (.skip))) (.exit 1))))))))))) (.skip))) (.seq (.region 37 reg9_37 false) (.seq (.region 38 reg9_38 false) (.seq (.region 39 reg9_39 false) (.seq (.seq (.region 40 reg9_40 false) (.cond (.tmp 188 ) (.seq (.seq (.region 41 reg9_41 false) (.cond (.tmp 195 ) (.seq (.region 42 reg9_42 false) (.ret)) (.skip))) (.exit 1)) (.skip))) (.seq (.region 43 reg9_43 false) (.seq (.seq (.region 44 reg9_44 false) (.cond (.tmp 210 ) (.seq (.region 45 reg9_45 false) (.ret)) (.skip))) (.region 46 reg9_46 false))))))))))) (.region 47 reg9_47 false)))), .inBlock 0, .code (.seq (.region 48 reg9_48 false) (.seq (.seq (.region 49 reg9_49 false) (.cond (.tmp 242 ) (.seq (.region 50 reg9_50 false) (.ret)) (.skip))) (.seq (.seq (.region 51 reg9_51 false) (.block 6 (.loop (.seq (.region 52 reg9_52 false) (.seq (.cond (.tmp 246 ) (.skip) (.exit 6)) (.seq (.block 7 (.seq (.region 53 reg9_53 false) (.seq (.region 54 reg9_54 false) (.cond (.tmp 256 ) (.seq (.region 55 reg9_55 false) (.ret)) (.skip))))) (.region 56 reg9_56 false))))))) (.seq (.region 57 reg9_57 false) (.ret)))))]
noncomputable def hdPv (n k ob : Nat) (av tv sv : Value) (L i X c j : Nat) (vv : Value) (u : Nat → Value) : Frame :=
  (base 9).at { tmps := #[u 0, u 1, u 2, u 3, u 4, u 5, .bool false, .int .i64 n, .int .i64 k, .pointer (some ⟨ob, 0, none⟩), u 10, av, tv, u 13, .pointer (some ⟨X, 0, none⟩), .int .i64 0, .int .i64 c, vv, u 18, u 19, u 20, u 21, u 22, u 23, u 24, u 25, u 26, u 27, u 28, u 29, u 30, u 31, u 32, u 33, u 34, u 35, u 36, u 37, u 38, u 39, u 40, u 41, u 42, u 43, u 44, u 45, u 46, u 47, u 48, u 49, u 50, u 51, u 52, u 53, u 54, u 55, u 56, u 57, u 58, u 59, u 60, u 61, u 62, u 63, u 64, u 65, u 66, u 67, sv, .int .i64 L, .int .i64 i, u 71, u 72, u 73, u 74, u 75, u 76, u 77, u 78, u 79, u 80, u 81, u 82, u 83, u 84, u 85, u 86, u 87, u 88, u 89, u 90, .int .i64 c, .int .i64 j, u 93, u 94, u 95, u 96, u 97, u 98, u 99, u 100, u 101, u 102, u 103, u 104, u 105, u 106, u 107, u 108, u 109, u 110, u 111, u 112, u 113, u 114, u 115, u 116, u 117, u 118, u 119, u 120, u 121, u 122, u 123, u 124, u 125, u 126, u 127, u 128, u 129, u 130, u 131, u 132, u 133, u 134, u 135, u 136, u 137, u 138, u 139, u 140, u 141, u 142, u 143, u 144, u 145, u 146, u 147, u 148, u 149, u 150, u 151, u 152, u 153, u 154, u 155, u 156, u 157, u 158, u 159, u 160, u 161, u 162, u 163, u 164, u 165, u 166, u 167, u 168, u 169, u 170, u 171, u 172, u 173, u 174, u 175, u 176, u 177, u 178, u 179, u 180, u 181, u 182, u 183, u 184, u 185, u 186, u 187, u 188, u 189, u 190, u 191, u 192, u 193, u 194, u 195, u 196, u 197, u 198, u 199, u 200, u 201, u 202, u 203, u 204, u 205, u 206, u 207, u 208, u 209, u 210, u 211, u 212, u 213, u 214, u 215, u 216, u 217, u 218, u 219, u 220, u 221, u 222, u 223, u 224, u 225, u 226, u 227, u 228, u 229, u 230, u 231, u 232, u 233, u 234, u 235, u 236, u 237, u 238, u 239, u 240, u 241, u 242, u 243, u 244, u 245, u 246, u 247, u 248, u 249, u 250, u 251, u 252, u 253, u 254, u 255, u 256, u 257], defers := [] } [.code (.seq (.region 17 reg9_17 false) (.seq (.cond (.tmp 93 ) (.skip) (.exit 2)) (.seq (.block 3 (.seq (.region 18 reg9_18 false) (.region 19 reg9_19 false))) (.region 20 reg9_20 false)))), .inLoop (.seq (.region 17 reg9_17 false) (.seq (.cond (.tmp 93 ) (.skip) (.exit 2)) (.seq (.block 3 (.seq (.region 18 reg9_18 false) (.region 19 reg9_19 false))) (.region 20 reg9_20 false)))), .inBlock 2, .code (.seq (.region 21 reg9_21 false) (.seq (.seq (.region 22 reg9_22 false) (.block 4 (.loop (.seq (.region 23 reg9_23 false) (.seq (.cond (.tmp 111 ) (.skip) (.exit 4)) (.seq (.block 5 (.seq (.region 24 reg9_24 false) (.region 25 reg9_25 false))) (.region 26 reg9_26 false))))))) (.seq (.region 27 reg9_27 false) (.seq (.seq (.region 28 reg9_28 false) (.cond (.tmp 124 ) (.region 29 reg9_29 false) (.seq (.region 30 reg9_30 false) (.cond (.tmp 132 ) (.region 31 reg9_31 false) (.skip))))) (.seq (.region 32 reg9_32 false) (.seq (.seq (.region 33 reg9_33 false) (.cond (.tmp 159 ) (.seq (.region 34 reg9_34 false) (.ret)) (.skip))) (.seq (.seq (.region 35 reg9_35 false) (.cond (.tmp 161 ) (.region 36 reg9_36 false) (.skip))) (.exit 1)))))))), .code (.seq (.region 37 reg9_37 false) (.seq (.region 38 reg9_38 false) (.seq (.region 39 reg9_39 false) (.seq (.seq (.region 40 reg9_40 false) (.cond (.tmp 188 ) (.seq (.seq (.region 41 reg9_41 false) (.cond (.tmp 195 ) (.seq (.region 42 reg9_42 false) (.ret)) (.skip))) (.exit 1)) (.skip))) (.seq (.region 43 reg9_43 false) (.seq (.seq (.region 44 reg9_44 false) (.cond (.tmp 210 ) (.seq (.region 45 reg9_45 false) (.ret)) (.skip))) (.region 46 reg9_46 false))))))), .inBlock 1, .code (.region 47 reg9_47 false), .inLoop (.seq (.region 10 reg9_10 false) (.seq (.cond (.tmp 71 ) (.skip) (.exit 0)) (.seq (.block 1 (.seq (.region 11 reg9_11 false) (.seq (.region 12 reg9_12 false) (.seq (.seq (.region 13 reg9_13 false) (.cond (.tmp 81 ) (.seq (.region 14 reg9_14 false) (.seq (.region 15 reg9_15 false) (.seq (.seq (.region 16 reg9_16 false) (.block 2 (.loop (.seq (.region 17 reg9_17 false) (.seq (.cond (.tmp 93 ) (.skip) (.exit 2)) (.seq (.block 3 (.seq (.region 18 reg9_18 false) (.region 19 reg9_19 false))) (.region 20 reg9_20 false))))))) (.seq (.region 21 reg9_21 false) (.seq (.seq (.region 22 reg9_22 false) (.block 4 (.loop (.seq (.region 23 reg9_23 false) (.seq (.cond (.tmp 111 ) (.skip) (.exit 4)) (.seq (.block 5 (.seq (.region 24 reg9_24 false) (.region 25 reg9_25 false))) (.region 26 reg9_26 false))))))) (.seq (.region 27 reg9_27 false) (.seq (.seq (.region 28 reg9_28 false) (.cond (.tmp 124 ) (.region 29 reg9_29 false) (.seq (.region 30 reg9_30 false) (.cond (.tmp 132 ) (.region 31 reg9_31 false) (.skip))))) (.seq (.region 32 reg9_32 false) (.seq (.seq (.region 33 reg9_33 false) (.cond (.tmp 159 ) (.seq (.region 34 reg9_34 false) (.ret)) (.skip))) (.seq (.seq (.region 35 reg9_35 false) (.cond (.tmp 161 ) (.region 36 reg9_36 false) (.skip))) (.exit 1))))))))))) (.skip))) (.seq (.region 37 reg9_37 false) (.seq (.region 38 reg9_38 false) (.seq (.region 39 reg9_39 false) (.seq (.seq (.region 40 reg9_40 false) (.cond (.tmp 188 ) (.seq (.seq (.region 41 reg9_41 false) (.cond (.tmp 195 ) (.seq (.region 42 reg9_42 false) (.ret)) (.skip))) (.exit 1)) (.skip))) (.seq (.region 43 reg9_43 false) (.seq (.seq (.region 44 reg9_44 false) (.cond (.tmp 210 ) (.seq (.region 45 reg9_45 false) (.ret)) (.skip))) (.region 46 reg9_46 false))))))))))) (.region 47 reg9_47 false)))), .inBlock 0, .code (.seq (.region 48 reg9_48 false) (.seq (.seq (.region 49 reg9_49 false) (.cond (.tmp 242 ) (.seq (.region 50 reg9_50 false) (.ret)) (.skip))) (.seq (.seq (.region 51 reg9_51 false) (.block 6 (.loop (.seq (.region 52 reg9_52 false) (.seq (.cond (.tmp 246 ) (.skip) (.exit 6)) (.seq (.block 7 (.seq (.region 53 reg9_53 false) (.seq (.region 54 reg9_54 false) (.cond (.tmp 256 ) (.seq (.region 55 reg9_55 false) (.ret)) (.skip))))) (.region 56 reg9_56 false))))))) (.seq (.region 57 reg9_57 false) (.ret)))))]
noncomputable def hdPl (n k ob : Nat) (av tv sv : Value) (L i X c y : Nat) (vv : Value) (z : Int) (u : Nat → Value) : Frame :=
  (base 9).at { tmps := #[u 0, u 1, u 2, u 3, u 4, u 5, .bool false, .int .i64 n, .int .i64 k, .pointer (some ⟨ob, 0, none⟩), u 10, av, tv, u 13, .pointer (some ⟨X, 0, none⟩), .int .i64 0, .int .i64 c, vv, u 18, .int .i64 z, u 20, u 21, u 22, u 23, u 24, u 25, u 26, u 27, u 28, u 29, u 30, u 31, u 32, u 33, u 34, u 35, u 36, u 37, u 38, u 39, u 40, u 41, u 42, u 43, u 44, u 45, u 46, u 47, u 48, u 49, u 50, u 51, u 52, u 53, u 54, u 55, u 56, u 57, u 58, u 59, u 60, u 61, u 62, u 63, u 64, u 65, u 66, u 67, sv, .int .i64 L, .int .i64 i, u 71, u 72, u 73, u 74, u 75, u 76, u 77, u 78, u 79, u 80, u 81, u 82, u 83, u 84, u 85, u 86, u 87, u 88, u 89, u 90, u 91, u 92, u 93, u 94, u 95, u 96, u 97, u 98, u 99, u 100, u 101, u 102, u 103, u 104, u 105, u 106, u 107, tv, .int .i64 k, .int .i64 y, u 111, u 112, u 113, u 114, u 115, u 116, u 117, u 118, u 119, u 120, u 121, u 122, u 123, u 124, u 125, u 126, u 127, u 128, u 129, u 130, u 131, u 132, u 133, u 134, u 135, u 136, u 137, u 138, u 139, u 140, u 141, u 142, u 143, u 144, u 145, u 146, u 147, u 148, u 149, u 150, u 151, u 152, u 153, u 154, u 155, u 156, u 157, u 158, u 159, u 160, u 161, u 162, u 163, u 164, u 165, u 166, u 167, u 168, u 169, u 170, u 171, u 172, u 173, u 174, u 175, u 176, u 177, u 178, u 179, u 180, u 181, u 182, u 183, u 184, u 185, u 186, u 187, u 188, u 189, u 190, u 191, u 192, u 193, u 194, u 195, u 196, u 197, u 198, u 199, u 200, u 201, u 202, u 203, u 204, u 205, u 206, u 207, u 208, u 209, u 210, u 211, u 212, u 213, u 214, u 215, u 216, u 217, u 218, u 219, u 220, u 221, u 222, u 223, u 224, u 225, u 226, u 227, u 228, u 229, u 230, u 231, u 232, u 233, u 234, u 235, u 236, u 237, u 238, u 239, u 240, u 241, u 242, u 243, u 244, u 245, u 246, u 247, u 248, u 249, u 250, u 251, u 252, u 253, u 254, u 255, u 256, u 257], defers := [] } [.code (.seq (.region 23 reg9_23 false) (.seq (.cond (.tmp 111 ) (.skip) (.exit 4)) (.seq (.block 5 (.seq (.region 24 reg9_24 false) (.region 25 reg9_25 false))) (.region 26 reg9_26 false)))), .inLoop (.seq (.region 23 reg9_23 false) (.seq (.cond (.tmp 111 ) (.skip) (.exit 4)) (.seq (.block 5 (.seq (.region 24 reg9_24 false) (.region 25 reg9_25 false))) (.region 26 reg9_26 false)))), .inBlock 4, .code (.seq (.region 27 reg9_27 false) (.seq (.seq (.region 28 reg9_28 false) (.cond (.tmp 124 ) (.region 29 reg9_29 false) (.seq (.region 30 reg9_30 false) (.cond (.tmp 132 ) (.region 31 reg9_31 false) (.skip))))) (.seq (.region 32 reg9_32 false) (.seq (.seq (.region 33 reg9_33 false) (.cond (.tmp 159 ) (.seq (.region 34 reg9_34 false) (.ret)) (.skip))) (.seq (.seq (.region 35 reg9_35 false) (.cond (.tmp 161 ) (.region 36 reg9_36 false) (.skip))) (.exit 1)))))), .code (.seq (.region 37 reg9_37 false) (.seq (.region 38 reg9_38 false) (.seq (.region 39 reg9_39 false) (.seq (.seq (.region 40 reg9_40 false) (.cond (.tmp 188 ) (.seq (.seq (.region 41 reg9_41 false) (.cond (.tmp 195 ) (.seq (.region 42 reg9_42 false) (.ret)) (.skip))) (.exit 1)) (.skip))) (.seq (.region 43 reg9_43 false) (.seq (.seq (.region 44 reg9_44 false) (.cond (.tmp 210 ) (.seq (.region 45 reg9_45 false) (.ret)) (.skip))) (.region 46 reg9_46 false))))))), .inBlock 1, .code (.region 47 reg9_47 false), .inLoop (.seq (.region 10 reg9_10 false) (.seq (.cond (.tmp 71 ) (.skip) (.exit 0)) (.seq (.block 1 (.seq (.region 11 reg9_11 false) (.seq (.region 12 reg9_12 false) (.seq (.seq (.region 13 reg9_13 false) (.cond (.tmp 81 ) (.seq (.region 14 reg9_14 false) (.seq (.region 15 reg9_15 false) (.seq (.seq (.region 16 reg9_16 false) (.block 2 (.loop (.seq (.region 17 reg9_17 false) (.seq (.cond (.tmp 93 ) (.skip) (.exit 2)) (.seq (.block 3 (.seq (.region 18 reg9_18 false) (.region 19 reg9_19 false))) (.region 20 reg9_20 false))))))) (.seq (.region 21 reg9_21 false) (.seq (.seq (.region 22 reg9_22 false) (.block 4 (.loop (.seq (.region 23 reg9_23 false) (.seq (.cond (.tmp 111 ) (.skip) (.exit 4)) (.seq (.block 5 (.seq (.region 24 reg9_24 false) (.region 25 reg9_25 false))) (.region 26 reg9_26 false))))))) (.seq (.region 27 reg9_27 false) (.seq (.seq (.region 28 reg9_28 false) (.cond (.tmp 124 ) (.region 29 reg9_29 false) (.seq (.region 30 reg9_30 false) (.cond (.tmp 132 ) (.region 31 reg9_31 false) (.skip))))) (.seq (.region 32 reg9_32 false) (.seq (.seq (.region 33 reg9_33 false) (.cond (.tmp 159 ) (.seq (.region 34 reg9_34 false) (.ret)) (.skip))) (.seq (.seq (.region 35 reg9_35 false) (.cond (.tmp 161 ) (.region 36 reg9_36 false) (.skip))) (.exit 1))))))))))) (.skip))) (.seq (.region 37 reg9_37 false) (.seq (.region 38 reg9_38 false) (.seq (.region 39 reg9_39 false) (.seq (.seq (.region 40 reg9_40 false) (.cond (.tmp 188 ) (.seq (.seq (.region 41 reg9_41 false) (.cond (.tmp 195 ) (.seq (.region 42 reg9_42 false) (.ret)) (.skip))) (.exit 1)) (.skip))) (.seq (.region 43 reg9_43 false) (.seq (.seq (.region 44 reg9_44 false) (.cond (.tmp 210 ) (.seq (.region 45 reg9_45 false) (.ret)) (.skip))) (.region 46 reg9_46 false))))))))))) (.region 47 reg9_47 false)))), .inBlock 0, .code (.seq (.region 48 reg9_48 false) (.seq (.seq (.region 49 reg9_49 false) (.cond (.tmp 242 ) (.seq (.region 50 reg9_50 false) (.ret)) (.skip))) (.seq (.seq (.region 51 reg9_51 false) (.block 6 (.loop (.seq (.region 52 reg9_52 false) (.seq (.cond (.tmp 246 ) (.skip) (.exit 6)) (.seq (.block 7 (.seq (.region 53 reg9_53 false) (.seq (.region 54 reg9_54 false) (.cond (.tmp 256 ) (.seq (.region 55 reg9_55 false) (.ret)) (.skip))))) (.region 56 reg9_56 false))))))) (.seq (.region 57 reg9_57 false) (.ret)))))]
noncomputable def hdPf (k y : Nat) (tv nv : Value) (u : Nat → Value) : Frame :=
  (base 9).at { tmps := #[u 0, u 1, u 2, u 3, u 4, u 5, .bool false, u 7, u 8, u 9, u 10, u 11, u 12, u 13, u 14, u 15, u 16, u 17, u 18, u 19, u 20, u 21, u 22, u 23, u 24, u 25, u 26, u 27, u 28, u 29, u 30, nv, u 32, u 33, u 34, u 35, u 36, u 37, u 38, u 39, u 40, u 41, u 42, u 43, u 44, u 45, u 46, u 47, u 48, u 49, u 50, u 51, u 52, u 53, u 54, u 55, u 56, u 57, u 58, u 59, u 60, u 61, u 62, u 63, u 64, u 65, u 66, u 67, u 68, u 69, u 70, u 71, u 72, u 73, u 74, u 75, u 76, u 77, u 78, u 79, u 80, u 81, u 82, u 83, u 84, u 85, u 86, u 87, u 88, u 89, u 90, u 91, u 92, u 93, u 94, u 95, u 96, u 97, u 98, u 99, u 100, u 101, u 102, u 103, u 104, u 105, u 106, u 107, u 108, u 109, u 110, u 111, u 112, u 113, u 114, u 115, u 116, u 117, u 118, u 119, u 120, u 121, u 122, u 123, u 124, u 125, u 126, u 127, u 128, u 129, u 130, u 131, u 132, u 133, u 134, u 135, u 136, u 137, u 138, u 139, u 140, u 141, u 142, u 143, u 144, u 145, u 146, u 147, u 148, u 149, u 150, u 151, u 152, u 153, u 154, u 155, u 156, u 157, u 158, u 159, u 160, u 161, u 162, u 163, u 164, u 165, u 166, u 167, u 168, u 169, u 170, u 171, u 172, u 173, u 174, u 175, u 176, u 177, u 178, u 179, u 180, u 181, u 182, u 183, u 184, u 185, u 186, u 187, u 188, u 189, u 190, u 191, u 192, u 193, u 194, u 195, u 196, u 197, u 198, u 199, u 200, u 201, u 202, u 203, u 204, u 205, u 206, u 207, u 208, u 209, u 210, u 211, u 212, u 213, u 214, u 215, u 216, u 217, u 218, u 219, u 220, u 221, u 222, u 223, u 224, u 225, u 226, u 227, u 228, u 229, u 230, u 231, u 232, u 233, u 234, u 235, u 236, u 237, u 238, u 239, u 240, u 241, u 242, tv, .int .i64 k, .int .i64 y, u 246, u 247, u 248, u 249, u 250, u 251, u 252, u 253, u 254, u 255, u 256, u 257], defers := [] } [.code (.seq (.region 52 reg9_52 false) (.seq (.cond (.tmp 246 ) (.skip) (.exit 6)) (.seq (.block 7 (.seq (.region 53 reg9_53 false) (.seq (.region 54 reg9_54 false) (.cond (.tmp 256 ) (.seq (.region 55 reg9_55 false) (.ret)) (.skip))))) (.region 56 reg9_56 false)))), .inLoop (.seq (.region 52 reg9_52 false) (.seq (.cond (.tmp 246 ) (.skip) (.exit 6)) (.seq (.block 7 (.seq (.region 53 reg9_53 false) (.seq (.region 54 reg9_54 false) (.cond (.tmp 256 ) (.seq (.region 55 reg9_55 false) (.ret)) (.skip))))) (.region 56 reg9_56 false)))), .inBlock 6, .code (.seq (.region 57 reg9_57 false) (.ret))]
structure VI (w0 w : World) (pre : List Int) (ta : Option Addr) (tc : Nat) : Prop where
  row : w.ownsRow w0.heap.size 2 1 (.slice ta pre.length tc) pre.length (intRow3 pre)
  old : ∀ b, b < w0.heap.size → w.heap[b]? = w0.heap[b]?
  size : w0.heap.size ≤ w.heap.size
section
theorem pv_round (n k ob : Nat) (av tv sv : Value) (L i X c j : Nat) (A : Int) (hj : j < c) (hc : c ≤ 65537) (pre : List Int) (hp : pre.length = j) (ta : Option Addr) (tc : Nat) (w0 w : World) (hA : ∀ b, Apart (fun _ => none) b) (H : VI w0 w pre ta tc) (hX : w0.cell? ⟨X, 2, none⟩ = some (.int .i64 A)) (cs : List Frame) (u : Nat → Value) :
    Walk Try.prog true (DR (fun _ => none)) (fun g w' => ∃ ta' tc', (∃ u, g = G (hdPv n k ob av tv sv L i X c (j + 1) (.slice ta' (j + 1) tc') u) cs) ∧ VI w0 w' (pre ++ [IntKind.i64.wrap (A + j)]) ta' tc') (G (hdPv n k ob av tv sv L i X c j (.slice ta j tc) u) cs) w := by
  have hiI := Option.some_get (show (Try.prog.info? 2).isSome = true by kernel_rfl)
  have hi0 : (0 : Int) ≤ j := by omega
  have hi1 : decide ((j : Int) < c) = true := by simp; omega
  have hi3 : decide (j < c) = true := by simp; omega
  have hw1 : IntKind.wrap .i64 ((j : Int) + 1) = (j : Int) + 1 := by rw [IntKind.wrap_i64]; omega
  have hcc : ((j + 1 : Nat) : Int) = (j : Int) + 1 := by simp
  have c1 : w.cell? ⟨X, 2, none⟩ = some (.int .i64 A) := (World.cell?_of_block (a := ⟨X, 2, none⟩) (H.old X (cell_lt' hX))).trans hX
  have hrow0 := H.row
  have hHs := H.size
  have hold0 := H.old
  have hlm : (intRow3 pre).length = pre.length := by simp [intRow3]
  have hir : ∀ x, intRow3 (pre ++ [x]) = intRow3 pre ++ [.int .i64 x] := fun x => by simp [intRow3]
  obtain ⟨y, hy⟩ : ∃ y, IntKind.i64.wrap (A + (j : Int)) = y := ⟨_, rfl⟩
  rw [hy]
  have hn1 : (pre ++ [y]).length = j + 1 := by simp [hp]
  rw [hp] at hrow0 hlm
  generalize hbase : w0.heap.size = base at *
  generalize intRow3 pre = ir at *
  clear hX H hp
  conv => arg 5; unfold hdPv
  repeat (first | refine Walk.cx ?_ | (refine Walk.cReg ?_; simp only [z9]) | (refine Walk.oq ?_; try walk_nrm) | (refine Walk.un ?_; walk_nrm))
  (refine Walk.oa ?_; try walk_nrm)
  have s1 : (w.alloc (.cells #[.int .i64 y] 2)).heap.size = w.heap.size + 1 := by simp
  have o1 : ∀ b, b < w.heap.size → (w.alloc (.cells #[.int .i64 y] 2)).heap[b]? = w.heap[b]? := fun b hb => heap_new_lt _ _ hb
  have d1 := heap_alloc_new w (.cells #[.int .i64 y] 2)
  have r1 := row_same hrow0 (w' := w.alloc (.cells #[.int .i64 y] 2)) fun b hb => o1 b (hrow0.lt b hb).2
  generalize w.alloc (.cells #[.int .i64 y] 2) = w1 at *
  clear c1
  repeat (first | (refine Walk.oq ?_; try walk_nrm) | (refine Walk.un ?_; walk_nrm))
  refine Walk.append (.tmp 95) (.tmp 101) 22 (ho_of (by conv => lhs; whnf) (by kernel_rfl)) (by rfl) (by decide) rfl base 2 _ (.int .i64 0) 1 8 (by kernel_rfl) hiI.symm (by rfl) (by rfl) (by rfl) (by rfl) (by decide) (.slice ta j tc) j ir rfl r1 ⟨w.heap.size, 0, none⟩ 1 1 [.int .i64 y] rfl (by rfl) (fun q x hx => ?_) (by simp [Value.oneCell']) (by decide) (by simp [maxLen]; omega) (by omega) (by omega) (fun b _ => hA b) (fun g gcap w3 hown3 hgr hat hlt => ?_)
  · rw [add_none, Nat.zero_add]
    refine (cell_of d1 q).trans ?_
    simpa using hx
  have hold : ∀ b, b < base → w3.heap[b]? = w0.heap[b]? := fun b hb => (hgr.block b (by omega) (fun he => by have := (hrow0.lt b he.symm).1; omega)).trans ((o1 b (by omega)).trans (hold0 b hb))
  have hs3 := hgr.size
  clear r1 d1 o1 hrow0 hold0
  walk_nrm
  repeat (first | refine Walk.cx ?_ | (refine Walk.cReg ?_; simp only [z9]) | (refine Walk.oq ?_; try walk_nrm) | (refine Walk.un ?_; walk_nrm))
  refine Walk.ctl rfl (fun w => stepG_inLoop) ?_
  refine .stop fun d => ⟨some ⟨g, 0, none⟩, gcap, at_slots ?_, ⟨?_, ?_, ?_⟩⟩
  · simp only [hdPv, hcc]
    rfl
  · rw [hir, hn1, hbase]
    exact hown3
  · rw [hbase]; exact hold
  · rw [hbase]; show base ≤ w3.heap.size; omega
theorem pl_round (n k ob : Nat) (av tv sv : Value) (L i X c y : Nat) (vv : Value) (z : Int) (tb : Nat) (p : Int) (hy : y < k) (w : World) (htv : tv = .slice (some ⟨tb, 0, none⟩) k k) (hk : k ≤ 65536) (hp : w.cell? ⟨tb, y, none⟩ = some (.int .i64 p)) (cs : List Frame) (u : Nat → Value) :
    Walk Try.prog true (DR (fun _ => none)) (fun g w' => (∃ u, g = G (hdPl n k ob av tv sv L i X c (y + 1) vv (min z p) u) cs) ∧ ∃ d, w' = w.at d) (G (hdPl n k ob av tv sv L i X c y vv z u) cs) w := by
  subst htv
  have hmn := @events_min_ints Try.prog
  have hi0 : (0 : Int) ≤ y := by omega
  have hi1 : decide ((y : Int) < k) = true := by simp; omega
  have hi3 : decide (y < k) = true := by simp; omega
  have hi4 : (y : Int) < k := by omega
  have hw1 : IntKind.wrap .i64 ((y : Int) + 1) = (y : Int) + 1 := by rw [IntKind.wrap_i64]; omega
  have hcc : ((y + 1 : Nat) : Int) = (y : Int) + 1 := by simp
  conv => arg 5; unfold hdPl
  repeat (first | refine Walk.cx ?_ | (refine Walk.cReg ?_; simp only [z9]) | (refine Walk.oq ?_; try walk_nrm) | (refine Walk.un ?_; walk_nrm))
  refine Walk.ctl rfl (fun w => stepG_inLoop) ?_
  refine .stop fun d => ⟨at_slots ?_, d, rfl⟩
  simp only [hdPl, hcc]
  rfl
theorem pf_round (k y : Nat) (tb nb : Nat) (p : Int) (hp0 : 0 ≤ p) (hp1 : p < 4611686018427387904) (hy : y < k) (hk : k ≤ 65536) (w : World) (hp : w.cell? ⟨tb, y, none⟩ = some (.int .i64 p)) (hn : w.cell? ⟨nb, y, none⟩ = some (.int .i64 (p - 1))) (cs : List Frame) (u : Nat → Value) :
    Walk Try.prog true (DR (fun _ => none)) (fun g w' => (∃ u, g = G (hdPf k (y + 1) (.slice (some ⟨tb, 0, none⟩) k k) (.slice (some ⟨nb, 0, none⟩) k k) u) cs) ∧ ∃ d, w' = w.at d) (G (hdPf k y (.slice (some ⟨tb, 0, none⟩) k k) (.slice (some ⟨nb, 0, none⟩) k k) u) cs) w := by
  have hi0 : (0 : Int) ≤ y := by omega
  have hi1 : decide ((y : Int) < k) = true := by simp; omega
  have hi3 : decide (y < k) = true := by simp; omega
  have hi4 : (y : Int) < k := by omega
  have hw1 : IntKind.wrap .i64 ((y : Int) + 1) = (y : Int) + 1 := by rw [IntKind.wrap_i64]; omega
  have hw2 : IntKind.wrap .i64 (p - 1) = p - 1 := by rw [IntKind.wrap_i64]; omega
  have hcc : ((y + 1 : Nat) : Int) = (y : Int) + 1 := by simp
  have hb : (p - 1 != p - 1) = false := by simp
  conv => arg 5; unfold hdPf
  repeat (first | refine Walk.cx ?_ | (refine Walk.cReg ?_; simp only [z9]) | (refine Walk.oq ?_; try walk_nrm) | (refine Walk.un ?_; walk_nrm))
  refine Walk.ctl rfl (fun w => stepG_inLoop) ?_
  refine .stop fun d => ⟨at_slots ?_, d, rfl⟩
  simp only [hdPf, hcc]
  rfl
theorem pf_end (k : Nat) (tv nv : Value) (w : World) (u : Nat → Value) :
    Walk Try.prog true (DR (fun _ => none)) (fun g w' => Closing 9 6 (.bool true) g ∧ ∃ d, w' = w.at d) (G (hdPf k k tv nv u) []) w := by
  have hi1 : decide ((k : Int) < k) = false := by simp
  have hi3 : decide (k < k) = false := by simp
  conv => arg 5; unfold hdPf
  repeat (first | refine Walk.cx ?_ | (refine Walk.cReg ?_; simp only [z9]) | (refine Walk.oq ?_; try walk_nrm) | (refine Walk.un ?_; walk_nrm))
  exact .stop fun d => ⟨⟨_, rfl, rfl, rfl, rfl, rfl, rfl⟩, d, rfl⟩
end
end Go.Proofs.Ytcdcnmphjhfbpaa
