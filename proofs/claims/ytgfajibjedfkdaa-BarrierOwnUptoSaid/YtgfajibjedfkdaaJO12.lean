/- Part 12. -/
import Derived.Test.YtgfajibjedfkdaaJO11
set_option linter.unusedSimpArgs false
set_option linter.unusedVariables false
set_option maxHeartbeats 8000000
set_option maxRecDepth 100000
namespace Go.Proofs.Ytgfajibjedfkdaa
open Go.Conc Go.RowKit Go.Relay
open Go.ConcN (upd upd_ne upd_same)
section
noncomputable def reg43_0 := rg Try.f43.body [0]
noncomputable def reg43_1 := rg Try.f43.body [1, 0, 0]
noncomputable def reg43_2 := rg Try.f43.body [1, 0, 1, 0, 0, 0]
noncomputable def reg43_3 := rg Try.f43.body [1, 0, 1, 0, 0, 1, 1, 0, 0, 0]
noncomputable def reg43_4 := rg Try.f43.body [1, 0, 1, 0, 0, 1, 1, 0, 0, 1, 0, 0]
noncomputable def reg43_5 := rg Try.f43.body [1, 0, 1, 0, 0, 1, 1, 0, 0, 1, 0, 1, 0, 0]
noncomputable def reg43_6 := rg Try.f43.body [1, 0, 1, 0, 0, 1, 1, 0, 0, 1, 1, 0]
noncomputable def reg43_7 := rg Try.f43.body [1, 0, 1, 0, 0, 1, 1, 0, 0, 1, 1, 1, 0]
noncomputable def reg43_8 := rg Try.f43.body [1, 0, 1, 0, 0, 1, 1, 0, 0, 1, 1, 1, 1, 0, 0]
noncomputable def reg43_9 := rg Try.f43.body [1, 0, 1, 0, 0, 1, 1, 1]
noncomputable def reg43_10 := rg Try.f43.body [1, 1, 0]
theorem z43 : List.range reg43_0.size = [0, 1] ∧ List.range reg43_1.size = [0, 1] ∧ List.range reg43_2.size = [0] ∧ List.range reg43_3.size = [0, 1] ∧ List.range reg43_4.size = [0, 1, 2, 3, 4, 5, 6, 7, 8, 9, 10] ∧ List.range reg43_5.size = [0, 1] ∧ List.range reg43_6.size = [0, 1, 2, 3] ∧ List.range reg43_7.size = [0, 1, 2] ∧ List.range reg43_8.size = [0, 1, 2] ∧ List.range reg43_9.size = [0, 1] ∧ List.range reg43_10.size = [0, 1] := by refine ⟨?_, ?_, ?_, ?_, ?_, ?_, ?_, ?_, ?_, ?_, ?_⟩ <;> kernel_rfl
theorem code43_is : Try.f43.body = some (.seq (.region 0 reg43_0 false) (.seq (.seq (.region 1 reg43_1 false) (.block 0 (.loop (.seq (.region 2 reg43_2 false) (.seq (.cond (.tmp 16 ) (.skip) (.exit 0)) (.seq (.block 1 (.seq (.region 3 reg43_3 false) (.seq (.seq (.region 4 reg43_4 false) (.cond (.tmp 28 ) (.seq (.region 5 reg43_5 false) (.ret)) (.skip))) (.seq (.region 6 reg43_6 false) (.seq (.region 7 reg43_7 false) (.cond (.tmp 34 ) (.seq (.region 8 reg43_8 false) (.ret)) (.skip))))))) (.region 9 reg43_9 false))))))) (.seq (.region 10 reg43_10 false) (.ret)))) := by kernel_rfl
noncomputable def hdTg (X : RX) (sv : Value) (q : Int) (n on t : Nat) (u : Nat → Value) : Frame :=
  (base 43).at { tmps := #[.pointer (some ⟨X.bb, 0, none⟩), sv, .int .i64 q, u 3, .int .i64 on, u 5, u 6, u 7, u 8, u 9, u 10, u 11, u 12, u 13, .int .i64 n, .int .i64 t, u 16, u 17, u 18, u 19, u 20, u 21, u 22, u 23, u 24, u 25, u 26, u 27, u 28, u 29, u 30, u 31, u 32, u 33, u 34, u 35, u 36], defers := [] } [.code (.seq (.region 2 reg43_2 false) (.seq (.cond (.tmp 16 ) (.skip) (.exit 0)) (.seq (.block 1 (.seq (.region 3 reg43_3 false) (.seq (.seq (.region 4 reg43_4 false) (.cond (.tmp 28 ) (.seq (.region 5 reg43_5 false) (.ret)) (.skip))) (.seq (.region 6 reg43_6 false) (.seq (.region 7 reg43_7 false) (.cond (.tmp 34 ) (.seq (.region 8 reg43_8 false) (.ret)) (.skip))))))) (.region 9 reg43_9 false)))), .inLoop (.seq (.region 2 reg43_2 false) (.seq (.cond (.tmp 16 ) (.skip) (.exit 0)) (.seq (.block 1 (.seq (.region 3 reg43_3 false) (.seq (.seq (.region 4 reg43_4 false) (.cond (.tmp 28 ) (.seq (.region 5 reg43_5 false) (.ret)) (.skip))) (.seq (.region 6 reg43_6 false) (.seq (.region 7 reg43_7 false) (.cond (.tmp 34 ) (.seq (.region 8 reg43_8 false) (.ret)) (.skip))))))) (.region 9 reg43_9 false)))), .inBlock 0, .code (.seq (.region 10 reg43_10 false) (.ret))]
section
variable {main : Bool} {V : Nat → Option Wait} {X : RX} {s : Rs} {w : World} {sv : Value} {dl : Nat}
theorem tg_in (X : RX) (q : Int) (n on : Nat) (cs : List Frame) (w : World) :
    Walk Try.prog main (DR V) (fun g w' => (∃ u, g = G (hdTg X sv q n on 0 u) cs) ∧ ∃ d, w' = w.at d) (G (Frame.enter Try.prog 43 #[.pointer (some ⟨X.bb, 0, none⟩), sv, .int .i64 q, .int .i64 n, .int .i64 on] .normal) cs) w := by
  rw [enter_at _ Try.func43 code43_is]
  simp only [Try.ntmps43, ez, Nat.reduceAdd, Nat.reduceSub]
  repeat (first | refine Walk.cx ?_ | (refine Walk.cReg ?_; simp only [z43]) | (refine Walk.oq ?_; try walk_nrm) | (refine Walk.un ?_; walk_nrm))
  refine Walk.ctl rfl (fun w => stepG_loop) ?_
  refine .stop fun d => ⟨at_slots ?_, d, rfl⟩
  simp only [hdTg]
  rfl
theorem tg_end (X : RX) (q : Int) (n on : Nat) (u : Nat → Value) (c : Frame) (cs : List Frame) (w : World) :
    Walk Try.prog main (DR V) (fun g w' => g = G (c.finish (.tuple #[.int .i64 0, .int .i64 4])) cs ∧ ∃ d, w' = w.at d) (G (hdTg X sv q n on n u) (c :: cs)) w := by
  have hi1 : decide ((n : Int) < n) = false := by simp
  have hi3 : decide (n < n) = false := by simp
  unfold hdTg
  repeat (first | refine Walk.cx ?_ | (refine Walk.cReg ?_; simp only [z43]) | (refine Walk.oq ?_; try walk_nrm) | (refine Walk.un ?_; walk_nrm))
  exact Walk.on2 rfl rfl Try.func43 rfl (.stop fun d => ⟨rfl, d, rfl⟩)
theorem tg_1bal (hA : ∀ b, Apart V b) (I : RI X s w) (hT : Tk X sv dl) (hk : 0 < X.k) (hkm : X.k ≤ 1000000) (hb : Bd X s (X.k + 1)) (q : Int) (n t : Nat) (htn : t < n) (hn : n ≤ 1048576) (hc : t % 1 = 0) (hal : s.al = true) (u : Nat → Value) (c : Frame) (cs : List Frame) :
    Walk Try.prog main (DR V) (fun g w' => g = G (c.finish (.tuple #[.int .i64 0, .int .i64 5])) cs ∧ RI X (s.tick dl) w') (G (hdTg X sv q n 1 t u) (c :: cs)) w := by
  have hi1 : decide ((t : Int) < n) = true := by simp; omega
  have hi3 : decide (t < n) = true := by simp; omega
  have hi4 : (t : Int) < n := by omega
  have hw1 : IntKind.wrap .i64 ((t : Int) + 1) = (t : Int) + 1 := by rw [IntKind.wrap_i64]; omega
  have hcc : ((t + 1 : Nat) : Int) = (t : Int) + 1 := by simp
  have hrem : Int.tmod (t : Int) 1 = 0 := by
    have h : Int.tmod (t : Int) 1 = ((t % 1 : Nat) : Int) := rfl
    rw [h, hc]; rfl
  have hfl := fload15 (main := main) hA I (by have := hb.1; omega) hT
  rw [hal] at hfl
  clear hw1 hcc
  clear hc hb I hal
  conv => arg 5; unfold hdTg
  repeat (first | refine Walk.cx ?_ | (refine Walk.cReg ?_; simp only [z43]) | (refine Walk.oq ?_; try walk_nrm) | (refine Walk.un ?_; walk_nrm))
  refine Walk.callW (Post := fun v w' => v = .bool true ∧ RI X (s.tick dl) w') ?_ (ho_of (by conv => lhs; whnf) (by kernel_rfl)) (by rfl) (by decide) rfl Try.func44 (by kernel_rfl) (by rfl) ?_
  · try walk_nrm
    exact hfl
  rintro v w1 ⟨rfl, I1⟩
  clear hfl
  walk_nrm
  repeat (first | refine Walk.cx ?_ | (refine Walk.cReg ?_; simp only [z43]) | (refine Walk.oq ?_; try walk_nrm) | (refine Walk.un ?_; walk_nrm))
  exact Walk.on2 rfl rfl Try.func43 rfl (.stop fun d => ⟨rfl, I1.at d⟩)
theorem tg_1bhit (hA : ∀ b, Apart V b) (I : RI X s w) (hT : Tk X sv dl) (hk : 0 < X.k) (hkm : X.k ≤ 1000000) (hb : Bd X s (X.k + 1)) (q : Int) (n t : Nat) (htn : t < n) (hn : n ≤ 1048576) (hc : t % 1 = 0) (hal : s.al = false) (hq : q ≤ limV X.ls (s.tick dl) dl X.k) (u : Nat → Value) (c : Frame) (cs : List Frame) :
    Walk Try.prog main (DR V) (fun g w' => g = G (c.finish (.tuple #[.int .i64 (limV X.ls (s.tick dl) dl X.k), .int .i64 0])) cs ∧ RI X ((s.tick dl).lim dl X.k) w') (G (hdTg X sv q n 1 t u) (c :: cs)) w := by
  have hi1 : decide ((t : Int) < n) = true := by simp; omega
  have hi3 : decide (t < n) = true := by simp; omega
  have hi4 : (t : Int) < n := by omega
  have hw1 : IntKind.wrap .i64 ((t : Int) + 1) = (t : Int) + 1 := by rw [IntKind.wrap_i64]; omega
  have hcc : ((t + 1 : Nat) : Int) = (t : Int) + 1 := by simp
  have hrem : Int.tmod (t : Int) 1 = 0 := by
    have h : Int.tmod (t : Int) 1 = ((t % 1 : Nat) : Int) := rfl
    rw [h, hc]; rfl
  have hfl := fload15 (main := main) hA I (by have := hb.1; omega) hT
  have hb1 : Bd X (s.tick dl) X.k := Bd.tick hT.le hb
  rw [hal] at hfl
  have hge : decide (q ≤ limV X.ls (s.tick dl) dl X.k) = true := by simpa using hq
  clear hq
  clear hw1 hcc
  clear hc hb I hal
  conv => arg 5; unfold hdTg
  repeat (first | refine Walk.cx ?_ | (refine Walk.cReg ?_; simp only [z43]) | (refine Walk.oq ?_; try walk_nrm) | (refine Walk.un ?_; walk_nrm))
  refine Walk.callW (Post := fun v w' => v = .bool false ∧ RI X (s.tick dl) w') ?_ (ho_of (by conv => lhs; whnf) (by kernel_rfl)) (by rfl) (by decide) rfl Try.func44 (by kernel_rfl) (by rfl) ?_
  · try walk_nrm
    exact hfl
  rintro v w1 ⟨rfl, I1⟩
  clear hfl
  have hlm := limit15 (main := main) hA I1 hT hk hkm hb1
  clear hb1 I1
  walk_nrm
  repeat (first | refine Walk.cx ?_ | (refine Walk.cReg ?_; simp only [z43]) | (refine Walk.oq ?_; try walk_nrm) | (refine Walk.un ?_; walk_nrm))
  refine Walk.callW (Post := fun v w' => v = .int .i64 (limV X.ls (s.tick dl) dl X.k) ∧ RI X ((s.tick dl).lim dl X.k) w') ?_ (ho_of (by conv => lhs; whnf) (by kernel_rfl)) (by rfl) (by decide) rfl Try.func15 (by kernel_rfl) (by rfl) ?_
  · try walk_nrm
    exact hlm
  rintro v w2 ⟨rfl, I2⟩
  clear hlm
  generalize limV X.ls (s.tick dl) dl X.k = z at *
  generalize (s.tick dl).lim dl X.k = s' at *
  walk_nrm
  repeat (first | refine Walk.cx ?_ | (refine Walk.cReg ?_; simp only [z43]) | (refine Walk.oq ?_; try walk_nrm) | (refine Walk.un ?_; walk_nrm))
  exact Walk.on2 rfl rfl Try.func43 rfl (.stop fun d => ⟨rfl, I2.at d⟩)
theorem tg_1bgo (hA : ∀ b, Apart V b) (I : RI X s w) (hT : Tk X sv dl) (hk : 0 < X.k) (hkm : X.k ≤ 1000000) (hb : Bd X s (X.k + 1)) (q : Int) (n t : Nat) (htn : t < n) (hn : n ≤ 1048576) (hc : t % 1 = 0) (hal : s.al = false) (hq : ¬ q ≤ limV X.ls (s.tick dl) dl X.k) (u : Nat → Value) (c : Frame) (cs : List Frame) :
    Walk Try.prog main (DR V) (fun g w' => (∃ u, g = G (hdTg X sv q n 1 (t + 1) u) (c :: cs)) ∧ RI X ((s.tick dl).lim dl X.k) w') (G (hdTg X sv q n 1 t u) (c :: cs)) w := by
  have hi1 : decide ((t : Int) < n) = true := by simp; omega
  have hi3 : decide (t < n) = true := by simp; omega
  have hi4 : (t : Int) < n := by omega
  have hw1 : IntKind.wrap .i64 ((t : Int) + 1) = (t : Int) + 1 := by rw [IntKind.wrap_i64]; omega
  have hcc : ((t + 1 : Nat) : Int) = (t : Int) + 1 := by simp
  have hrem : Int.tmod (t : Int) 1 = 0 := by
    have h : Int.tmod (t : Int) 1 = ((t % 1 : Nat) : Int) := rfl
    rw [h, hc]; rfl
  have hfl := fload15 (main := main) hA I (by have := hb.1; omega) hT
  have hb1 : Bd X (s.tick dl) X.k := Bd.tick hT.le hb
  rw [hal] at hfl
  have hge : decide (q ≤ limV X.ls (s.tick dl) dl X.k) = false := by simpa using hq
  clear hq
  clear hc hb I hal
  conv => arg 5; unfold hdTg
  repeat (first | refine Walk.cx ?_ | (refine Walk.cReg ?_; simp only [z43]) | (refine Walk.oq ?_; try walk_nrm) | (refine Walk.un ?_; walk_nrm))
  refine Walk.callW (Post := fun v w' => v = .bool false ∧ RI X (s.tick dl) w') ?_ (ho_of (by conv => lhs; whnf) (by kernel_rfl)) (by rfl) (by decide) rfl Try.func44 (by kernel_rfl) (by rfl) ?_
  · try walk_nrm
    exact hfl
  rintro v w1 ⟨rfl, I1⟩
  clear hfl
  have hlm := limit15 (main := main) hA I1 hT hk hkm hb1
  clear hb1 I1
  walk_nrm
  repeat (first | refine Walk.cx ?_ | (refine Walk.cReg ?_; simp only [z43]) | (refine Walk.oq ?_; try walk_nrm) | (refine Walk.un ?_; walk_nrm))
  refine Walk.callW (Post := fun v w' => v = .int .i64 (limV X.ls (s.tick dl) dl X.k) ∧ RI X ((s.tick dl).lim dl X.k) w') ?_ (ho_of (by conv => lhs; whnf) (by kernel_rfl)) (by rfl) (by decide) rfl Try.func15 (by kernel_rfl) (by rfl) ?_
  · try walk_nrm
    exact hlm
  rintro v w2 ⟨rfl, I2⟩
  clear hlm
  generalize limV X.ls (s.tick dl) dl X.k = z at *
  generalize (s.tick dl).lim dl X.k = s' at *
  walk_nrm
  repeat (first | refine Walk.cx ?_ | (refine Walk.cReg ?_; simp only [z43]) | (refine Walk.oq ?_; try walk_nrm) | (refine Walk.un ?_; walk_nrm))
  refine Walk.ctl rfl (fun w => stepG_inLoop) ?_
  refine .stop fun d => ⟨at_slots ?_, I2.at d⟩
  simp only [hdTg, hcc]
  rfl
theorem tg_8ahit (hA : ∀ b, Apart V b) (I : RI X s w) (hT : Tk X sv dl) (hk : 0 < X.k) (hkm : X.k ≤ 1000000) (hb : Bd X s (X.k + 1)) (q : Int) (n t : Nat) (htn : t < n) (hn : n ≤ 1048576) (hc : t % 8 ≠ 0) (hq : q ≤ limV X.ls (s) dl X.k) (u : Nat → Value) (c : Frame) (cs : List Frame) :
    Walk Try.prog main (DR V) (fun g w' => g = G (c.finish (.tuple #[.int .i64 (limV X.ls (s) dl X.k), .int .i64 0])) cs ∧ RI X ((s).lim dl X.k) w') (G (hdTg X sv q n 8 t u) (c :: cs)) w := by
  have hi1 : decide ((t : Int) < n) = true := by simp; omega
  have hi3 : decide (t < n) = true := by simp; omega
  have hi4 : (t : Int) < n := by omega
  have hw1 : IntKind.wrap .i64 ((t : Int) + 1) = (t : Int) + 1 := by rw [IntKind.wrap_i64]; omega
  have hcc : ((t + 1 : Nat) : Int) = (t : Int) + 1 := by simp
  obtain ⟨e, he⟩ : ∃ e : Nat, t % 8 = e := ⟨_, rfl⟩
  have hrem : Int.tmod (t : Int) 8 = (e : Int) := by rw [← he]; rfl
  have he0 : ((e : Int) == 0) = false := by rw [beq_eq_false_iff_ne]; omega
  have he2 : ¬ (e : Int) = 0 := by omega
  have he3 : ¬ e = 0 := by omega
  have hlm := limit15 (main := main) hA I hT hk hkm (hb.le (Nat.le_succ _))
  have hge : decide (q ≤ limV X.ls (s) dl X.k) = true := by simpa using hq
  clear hq
  clear hw1 hcc
  clear hc hb I he
  conv => arg 5; unfold hdTg
  repeat (first | refine Walk.cx ?_ | (refine Walk.cReg ?_; simp only [z43]) | (refine Walk.oq ?_; try walk_nrm) | (refine Walk.un ?_; walk_nrm))
  refine Walk.callW (Post := fun v w' => v = .int .i64 (limV X.ls (s) dl X.k) ∧ RI X ((s).lim dl X.k) w') ?_ (ho_of (by conv => lhs; whnf) (by kernel_rfl)) (by rfl) (by decide) rfl Try.func15 (by kernel_rfl) (by rfl) ?_
  · try walk_nrm
    exact hlm
  rintro v w2 ⟨rfl, I2⟩
  clear hlm
  generalize limV X.ls (s) dl X.k = z at *
  generalize (s).lim dl X.k = s' at *
  walk_nrm
  repeat (first | refine Walk.cx ?_ | (refine Walk.cReg ?_; simp only [z43]) | (refine Walk.oq ?_; try walk_nrm) | (refine Walk.un ?_; walk_nrm))
  exact Walk.on2 rfl rfl Try.func43 rfl (.stop fun d => ⟨rfl, I2.at d⟩)
theorem tg_8ago (hA : ∀ b, Apart V b) (I : RI X s w) (hT : Tk X sv dl) (hk : 0 < X.k) (hkm : X.k ≤ 1000000) (hb : Bd X s (X.k + 1)) (q : Int) (n t : Nat) (htn : t < n) (hn : n ≤ 1048576) (hc : t % 8 ≠ 0) (hq : ¬ q ≤ limV X.ls (s) dl X.k) (u : Nat → Value) (c : Frame) (cs : List Frame) :
    Walk Try.prog main (DR V) (fun g w' => (∃ u, g = G (hdTg X sv q n 8 (t + 1) u) (c :: cs)) ∧ RI X ((s).lim dl X.k) w') (G (hdTg X sv q n 8 t u) (c :: cs)) w := by
  have hi1 : decide ((t : Int) < n) = true := by simp; omega
  have hi3 : decide (t < n) = true := by simp; omega
  have hi4 : (t : Int) < n := by omega
  have hw1 : IntKind.wrap .i64 ((t : Int) + 1) = (t : Int) + 1 := by rw [IntKind.wrap_i64]; omega
  have hcc : ((t + 1 : Nat) : Int) = (t : Int) + 1 := by simp
  obtain ⟨e, he⟩ : ∃ e : Nat, t % 8 = e := ⟨_, rfl⟩
  have hrem : Int.tmod (t : Int) 8 = (e : Int) := by rw [← he]; rfl
  have he0 : ((e : Int) == 0) = false := by rw [beq_eq_false_iff_ne]; omega
  have he2 : ¬ (e : Int) = 0 := by omega
  have he3 : ¬ e = 0 := by omega
  have hlm := limit15 (main := main) hA I hT hk hkm (hb.le (Nat.le_succ _))
  have hge : decide (q ≤ limV X.ls (s) dl X.k) = false := by simpa using hq
  clear hq
  clear hc hb I he
  conv => arg 5; unfold hdTg
  repeat (first | refine Walk.cx ?_ | (refine Walk.cReg ?_; simp only [z43]) | (refine Walk.oq ?_; try walk_nrm) | (refine Walk.un ?_; walk_nrm))
  refine Walk.callW (Post := fun v w' => v = .int .i64 (limV X.ls (s) dl X.k) ∧ RI X ((s).lim dl X.k) w') ?_ (ho_of (by conv => lhs; whnf) (by kernel_rfl)) (by rfl) (by decide) rfl Try.func15 (by kernel_rfl) (by rfl) ?_
  · try walk_nrm
    exact hlm
  rintro v w2 ⟨rfl, I2⟩
  clear hlm
  generalize limV X.ls (s) dl X.k = z at *
  generalize (s).lim dl X.k = s' at *
  walk_nrm
  repeat (first | refine Walk.cx ?_ | (refine Walk.cReg ?_; simp only [z43]) | (refine Walk.oq ?_; try walk_nrm) | (refine Walk.un ?_; walk_nrm))
  refine Walk.ctl rfl (fun w => stepG_inLoop) ?_
  refine .stop fun d => ⟨at_slots ?_, I2.at d⟩
  simp only [hdTg, hcc]
  rfl
theorem tg_8bal (hA : ∀ b, Apart V b) (I : RI X s w) (hT : Tk X sv dl) (hk : 0 < X.k) (hkm : X.k ≤ 1000000) (hb : Bd X s (X.k + 1)) (q : Int) (n t : Nat) (htn : t < n) (hn : n ≤ 1048576) (hc : t % 8 = 0) (hal : s.al = true) (u : Nat → Value) (c : Frame) (cs : List Frame) :
    Walk Try.prog main (DR V) (fun g w' => g = G (c.finish (.tuple #[.int .i64 0, .int .i64 5])) cs ∧ RI X (s.tick dl) w') (G (hdTg X sv q n 8 t u) (c :: cs)) w := by
  have hi1 : decide ((t : Int) < n) = true := by simp; omega
  have hi3 : decide (t < n) = true := by simp; omega
  have hi4 : (t : Int) < n := by omega
  have hw1 : IntKind.wrap .i64 ((t : Int) + 1) = (t : Int) + 1 := by rw [IntKind.wrap_i64]; omega
  have hcc : ((t + 1 : Nat) : Int) = (t : Int) + 1 := by simp
  have hrem : Int.tmod (t : Int) 8 = 0 := by
    have h : Int.tmod (t : Int) 8 = ((t % 8 : Nat) : Int) := rfl
    rw [h, hc]; rfl
  have hfl := fload15 (main := main) hA I (by have := hb.1; omega) hT
  rw [hal] at hfl
  clear hw1 hcc
  clear hc hb I hal
  conv => arg 5; unfold hdTg
  repeat (first | refine Walk.cx ?_ | (refine Walk.cReg ?_; simp only [z43]) | (refine Walk.oq ?_; try walk_nrm) | (refine Walk.un ?_; walk_nrm))
  refine Walk.callW (Post := fun v w' => v = .bool true ∧ RI X (s.tick dl) w') ?_ (ho_of (by conv => lhs; whnf) (by kernel_rfl)) (by rfl) (by decide) rfl Try.func44 (by kernel_rfl) (by rfl) ?_
  · try walk_nrm
    exact hfl
  rintro v w1 ⟨rfl, I1⟩
  clear hfl
  walk_nrm
  repeat (first | refine Walk.cx ?_ | (refine Walk.cReg ?_; simp only [z43]) | (refine Walk.oq ?_; try walk_nrm) | (refine Walk.un ?_; walk_nrm))
  exact Walk.on2 rfl rfl Try.func43 rfl (.stop fun d => ⟨rfl, I1.at d⟩)
theorem tg_8bhit (hA : ∀ b, Apart V b) (I : RI X s w) (hT : Tk X sv dl) (hk : 0 < X.k) (hkm : X.k ≤ 1000000) (hb : Bd X s (X.k + 1)) (q : Int) (n t : Nat) (htn : t < n) (hn : n ≤ 1048576) (hc : t % 8 = 0) (hal : s.al = false) (hq : q ≤ limV X.ls (s.tick dl) dl X.k) (u : Nat → Value) (c : Frame) (cs : List Frame) :
    Walk Try.prog main (DR V) (fun g w' => g = G (c.finish (.tuple #[.int .i64 (limV X.ls (s.tick dl) dl X.k), .int .i64 0])) cs ∧ RI X ((s.tick dl).lim dl X.k) w') (G (hdTg X sv q n 8 t u) (c :: cs)) w := by
  have hi1 : decide ((t : Int) < n) = true := by simp; omega
  have hi3 : decide (t < n) = true := by simp; omega
  have hi4 : (t : Int) < n := by omega
  have hw1 : IntKind.wrap .i64 ((t : Int) + 1) = (t : Int) + 1 := by rw [IntKind.wrap_i64]; omega
  have hcc : ((t + 1 : Nat) : Int) = (t : Int) + 1 := by simp
  have hrem : Int.tmod (t : Int) 8 = 0 := by
    have h : Int.tmod (t : Int) 8 = ((t % 8 : Nat) : Int) := rfl
    rw [h, hc]; rfl
  have hfl := fload15 (main := main) hA I (by have := hb.1; omega) hT
  have hb1 : Bd X (s.tick dl) X.k := Bd.tick hT.le hb
  rw [hal] at hfl
  have hge : decide (q ≤ limV X.ls (s.tick dl) dl X.k) = true := by simpa using hq
  clear hq
  clear hw1 hcc
  clear hc hb I hal
  conv => arg 5; unfold hdTg
  repeat (first | refine Walk.cx ?_ | (refine Walk.cReg ?_; simp only [z43]) | (refine Walk.oq ?_; try walk_nrm) | (refine Walk.un ?_; walk_nrm))
  refine Walk.callW (Post := fun v w' => v = .bool false ∧ RI X (s.tick dl) w') ?_ (ho_of (by conv => lhs; whnf) (by kernel_rfl)) (by rfl) (by decide) rfl Try.func44 (by kernel_rfl) (by rfl) ?_
  · try walk_nrm
    exact hfl
  rintro v w1 ⟨rfl, I1⟩
  clear hfl
  have hlm := limit15 (main := main) hA I1 hT hk hkm hb1
  clear hb1 I1
  walk_nrm
  repeat (first | refine Walk.cx ?_ | (refine Walk.cReg ?_; simp only [z43]) | (refine Walk.oq ?_; try walk_nrm) | (refine Walk.un ?_; walk_nrm))
  refine Walk.callW (Post := fun v w' => v = .int .i64 (limV X.ls (s.tick dl) dl X.k) ∧ RI X ((s.tick dl).lim dl X.k) w') ?_ (ho_of (by conv => lhs; whnf) (by kernel_rfl)) (by rfl) (by decide) rfl Try.func15 (by kernel_rfl) (by rfl) ?_
  · try walk_nrm
    exact hlm
  rintro v w2 ⟨rfl, I2⟩
  clear hlm
  generalize limV X.ls (s.tick dl) dl X.k = z at *
  generalize (s.tick dl).lim dl X.k = s' at *
  walk_nrm
  repeat (first | refine Walk.cx ?_ | (refine Walk.cReg ?_; simp only [z43]) | (refine Walk.oq ?_; try walk_nrm) | (refine Walk.un ?_; walk_nrm))
  exact Walk.on2 rfl rfl Try.func43 rfl (.stop fun d => ⟨rfl, I2.at d⟩)
theorem tg_8bgo (hA : ∀ b, Apart V b) (I : RI X s w) (hT : Tk X sv dl) (hk : 0 < X.k) (hkm : X.k ≤ 1000000) (hb : Bd X s (X.k + 1)) (q : Int) (n t : Nat) (htn : t < n) (hn : n ≤ 1048576) (hc : t % 8 = 0) (hal : s.al = false) (hq : ¬ q ≤ limV X.ls (s.tick dl) dl X.k) (u : Nat → Value) (c : Frame) (cs : List Frame) :
    Walk Try.prog main (DR V) (fun g w' => (∃ u, g = G (hdTg X sv q n 8 (t + 1) u) (c :: cs)) ∧ RI X ((s.tick dl).lim dl X.k) w') (G (hdTg X sv q n 8 t u) (c :: cs)) w := by
  have hi1 : decide ((t : Int) < n) = true := by simp; omega
  have hi3 : decide (t < n) = true := by simp; omega
  have hi4 : (t : Int) < n := by omega
  have hw1 : IntKind.wrap .i64 ((t : Int) + 1) = (t : Int) + 1 := by rw [IntKind.wrap_i64]; omega
  have hcc : ((t + 1 : Nat) : Int) = (t : Int) + 1 := by simp
  have hrem : Int.tmod (t : Int) 8 = 0 := by
    have h : Int.tmod (t : Int) 8 = ((t % 8 : Nat) : Int) := rfl
    rw [h, hc]; rfl
  have hfl := fload15 (main := main) hA I (by have := hb.1; omega) hT
  have hb1 : Bd X (s.tick dl) X.k := Bd.tick hT.le hb
  rw [hal] at hfl
  have hge : decide (q ≤ limV X.ls (s.tick dl) dl X.k) = false := by simpa using hq
  clear hq
  clear hc hb I hal
  conv => arg 5; unfold hdTg
  repeat (first | refine Walk.cx ?_ | (refine Walk.cReg ?_; simp only [z43]) | (refine Walk.oq ?_; try walk_nrm) | (refine Walk.un ?_; walk_nrm))
  refine Walk.callW (Post := fun v w' => v = .bool false ∧ RI X (s.tick dl) w') ?_ (ho_of (by conv => lhs; whnf) (by kernel_rfl)) (by rfl) (by decide) rfl Try.func44 (by kernel_rfl) (by rfl) ?_
  · try walk_nrm
    exact hfl
  rintro v w1 ⟨rfl, I1⟩
  clear hfl
  have hlm := limit15 (main := main) hA I1 hT hk hkm hb1
  clear hb1 I1
  walk_nrm
  repeat (first | refine Walk.cx ?_ | (refine Walk.cReg ?_; simp only [z43]) | (refine Walk.oq ?_; try walk_nrm) | (refine Walk.un ?_; walk_nrm))
  refine Walk.callW (Post := fun v w' => v = .int .i64 (limV X.ls (s.tick dl) dl X.k) ∧ RI X ((s.tick dl).lim dl X.k) w') ?_ (ho_of (by conv => lhs; whnf) (by kernel_rfl)) (by rfl) (by decide) rfl Try.func15 (by kernel_rfl) (by rfl) ?_
  · try walk_nrm
    exact hlm
  rintro v w2 ⟨rfl, I2⟩
  clear hlm
  generalize limV X.ls (s.tick dl) dl X.k = z at *
  generalize (s.tick dl).lim dl X.k = s' at *
  walk_nrm
  repeat (first | refine Walk.cx ?_ | (refine Walk.cReg ?_; simp only [z43]) | (refine Walk.oq ?_; try walk_nrm) | (refine Walk.un ?_; walk_nrm))
  refine Walk.ctl rfl (fun w => stepG_inLoop) ?_
  refine .stop fun d => ⟨at_slots ?_, I2.at d⟩
  simp only [hdTg, hcc]
  rfl
theorem together15_1 (hA : ∀ b, Apart V b) (hT : Tk X sv dl) (hk : 0 < X.k) (hkm : X.k ≤ 1000000) (q : Int) (n : Nat) (hn : n ≤ 1024) (I : RI X s w) (hb : Bd X s ((X.k + 1) * 1024)) :
    CallW Try.prog main V 43 #[.pointer (some ⟨X.bb, 0, none⟩), sv, .int .i64 q, .int .i64 n, .int .i64 1] w (fun v w' => v = .tuple #[.int .i64 (togR X.ls X.k dl q 1 n 0 s).2.1, .int .i64 (togR X.ls X.k dl q 1 n 0 s).2.2] ∧ RI X (togR X.ls X.k dl q 1 n 0 s).1 w') := by
  intro fr cs
  refine (tg_in X q n 1 (fr :: cs) w).then ?_
  rintro _ _ ⟨⟨u, rfl⟩, d, rfl⟩
  refine Walk.back ?_ d
  have loop : ∀ (r t : Nat) (s : Rs) (u : Nat → Value) (w : World), t + r = n → RI X s w → Bd X s ((X.k + 1) * r) →
      Walk Try.prog main (DR V) (fun g w' => ∃ v, (v = .tuple #[.int .i64 (togR X.ls X.k dl q 1 r t s).2.1, .int .i64 (togR X.ls X.k dl q 1 r t s).2.2] ∧ RI X (togR X.ls X.k dl q 1 r t s).1 w') ∧ g = G (fr.finish v) cs) (G (hdTg X sv q n 1 t u) (fr :: cs)) w := by
    intro r
    induction r with
    | zero =>
      intro t s u w ht I hb
      have ht : t = n := ht
      subst ht
      refine (tg_end X q t 1 u fr cs w).mono ?_
      rintro _ _ ⟨rfl, d, rfl⟩
      exact ⟨_, ⟨rfl, I.at d⟩, rfl⟩
    | succ r ih =>
      intro t s u w ht I hb
      rw [Nat.mul_succ] at hb
      have hb0 : Bd X s (X.k + 1) := hb.le (Nat.le_add_left _ _)
      unfold togR
      by_cases hc : t % 1 = 0
      · by_cases hal : s.al = true
        · rw [if_pos ⟨hc, hal⟩]
          refine (tg_1bal hA I hT hk hkm hb0 q n t (by omega) (by omega) hc hal u fr cs).mono ?_
          rintro _ _ ⟨rfl, I'⟩
          exact ⟨_, ⟨rfl, I'⟩, rfl⟩
        · have hal' : s.al = false := by simpa using hal
          rw [if_neg fun h => hal h.2, if_pos hc]
          by_cases hq : q ≤ limV X.ls (s.tick dl) dl X.k
          · rw [if_pos hq]
            refine (tg_1bhit hA I hT hk hkm hb0 q n t (by omega) (by omega) hc hal' hq u fr cs).mono ?_
            rintro _ _ ⟨rfl, I'⟩
            exact ⟨_, ⟨rfl, I'⟩, rfl⟩
          · rw [if_neg hq]
            refine (tg_1bgo hA I hT hk hkm hb0 q n t (by omega) (by omega) hc hal' hq u fr cs).then ?_
            rintro _ w' ⟨⟨u', rfl⟩, I'⟩
            exact ih (t + 1) _ u' w' (by omega) I' (Bd.lim hT.le X.k _ (Bd.tick hT.le hb))
      · exact absurd (Nat.mod_one t) hc
  exact loop n 0 s u w (Nat.zero_add _) I (hb.le (Nat.mul_le_mul_left _ hn))
theorem together15_8 (hA : ∀ b, Apart V b) (hT : Tk X sv dl) (hk : 0 < X.k) (hkm : X.k ≤ 1000000) (q : Int) (n : Nat) (hn : n ≤ 1024) (I : RI X s w) (hb : Bd X s ((X.k + 1) * 1024)) :
    CallW Try.prog main V 43 #[.pointer (some ⟨X.bb, 0, none⟩), sv, .int .i64 q, .int .i64 n, .int .i64 8] w (fun v w' => v = .tuple #[.int .i64 (togR X.ls X.k dl q 8 n 0 s).2.1, .int .i64 (togR X.ls X.k dl q 8 n 0 s).2.2] ∧ RI X (togR X.ls X.k dl q 8 n 0 s).1 w') := by
  intro fr cs
  refine (tg_in X q n 8 (fr :: cs) w).then ?_
  rintro _ _ ⟨⟨u, rfl⟩, d, rfl⟩
  refine Walk.back ?_ d
  have loop : ∀ (r t : Nat) (s : Rs) (u : Nat → Value) (w : World), t + r = n → RI X s w → Bd X s ((X.k + 1) * r) →
      Walk Try.prog main (DR V) (fun g w' => ∃ v, (v = .tuple #[.int .i64 (togR X.ls X.k dl q 8 r t s).2.1, .int .i64 (togR X.ls X.k dl q 8 r t s).2.2] ∧ RI X (togR X.ls X.k dl q 8 r t s).1 w') ∧ g = G (fr.finish v) cs) (G (hdTg X sv q n 8 t u) (fr :: cs)) w := by
    intro r
    induction r with
    | zero =>
      intro t s u w ht I hb
      have ht : t = n := ht
      subst ht
      refine (tg_end X q t 8 u fr cs w).mono ?_
      rintro _ _ ⟨rfl, d, rfl⟩
      exact ⟨_, ⟨rfl, I.at d⟩, rfl⟩
    | succ r ih =>
      intro t s u w ht I hb
      rw [Nat.mul_succ] at hb
      have hb0 : Bd X s (X.k + 1) := hb.le (Nat.le_add_left _ _)
      unfold togR
      by_cases hc : t % 8 = 0
      · by_cases hal : s.al = true
        · rw [if_pos ⟨hc, hal⟩]
          refine (tg_8bal hA I hT hk hkm hb0 q n t (by omega) (by omega) hc hal u fr cs).mono ?_
          rintro _ _ ⟨rfl, I'⟩
          exact ⟨_, ⟨rfl, I'⟩, rfl⟩
        · have hal' : s.al = false := by simpa using hal
          rw [if_neg fun h => hal h.2, if_pos hc]
          by_cases hq : q ≤ limV X.ls (s.tick dl) dl X.k
          · rw [if_pos hq]
            refine (tg_8bhit hA I hT hk hkm hb0 q n t (by omega) (by omega) hc hal' hq u fr cs).mono ?_
            rintro _ _ ⟨rfl, I'⟩
            exact ⟨_, ⟨rfl, I'⟩, rfl⟩
          · rw [if_neg hq]
            refine (tg_8bgo hA I hT hk hkm hb0 q n t (by omega) (by omega) hc hal' hq u fr cs).then ?_
            rintro _ w' ⟨⟨u', rfl⟩, I'⟩
            exact ih (t + 1) _ u' w' (by omega) I' (Bd.lim hT.le X.k _ (Bd.tick hT.le hb))
      · rw [if_neg fun h => hc h.1, if_neg hc]
        by_cases hq : q ≤ limV X.ls s dl X.k
        · rw [if_pos hq]
          refine (tg_8ahit hA I hT hk hkm hb0 q n t (by omega) (by omega) hc hq u fr cs).mono ?_
          rintro _ _ ⟨rfl, I'⟩
          exact ⟨_, ⟨rfl, I'⟩, rfl⟩
        · rw [if_neg hq]
          refine (tg_8ago hA I hT hk hkm hb0 q n t (by omega) (by omega) hc hq u fr cs).then ?_
          rintro _ w' ⟨⟨u', rfl⟩, I'⟩
          exact ih (t + 1) _ u' w' (by omega) I' (Bd.lim hT.le X.k _ (hb.le (by omega)))
  exact loop n 0 s u w (Nat.zero_add _) I (hb.le (Nat.mul_le_mul_left _ hn))
end
end
end Go.Proofs.Ytgfajibjedfkdaa
