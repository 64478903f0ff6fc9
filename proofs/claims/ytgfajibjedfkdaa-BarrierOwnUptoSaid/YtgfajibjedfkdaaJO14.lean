/- Part 14. -/
import Derived.Test.YtgfajibjedfkdaaJO12
import Derived.Test.YtgfajibjedfkdaaJO13
set_option linter.unusedSimpArgs false
set_option linter.unusedVariables false
set_option linter.unusedVariables false
set_option maxHeartbeats 8000000
set_option maxRecDepth 100000
namespace Go.Proofs.Ytgfajibjedfkdaa
open Go.Conc Go.RowKit Go.Relay
open Go.ConcN (upd upd_ne upd_same)
section
noncomputable def reg42_0 := rg Try.f42.body [0]
noncomputable def reg42_1 := rg Try.f42.body [1, 0]
noncomputable def reg42_2 := rg Try.f42.body [1, 1, 0, 0]
noncomputable def reg42_3 := rg Try.f42.body [1, 1, 0, 1, 0, 0, 0]
noncomputable def reg42_4 := rg Try.f42.body [1, 1, 0, 1, 0, 0, 1, 1, 0, 0, 0, 0]
noncomputable def reg42_5 := rg Try.f42.body [1, 1, 0, 1, 0, 0, 1, 1, 0, 0, 0, 1, 0, 0]
noncomputable def reg42_6 := rg Try.f42.body [1, 1, 0, 1, 0, 0, 1, 1, 0, 0, 1, 0]
noncomputable def reg42_7 := rg Try.f42.body [1, 1, 0, 1, 0, 0, 1, 1, 0, 0, 1, 1, 0, 0]
noncomputable def reg42_8 := rg Try.f42.body [1, 1, 0, 1, 0, 0, 1, 1, 0, 0, 1, 1, 1, 0]
noncomputable def reg42_9 := rg Try.f42.body [1, 1, 0, 1, 0, 0, 1, 1, 0, 0, 1, 1, 1, 1, 0]
noncomputable def reg42_10 := rg Try.f42.body [1, 1, 0, 1, 0, 0, 1, 1, 0, 0, 1, 1, 1, 1, 1, 0]
noncomputable def reg42_11 := rg Try.f42.body [1, 1, 0, 1, 0, 0, 1, 1, 0, 0, 1, 1, 1, 1, 1, 1, 0, 0]
noncomputable def reg42_12 := rg Try.f42.body [1, 1, 0, 1, 0, 0, 1, 1, 1]
noncomputable def reg42_13 := rg Try.f42.body [1, 1, 1, 0]
theorem z42 : List.range reg42_0.size = [0, 1] ∧ List.range reg42_1.size = [0, 1, 2, 3, 4, 5] ∧ List.range reg42_2.size = [0, 1] ∧ List.range reg42_3.size = [0] ∧ List.range reg42_4.size = [0, 1, 2, 3, 4] ∧ List.range reg42_5.size = [0, 1] ∧ List.range reg42_6.size = [0, 1, 2, 3, 4, 5] ∧ List.range reg42_7.size = [0, 1, 2] ∧ List.range reg42_8.size = [0, 1, 2, 3] ∧ List.range reg42_9.size = [0, 1, 2] ∧ List.range reg42_10.size = [0, 1, 2] ∧ List.range reg42_11.size = [0, 1, 2] ∧ List.range reg42_12.size = [0, 1] ∧ List.range reg42_13.size = [0, 1] := by refine ⟨?_, ?_, ?_, ?_, ?_, ?_, ?_, ?_, ?_, ?_, ?_, ?_, ?_, ?_⟩ <;> kernel_rfl
theorem code42_is : Try.f42.body = some (.seq (.region 0 reg42_0 false) (.seq (.region 1 reg42_1 false) (.seq (.seq (.region 2 reg42_2 false) (.block 0 (.loop (.seq (.region 3 reg42_3 false) (.seq (.cond (.tmp 19 ) (.skip) (.exit 0)) (.seq (.block 1 (.seq (.seq (.region 4 reg42_4 false) (.cond (.tmp 24 ) (.seq (.region 5 reg42_5 false) (.ret)) (.skip))) (.seq (.region 6 reg42_6 false) (.seq (.seq (.region 7 reg42_7 false) (.cond (.tmp 32 ) (.exit 1) (.skip))) (.seq (.region 8 reg42_8 false) (.seq (.region 9 reg42_9 false) (.seq (.region 10 reg42_10 false) (.cond (.tmp 40 ) (.seq (.region 11 reg42_11 false) (.ret)) (.skip))))))))) (.region 12 reg42_12 false))))))) (.seq (.region 13 reg42_13 false) (.ret))))) := by kernel_rfl
noncomputable def hdOn (X : RX) (sv : Value) (q : Int) (sl : Value) (m : Int) (n t : Nat) (u : Nat → Value) : Frame :=
  (base 42).at { tmps := #[.pointer (some ⟨X.bb, 0, none⟩), sv, .int .i64 q, u 3, u 4, u 5, u 6, u 7, u 8, u 9, sl, .int .i64 m, u 12, u 13, u 14, u 15, u 16, .int .i64 n, .int .i64 t, u 19, u 20, u 21, u 22, u 23, u 24, u 25, u 26, u 27, u 28, u 29, u 30, u 31, u 32, u 33, u 34, u 35, u 36, u 37, u 38, u 39, u 40, u 41, u 42], defers := [] } [.code (.seq (.region 3 reg42_3 false) (.seq (.cond (.tmp 19 ) (.skip) (.exit 0)) (.seq (.block 1 (.seq (.seq (.region 4 reg42_4 false) (.cond (.tmp 24 ) (.seq (.region 5 reg42_5 false) (.ret)) (.skip))) (.seq (.region 6 reg42_6 false) (.seq (.seq (.region 7 reg42_7 false) (.cond (.tmp 32 ) (.exit 1) (.skip))) (.seq (.region 8 reg42_8 false) (.seq (.region 9 reg42_9 false) (.seq (.region 10 reg42_10 false) (.cond (.tmp 40 ) (.seq (.region 11 reg42_11 false) (.ret)) (.skip))))))))) (.region 12 reg42_12 false)))), .inLoop (.seq (.region 3 reg42_3 false) (.seq (.cond (.tmp 19 ) (.skip) (.exit 0)) (.seq (.block 1 (.seq (.seq (.region 4 reg42_4 false) (.cond (.tmp 24 ) (.seq (.region 5 reg42_5 false) (.ret)) (.skip))) (.seq (.region 6 reg42_6 false) (.seq (.seq (.region 7 reg42_7 false) (.cond (.tmp 32 ) (.exit 1) (.skip))) (.seq (.region 8 reg42_8 false) (.seq (.region 9 reg42_9 false) (.seq (.region 10 reg42_10 false) (.cond (.tmp 40 ) (.seq (.region 11 reg42_11 false) (.ret)) (.skip))))))))) (.region 12 reg42_12 false)))), .inBlock 0, .code (.seq (.region 13 reg42_13 false) (.ret))]
theorem huSrc : Try.prog.underlying 25 = some (.slice 32) := by kernel_rfl
theorem tiSrc : ∃ ti, Try.prog.info? 32 = some ti ∧ ti.size = 1 ∧ ti.zero = some .nilIface ∧ ti.bytes = 16 := by
  obtain ⟨ti, h⟩ := Option.isSome_iff_exists.1 (show (Try.prog.info? 32).isSome = true by kernel_rfl)
  have h2 : (Try.prog.info? 32).map (·.size) = some 1 := by kernel_rfl
  have h3 : (Try.prog.info? 32).map (·.zero) = some (some .nilIface) := by kernel_rfl
  have h4 : (Try.prog.info? 32).map (·.bytes) = some 16 := by kernel_rfl
  rw [h] at h2 h3 h4
  exact ⟨ti, h, Option.some.inj h2, Option.some.inj h3, Option.some.inj h4⟩
section
variable {main : Bool} {V : Nat → Option Wait} {X : RX} {s : Rs} {w : World} {sv : Value} {dl : Nat}
theorem on_in (I : RI X s w) (hk : 0 < X.k) (q : Int) (n : Nat) (cs : List Frame) :
    Walk Try.prog main (DR V) (fun g w' => (∃ u, g = G (hdOn X sv q (.slice (some ⟨X.g, 0, none⟩) X.k X.sc) 9223372036854775807 n 0 u) cs) ∧ RI X s w') (G (Frame.enter Try.prog 42 #[.pointer (some ⟨X.bb, 0, none⟩), sv, .int .i64 q, .int .i64 n] .normal) cs) w := by
  have hc := I.slCell
  obtain ⟨esa, _⟩ := I.srcs hk
  rw [esa] at hc
  clear esa hk
  rw [enter_at _ Try.func42 code42_is]
  simp only [Try.ntmps42, ez, Nat.reduceAdd, Nat.reduceSub]
  repeat (first | refine Walk.cx ?_ | (refine Walk.cReg ?_; simp only [z42]) | (refine Walk.oq ?_; try walk_nrm) | (refine Walk.un ?_; walk_nrm))
  refine Walk.ctl rfl (fun w => stepG_loop) ?_
  refine .stop fun d => ⟨at_slots ?_, I.at d⟩
  simp only [hdOn]
  rfl
theorem on_end (X : RX) (q m : Int) (sl : Value) (n : Nat) (u : Nat → Value) (c : Frame) (cs : List Frame) (w : World) :
    Walk Try.prog main (DR V) (fun g w' => g = G (c.finish (.tuple #[.int .i64 0, .int .i64 4])) cs ∧ ∃ d, w' = w.at d) (G (hdOn X sv q sl m n n u) (c :: cs)) w := by
  have hi1 : decide ((n : Int) < n) = false := by simp
  have hi3 : decide (n < n) = false := by simp
  unfold hdOn
  repeat (first | refine Walk.cx ?_ | (refine Walk.cReg ?_; simp only [z42]) | (refine Walk.oq ?_; try walk_nrm) | (refine Walk.un ?_; walk_nrm))
  exact Walk.on2 rfl rfl Try.func42 rfl (.stop fun d => ⟨rfl, d, rfl⟩)
theorem on_al (hA : ∀ b, Apart V b) (I : RI X s w) (hT : Tk X sv dl) (hkm : X.k ≤ 1000000) (hb : Bd X s 2) (q m : Int) (n t j y cp : Nat) (hj : j + (1 + y) = X.k) (hcp : 1 + y ≤ cp) (htn : t < n) (hn : n ≤ 1048576) (hal : s.al = true) (u : Nat → Value) (c : Frame) (cs : List Frame) :
    Walk Try.prog main (DR V) (fun g w' => g = G (c.finish (.tuple #[.int .i64 0, .int .i64 5])) cs ∧ RI X (s.tick dl) w') (G (hdOn X sv q (.slice (some ⟨X.g, j, none⟩) (1 + y) cp) m n t u) (c :: cs)) w := by
  have hi1 : decide ((t : Int) < n) = true := by simp; omega
  have hi3 : decide (t < n) = true := by simp; omega
  have hi4 : (t : Int) < n := by omega
  have hw1 : IntKind.wrap .i64 ((t : Int) + 1) = (t : Int) + 1 := by rw [IntKind.wrap_i64]; omega
  have hcc : ((t + 1 : Nat) : Int) = (t : Int) + 1 := by simp
  have hfl := fload15 (main := main) hA I (by have := hb.1; omega) hT
  rw [hal] at hfl
  clear hb hal I
  conv => arg 5; unfold hdOn
  repeat (first | refine Walk.cx ?_ | (refine Walk.cReg ?_; simp only [z42]) | (refine Walk.oq ?_; try walk_nrm) | (refine Walk.un ?_; walk_nrm))
  refine Walk.callW (Post := fun v w' => v = .bool true ∧ RI X (s.tick dl) w') ?_ (ho_of (by conv => lhs; whnf) (by kernel_rfl)) (by rfl) (by decide) rfl Try.func44 (by kernel_rfl) (by rfl) ?_
  · try walk_nrm
    exact hfl
  rintro v w1 ⟨rfl, I1⟩
  clear hfl
  walk_nrm
  repeat (first | refine Walk.cx ?_ | (refine Walk.cReg ?_; simp only [z42]) | (refine Walk.oq ?_; try walk_nrm) | (refine Walk.un ?_; walk_nrm))
  exact Walk.on2 rfl rfl Try.func42 rfl (.stop fun d => ⟨rfl, I1.at d⟩)
theorem on_lt (hA : ∀ b, Apart V b) (I : RI X s w) (hT : Tk X sv dl) (hkm : X.k ≤ 1000000) (hb : Bd X s 2) (q m : Int) (n t j y cp : Nat) (hj : j + (1 + y) = X.k) (hcp : 1 + y ≤ cp) (htn : t < n) (hn : n ≤ 1048576) (hal : s.al = false) (hq : (rvl (X.ls j) ((s.tick dl).ld j)) < q) (u : Nat → Value) (c : Frame) (cs : List Frame) :
    Walk Try.prog main (DR V) (fun g w' => (∃ u, g = G (hdOn X sv q (.slice (some ⟨X.g, j, none⟩) (1 + y) cp) m n (t + 1) u) (c :: cs)) ∧ RI X ((s.tick dl).load dl j) w') (G (hdOn X sv q (.slice (some ⟨X.g, j, none⟩) (1 + y) cp) m n t u) (c :: cs)) w := by
  have hi1 : decide ((t : Int) < n) = true := by simp; omega
  have hi3 : decide (t < n) = true := by simp; omega
  have hi4 : (t : Int) < n := by omega
  have hw1 : IntKind.wrap .i64 ((t : Int) + 1) = (t : Int) + 1 := by rw [IntKind.wrap_i64]; omega
  have hcc : ((t + 1 : Nat) : Int) = (t : Int) + 1 := by simp
  have hfl := fload15 (main := main) hA I (by have := hb.1; omega) hT
  rw [hal] at hfl
  have hb1 : Bd X (s.tick dl) 1 := Bd.tick hT.le hb
  have hjk : j < X.k := by omega
  obtain ⟨ti, hti, htz, _, _⟩ := tiSrc
  obtain ⟨a', ha', hf⟩ := run_from huSrc hti htz X.g j 1 y cp hcp
  have hs1 : ∀ w, (Instr.sliceAt 25 (.slice (some ⟨X.g, j, none⟩) (1 + y) cp) (some (.int .i64 1)) none none).run Try.prog w = .ok (.slice a' y (cp - 1)) w := fun w => by simpa using (hf w #[]).1
  have hs2 : ∀ w es, (Instr.sliceAt 25 (.slice (some ⟨X.g, j, none⟩) (1 + y) cp) (some (.int .i64 1)) none none).events Try.prog w es = es := fun w es => by simpa using (hf w es).2
  have h0n : 0 < 1 + y := by omega
  have h0i : (0 : Int) < ((1 + y : Nat) : Int) := by omega
  obtain ⟨L, hL⟩ : ∃ L, 1 + y = L := ⟨_, rfl⟩
  rw [hL] at hs1 hs2 h0n h0i ⊢
  clear hf hcp hj hL
  have hlt : decide ((rvl (X.ls j) ((s.tick dl).ld j)) < q) = true := by simpa using hq
  clear hq
  clear hb hal I
  conv => arg 5; unfold hdOn
  repeat (first | refine Walk.cx ?_ | (refine Walk.cReg ?_; simp only [z42]) | (refine Walk.oq ?_; try walk_nrm) | (refine Walk.un ?_; walk_nrm))
  refine Walk.callW (Post := fun v w' => v = .bool false ∧ RI X (s.tick dl) w') ?_ (ho_of (by conv => lhs; whnf) (by kernel_rfl)) (by rfl) (by decide) rfl Try.func44 (by kernel_rfl) (by rfl) ?_
  · try walk_nrm
    exact hfl
  rintro v w1 ⟨rfl, I1⟩
  clear hfl
  have hld := rload15 (main := main) hA I1 (by have := hb1.1; omega) j hjk (by have := hb1.2 j hjk; omega) hT
  obtain ⟨_, arr, x1, x2⟩ := I1.srcs (by omega)
  have hc : w1.cell? ⟨X.g, j, none⟩ = some (srcV (X.rb j)) := (cell_of x1 j).trans (x2 j hjk)
  unfold srcV at hc
  have hmn := @events_min_ints Try.prog
  clear x1 x2 hb1 I1 hjk hkm
  walk_nrm
  repeat (first | refine Walk.cx ?_ | (refine Walk.cReg ?_; simp only [z42]) | (refine Walk.oq ?_; try walk_nrm) | (refine Walk.un ?_; walk_nrm))
  refine Walk.invokeM1 und15r row15r (X.rb j) 0 (Post := fun v w' => v = .int .i64 (rvl (X.ls j) ((s.tick dl).ld j)) ∧ RI X ((s.tick dl).load dl j) w') ?_ (ho_of (by conv => lhs; whnf) (by kernel_rfl)) (by rfl) (by decide) rfl rfl Try.func168 (by kernel_rfl) (by rfl) ?_
  · try walk_nrm
    exact hld
  rintro v w2 ⟨rfl, I2⟩
  clear hld hc
  generalize (rvl (X.ls j) ((s.tick dl).ld j)) = z at *
  generalize ((s.tick dl).load dl j) = s' at *
  walk_nrm
  repeat (first | refine Walk.cx ?_ | (refine Walk.cReg ?_; simp only [z42]) | (refine Walk.oq ?_; try walk_nrm) | (refine Walk.un ?_; walk_nrm))
  refine Walk.ctl rfl (fun w => stepG_inLoop) ?_
  refine .stop fun d => ⟨at_slots ?_, I2.at d⟩
  simp only [hdOn, hcc]
  rfl
theorem on_last (hA : ∀ b, Apart V b) (I : RI X s w) (hT : Tk X sv dl) (hkm : X.k ≤ 1000000) (hb : Bd X s 2) (q m : Int) (n t j y cp : Nat) (hj : j + (1 + y) = X.k) (hcp : 1 + y ≤ cp) (htn : t < n) (hn : n ≤ 1048576) (hal : s.al = false) (hq : ¬ (rvl (X.ls j) ((s.tick dl).ld j)) < q) (hy : y = 0) (u : Nat → Value) (c : Frame) (cs : List Frame) :
    Walk Try.prog main (DR V) (fun g w' => g = G (c.finish (.tuple #[.int .i64 (min m (rvl (X.ls j) ((s.tick dl).ld j))), .int .i64 0])) cs ∧ RI X ((s.tick dl).load dl j) w') (G (hdOn X sv q (.slice (some ⟨X.g, j, none⟩) (1 + y) cp) m n t u) (c :: cs)) w := by
  have hi1 : decide ((t : Int) < n) = true := by simp; omega
  have hi3 : decide (t < n) = true := by simp; omega
  have hi4 : (t : Int) < n := by omega
  have hw1 : IntKind.wrap .i64 ((t : Int) + 1) = (t : Int) + 1 := by rw [IntKind.wrap_i64]; omega
  have hcc : ((t + 1 : Nat) : Int) = (t : Int) + 1 := by simp
  have hfl := fload15 (main := main) hA I (by have := hb.1; omega) hT
  rw [hal] at hfl
  have hb1 : Bd X (s.tick dl) 1 := Bd.tick hT.le hb
  have hjk : j < X.k := by omega
  obtain ⟨ti, hti, htz, _, _⟩ := tiSrc
  obtain ⟨a', ha', hf⟩ := run_from huSrc hti htz X.g j 1 y cp hcp
  have hs1 : ∀ w, (Instr.sliceAt 25 (.slice (some ⟨X.g, j, none⟩) (1 + y) cp) (some (.int .i64 1)) none none).run Try.prog w = .ok (.slice a' y (cp - 1)) w := fun w => by simpa using (hf w #[]).1
  have hs2 : ∀ w es, (Instr.sliceAt 25 (.slice (some ⟨X.g, j, none⟩) (1 + y) cp) (some (.int .i64 1)) none none).events Try.prog w es = es := fun w es => by simpa using (hf w es).2
  have h0n : 0 < 1 + y := by omega
  have h0i : (0 : Int) < ((1 + y : Nat) : Int) := by omega
  obtain ⟨L, hL⟩ : ∃ L, 1 + y = L := ⟨_, rfl⟩
  rw [hL] at hs1 hs2 h0n h0i ⊢
  clear hf hcp hj hL
  have hlt : decide ((rvl (X.ls j) ((s.tick dl).ld j)) < q) = false := by simpa using hq
  clear hq
  subst hy
  clear hb hal I
  conv => arg 5; unfold hdOn
  repeat (first | refine Walk.cx ?_ | (refine Walk.cReg ?_; simp only [z42]) | (refine Walk.oq ?_; try walk_nrm) | (refine Walk.un ?_; walk_nrm))
  refine Walk.callW (Post := fun v w' => v = .bool false ∧ RI X (s.tick dl) w') ?_ (ho_of (by conv => lhs; whnf) (by kernel_rfl)) (by rfl) (by decide) rfl Try.func44 (by kernel_rfl) (by rfl) ?_
  · try walk_nrm
    exact hfl
  rintro v w1 ⟨rfl, I1⟩
  clear hfl
  have hld := rload15 (main := main) hA I1 (by have := hb1.1; omega) j hjk (by have := hb1.2 j hjk; omega) hT
  obtain ⟨_, arr, x1, x2⟩ := I1.srcs (by omega)
  have hc : w1.cell? ⟨X.g, j, none⟩ = some (srcV (X.rb j)) := (cell_of x1 j).trans (x2 j hjk)
  unfold srcV at hc
  have hmn := @events_min_ints Try.prog
  clear x1 x2 hb1 I1 hjk hkm
  walk_nrm
  repeat (first | refine Walk.cx ?_ | (refine Walk.cReg ?_; simp only [z42]) | (refine Walk.oq ?_; try walk_nrm) | (refine Walk.un ?_; walk_nrm))
  refine Walk.invokeM1 und15r row15r (X.rb j) 0 (Post := fun v w' => v = .int .i64 (rvl (X.ls j) ((s.tick dl).ld j)) ∧ RI X ((s.tick dl).load dl j) w') ?_ (ho_of (by conv => lhs; whnf) (by kernel_rfl)) (by rfl) (by decide) rfl rfl Try.func168 (by kernel_rfl) (by rfl) ?_
  · try walk_nrm
    exact hld
  rintro v w2 ⟨rfl, I2⟩
  clear hld hc
  generalize (rvl (X.ls j) ((s.tick dl).ld j)) = z at *
  generalize ((s.tick dl).load dl j) = s' at *
  walk_nrm
  repeat (first | refine Walk.cx ?_ | (refine Walk.cReg ?_; simp only [z42]) | (refine Walk.oq ?_; try walk_nrm) | (refine Walk.un ?_; walk_nrm))
  exact Walk.on2 rfl rfl Try.func42 rfl (.stop fun d => ⟨rfl, I2.at d⟩)
theorem on_next (hA : ∀ b, Apart V b) (I : RI X s w) (hT : Tk X sv dl) (hkm : X.k ≤ 1000000) (hb : Bd X s 2) (q m : Int) (n t j y cp : Nat) (hj : j + (1 + y) = X.k) (hcp : 1 + y ≤ cp) (htn : t < n) (hn : n ≤ 1048576) (hal : s.al = false) (hq : ¬ (rvl (X.ls j) ((s.tick dl).ld j)) < q) (hy : 0 < y) (u : Nat → Value) (c : Frame) (cs : List Frame) :
    Walk Try.prog main (DR V) (fun g w' => (∃ u, g = G (hdOn X sv q (.slice (some ⟨X.g, j + 1, none⟩) y (cp - 1)) (min m (rvl (X.ls j) ((s.tick dl).ld j))) n (t + 1) u) (c :: cs)) ∧ RI X ((s.tick dl).load dl j) w') (G (hdOn X sv q (.slice (some ⟨X.g, j, none⟩) (1 + y) cp) m n t u) (c :: cs)) w := by
  have hi1 : decide ((t : Int) < n) = true := by simp; omega
  have hi3 : decide (t < n) = true := by simp; omega
  have hi4 : (t : Int) < n := by omega
  have hw1 : IntKind.wrap .i64 ((t : Int) + 1) = (t : Int) + 1 := by rw [IntKind.wrap_i64]; omega
  have hcc : ((t + 1 : Nat) : Int) = (t : Int) + 1 := by simp
  have hfl := fload15 (main := main) hA I (by have := hb.1; omega) hT
  rw [hal] at hfl
  have hb1 : Bd X (s.tick dl) 1 := Bd.tick hT.le hb
  have hjk : j < X.k := by omega
  obtain ⟨ti, hti, htz, _, _⟩ := tiSrc
  obtain ⟨a', ha', hf⟩ := run_from huSrc hti htz X.g j 1 y cp hcp
  have hs1 : ∀ w, (Instr.sliceAt 25 (.slice (some ⟨X.g, j, none⟩) (1 + y) cp) (some (.int .i64 1)) none none).run Try.prog w = .ok (.slice a' y (cp - 1)) w := fun w => by simpa using (hf w #[]).1
  have hs2 : ∀ w es, (Instr.sliceAt 25 (.slice (some ⟨X.g, j, none⟩) (1 + y) cp) (some (.int .i64 1)) none none).events Try.prog w es = es := fun w es => by simpa using (hf w es).2
  have h0n : 0 < 1 + y := by omega
  have h0i : (0 : Int) < ((1 + y : Nat) : Int) := by omega
  obtain ⟨L, hL⟩ : ∃ L, 1 + y = L := ⟨_, rfl⟩
  rw [hL] at hs1 hs2 h0n h0i ⊢
  clear hf hcp hj hL
  have hlt : decide ((rvl (X.ls j) ((s.tick dl).ld j)) < q) = false := by simpa using hq
  clear hq
  obtain rfl := ha' hy
  have hy0 : ((y : Int) == 0) = false := by rw [beq_eq_false_iff_ne]; omega
  clear hy ha'
  clear hb hal I
  conv => arg 5; unfold hdOn
  repeat (first | refine Walk.cx ?_ | (refine Walk.cReg ?_; simp only [z42]) | (refine Walk.oq ?_; try walk_nrm) | (refine Walk.un ?_; walk_nrm))
  refine Walk.callW (Post := fun v w' => v = .bool false ∧ RI X (s.tick dl) w') ?_ (ho_of (by conv => lhs; whnf) (by kernel_rfl)) (by rfl) (by decide) rfl Try.func44 (by kernel_rfl) (by rfl) ?_
  · try walk_nrm
    exact hfl
  rintro v w1 ⟨rfl, I1⟩
  clear hfl
  have hld := rload15 (main := main) hA I1 (by have := hb1.1; omega) j hjk (by have := hb1.2 j hjk; omega) hT
  obtain ⟨_, arr, x1, x2⟩ := I1.srcs (by omega)
  have hc : w1.cell? ⟨X.g, j, none⟩ = some (srcV (X.rb j)) := (cell_of x1 j).trans (x2 j hjk)
  unfold srcV at hc
  have hmn := @events_min_ints Try.prog
  clear x1 x2 hb1 I1 hjk hkm
  walk_nrm
  repeat (first | refine Walk.cx ?_ | (refine Walk.cReg ?_; simp only [z42]) | (refine Walk.oq ?_; try walk_nrm) | (refine Walk.un ?_; walk_nrm))
  refine Walk.invokeM1 und15r row15r (X.rb j) 0 (Post := fun v w' => v = .int .i64 (rvl (X.ls j) ((s.tick dl).ld j)) ∧ RI X ((s.tick dl).load dl j) w') ?_ (ho_of (by conv => lhs; whnf) (by kernel_rfl)) (by rfl) (by decide) rfl rfl Try.func168 (by kernel_rfl) (by rfl) ?_
  · try walk_nrm
    exact hld
  rintro v w2 ⟨rfl, I2⟩
  clear hld hc
  generalize (rvl (X.ls j) ((s.tick dl).ld j)) = z at *
  generalize ((s.tick dl).load dl j) = s' at *
  walk_nrm
  repeat (first | refine Walk.cx ?_ | (refine Walk.cReg ?_; simp only [z42]) | (refine Walk.oq ?_; try walk_nrm) | (refine Walk.un ?_; walk_nrm))
  refine Walk.ctl rfl (fun w => stepG_inLoop) ?_
  refine .stop fun d => ⟨at_slots ?_, I2.at d⟩
  simp only [hdOn, hcc]
  rfl
theorem oneByOne15 (hA : ∀ b, Apart V b) (hT : Tk X sv dl) (hk : 0 < X.k) (hkm : X.k ≤ 1000000) (q : Int) (n : Nat) (hn : n ≤ 1024) (I : RI X s w) (hb : Bd X s (2 * 1024)) :
    CallW Try.prog main V 42 #[.pointer (some ⟨X.bb, 0, none⟩), sv, .int .i64 q, .int .i64 n] w (fun v w' => v = .tuple #[.int .i64 (oneR X.ls X.k dl q n 0 9223372036854775807 s).2.1, .int .i64 (oneR X.ls X.k dl q n 0 9223372036854775807 s).2.2] ∧ RI X (oneR X.ls X.k dl q n 0 9223372036854775807 s).1 w') := by
  intro fr cs
  have hcap := I.cap
  refine (on_in I hk q n (fr :: cs)).then ?_
  rintro _ w1 ⟨⟨u, rfl⟩, I1⟩
  have loop : ∀ (r t j y cp : Nat) (m : Int) (s : Rs) (u : Nat → Value) (w : World), t + r = n → j + (1 + y) = X.k → 1 + y ≤ cp → RI X s w → Bd X s (2 * r) →
      Walk Try.prog main (DR V) (fun g w' => ∃ v, (v = .tuple #[.int .i64 (oneR X.ls X.k dl q r j m s).2.1, .int .i64 (oneR X.ls X.k dl q r j m s).2.2] ∧ RI X (oneR X.ls X.k dl q r j m s).1 w') ∧ g = G (fr.finish v) cs) (G (hdOn X sv q (.slice (some ⟨X.g, j, none⟩) (1 + y) cp) m n t u) (fr :: cs)) w := by
    intro r
    induction r with
    | zero =>
      intro t j y cp m s u w ht hj hcp I hb
      have ht : t = n := ht
      subst ht
      refine (on_end X q m _ t u fr cs w).mono ?_
      rintro _ _ ⟨rfl, d, rfl⟩
      exact ⟨_, ⟨rfl, I.at d⟩, rfl⟩
    | succ r ih =>
      intro t j y cp m s u w ht hj hcp I hb
      have hb0 : Bd X s 2 := hb.le (by omega)
      have hb2 : Bd X ((s.tick dl).load dl j) (2 * r) := Bd.load hT.le (Bd.tick hT.le (hb.le (by omega)))
      unfold oneR
      by_cases hal : s.al = true
      · rw [if_pos hal]
        refine (on_al hA I hT hkm hb0 q m n t j y cp hj hcp (by omega) (by omega) hal u fr cs).mono ?_
        rintro _ _ ⟨rfl, I'⟩
        exact ⟨_, ⟨rfl, I'⟩, rfl⟩
      · have hal' : s.al = false := by simpa using hal
        rw [if_neg hal]
        by_cases hq : rvl (X.ls j) ((s.tick dl).ld j) < q
        · rw [if_pos hq]
          refine (on_lt hA I hT hkm hb0 q m n t j y cp hj hcp (by omega) (by omega) hal' hq u fr cs).then ?_
          rintro _ w' ⟨⟨u', rfl⟩, I'⟩
          exact ih (t + 1) j y cp m _ u' w' (by omega) hj hcp I' hb2
        · rw [if_neg hq]
          by_cases hy : y = 0
          · rw [if_pos (by omega)]
            refine (on_last hA I hT hkm hb0 q m n t j y cp hj hcp (by omega) (by omega) hal' hq hy u fr cs).mono ?_
            rintro _ _ ⟨rfl, I'⟩
            exact ⟨_, ⟨rfl, I'⟩, rfl⟩
          · rw [if_neg (by omega)]
            obtain ⟨y', rfl⟩ : ∃ y', y = 1 + y' := ⟨y - 1, by omega⟩
            refine (on_next hA I hT hkm hb0 q m n t j (1 + y') cp hj hcp (by omega) (by omega) hal' hq (by omega) u fr cs).then ?_
            rintro _ w' ⟨⟨u', rfl⟩, I'⟩
            exact ih (t + 1) (j + 1) y' (cp - 1) _ _ u' w' (by omega) (by omega) (by omega) I' hb2
  obtain ⟨y, hy⟩ : ∃ y, X.k = 1 + y := ⟨X.k - 1, by omega⟩
  have := loop n 0 0 y X.sc 9223372036854775807 s u w1 (Nat.zero_add _) (by omega) (by omega) I1 (hb.le (by omega))
  rw [← hy] at this
  exact this
end
end
end Go.Proofs.Ytgfajibjedfkdaa
