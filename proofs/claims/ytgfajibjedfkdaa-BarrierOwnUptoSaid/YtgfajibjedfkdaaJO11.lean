/- Part 11. -/
import Derived.Test.YtgfajibjedfkdaaJO5
import Derived.Test.YtgfajibjedfkdaaJO10
import Derived.Conc.AtomicLaws2
set_option linter.unusedSimpArgs false
set_option linter.unusedVariables false
set_option maxHeartbeats 8000000
set_option maxRecDepth 100000
namespace Go.Proofs.Ytgfajibjedfkdaa
open Go.Conc Go.RowKit Go.Relay
open Go.ConcN (upd upd_ne upd_same)
section
section
variable {main : Bool} {V : Nat → Option Wait} {X : RX} {s : Rs} {w : World} {sv : Value} {dl : Nat}
theorem atLoadB (b q : Nat) (x : Bool) (w : World) (hc : w.cell? ⟨b, q, none⟩ = some (.int .u32 (alV x))) : CallV Try.prog main V 174 #[.pointer (some ⟨b, q, none⟩)] w (.bool x) w := by
  have hx : (alV x != 0) = x := by cases x <;> rfl
  generalize alV x = z at *
  refine callW_in Try.func174 code174_is fun fr cs => ?_
  simp only [Try.ntmps174, ez, Nat.reduceAdd, Nat.reduceSub]
  repeat (first | refine Walk.cx ?_ | (refine Walk.cReg ?_; simp only [z174]) | (refine Walk.oq ?_; try walk_nrm) | (refine Walk.un ?_; walk_nrm))
  refine Walk.evs (fun _ => #[⟨.cell ⟨b, q, none⟩, false, true⟩]) rfl (fun d => stepG_load_atomic (w := w.at d) (ho_of (by conv => lhs; whnf) (by kernel_rfl)) (by rfl) (by decide) rfl Try.func175 (by kernel_rfl) (by rfl) (by kernel_rfl) .u32 (by kernel_rfl) rfl hc) (fun d e he => by simp at he; subst he; exact evR_read _ _) ?_
  walk_nrm
  repeat (first | refine Walk.cx ?_ | (refine Walk.cReg ?_; simp only [z174]) | (refine Walk.oq ?_; try walk_nrm) | (refine Walk.un ?_; walk_nrm))
  exact Walk.ret1 rfl rfl Try.func174 rfl fun d => ⟨rfl, d, rfl⟩
theorem run_ifaceAB (a : Option Addr) (w : World) : (Instr.makeInterface 152 (.pointer a)).run Try.prog w = .ok (.iface 152 (.pointer a)) w := by simp [Instr.makeInterface, run_underlying undABool]
theorem ev_ifaceAB (a : Option Addr) (w : World) (es : Array Event) : (Instr.makeInterface 152 (.pointer a)).events Try.prog w es = es := by simp [Instr.makeInterface, run_underlying undABool]
theorem RI.alCell (I : RI X s w) : w.cell? ⟨X.bb, 1, none⟩ = some (.int .u32 (alV s.al)) ∧ w.frozen? ⟨X.bb, 1, none⟩ = false := ⟨(cell_of I.bar 1).trans rfl, frozen_of I.bar 1⟩
theorem holdsB (hA : ∀ b, Apart V b) (I : RI X s w) (hb : s.n < 1152921504606846976) (hT : Tk X sv dl) :
    CallW Try.prog main V 77 #[sv, .pointer (some ⟨X.bb, 1, none⟩)] w (fun v w' => v = .bool s.al ∧ RI X (s.tick dl) w') := by
  have hs := step15 (main := main) hA I hb hT
  have hi1 := run_ifaceAB
  have hi2 := ev_ifaceAB
  clear I hb hT
  refine callW_in Try.func77 code77_is fun fr cs => ?_
  simp only [Try.ntmps77, ez, Nat.reduceAdd, Nat.reduceSub]
  repeat (first | refine Walk.cx ?_ | (refine Walk.cReg ?_; simp only [z77]) | (refine Walk.oq ?_; try walk_nrm) | (refine Walk.un ?_; walk_nrm))
  refine Walk.callW (Post := fun v w' => v = .tuple #[] ∧ RI X (s.tick dl) w') ?_ (ho_of (by conv => lhs; whnf) (by kernel_rfl)) (by rfl) (by decide) rfl Try.func78 (by kernel_rfl) (by rfl) ?_
  · try walk_nrm
    exact hs
  rintro v w1 ⟨rfl, I1⟩
  clear hs
  have hld := atLoadB (main := main) (V := V) X.bb 1 s.al w1 I1.alCell.1
  walk_nrm
  repeat (first | refine Walk.cx ?_ | (refine Walk.cReg ?_; simp only [z77]) | (refine Walk.oq ?_; try walk_nrm) | (refine Walk.un ?_; walk_nrm))
  refine Walk.invokeM undABool rowABool X.bb 1 (Post := fun v w' => v = .bool s.al ∧ ∃ d, w' = w1.at d) ?_ (ho_of (by conv => lhs; whnf) (by kernel_rfl)) (by rfl) (by decide) rfl rfl Try.func174 (by kernel_rfl) (by rfl) ?_
  · try walk_nrm
    exact hld
  rintro v w2 ⟨rfl, d, rfl⟩
  clear hld
  refine Walk.back ?_ d
  generalize s.al = x at *
  walk_nrm
  repeat (first | refine Walk.cx ?_ | (refine Walk.cReg ?_; simp only [z77]) | (refine Walk.oq ?_; try walk_nrm) | (refine Walk.un ?_; walk_nrm))
  exact Walk.on1 rfl rfl Try.func77 rfl (.stop fun d => ⟨_, ⟨rfl, I1.at d⟩, rfl⟩)
theorem fload15 (hA : ∀ b, Apart V b) (I : RI X s w) (hb : s.n < 1152921504606846976) (hT : Tk X sv dl) :
    CallW Try.prog main V 44 #[.pointer (some ⟨X.bb, 1, none⟩), sv] w (fun v w' => v = .bool s.al ∧ RI X (s.tick dl) w') := by
  have hh := holdsB (main := main) hA I hb hT
  clear I hb hT
  have hp1 := fun w => run_eql_ptr (P := Try.prog) 150 undFlag (some ⟨X.bb, 1, none⟩) w
  have hp2 := fun w es => ev_eql_ptr (P := Try.prog) 150 undFlag (some ⟨X.bb, 1, none⟩) w es
  simp only [Option.isNone_some] at hp1
  refine callW_in Try.func44 code44_is fun fr cs => ?_
  simp only [Try.ntmps44, ez, Nat.reduceAdd, Nat.reduceSub]
  repeat (first | refine Walk.cx ?_ | (refine Walk.cReg ?_; simp only [z44]) | (refine Walk.oq ?_; try walk_nrm) | (refine Walk.un ?_; walk_nrm))
  refine Walk.callW (Post := fun v w' => v = .bool s.al ∧ RI X (s.tick dl) w') ?_ (ho_of (by conv => lhs; whnf) (by kernel_rfl)) (by rfl) (by decide) rfl Try.func77 (by kernel_rfl) (by rfl) ?_
  · try walk_nrm
    exact hh
  rintro v w1 ⟨rfl, I1⟩
  clear hh hp1 hp2
  generalize s.al = x at *
  walk_nrm
  repeat (first | refine Walk.cx ?_ | (refine Walk.cReg ?_; simp only [z44]) | (refine Walk.oq ?_; try walk_nrm) | (refine Walk.un ?_; walk_nrm))
  exact Walk.on1 rfl rfl Try.func44 rfl (.stop fun d => ⟨_, ⟨rfl, I1.at d⟩, rfl⟩)
end
end
section
noncomputable def reg41_0 := rg Try.f41.body [0]
noncomputable def reg41_1 := rg Try.f41.body [1, 0]
theorem z41 : List.range reg41_0.size = [0] ∧ List.range reg41_1.size = [0, 1, 2, 3, 4, 5, 6, 7, 8, 9, 10] := by refine ⟨?_, ?_⟩ <;> kernel_rfl
theorem code41_is : Try.f41.body = some (.seq (.region 0 reg41_0 false) (.seq (.region 1 reg41_1 false) (.ret))) := by kernel_rfl
noncomputable def reg15_0 := rg Try.f15.body [0]
noncomputable def reg15_1 := rg Try.f15.body [1, 0, 0]
noncomputable def reg15_2 := rg Try.f15.body [1, 0, 1, 0, 0]
noncomputable def reg15_3 := rg Try.f15.body [1, 1, 0]
noncomputable def reg15_4 := rg Try.f15.body [1, 1, 1, 0, 0]
noncomputable def reg15_5 := rg Try.f15.body [1, 1, 1, 0, 1, 0, 0, 0]
noncomputable def reg15_6 := rg Try.f15.body [1, 1, 1, 0, 1, 0, 0, 1, 1, 0, 0, 0]
noncomputable def reg15_7 := rg Try.f15.body [1, 1, 1, 0, 1, 0, 0, 1, 1, 0, 0, 1]
noncomputable def reg15_8 := rg Try.f15.body [1, 1, 1, 0, 1, 0, 0, 1, 1, 1]
noncomputable def reg15_9 := rg Try.f15.body [1, 1, 1, 1, 0]
theorem z15 : List.range reg15_0.size = [0] ∧ List.range reg15_1.size = [0, 1] ∧ List.range reg15_2.size = [0] ∧ List.range reg15_3.size = [0] ∧ List.range reg15_4.size = [0, 1, 2, 3, 4, 5] ∧ List.range reg15_5.size = [0] ∧ List.range reg15_6.size = [0, 1, 2] ∧ List.range reg15_7.size = [0, 1, 2, 3, 4, 5] ∧ List.range reg15_8.size = [0, 1] ∧ List.range reg15_9.size = [0, 1] := by refine ⟨?_, ?_, ?_, ?_, ?_, ?_, ?_, ?_, ?_, ?_⟩ <;> kernel_rfl
theorem code15_is : Try.f15.body = some (.seq (.region 0 reg15_0 false) (.seq (.seq (.region 1 reg15_1 false) (.cond (.tmp 9 ) (.seq (.region 2 reg15_2 false) (.ret)) (.skip))) (.seq (.region 3 reg15_3 false) (.seq (.seq (.region 4 reg15_4 false) (.block 0 (.loop (.seq (.region 5 reg15_5 false) (.seq (.cond (.tmp 16 ) (.skip) (.exit 0)) (.seq (.block 1 (.seq (.region 6 reg15_6 false) (.region 7 reg15_7 false))) (.region 8 reg15_8 false))))))) (.seq (.region 9 reg15_9 false) (.ret)))))) := by kernel_rfl
noncomputable def hdLm (X : RX) (sv : Value) (m : Int) (i : Nat) (u : Nat → Value) : Frame :=
  (base 15).at { tmps := #[.pointer (some ⟨X.bb, 0, none⟩), sv, u 2, u 3, u 4, .int .i64 m, u 6, u 7, u 8, u 9, u 10, u 11, u 12, .slice X.sa X.k X.sc, .int .i64 X.k, .int .i64 i, u 16, u 17, u 18, u 19, u 20, u 21, u 22, u 23, u 24, u 25], defers := [] } [.code (.seq (.region 5 reg15_5 false) (.seq (.cond (.tmp 16 ) (.skip) (.exit 0)) (.seq (.block 1 (.seq (.region 6 reg15_6 false) (.region 7 reg15_7 false))) (.region 8 reg15_8 false)))), .inLoop (.seq (.region 5 reg15_5 false) (.seq (.cond (.tmp 16 ) (.skip) (.exit 0)) (.seq (.block 1 (.seq (.region 6 reg15_6 false) (.region 7 reg15_7 false))) (.region 8 reg15_8 false)))), .inBlock 0, .code (.seq (.region 9 reg15_9 false) (.ret))]
def Bd (X : RX) (s : Rs) (c : Nat) : Prop := s.n + c < 1152921504606846976 ∧ ∀ i, i < X.k → s.ld i + c < 1152921504606846976
theorem Bd.le {X : RX} {s : Rs} {c c' : Nat} (h : Bd X s c) (hc : c' ≤ c) : Bd X s c' := ⟨by have := h.1; omega, fun i hi => by have := h.2 i hi; omega⟩
theorem Tk.le {X : RX} {sv : Value} {dl : Nat} (h : Tk X sv dl) : dl ≤ 1 := by
  rcases h with ⟨_, rfl⟩ | ⟨_, rfl⟩ <;> omega
theorem Bd.tick {X : RX} {s : Rs} {c dl : Nat} (hd : dl ≤ 1) (h : Bd X s (c + 1)) : Bd X (s.tick dl) c := ⟨by have := h.1; show s.n + dl + c < _; omega, fun i hi => by have := h.2 i hi; show s.ld i + c < _; omega⟩
theorem Bd.load {X : RX} {s : Rs} {c dl j : Nat} (hd : dl ≤ 1) (h : Bd X s (c + 1)) : Bd X (s.load dl j) c := ⟨by have := h.1; show s.n + dl + c < _; omega, fun i hi => by
  have := h.2 i hi
  show upd s.ld j (s.ld j + 1) i + c < _
  by_cases e : i = j
  · subst e
    rw [upd_same]; omega
  · rw [upd_ne _ _ e]; omega⟩
theorem Bd.lim {X : RX} {s : Rs} {dl : Nat} (hd : dl ≤ 1) : ∀ (i c : Nat), Bd X s (c + i) → Bd X (s.lim dl i) c
  | 0, c, h => h
  | i + 1, c, h => Bd.load hd (Bd.lim hd i (c + 1) (h.le (by omega)))
section
variable {main : Bool} {V : Nat → Option Wait} {X : RX} {s : Rs} {w : World} {sv : Value} {dl : Nat}
theorem RI.slCell (I : RI X s w) : w.cell? ⟨X.bb, 0, none⟩ = some (.slice X.sa X.k X.sc) := (cell_of I.bar 0).trans rfl
theorem none15_no (I : RI X s w) (hk : 0 < X.k) : CallV Try.prog main V 41 #[.pointer (some ⟨X.bb, 0, none⟩)] w (.bool false) w := by
  have hc := I.slCell
  have hp1 := fun w => run_eql_ptr (P := Try.prog) 33 undBarr (some ⟨X.bb, 0, none⟩) w
  have hp2 := fun w es => ev_eql_ptr (P := Try.prog) 33 undBarr (some ⟨X.bb, 0, none⟩) w es
  simp only [Option.isNone_some] at hp1
  have hk0 : ((X.k : Int) == 0) = false := by rw [beq_eq_false_iff_ne]; omega
  clear I
  refine callW_in Try.func41 code41_is fun fr cs => ?_
  simp only [Try.ntmps41, ez, Nat.reduceAdd, Nat.reduceSub]
  repeat (first | refine Walk.cx ?_ | (refine Walk.cReg ?_; simp only [z41]) | (refine Walk.oq ?_; try walk_nrm) | (refine Walk.un ?_; walk_nrm))
  exact Walk.ret1 rfl rfl Try.func41 rfl fun d => ⟨rfl, d, rfl⟩
theorem none15_yes (b : Nat) (sa : Option Addr) (sc : Nat) (w : World) (hc : w.cell? ⟨b, 0, none⟩ = some (.slice sa 0 sc)) : CallV Try.prog main V 41 #[.pointer (some ⟨b, 0, none⟩)] w (.bool true) w := by
  have hp1 := fun w => run_eql_ptr (P := Try.prog) 33 undBarr (some ⟨b, 0, none⟩) w
  have hp2 := fun w es => ev_eql_ptr (P := Try.prog) 33 undBarr (some ⟨b, 0, none⟩) w es
  simp only [Option.isNone_some] at hp1
  refine callW_in Try.func41 code41_is fun fr cs => ?_
  simp only [Try.ntmps41, ez, Nat.reduceAdd, Nat.reduceSub]
  repeat (first | refine Walk.cx ?_ | (refine Walk.cReg ?_; simp only [z41]) | (refine Walk.oq ?_; try walk_nrm) | (refine Walk.un ?_; walk_nrm))
  exact Walk.ret1 rfl rfl Try.func41 rfl fun d => ⟨rfl, d, rfl⟩
theorem limit_none (bv : Value) (w : World) (hn : CallV Try.prog main V 41 #[bv] w (.bool true) w) : CallV Try.prog main V 15 #[bv, sv] w (.int .i64 (-1)) w := by
  refine callW_in Try.func15 code15_is fun fr cs => ?_
  simp only [Try.ntmps15, ez, Nat.reduceAdd, Nat.reduceSub]
  repeat (first | refine Walk.cx ?_ | (refine Walk.cReg ?_; simp only [z15]) | (refine Walk.oq ?_; try walk_nrm) | (refine Walk.un ?_; walk_nrm))
  refine Walk.callV (x := .bool true) (W := w) ?_ (ho_of (by conv => lhs; whnf) (by kernel_rfl)) (by rfl) (by decide) rfl Try.func41 (by kernel_rfl) (by rfl) ?_
  · try walk_nrm
    exact hn
  clear hn
  walk_nrm
  repeat (first | refine Walk.cx ?_ | (refine Walk.cReg ?_; simp only [z15]) | (refine Walk.oq ?_; try walk_nrm) | (refine Walk.un ?_; walk_nrm))
  exact Walk.ret1 rfl rfl Try.func15 rfl fun d => ⟨rfl, d, rfl⟩
theorem lm_in (I : RI X s w) (hk : 0 < X.k) (cs : List Frame) :
    Walk Try.prog main (DR V) (fun g w' => (∃ u, g = G (hdLm X sv 9223372036854775807 0 u) cs) ∧ RI X s w') (G (Frame.enter Try.prog 15 #[.pointer (some ⟨X.bb, 0, none⟩), sv] .normal) cs) w := by
  have hn := none15_no (main := main) (V := V) I hk
  have hc := I.slCell
  clear hk
  rw [enter_at _ Try.func15 code15_is]
  simp only [Try.ntmps15, ez, Nat.reduceAdd, Nat.reduceSub]
  repeat (first | refine Walk.cx ?_ | (refine Walk.cReg ?_; simp only [z15]) | (refine Walk.oq ?_; try walk_nrm) | (refine Walk.un ?_; walk_nrm))
  refine Walk.callV (x := .bool false) (W := w) ?_ (ho_of (by conv => lhs; whnf) (by kernel_rfl)) (by rfl) (by decide) rfl Try.func41 (by kernel_rfl) (by rfl) ?_
  · try walk_nrm
    exact hn
  clear hn
  walk_nrm
  repeat (first | refine Walk.cx ?_ | (refine Walk.cReg ?_; simp only [z15]) | (refine Walk.oq ?_; try walk_nrm) | (refine Walk.un ?_; walk_nrm))
  refine Walk.ctl rfl (fun w => stepG_loop) ?_
  refine .stop fun d => ⟨at_slots ?_, I.at d⟩
  simp only [hdLm]
  rfl
theorem lm_go (hA : ∀ b, Apart V b) (I : RI X s w) (hT : Tk X sv dl) (i : Nat) (hi : i < X.k) (hkm : X.k ≤ 1000000) (hb : Bd X s 1) (m : Int) (u : Nat → Value) (cs : List Frame) :
    Walk Try.prog main (DR V) (fun g w' => (∃ u, g = G (hdLm X sv (min m (rvl (X.ls i) (s.ld i))) (i + 1) u) cs) ∧ RI X (s.load dl i) w') (G (hdLm X sv m i u) cs) w := by
  have hld := rload15 (main := main) hA I (by have := hb.1; omega) i hi (by have := hb.2 i hi; omega) hT
  obtain ⟨esa, arr, h1, h2⟩ := I.srcs (by omega)
  have hc : w.cell? ⟨X.g, i, none⟩ = some (srcV (X.rb i)) := (cell_of h1 i).trans (h2 i hi)
  have hi1 : decide ((i : Int) < X.k) = true := by simp; omega
  have hi3 : decide (i < X.k) = true := by simp; omega
  have hi4 : (i : Int) < X.k := by omega
  have hi0 : (0 : Int) ≤ i := by omega
  have hw1 : IntKind.wrap .i64 ((i : Int) + 1) = (i : Int) + 1 := by rw [IntKind.wrap_i64]; omega
  have hcc : ((i + 1 : Nat) : Int) = (i : Int) + 1 := by simp
  have hmn := @events_min_ints Try.prog
  clear I h1 h2 hT hb hkm
  unfold srcV at hc
  conv => arg 5; unfold hdLm
  rw [esa]
  repeat (first | refine Walk.cx ?_ | (refine Walk.cReg ?_; simp only [z15]) | (refine Walk.oq ?_; try walk_nrm) | (refine Walk.un ?_; walk_nrm))
  refine Walk.invokeM1 und15r row15r (X.rb i) 0 (Post := fun v w' => v = .int .i64 (rvl (X.ls i) (s.ld i)) ∧ RI X (s.load dl i) w') ?_ (ho_of (by conv => lhs; whnf) (by kernel_rfl)) (by rfl) (by decide) rfl rfl Try.func168 (by kernel_rfl) (by rfl) ?_
  · try walk_nrm
    exact hld
  rintro v w1 ⟨rfl, I1⟩
  clear hld hc
  generalize rvl (X.ls i) (s.ld i) = z at *
  walk_nrm
  repeat (first | refine Walk.cx ?_ | (refine Walk.cReg ?_; simp only [z15]) | (refine Walk.oq ?_; try walk_nrm) | (refine Walk.un ?_; walk_nrm))
  refine Walk.ctl rfl (fun w => stepG_inLoop) ?_
  refine .stop fun d => ⟨at_slots ?_, I1.at d⟩
  simp only [hdLm, hcc, esa]
  rfl
theorem lm_end (X : RX) (m : Int) (u : Nat → Value) (c : Frame) (cs : List Frame) (w : World) :
    Walk Try.prog main (DR V) (fun g w' => g = G (c.finish (.int .i64 m)) cs ∧ ∃ d, w' = w.at d) (G (hdLm X sv m X.k u) (c :: cs)) w := by
  have hi1 : decide ((X.k : Int) < X.k) = false := by simp
  have hi3 : decide (X.k < X.k) = false := by simp
  unfold hdLm
  repeat (first | refine Walk.cx ?_ | (refine Walk.cReg ?_; simp only [z15]) | (refine Walk.oq ?_; try walk_nrm) | (refine Walk.un ?_; walk_nrm))
  exact Walk.on1 rfl rfl Try.func15 rfl (.stop fun d => ⟨rfl, d, rfl⟩)
theorem limit15 (hA : ∀ b, Apart V b) (I : RI X s w) (hT : Tk X sv dl) (hk : 0 < X.k) (hkm : X.k ≤ 1000000) (hb : Bd X s X.k) :
    CallW Try.prog main V 15 #[.pointer (some ⟨X.bb, 0, none⟩), sv] w (fun v w' => v = .int .i64 (limV X.ls s dl X.k) ∧ RI X (s.lim dl X.k) w') := by
  intro fr cs
  refine (lm_in I hk (fr :: cs)).then ?_
  rintro _ w1 ⟨⟨u, rfl⟩, I1⟩
  have loop : ∀ (r i : Nat) (u : Nat → Value) (w : World), i + r = X.k → RI X (s.lim dl i) w →
      Walk Try.prog main (DR V) (fun g w' => ∃ v, (v = .int .i64 (limV X.ls s dl X.k) ∧ RI X (s.lim dl X.k) w') ∧ g = G (fr.finish v) cs) (G (hdLm X sv (limV X.ls s dl i) i u) (fr :: cs)) w := by
    intro r
    induction r with
    | zero =>
      intro i u w hi I
      have hi : i = X.k := hi
      rw [hi] at I ⊢
      refine (lm_end X _ u fr cs w).mono ?_
      rintro _ _ ⟨rfl, d, rfl⟩
      exact ⟨_, ⟨rfl, I.at d⟩, rfl⟩
    | succ r ih =>
      intro i u w hi I
      refine (lm_go hA I hT i (by omega) hkm (Bd.lim hT.le i 1 (hb.le (by omega))) _ u (fr :: cs)).then ?_
      rintro _ w' ⟨⟨u', rfl⟩, I'⟩
      exact ih (i + 1) u' w' (by omega) I'
  exact loop X.k 0 u w1 (Nat.zero_add _) I1
end
end
end Go.Proofs.Ytgfajibjedfkdaa
