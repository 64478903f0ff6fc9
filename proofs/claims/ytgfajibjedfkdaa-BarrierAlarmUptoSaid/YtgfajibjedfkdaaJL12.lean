/- Part 12. -/
import Derived.Test.YtgfajibjedfkdaaJL11
set_option linter.unusedSimpArgs false
set_option linter.unusedVariables false
set_option maxHeartbeats 8000000
set_option maxRecDepth 100000
namespace Go.Proofs.Ytgfajibjedfkdaa
open Go.Conc Go.RowKit Go.Relay
open Go.ConcN (upd upd_ne upd_same)
section
noncomputable def reg41_0 : Array Oper := match Try.f41.body with | some (.seq (.region _ ops _) _) => ops | _ => #[]
theorem size41_0 : reg41_0.size = 1 := by kernel_rfl
noncomputable def reg41_1 : Array Oper := match Try.f41.body with | some (.seq _ (.seq (.region _ ops _) _)) => ops | _ => #[]
theorem size41_1 : reg41_1.size = 11 := by kernel_rfl
theorem code41_is : Try.f41.body = some (.seq (.region 0 reg41_0 false) (.seq (.region 1 reg41_1 false) (.ret))) := by kernel_rfl
noncomputable def reg15_0 : Array Oper := match Try.f15.body with | some (.seq (.region _ ops _) _) => ops | _ => #[]
theorem size15_0 : reg15_0.size = 1 := by kernel_rfl
noncomputable def reg15_1 : Array Oper := match Try.f15.body with | some (.seq _ (.seq (.seq (.region _ ops _) _) _)) => ops | _ => #[]
theorem size15_1 : reg15_1.size = 2 := by kernel_rfl
noncomputable def reg15_2 : Array Oper := match Try.f15.body with | some (.seq _ (.seq (.seq _ (.cond _ (.seq (.region _ ops _) _) _)) _)) => ops | _ => #[]
theorem size15_2 : reg15_2.size = 1 := by kernel_rfl
noncomputable def reg15_3 : Array Oper := match Try.f15.body with | some (.seq _ (.seq _ (.seq (.region _ ops _) _))) => ops | _ => #[]
theorem size15_3 : reg15_3.size = 1 := by kernel_rfl
noncomputable def reg15_4 : Array Oper := match Try.f15.body with | some (.seq _ (.seq _ (.seq _ (.seq (.seq (.region _ ops _) _) _)))) => ops | _ => #[]
theorem size15_4 : reg15_4.size = 6 := by kernel_rfl
noncomputable def reg15_5 : Array Oper := match Try.f15.body with | some (.seq _ (.seq _ (.seq _ (.seq (.seq _ (.block _ (.loop (.seq (.region _ ops _) _)))) _)))) => ops | _ => #[]
theorem size15_5 : reg15_5.size = 1 := by kernel_rfl
noncomputable def reg15_6 : Array Oper := match Try.f15.body with | some (.seq _ (.seq _ (.seq _ (.seq (.seq _ (.block _ (.loop (.seq _ (.seq _ (.seq (.block _ (.seq (.region _ ops _) _)) _)))))) _)))) => ops | _ => #[]
theorem size15_6 : reg15_6.size = 3 := by kernel_rfl
noncomputable def reg15_7 : Array Oper := match Try.f15.body with | some (.seq _ (.seq _ (.seq _ (.seq (.seq _ (.block _ (.loop (.seq _ (.seq _ (.seq (.block _ (.seq _ (.region _ ops _))) _)))))) _)))) => ops | _ => #[]
theorem size15_7 : reg15_7.size = 6 := by kernel_rfl
noncomputable def reg15_8 : Array Oper := match Try.f15.body with | some (.seq _ (.seq _ (.seq _ (.seq (.seq _ (.block _ (.loop (.seq _ (.seq _ (.seq _ (.region _ ops _))))))) _)))) => ops | _ => #[]
theorem size15_8 : reg15_8.size = 2 := by kernel_rfl
noncomputable def reg15_9 : Array Oper := match Try.f15.body with | some (.seq _ (.seq _ (.seq _ (.seq _ (.seq (.region _ ops _) _))))) => ops | _ => #[]
theorem size15_9 : reg15_9.size = 2 := by kernel_rfl
theorem code15_is : Try.f15.body = some (.seq (.region 0 reg15_0 false) (.seq (.seq (.region 1 reg15_1 false) (.cond (.tmp 9 ) (.seq (.region 2 reg15_2 false) (.ret)) (.skip))) (.seq (.region 3 reg15_3 false) (.seq (.seq (.region 4 reg15_4 false) (.block 0 (.loop (.seq (.region 5 reg15_5 false) (.seq (.cond (.tmp 16 ) (.skip) (.exit 0)) (.seq (.block 1 (.seq (.region 6 reg15_6 false) (.region 7 reg15_7 false))) (.region 8 reg15_8 false))))))) (.seq (.region 9 reg15_9 false) (.ret)))))) := by kernel_rfl
noncomputable def hdLm (X : RX) (sv : Value) (m : Int) (i : Nat) (u : Nat → Value) : Frame :=
  (base 15).at { tmps := #[.pointer (some ⟨X.bb, 0, none⟩), sv, u 2, u 3, u 4, .int .i64 m, u 6, u 7, u 8, u 9, u 10, u 11, u 12, .slice X.sa X.k X.sc, .int .i64 X.k, .int .i64 i, u 16, u 17, u 18, u 19, u 20, u 21, u 22, u 23, u 24, u 25], defers := [] } [.code (.seq (.region 5 reg15_5 false) (.seq (.cond (.tmp 16 ) (.skip) (.exit 0)) (.seq (.block 1 (.seq (.region 6 reg15_6 false) (.region 7 reg15_7 false))) (.region 8 reg15_8 false)))), .inLoop (.seq (.region 5 reg15_5 false) (.seq (.cond (.tmp 16 ) (.skip) (.exit 0)) (.seq (.block 1 (.seq (.region 6 reg15_6 false) (.region 7 reg15_7 false))) (.region 8 reg15_8 false)))), .inBlock 0, .code (.seq (.region 9 reg15_9 false) (.ret))]
def Bd (X : RX) (s : Rs) (c : Nat) : Prop := s.n + c < 1152921504606846976 ∧ ∀ i, i < X.k → s.ld i + c < 1152921504606846976
theorem Bd.le {X : RX} {s : Rs} {c c' : Nat} (h : Bd X s c) (hc : c' ≤ c) : Bd X s c' := ⟨by have := h.1; omega, fun i hi => by have := h.2 i hi; omega⟩
theorem Tk.le {X : RX} {sv : Value} {dl : Nat} (h : Tk X sv dl) : dl ≤ 1 := by
  rcases h with ⟨_, rfl⟩ | ⟨_, rfl⟩ <;> omega
theorem Bd.tick {X : RX} {s : Rs} {c dl : Nat} (hd : dl ≤ 1) (h : Bd X s (c + 1)) : Bd X (s.tick dl) c := ⟨by have := h.1; show s.n + dl + c < _; omega, fun i hi => by have := h.2 i hi; show s.ld i + c < _; omega⟩
theorem Bd.load {X : RX} {s : Rs} {c dl j : Nat} (hd : dl ≤ 1) (h : Bd X s (c + 1)) : Bd X (s.load dl j) c := ⟨by have := h.1; show s.n + dl + c < _; omega, fun i hi => by
  have := h.2 i hi
  show upd s.ld j (s.ld j + 1) i + c < _
  by_cases e : i = j
  · subst e
    rw [upd_same]; omega
  · rw [upd_ne _ _ e]; omega⟩
theorem Bd.lim {X : RX} {s : Rs} {dl : Nat} (hd : dl ≤ 1) : ∀ (i c : Nat), Bd X s (c + i) → Bd X (s.lim dl i) c
  | 0, c, h => h
  | i + 1, c, h => Bd.load hd (Bd.lim hd i (c + 1) (h.le (by omega)))
section
variable {main : Bool} {V : Nat → Option Wait} {X : RX} {s : Rs} {w : World} {sv : Value} {dl : Nat}
theorem RI.slCell (I : RI X s w) : w.cell? ⟨X.bb, 0, none⟩ = some (.slice X.sa X.k X.sc) := (cell_of I.bar 0).trans rfl
theorem none15_no (I : RI X s w) (hk : 0 < X.k) : CallV Try.prog main V 41 #[.pointer (some ⟨X.bb, 0, none⟩)] w (.bool false) w := by
  have hc := I.slCell
  have hp1 := fun w => run_eql_ptr (P := Try.prog) 33 undBarr (some ⟨X.bb, 0, none⟩) w
  have hp2 := fun w es => ev_eql_ptr (P := Try.prog) 33 undBarr (some ⟨X.bb, 0, none⟩) w es
  simp only [Option.isNone_some] at hp1
  have hk0 : ((X.k : Int) == 0) = false := by rw [beq_eq_false_iff_ne]; omega
  clear I
  refine callW_in Try.func41 code41_is fun fr cs => ?_
  simp only [Try.ntmps41, List.size_toArray, List.length_cons, List.length_nil, Nat.reduceAdd, Nat.reduceSub, Array.replicate_succ, Array.replicate_zero, List.push_toArray, List.append_toArray, List.nil_append, List.cons_append]
  repeat (first | refine Walk.c rfl ?_ | refine Walk.cRet ?_ | refine Walk.cEnd ?_ | (refine Walk.cReg ?_; simp only [size41_0, size41_1, List.range, List.range.loop]) | (refine Walk.oq ?_; try walk_nrm) | (refine Walk.un ?_; walk_nrm))
  exact Walk.ret1 rfl rfl Try.func41 rfl fun d => ⟨rfl, d, rfl⟩
theorem none15_yes (b : Nat) (sa : Option Addr) (sc : Nat) (w : World) (hc : w.cell? ⟨b, 0, none⟩ = some (.slice sa 0 sc)) : CallV Try.prog main V 41 #[.pointer (some ⟨b, 0, none⟩)] w (.bool true) w := by
  have hp1 := fun w => run_eql_ptr (P := Try.prog) 33 undBarr (some ⟨b, 0, none⟩) w
  have hp2 := fun w es => ev_eql_ptr (P := Try.prog) 33 undBarr (some ⟨b, 0, none⟩) w es
  simp only [Option.isNone_some] at hp1
  refine callW_in Try.func41 code41_is fun fr cs => ?_
  simp only [Try.ntmps41, List.size_toArray, List.length_cons, List.length_nil, Nat.reduceAdd, Nat.reduceSub, Array.replicate_succ, Array.replicate_zero, List.push_toArray, List.append_toArray, List.nil_append, List.cons_append]
  repeat (first | refine Walk.c rfl ?_ | refine Walk.cRet ?_ | refine Walk.cEnd ?_ | (refine Walk.cReg ?_; simp only [size41_0, size41_1, List.range, List.range.loop]) | (refine Walk.oq ?_; try walk_nrm) | (refine Walk.un ?_; walk_nrm))
  exact Walk.ret1 rfl rfl Try.func41 rfl fun d => ⟨rfl, d, rfl⟩
theorem lm_in (I : RI X s w) (hk : 0 < X.k) (cs : List Frame) :
    Walk Try.prog main (DR V) (fun g w' => (∃ u, g = G (hdLm X sv 9223372036854775807 0 u) cs) ∧ RI X s w') (G (Frame.enter Try.prog 15 #[.pointer (some ⟨X.bb, 0, none⟩), sv] .normal) cs) w := by
  have hn := none15_no (main := main) (V := V) I hk
  have hc := I.slCell
  clear hk
  rw [enter_at _ Try.func15 code15_is]
  simp only [Try.ntmps15, List.size_toArray, List.length_cons, List.length_nil, Nat.reduceAdd, Nat.reduceSub, Array.replicate_succ, Array.replicate_zero, List.push_toArray, List.append_toArray, List.nil_append, List.cons_append]
  repeat (first | refine Walk.c rfl ?_ | refine Walk.cRet ?_ | refine Walk.cEnd ?_ | (refine Walk.cReg ?_; simp only [size15_0, size15_1, size15_2, size15_3, size15_4, size15_5, size15_6, size15_7, size15_8, size15_9, List.range, List.range.loop]) | (refine Walk.oq ?_; try walk_nrm) | (refine Walk.un ?_; walk_nrm))
  refine Walk.callV (x := .bool false) (W := w) ?_ (ho_of (by conv => lhs; whnf) (by kernel_rfl)) (by rfl) (by decide) rfl Try.func41 (by kernel_rfl) (by rfl) ?_
  · try walk_nrm
    exact hn
  clear hn
  walk_nrm
  repeat (first | refine Walk.c rfl ?_ | refine Walk.cRet ?_ | refine Walk.cEnd ?_ | (refine Walk.cReg ?_; simp only [size15_0, size15_1, size15_2, size15_3, size15_4, size15_5, size15_6, size15_7, size15_8, size15_9, List.range, List.range.loop]) | (refine Walk.oq ?_; try walk_nrm) | (refine Walk.un ?_; walk_nrm))
  refine Walk.ctl rfl (fun w => stepG_loop) ?_
  refine .stop fun d => ⟨at_slots ?_, I.at d⟩
  simp only [hdLm]
  rfl
theorem lm_go (hA : ∀ b, Apart V b) (I : RI X s w) (hT : Tk X sv dl) (i : Nat) (hi : i < X.k) (hkm : X.k ≤ 1000000) (hb : Bd X s 1) (m : Int) (u : Nat → Value) (cs : List Frame) :
    Walk Try.prog main (DR V) (fun g w' => (∃ u, g = G (hdLm X sv (min m (rvl (X.ls i) (s.ld i))) (i + 1) u) cs) ∧ RI X (s.load dl i) w') (G (hdLm X sv m i u) cs) w := by
  have hld := rload15 (main := main) hA I (by have := hb.1; omega) i hi (by have := hb.2 i hi; omega) hT
  obtain ⟨esa, arr, h1, h2⟩ := I.srcs (by omega)
  have hc : w.cell? ⟨X.g, i, none⟩ = some (srcV (X.rb i)) := (cell_of h1 i).trans (h2 i hi)
  have hi1 : decide ((i : Int) < X.k) = true := by simp; omega
  have hi3 : decide (i < X.k) = true := by simp; omega
  have hi4 : (i : Int) < X.k := by omega
  have hi0 : (0 : Int) ≤ i := by omega
  have hw1 : IntKind.wrap .i64 ((i : Int) + 1) = (i : Int) + 1 := by rw [IntKind.wrap_i64]; omega
  have hcc : ((i + 1 : Nat) : Int) = (i : Int) + 1 := by simp
  have hmn := @events_min_ints Try.prog
  clear I h1 h2 hT hb hkm
  unfold srcV at hc
  conv => arg 5; unfold hdLm
  rw [esa]
  repeat (first | refine Walk.c rfl ?_ | refine Walk.cRet ?_ | refine Walk.cEnd ?_ | (refine Walk.cReg ?_; simp only [size15_0, size15_1, size15_2, size15_3, size15_4, size15_5, size15_6, size15_7, size15_8, size15_9, List.range, List.range.loop]) | (refine Walk.oq ?_; try walk_nrm) | (refine Walk.un ?_; walk_nrm))
  refine Walk.invokeM1 und15r row15r (X.rb i) 0 (Post := fun v w' => v = .int .i64 (rvl (X.ls i) (s.ld i)) ∧ RI X (s.load dl i) w') ?_ (ho_of (by conv => lhs; whnf) (by kernel_rfl)) (by rfl) (by decide) rfl rfl Try.func168 (by kernel_rfl) (by rfl) ?_
  · try walk_nrm
    exact hld
  rintro v w1 ⟨rfl, I1⟩
  clear hld hc
  generalize rvl (X.ls i) (s.ld i) = z at *
  walk_nrm
  repeat (first | refine Walk.c rfl ?_ | refine Walk.cRet ?_ | refine Walk.cEnd ?_ | (refine Walk.cReg ?_; simp only [size15_0, size15_1, size15_2, size15_3, size15_4, size15_5, size15_6, size15_7, size15_8, size15_9, List.range, List.range.loop]) | (refine Walk.oq ?_; try walk_nrm) | (refine Walk.un ?_; walk_nrm))
  refine Walk.ctl rfl (fun w => stepG_inLoop) ?_
  refine .stop fun d => ⟨at_slots ?_, I1.at d⟩
  simp only [hdLm, hcc, esa]
  rfl
theorem lm_end (X : RX) (m : Int) (u : Nat → Value) (c : Frame) (cs : List Frame) (w : World) :
    Walk Try.prog main (DR V) (fun g w' => g = G (c.finish (.int .i64 m)) cs ∧ ∃ d, w' = w.at d) (G (hdLm X sv m X.k u) (c :: cs)) w := by
  have hi1 : decide ((X.k : Int) < X.k) = false := by simp
  have hi3 : decide (X.k < X.k) = false := by simp
  unfold hdLm
  repeat (first | refine Walk.c rfl ?_ | refine Walk.cRet ?_ | refine Walk.cEnd ?_ | (refine Walk.cReg ?_; simp only [size15_0, size15_1, size15_2, size15_3, size15_4, size15_5, size15_6, size15_7, size15_8, size15_9, List.range, List.range.loop]) | (refine Walk.oq ?_; try walk_nrm) | (refine Walk.un ?_; walk_nrm))
  exact Walk.on1 rfl rfl Try.func15 rfl (.stop fun d => ⟨rfl, d, rfl⟩)
theorem limit15 (hA : ∀ b, Apart V b) (I : RI X s w) (hT : Tk X sv dl) (hk : 0 < X.k) (hkm : X.k ≤ 1000000) (hb : Bd X s X.k) :
    CallW Try.prog main V 15 #[.pointer (some ⟨X.bb, 0, none⟩), sv] w (fun v w' => v = .int .i64 (limV X.ls s dl X.k) ∧ RI X (s.lim dl X.k) w') := by
  intro fr cs
  refine (lm_in I hk (fr :: cs)).then ?_
  rintro _ w1 ⟨⟨u, rfl⟩, I1⟩
  have loop : ∀ (r i : Nat) (u : Nat → Value) (w : World), i + r = X.k → RI X (s.lim dl i) w →
      Walk Try.prog main (DR V) (fun g w' => ∃ v, (v = .int .i64 (limV X.ls s dl X.k) ∧ RI X (s.lim dl X.k) w') ∧ g = G (fr.finish v) cs) (G (hdLm X sv (limV X.ls s dl i) i u) (fr :: cs)) w := by
    intro r
    induction r with
    | zero =>
      intro i u w hi I
      have hi : i = X.k := hi
      rw [hi] at I ⊢
      refine (lm_end X _ u fr cs w).mono ?_
      rintro _ _ ⟨rfl, d, rfl⟩
      exact ⟨_, ⟨rfl, I.at d⟩, rfl⟩
    | succ r ih =>
      intro i u w hi I
      refine (lm_go hA I hT i (by omega) hkm (Bd.lim hT.le i 1 (hb.le (by omega))) _ u (fr :: cs)).then ?_
      rintro _ w' ⟨⟨u', rfl⟩, I'⟩
      exact ih (i + 1) u' w' (by omega) I'
  exact loop X.k 0 u w1 (Nat.zero_add _) I1
end
end
section
noncomputable def reg43_0 : Array Oper := match Try.f43.body with | some (.seq (.region _ ops _) _) => ops | _ => #[]
theorem size43_0 : reg43_0.size = 2 := by kernel_rfl
noncomputable def reg43_1 : Array Oper := match Try.f43.body with | some (.seq _ (.seq (.seq (.region _ ops _) _) _)) => ops | _ => #[]
theorem size43_1 : reg43_1.size = 2 := by kernel_rfl
noncomputable def reg43_2 : Array Oper := match Try.f43.body with | some (.seq _ (.seq (.seq _ (.block _ (.loop (.seq (.region _ ops _) _)))) _)) => ops | _ => #[]
theorem size43_2 : reg43_2.size = 1 := by kernel_rfl
noncomputable def reg43_3 : Array Oper := match Try.f43.body with | some (.seq _ (.seq (.seq _ (.block _ (.loop (.seq _ (.seq _ (.seq (.block _ (.seq (.region _ ops _) _)) _)))))) _)) => ops | _ => #[]
theorem size43_3 : reg43_3.size = 2 := by kernel_rfl
noncomputable def reg43_4 : Array Oper := match Try.f43.body with | some (.seq _ (.seq (.seq _ (.block _ (.loop (.seq _ (.seq _ (.seq (.block _ (.seq _ (.seq (.seq (.region _ ops _) _) _))) _)))))) _)) => ops | _ => #[]
theorem size43_4 : reg43_4.size = 11 := by kernel_rfl
noncomputable def reg43_5 : Array Oper := match Try.f43.body with | some (.seq _ (.seq (.seq _ (.block _ (.loop (.seq _ (.seq _ (.seq (.block _ (.seq _ (.seq (.seq _ (.cond _ (.seq (.region _ ops _) _) _)) _))) _)))))) _)) => ops | _ => #[]
theorem size43_5 : reg43_5.size = 2 := by kernel_rfl
noncomputable def reg43_6 : Array Oper := match Try.f43.body with | some (.seq _ (.seq (.seq _ (.block _ (.loop (.seq _ (.seq _ (.seq (.block _ (.seq _ (.seq _ (.seq (.region _ ops _) _)))) _)))))) _)) => ops | _ => #[]
theorem size43_6 : reg43_6.size = 4 := by kernel_rfl
noncomputable def reg43_7 : Array Oper := match Try.f43.body with | some (.seq _ (.seq (.seq _ (.block _ (.loop (.seq _ (.seq _ (.seq (.block _ (.seq _ (.seq _ (.seq _ (.seq (.region _ ops _) _))))) _)))))) _)) => ops | _ => #[]
theorem size43_7 : reg43_7.size = 3 := by kernel_rfl
noncomputable def reg43_8 : Array Oper := match Try.f43.body with | some (.seq _ (.seq (.seq _ (.block _ (.loop (.seq _ (.seq _ (.seq (.block _ (.seq _ (.seq _ (.seq _ (.seq _ (.cond _ (.seq (.region _ ops _) _) _)))))) _)))))) _)) => ops | _ => #[]
theorem size43_8 : reg43_8.size = 3 := by kernel_rfl
noncomputable def reg43_9 : Array Oper := match Try.f43.body with | some (.seq _ (.seq (.seq _ (.block _ (.loop (.seq _ (.seq _ (.seq _ (.region _ ops _))))))) _)) => ops | _ => #[]
theorem size43_9 : reg43_9.size = 2 := by kernel_rfl
noncomputable def reg43_10 : Array Oper := match Try.f43.body with | some (.seq _ (.seq _ (.seq (.region _ ops _) _))) => ops | _ => #[]
theorem size43_10 : reg43_10.size = 2 := by kernel_rfl
theorem code43_is : Try.f43.body = some (.seq (.region 0 reg43_0 false) (.seq (.seq (.region 1 reg43_1 false) (.block 0 (.loop (.seq (.region 2 reg43_2 false) (.seq (.cond (.tmp 16 ) (.skip) (.exit 0)) (.seq (.block 1 (.seq (.region 3 reg43_3 false) (.seq (.seq (.region 4 reg43_4 false) (.cond (.tmp 28 ) (.seq (.region 5 reg43_5 false) (.ret)) (.skip))) (.seq (.region 6 reg43_6 false) (.seq (.region 7 reg43_7 false) (.cond (.tmp 34 ) (.seq (.region 8 reg43_8 false) (.ret)) (.skip))))))) (.region 9 reg43_9 false))))))) (.seq (.region 10 reg43_10 false) (.ret)))) := by kernel_rfl
noncomputable def hdTg (X : RX) (sv : Value) (q : Int) (n on t : Nat) (u : Nat → Value) : Frame :=
  (base 43).at { tmps := #[.pointer (some ⟨X.bb, 0, none⟩), sv, .int .i64 q, u 3, .int .i64 on, u 5, u 6, u 7, u 8, u 9, u 10, u 11, u 12, u 13, .int .i64 n, .int .i64 t, u 16, u 17, u 18, u 19, u 20, u 21, u 22, u 23, u 24, u 25, u 26, u 27, u 28, u 29, u 30, u 31, u 32, u 33, u 34, u 35, u 36], defers := [] } [.code (.seq (.region 2 reg43_2 false) (.seq (.cond (.tmp 16 ) (.skip) (.exit 0)) (.seq (.block 1 (.seq (.region 3 reg43_3 false) (.seq (.seq (.region 4 reg43_4 false) (.cond (.tmp 28 ) (.seq (.region 5 reg43_5 false) (.ret)) (.skip))) (.seq (.region 6 reg43_6 false) (.seq (.region 7 reg43_7 false) (.cond (.tmp 34 ) (.seq (.region 8 reg43_8 false) (.ret)) (.skip))))))) (.region 9 reg43_9 false)))), .inLoop (.seq (.region 2 reg43_2 false) (.seq (.cond (.tmp 16 ) (.skip) (.exit 0)) (.seq (.block 1 (.seq (.region 3 reg43_3 false) (.seq (.seq (.region 4 reg43_4 false) (.cond (.tmp 28 ) (.seq (.region 5 reg43_5 false) (.ret)) (.skip))) (.seq (.region 6 reg43_6 false) (.seq (.region 7 reg43_7 false) (.cond (.tmp 34 ) (.seq (.region 8 reg43_8 false) (.ret)) (.skip))))))) (.region 9 reg43_9 false)))), .inBlock 0, .code (.seq (.region 10 reg43_10 false) (.ret))]
section
variable {main : Bool} {V : Nat → Option Wait} {X : RX} {s : Rs} {w : World} {sv : Value} {dl : Nat}
theorem tg_in (X : RX) (q : Int) (n on : Nat) (cs : List Frame) (w : World) :
    Walk Try.prog main (DR V) (fun g w' => (∃ u, g = G (hdTg X sv q n on 0 u) cs) ∧ ∃ d, w' = w.at d) (G (Frame.enter Try.prog 43 #[.pointer (some ⟨X.bb, 0, none⟩), sv, .int .i64 q, .int .i64 n, .int .i64 on] .normal) cs) w := by
  rw [enter_at _ Try.func43 code43_is]
  simp only [Try.ntmps43, List.size_toArray, List.length_cons, List.length_nil, Nat.reduceAdd, Nat.reduceSub, Array.replicate_succ, Array.replicate_zero, List.push_toArray, List.append_toArray, List.nil_append, List.cons_append]
  repeat (first | refine Walk.c rfl ?_ | refine Walk.cRet ?_ | refine Walk.cEnd ?_ | (refine Walk.cReg ?_; simp only [size43_0, size43_1, size43_2, size43_3, size43_4, size43_5, size43_6, size43_7, size43_8, size43_9, size43_10, List.range, List.range.loop]) | (refine Walk.oq ?_; try walk_nrm) | (refine Walk.un ?_; walk_nrm))
  refine Walk.ctl rfl (fun w => stepG_loop) ?_
  refine .stop fun d => ⟨at_slots ?_, d, rfl⟩
  simp only [hdTg]
  rfl
theorem tg_end (X : RX) (q : Int) (n on : Nat) (u : Nat → Value) (c : Frame) (cs : List Frame) (w : World) :
    Walk Try.prog main (DR V) (fun g w' => g = G (c.finish (.tuple #[.int .i64 0, .int .i64 4])) cs ∧ ∃ d, w' = w.at d) (G (hdTg X sv q n on n u) (c :: cs)) w := by
  have hi1 : decide ((n : Int) < n) = false := by simp
  have hi3 : decide (n < n) = false := by simp
  unfold hdTg
  repeat (first | refine Walk.c rfl ?_ | refine Walk.cRet ?_ | refine Walk.cEnd ?_ | (refine Walk.cReg ?_; simp only [size43_0, size43_1, size43_2, size43_3, size43_4, size43_5, size43_6, size43_7, size43_8, size43_9, size43_10, List.range, List.range.loop]) | (refine Walk.oq ?_; try walk_nrm) | (refine Walk.un ?_; walk_nrm))
  exact Walk.on2 rfl rfl Try.func43 rfl (.stop fun d => ⟨rfl, d, rfl⟩)
theorem tg_1bal (hA : ∀ b, Apart V b) (I : RI X s w) (hT : Tk X sv dl) (hk : 0 < X.k) (hkm : X.k ≤ 1000000) (hb : Bd X s (X.k + 1)) (q : Int) (n t : Nat) (htn : t < n) (hn : n ≤ 1048576) (hc : t % 1 = 0) (hal : s.al = true) (u : Nat → Value) (c : Frame) (cs : List Frame) :
    Walk Try.prog main (DR V) (fun g w' => g = G (c.finish (.tuple #[.int .i64 0, .int .i64 5])) cs ∧ RI X (s.tick dl) w') (G (hdTg X sv q n 1 t u) (c :: cs)) w := by
  have hi1 : decide ((t : Int) < n) = true := by simp; omega
  have hi3 : decide (t < n) = true := by simp; omega
  have hi4 : (t : Int) < n := by omega
  have hw1 : IntKind.wrap .i64 ((t : Int) + 1) = (t : Int) + 1 := by rw [IntKind.wrap_i64]; omega
  have hcc : ((t + 1 : Nat) : Int) = (t : Int) + 1 := by simp
  have hrem : Int.tmod (t : Int) 1 = 0 := by
    have h : Int.tmod (t : Int) 1 = ((t % 1 : Nat) : Int) := rfl
    rw [h, hc]; rfl
  have hfl := fload15 (main := main) hA I (by have := hb.1; omega) hT
  rw [hal] at hfl
  clear hw1 hcc
  clear hc hb I hal
  conv => arg 5; unfold hdTg
  repeat (first | refine Walk.c rfl ?_ | refine Walk.cRet ?_ | refine Walk.cEnd ?_ | (refine Walk.cReg ?_; simp only [size43_0, size43_1, size43_2, size43_3, size43_4, size43_5, size43_6, size43_7, size43_8, size43_9, size43_10, List.range, List.range.loop]) | (refine Walk.oq ?_; try walk_nrm) | (refine Walk.un ?_; walk_nrm))
  refine Walk.callW (Post := fun v w' => v = .bool true ∧ RI X (s.tick dl) w') ?_ (ho_of (by conv => lhs; whnf) (by kernel_rfl)) (by rfl) (by decide) rfl Try.func44 (by kernel_rfl) (by rfl) ?_
  · try walk_nrm
    exact hfl
  rintro v w1 ⟨rfl, I1⟩
  clear hfl
  walk_nrm
  repeat (first | refine Walk.c rfl ?_ | refine Walk.cRet ?_ | refine Walk.cEnd ?_ | (refine Walk.cReg ?_; simp only [size43_0, size43_1, size43_2, size43_3, size43_4, size43_5, size43_6, size43_7, size43_8, size43_9, size43_10, List.range, List.range.loop]) | (refine Walk.oq ?_; try walk_nrm) | (refine Walk.un ?_; walk_nrm))
  exact Walk.on2 rfl rfl Try.func43 rfl (.stop fun d => ⟨rfl, I1.at d⟩)
theorem tg_1bhit (hA : ∀ b, Apart V b) (I : RI X s w) (hT : Tk X sv dl) (hk : 0 < X.k) (hkm : X.k ≤ 1000000) (hb : Bd X s (X.k + 1)) (q : Int) (n t : Nat) (htn : t < n) (hn : n ≤ 1048576) (hc : t % 1 = 0) (hal : s.al = false) (hq : q ≤ limV X.ls (s.tick dl) dl X.k) (u : Nat → Value) (c : Frame) (cs : List Frame) :
    Walk Try.prog main (DR V) (fun g w' => g = G (c.finish (.tuple #[.int .i64 (limV X.ls (s.tick dl) dl X.k), .int .i64 0])) cs ∧ RI X ((s.tick dl).lim dl X.k) w') (G (hdTg X sv q n 1 t u) (c :: cs)) w := by
  have hi1 : decide ((t : Int) < n) = true := by simp; omega
  have hi3 : decide (t < n) = true := by simp; omega
  have hi4 : (t : Int) < n := by omega
  have hw1 : IntKind.wrap .i64 ((t : Int) + 1) = (t : Int) + 1 := by rw [IntKind.wrap_i64]; omega
  have hcc : ((t + 1 : Nat) : Int) = (t : Int) + 1 := by simp
  have hrem : Int.tmod (t : Int) 1 = 0 := by
    have h : Int.tmod (t : Int) 1 = ((t % 1 : Nat) : Int) := rfl
    rw [h, hc]; rfl
  have hfl := fload15 (main := main) hA I (by have := hb.1; omega) hT
  have hb1 : Bd X (s.tick dl) X.k := Bd.tick hT.le hb
  rw [hal] at hfl
  have hge : decide (q ≤ limV X.ls (s.tick dl) dl X.k) = true := by simpa using hq
  clear hq
  clear hw1 hcc
  clear hc hb I hal
  conv => arg 5; unfold hdTg
  repeat (first | refine Walk.c rfl ?_ | refine Walk.cRet ?_ | refine Walk.cEnd ?_ | (refine Walk.cReg ?_; simp only [size43_0, size43_1, size43_2, size43_3, size43_4, size43_5, size43_6, size43_7, size43_8, size43_9, size43_10, List.range, List.range.loop]) | (refine Walk.oq ?_; try walk_nrm) | (refine Walk.un ?_; walk_nrm))
  refine Walk.callW (Post := fun v w' => v = .bool false ∧ RI X (s.tick dl) w') ?_ (ho_of (by conv => lhs; whnf) (by kernel_rfl)) (by rfl) (by decide) rfl Try.func44 (by kernel_rfl) (by rfl) ?_
  · try walk_nrm
    exact hfl
  rintro v w1 ⟨rfl, I1⟩
  clear hfl
  have hlm := limit15 (main := main) hA I1 hT hk hkm hb1
  clear hb1 I1
  walk_nrm
  repeat (first | refine Walk.c rfl ?_ | refine Walk.cRet ?_ | refine Walk.cEnd ?_ | (refine Walk.cReg ?_; simp only [size43_0, size43_1, size43_2, size43_3, size43_4, size43_5, size43_6, size43_7, size43_8, size43_9, size43_10, List.range, List.range.loop]) | (refine Walk.oq ?_; try walk_nrm) | (refine Walk.un ?_; walk_nrm))
  refine Walk.callW (Post := fun v w' => v = .int .i64 (limV X.ls (s.tick dl) dl X.k) ∧ RI X ((s.tick dl).lim dl X.k) w') ?_ (ho_of (by conv => lhs; whnf) (by kernel_rfl)) (by rfl) (by decide) rfl Try.func15 (by kernel_rfl) (by rfl) ?_
  · try walk_nrm
    exact hlm
  rintro v w2 ⟨rfl, I2⟩
  clear hlm
  generalize limV X.ls (s.tick dl) dl X.k = z at *
  generalize (s.tick dl).lim dl X.k = s' at *
  walk_nrm
  repeat (first | refine Walk.c rfl ?_ | refine Walk.cRet ?_ | refine Walk.cEnd ?_ | (refine Walk.cReg ?_; simp only [size43_0, size43_1, size43_2, size43_3, size43_4, size43_5, size43_6, size43_7, size43_8, size43_9, size43_10, List.range, List.range.loop]) | (refine Walk.oq ?_; try walk_nrm) | (refine Walk.un ?_; walk_nrm))
  exact Walk.on2 rfl rfl Try.func43 rfl (.stop fun d => ⟨rfl, I2.at d⟩)
theorem tg_1bgo (hA : ∀ b, Apart V b) (I : RI X s w) (hT : Tk X sv dl) (hk : 0 < X.k) (hkm : X.k ≤ 1000000) (hb : Bd X s (X.k + 1)) (q : Int) (n t : Nat) (htn : t < n) (hn : n ≤ 1048576) (hc : t % 1 = 0) (hal : s.al = false) (hq : ¬ q ≤ limV X.ls (s.tick dl) dl X.k) (u : Nat → Value) (c : Frame) (cs : List Frame) :
    Walk Try.prog main (DR V) (fun g w' => (∃ u, g = G (hdTg X sv q n 1 (t + 1) u) (c :: cs)) ∧ RI X ((s.tick dl).lim dl X.k) w') (G (hdTg X sv q n 1 t u) (c :: cs)) w := by
  have hi1 : decide ((t : Int) < n) = true := by simp; omega
  have hi3 : decide (t < n) = true := by simp; omega
  have hi4 : (t : Int) < n := by omega
  have hw1 : IntKind.wrap .i64 ((t : Int) + 1) = (t : Int) + 1 := by rw [IntKind.wrap_i64]; omega
  have hcc : ((t + 1 : Nat) : Int) = (t : Int) + 1 := by simp
  have hrem : Int.tmod (t : Int) 1 = 0 := by
    have h : Int.tmod (t : Int) 1 = ((t % 1 : Nat) : Int) := rfl
    rw [h, hc]; rfl
  have hfl := fload15 (main := main) hA I (by have := hb.1; omega) hT
  have hb1 : Bd X (s.tick dl) X.k := Bd.tick hT.le hb
  rw [hal] at hfl
  have hge : decide (q ≤ limV X.ls (s.tick dl) dl X.k) = false := by simpa using hq
  clear hq
  clear hc hb I hal
  conv => arg 5; unfold hdTg
  repeat (first | refine Walk.c rfl ?_ | refine Walk.cRet ?_ | refine Walk.cEnd ?_ | (refine Walk.cReg ?_; simp only [size43_0, size43_1, size43_2, size43_3, size43_4, size43_5, size43_6, size43_7, size43_8, size43_9, size43_10, List.range, List.range.loop]) | (refine Walk.oq ?_; try walk_nrm) | (refine Walk.un ?_; walk_nrm))
  refine Walk.callW (Post := fun v w' => v = .bool false ∧ RI X (s.tick dl) w') ?_ (ho_of (by conv => lhs; whnf) (by kernel_rfl)) (by rfl) (by decide) rfl Try.func44 (by kernel_rfl) (by rfl) ?_
  · try walk_nrm
    exact hfl
  rintro v w1 ⟨rfl, I1⟩
  clear hfl
  have hlm := limit15 (main := main) hA I1 hT hk hkm hb1
  clear hb1 I1
  walk_nrm
  repeat (first | refine Walk.c rfl ?_ | refine Walk.cRet ?_ | refine Walk.cEnd ?_ | (refine Walk.cReg ?_; simp only [size43_0, size43_1, size43_2, size43_3, size43_4, size43_5, size43_6, size43_7, size43_8, size43_9, size43_10, List.range, List.range.loop]) | (refine Walk.oq ?_; try walk_nrm) | (refine Walk.un ?_; walk_nrm))
  refine Walk.callW (Post := fun v w' => v = .int .i64 (limV X.ls (s.tick dl) dl X.k) ∧ RI X ((s.tick dl).lim dl X.k) w') ?_ (ho_of (by conv => lhs; whnf) (by kernel_rfl)) (by rfl) (by decide) rfl Try.func15 (by kernel_rfl) (by rfl) ?_
  · try walk_nrm
    exact hlm
  rintro v w2 ⟨rfl, I2⟩
  clear hlm
  generalize limV X.ls (s.tick dl) dl X.k = z at *
  generalize (s.tick dl).lim dl X.k = s' at *
  walk_nrm
  repeat (first | refine Walk.c rfl ?_ | refine Walk.cRet ?_ | refine Walk.cEnd ?_ | (refine Walk.cReg ?_; simp only [size43_0, size43_1, size43_2, size43_3, size43_4, size43_5, size43_6, size43_7, size43_8, size43_9, size43_10, List.range, List.range.loop]) | (refine Walk.oq ?_; try walk_nrm) | (refine Walk.un ?_; walk_nrm))
  refine Walk.ctl rfl (fun w => stepG_inLoop) ?_
  refine .stop fun d => ⟨at_slots ?_, I2.at d⟩
  simp only [hdTg, hcc]
  rfl
theorem tg_8ahit (hA : ∀ b, Apart V b) (I : RI X s w) (hT : Tk X sv dl) (hk : 0 < X.k) (hkm : X.k ≤ 1000000) (hb : Bd X s (X.k + 1)) (q : Int) (n t : Nat) (htn : t < n) (hn : n ≤ 1048576) (hc : t % 8 ≠ 0) (hq : q ≤ limV X.ls (s) dl X.k) (u : Nat → Value) (c : Frame) (cs : List Frame) :
    Walk Try.prog main (DR V) (fun g w' => g = G (c.finish (.tuple #[.int .i64 (limV X.ls (s) dl X.k), .int .i64 0])) cs ∧ RI X ((s).lim dl X.k) w') (G (hdTg X sv q n 8 t u) (c :: cs)) w := by
  have hi1 : decide ((t : Int) < n) = true := by simp; omega
  have hi3 : decide (t < n) = true := by simp; omega
  have hi4 : (t : Int) < n := by omega
  have hw1 : IntKind.wrap .i64 ((t : Int) + 1) = (t : Int) + 1 := by rw [IntKind.wrap_i64]; omega
  have hcc : ((t + 1 : Nat) : Int) = (t : Int) + 1 := by simp
  obtain ⟨e, he⟩ : ∃ e : Nat, t % 8 = e := ⟨_, rfl⟩
  have hrem : Int.tmod (t : Int) 8 = (e : Int) := by rw [← he]; rfl
  have he0 : ((e : Int) == 0) = false := by rw [beq_eq_false_iff_ne]; omega
  have he2 : ¬ (e : Int) = 0 := by omega
  have he3 : ¬ e = 0 := by omega
  have hlm := limit15 (main := main) hA I hT hk hkm (hb.le (Nat.le_succ _))
  have hge : decide (q ≤ limV X.ls (s) dl X.k) = true := by simpa using hq
  clear hq
  clear hw1 hcc
  clear hc hb I he
  conv => arg 5; unfold hdTg
  repeat (first | refine Walk.c rfl ?_ | refine Walk.cRet ?_ | refine Walk.cEnd ?_ | (refine Walk.cReg ?_; simp only [size43_0, size43_1, size43_2, size43_3, size43_4, size43_5, size43_6, size43_7, size43_8, size43_9, size43_10, List.range, List.range.loop]) | (refine Walk.oq ?_; try walk_nrm) | (refine Walk.un ?_; walk_nrm))
  refine Walk.callW (Post := fun v w' => v = .int .i64 (limV X.ls (s) dl X.k) ∧ RI X ((s).lim dl X.k) w') ?_ (ho_of (by conv => lhs; whnf) (by kernel_rfl)) (by rfl) (by decide) rfl Try.func15 (by kernel_rfl) (by rfl) ?_
  · try walk_nrm
    exact hlm
  rintro v w2 ⟨rfl, I2⟩
  clear hlm
  generalize limV X.ls (s) dl X.k = z at *
  generalize (s).lim dl X.k = s' at *
  walk_nrm
  repeat (first | refine Walk.c rfl ?_ | refine Walk.cRet ?_ | refine Walk.cEnd ?_ | (refine Walk.cReg ?_; simp only [size43_0, size43_1, size43_2, size43_3, size43_4, size43_5, size43_6, size43_7, size43_8, size43_9, size43_10, List.range, List.range.loop]) | (refine Walk.oq ?_; try walk_nrm) | (refine Walk.un ?_; walk_nrm))
  exact Walk.on2 rfl rfl Try.func43 rfl (.stop fun d => ⟨rfl, I2.at d⟩)
theorem tg_8ago (hA : ∀ b, Apart V b) (I : RI X s w) (hT : Tk X sv dl) (hk : 0 < X.k) (hkm : X.k ≤ 1000000) (hb : Bd X s (X.k + 1)) (q : Int) (n t : Nat) (htn : t < n) (hn : n ≤ 1048576) (hc : t % 8 ≠ 0) (hq : ¬ q ≤ limV X.ls (s) dl X.k) (u : Nat → Value) (c : Frame) (cs : List Frame) :
    Walk Try.prog main (DR V) (fun g w' => (∃ u, g = G (hdTg X sv q n 8 (t + 1) u) (c :: cs)) ∧ RI X ((s).lim dl X.k) w') (G (hdTg X sv q n 8 t u) (c :: cs)) w := by
  have hi1 : decide ((t : Int) < n) = true := by simp; omega
  have hi3 : decide (t < n) = true := by simp; omega
  have hi4 : (t : Int) < n := by omega
  have hw1 : IntKind.wrap .i64 ((t : Int) + 1) = (t : Int) + 1 := by rw [IntKind.wrap_i64]; omega
  have hcc : ((t + 1 : Nat) : Int) = (t : Int) + 1 := by simp
  obtain ⟨e, he⟩ : ∃ e : Nat, t % 8 = e := ⟨_, rfl⟩
  have hrem : Int.tmod (t : Int) 8 = (e : Int) := by rw [← he]; rfl
  have he0 : ((e : Int) == 0) = false := by rw [beq_eq_false_iff_ne]; omega
  have he2 : ¬ (e : Int) = 0 := by omega
  have he3 : ¬ e = 0 := by omega
  have hlm := limit15 (main := main) hA I hT hk hkm (hb.le (Nat.le_succ _))
  have hge : decide (q ≤ limV X.ls (s) dl X.k) = false := by simpa using hq
  clear hq
  clear hc hb I he
  conv => arg 5; unfold hdTg
  repeat (first | refine Walk.c rfl ?_ | refine Walk.cRet ?_ | refine Walk.cEnd ?_ | (refine Walk.cReg ?_; simp only [size43_0, size43_1, size43_2, size43_3, size43_4, size43_5, size43_6, size43_7, size43_8, size43_9, size43_10, List.range, List.range.loop]) | (refine Walk.oq ?_; try walk_nrm) | (refine Walk.un ?_; walk_nrm))
  refine Walk.callW (Post := fun v w' => v = .int .i64 (limV X.ls (s) dl X.k) ∧ RI X ((s).lim dl X.k) w') ?_ (ho_of (by conv => lhs; whnf) (by kernel_rfl)) (by rfl) (by decide) rfl Try.func15 (by kernel_rfl) (by rfl) ?_
  · try walk_nrm
    exact hlm
  rintro v w2 ⟨rfl, I2⟩
  clear hlm
  generalize limV X.ls (s) dl X.k = z at *
  generalize (s).lim dl X.k = s' at *
  walk_nrm
  repeat (first | refine Walk.c rfl ?_ | refine Walk.cRet ?_ | refine Walk.cEnd ?_ | (refine Walk.cReg ?_; simp only [size43_0, size43_1, size43_2, size43_3, size43_4, size43_5, size43_6, size43_7, size43_8, size43_9, size43_10, List.range, List.range.loop]) | (refine Walk.oq ?_; try walk_nrm) | (refine Walk.un ?_; walk_nrm))
  refine Walk.ctl rfl (fun w => stepG_inLoop) ?_
  refine .stop fun d => ⟨at_slots ?_, I2.at d⟩
  simp only [hdTg, hcc]
  rfl
theorem tg_8bal (hA : ∀ b, Apart V b) (I : RI X s w) (hT : Tk X sv dl) (hk : 0 < X.k) (hkm : X.k ≤ 1000000) (hb : Bd X s (X.k + 1)) (q : Int) (n t : Nat) (htn : t < n) (hn : n ≤ 1048576) (hc : t % 8 = 0) (hal : s.al = true) (u : Nat → Value) (c : Frame) (cs : List Frame) :
    Walk Try.prog main (DR V) (fun g w' => g = G (c.finish (.tuple #[.int .i64 0, .int .i64 5])) cs ∧ RI X (s.tick dl) w') (G (hdTg X sv q n 8 t u) (c :: cs)) w := by
  have hi1 : decide ((t : Int) < n) = true := by simp; omega
  have hi3 : decide (t < n) = true := by simp; omega
  have hi4 : (t : Int) < n := by omega
  have hw1 : IntKind.wrap .i64 ((t : Int) + 1) = (t : Int) + 1 := by rw [IntKind.wrap_i64]; omega
  have hcc : ((t + 1 : Nat) : Int) = (t : Int) + 1 := by simp
  have hrem : Int.tmod (t : Int) 8 = 0 := by
    have h : Int.tmod (t : Int) 8 = ((t % 8 : Nat) : Int) := rfl
    rw [h, hc]; rfl
  have hfl := fload15 (main := main) hA I (by have := hb.1; omega) hT
  rw [hal] at hfl
  clear hw1 hcc
  clear hc hb I hal
  conv => arg 5; unfold hdTg
  repeat (first | refine Walk.c rfl ?_ | refine Walk.cRet ?_ | refine Walk.cEnd ?_ | (refine Walk.cReg ?_; simp only [size43_0, size43_1, size43_2, size43_3, size43_4, size43_5, size43_6, size43_7, size43_8, size43_9, size43_10, List.range, List.range.loop]) | (refine Walk.oq ?_; try walk_nrm) | (refine Walk.un ?_; walk_nrm))
  refine Walk.callW (Post := fun v w' => v = .bool true ∧ RI X (s.tick dl) w') ?_ (ho_of (by conv => lhs; whnf) (by kernel_rfl)) (by rfl) (by decide) rfl Try.func44 (by kernel_rfl) (by rfl) ?_
  · try walk_nrm
    exact hfl
  rintro v w1 ⟨rfl, I1⟩
  clear hfl
  walk_nrm
  repeat (first | refine Walk.c rfl ?_ | refine Walk.cRet ?_ | refine Walk.cEnd ?_ | (refine Walk.cReg ?_; simp only [size43_0, size43_1, size43_2, size43_3, size43_4, size43_5, size43_6, size43_7, size43_8, size43_9, size43_10, List.range, List.range.loop]) | (refine Walk.oq ?_; try walk_nrm) | (refine Walk.un ?_; walk_nrm))
  exact Walk.on2 rfl rfl Try.func43 rfl (.stop fun d => ⟨rfl, I1.at d⟩)
theorem tg_8bhit (hA : ∀ b, Apart V b) (I : RI X s w) (hT : Tk X sv dl) (hk : 0 < X.k) (hkm : X.k ≤ 1000000) (hb : Bd X s (X.k + 1)) (q : Int) (n t : Nat) (htn : t < n) (hn : n ≤ 1048576) (hc : t % 8 = 0) (hal : s.al = false) (hq : q ≤ limV X.ls (s.tick dl) dl X.k) (u : Nat → Value) (c : Frame) (cs : List Frame) :
    Walk Try.prog main (DR V) (fun g w' => g = G (c.finish (.tuple #[.int .i64 (limV X.ls (s.tick dl) dl X.k), .int .i64 0])) cs ∧ RI X ((s.tick dl).lim dl X.k) w') (G (hdTg X sv q n 8 t u) (c :: cs)) w := by
  have hi1 : decide ((t : Int) < n) = true := by simp; omega
  have hi3 : decide (t < n) = true := by simp; omega
  have hi4 : (t : Int) < n := by omega
  have hw1 : IntKind.wrap .i64 ((t : Int) + 1) = (t : Int) + 1 := by rw [IntKind.wrap_i64]; omega
  have hcc : ((t + 1 : Nat) : Int) = (t : Int) + 1 := by simp
  have hrem : Int.tmod (t : Int) 8 = 0 := by
    have h : Int.tmod (t : Int) 8 = ((t % 8 : Nat) : Int) := rfl
    rw [h, hc]; rfl
  have hfl := fload15 (main := main) hA I (by have := hb.1; omega) hT
  have hb1 : Bd X (s.tick dl) X.k := Bd.tick hT.le hb
  rw [hal] at hfl
  have hge : decide (q ≤ limV X.ls (s.tick dl) dl X.k) = true := by simpa using hq
  clear hq
  clear hw1 hcc
  clear hc hb I hal
  conv => arg 5; unfold hdTg
  repeat (first | refine Walk.c rfl ?_ | refine Walk.cRet ?_ | refine Walk.cEnd ?_ | (refine Walk.cReg ?_; simp only [size43_0, size43_1, size43_2, size43_3, size43_4, size43_5, size43_6, size43_7, size43_8, size43_9, size43_10, List.range, List.range.loop]) | (refine Walk.oq ?_; try walk_nrm) | (refine Walk.un ?_; walk_nrm))
  refine Walk.callW (Post := fun v w' => v = .bool false ∧ RI X (s.tick dl) w') ?_ (ho_of (by conv => lhs; whnf) (by kernel_rfl)) (by rfl) (by decide) rfl Try.func44 (by kernel_rfl) (by rfl) ?_
  · try walk_nrm
    exact hfl
  rintro v w1 ⟨rfl, I1⟩
  clear hfl
  have hlm := limit15 (main := main) hA I1 hT hk hkm hb1
  clear hb1 I1
  walk_nrm
  repeat (first | refine Walk.c rfl ?_ | refine Walk.cRet ?_ | refine Walk.cEnd ?_ | (refine Walk.cReg ?_; simp only [size43_0, size43_1, size43_2, size43_3, size43_4, size43_5, size43_6, size43_7, size43_8, size43_9, size43_10, List.range, List.range.loop]) | (refine Walk.oq ?_; try walk_nrm) | (refine Walk.un ?_; walk_nrm))
  refine Walk.callW (Post := fun v w' => v = .int .i64 (limV X.ls (s.tick dl) dl X.k) ∧ RI X ((s.tick dl).lim dl X.k) w') ?_ (ho_of (by conv => lhs; whnf) (by kernel_rfl)) (by rfl) (by decide) rfl Try.func15 (by kernel_rfl) (by rfl) ?_
  · try walk_nrm
    exact hlm
  rintro v w2 ⟨rfl, I2⟩
  clear hlm
  generalize limV X.ls (s.tick dl) dl X.k = z at *
  generalize (s.tick dl).lim dl X.k = s' at *
  walk_nrm
  repeat (first | refine Walk.c rfl ?_ | refine Walk.cRet ?_ | refine Walk.cEnd ?_ | (refine Walk.cReg ?_; simp only [size43_0, size43_1, size43_2, size43_3, size43_4, size43_5, size43_6, size43_7, size43_8, size43_9, size43_10, List.range, List.range.loop]) | (refine Walk.oq ?_; try walk_nrm) | (refine Walk.un ?_; walk_nrm))
  exact Walk.on2 rfl rfl Try.func43 rfl (.stop fun d => ⟨rfl, I2.at d⟩)
theorem tg_8bgo (hA : ∀ b, Apart V b) (I : RI X s w) (hT : Tk X sv dl) (hk : 0 < X.k) (hkm : X.k ≤ 1000000) (hb : Bd X s (X.k + 1)) (q : Int) (n t : Nat) (htn : t < n) (hn : n ≤ 1048576) (hc : t % 8 = 0) (hal : s.al = false) (hq : ¬ q ≤ limV X.ls (s.tick dl) dl X.k) (u : Nat → Value) (c : Frame) (cs : List Frame) :
    Walk Try.prog main (DR V) (fun g w' => (∃ u, g = G (hdTg X sv q n 8 (t + 1) u) (c :: cs)) ∧ RI X ((s.tick dl).lim dl X.k) w') (G (hdTg X sv q n 8 t u) (c :: cs)) w := by
  have hi1 : decide ((t : Int) < n) = true := by simp; omega
  have hi3 : decide (t < n) = true := by simp; omega
  have hi4 : (t : Int) < n := by omega
  have hw1 : IntKind.wrap .i64 ((t : Int) + 1) = (t : Int) + 1 := by rw [IntKind.wrap_i64]; omega
  have hcc : ((t + 1 : Nat) : Int) = (t : Int) + 1 := by simp
  have hrem : Int.tmod (t : Int) 8 = 0 := by
    have h : Int.tmod (t : Int) 8 = ((t % 8 : Nat) : Int) := rfl
    rw [h, hc]; rfl
  have hfl := fload15 (main := main) hA I (by have := hb.1; omega) hT
  have hb1 : Bd X (s.tick dl) X.k := Bd.tick hT.le hb
  rw [hal] at hfl
  have hge : decide (q ≤ limV X.ls (s.tick dl) dl X.k) = false := by simpa using hq
  clear hq
  clear hc hb I hal
  conv => arg 5; unfold hdTg
  repeat (first | refine Walk.c rfl ?_ | refine Walk.cRet ?_ | refine Walk.cEnd ?_ | (refine Walk.cReg ?_; simp only [size43_0, size43_1, size43_2, size43_3, size43_4, size43_5, size43_6, size43_7, size43_8, size43_9, size43_10, List.range, List.range.loop]) | (refine Walk.oq ?_; try walk_nrm) | (refine Walk.un ?_; walk_nrm))
  refine Walk.callW (Post := fun v w' => v = .bool false ∧ RI X (s.tick dl) w') ?_ (ho_of (by conv => lhs; whnf) (by kernel_rfl)) (by rfl) (by decide) rfl Try.func44 (by kernel_rfl) (by rfl) ?_
  · try walk_nrm
    exact hfl
  rintro v w1 ⟨rfl, I1⟩
  clear hfl
  have hlm := limit15 (main := main) hA I1 hT hk hkm hb1
  clear hb1 I1
  walk_nrm
  repeat (first | refine Walk.c rfl ?_ | refine Walk.cRet ?_ | refine Walk.cEnd ?_ | (refine Walk.cReg ?_; simp only [size43_0, size43_1, size43_2, size43_3, size43_4, size43_5, size43_6, size43_7, size43_8, size43_9, size43_10, List.range, List.range.loop]) | (refine Walk.oq ?_; try walk_nrm) | (refine Walk.un ?_; walk_nrm))
  refine Walk.callW (Post := fun v w' => v = .int .i64 (limV X.ls (s.tick dl) dl X.k) ∧ RI X ((s.tick dl).lim dl X.k) w') ?_ (ho_of (by conv => lhs; whnf) (by kernel_rfl)) (by rfl) (by decide) rfl Try.func15 (by kernel_rfl) (by rfl) ?_
  · try walk_nrm
    exact hlm
  rintro v w2 ⟨rfl, I2⟩
  clear hlm
  generalize limV X.ls (s.tick dl) dl X.k = z at *
  generalize (s.tick dl).lim dl X.k = s' at *
  walk_nrm
  repeat (first | refine Walk.c rfl ?_ | refine Walk.cRet ?_ | refine Walk.cEnd ?_ | (refine Walk.cReg ?_; simp only [size43_0, size43_1, size43_2, size43_3, size43_4, size43_5, size43_6, size43_7, size43_8, size43_9, size43_10, List.range, List.range.loop]) | (refine Walk.oq ?_; try walk_nrm) | (refine Walk.un ?_; walk_nrm))
  refine Walk.ctl rfl (fun w => stepG_inLoop) ?_
  refine .stop fun d => ⟨at_slots ?_, I2.at d⟩
  simp only [hdTg, hcc]
  rfl
theorem together15_1 (hA : ∀ b, Apart V b) (hT : Tk X sv dl) (hk : 0 < X.k) (hkm : X.k ≤ 1000000) (q : Int) (n : Nat) (hn : n ≤ 1024) (I : RI X s w) (hb : Bd X s ((X.k + 1) * 1024)) :
    CallW Try.prog main V 43 #[.pointer (some ⟨X.bb, 0, none⟩), sv, .int .i64 q, .int .i64 n, .int .i64 1] w (fun v w' => v = .tuple #[.int .i64 (togR X.ls X.k dl q 1 n 0 s).2.1, .int .i64 (togR X.ls X.k dl q 1 n 0 s).2.2] ∧ RI X (togR X.ls X.k dl q 1 n 0 s).1 w') := by
  intro fr cs
  refine (tg_in X q n 1 (fr :: cs) w).then ?_
  rintro _ _ ⟨⟨u, rfl⟩, d, rfl⟩
  refine Walk.back ?_ d
  have loop : ∀ (r t : Nat) (s : Rs) (u : Nat → Value) (w : World), t + r = n → RI X s w → Bd X s ((X.k + 1) * r) →
      Walk Try.prog main (DR V) (fun g w' => ∃ v, (v = .tuple #[.int .i64 (togR X.ls X.k dl q 1 r t s).2.1, .int .i64 (togR X.ls X.k dl q 1 r t s).2.2] ∧ RI X (togR X.ls X.k dl q 1 r t s).1 w') ∧ g = G (fr.finish v) cs) (G (hdTg X sv q n 1 t u) (fr :: cs)) w := by
    intro r
    induction r with
    | zero =>
      intro t s u w ht I hb
      have ht : t = n := ht
      subst ht
      refine (tg_end X q t 1 u fr cs w).mono ?_
      rintro _ _ ⟨rfl, d, rfl⟩
      exact ⟨_, ⟨rfl, I.at d⟩, rfl⟩
    | succ r ih =>
      intro t s u w ht I hb
      rw [Nat.mul_succ] at hb
      have hb0 : Bd X s (X.k + 1) := hb.le (Nat.le_add_left _ _)
      unfold togR
      by_cases hc : t % 1 = 0
      · by_cases hal : s.al = true
        · rw [if_pos ⟨hc, hal⟩]
          refine (tg_1bal hA I hT hk hkm hb0 q n t (by omega) (by omega) hc hal u fr cs).mono ?_
          rintro _ _ ⟨rfl, I'⟩
          exact ⟨_, ⟨rfl, I'⟩, rfl⟩
        · have hal' : s.al = false := by simpa using hal
          rw [if_neg fun h => hal h.2, if_pos hc]
          by_cases hq : q ≤ limV X.ls (s.tick dl) dl X.k
          · rw [if_pos hq]
            refine (tg_1bhit hA I hT hk hkm hb0 q n t (by omega) (by omega) hc hal' hq u fr cs).mono ?_
            rintro _ _ ⟨rfl, I'⟩
            exact ⟨_, ⟨rfl, I'⟩, rfl⟩
          · rw [if_neg hq]
            refine (tg_1bgo hA I hT hk hkm hb0 q n t (by omega) (by omega) hc hal' hq u fr cs).then ?_
            rintro _ w' ⟨⟨u', rfl⟩, I'⟩
            exact ih (t + 1) _ u' w' (by omega) I' (Bd.lim hT.le X.k _ (Bd.tick hT.le hb))
      · exact absurd (Nat.mod_one t) hc
  exact loop n 0 s u w (Nat.zero_add _) I (hb.le (Nat.mul_le_mul_left _ hn))
theorem together15_8 (hA : ∀ b, Apart V b) (hT : Tk X sv dl) (hk : 0 < X.k) (hkm : X.k ≤ 1000000) (q : Int) (n : Nat) (hn : n ≤ 1024) (I : RI X s w) (hb : Bd X s ((X.k + 1) * 1024)) :
    CallW Try.prog main V 43 #[.pointer (some ⟨X.bb, 0, none⟩), sv, .int .i64 q, .int .i64 n, .int .i64 8] w (fun v w' => v = .tuple #[.int .i64 (togR X.ls X.k dl q 8 n 0 s).2.1, .int .i64 (togR X.ls X.k dl q 8 n 0 s).2.2] ∧ RI X (togR X.ls X.k dl q 8 n 0 s).1 w') := by
  intro fr cs
  refine (tg_in X q n 8 (fr :: cs) w).then ?_
  rintro _ _ ⟨⟨u, rfl⟩, d, rfl⟩
  refine Walk.back ?_ d
  have loop : ∀ (r t : Nat) (s : Rs) (u : Nat → Value) (w : World), t + r = n → RI X s w → Bd X s ((X.k + 1) * r) →
      Walk Try.prog main (DR V) (fun g w' => ∃ v, (v = .tuple #[.int .i64 (togR X.ls X.k dl q 8 r t s).2.1, .int .i64 (togR X.ls X.k dl q 8 r t s).2.2] ∧ RI X (togR X.ls X.k dl q 8 r t s).1 w') ∧ g = G (fr.finish v) cs) (G (hdTg X sv q n 8 t u) (fr :: cs)) w := by
    intro r
    induction r with
    | zero =>
      intro t s u w ht I hb
      have ht : t = n := ht
      subst ht
      refine (tg_end X q t 8 u fr cs w).mono ?_
      rintro _ _ ⟨rfl, d, rfl⟩
      exact ⟨_, ⟨rfl, I.at d⟩, rfl⟩
    | succ r ih =>
      intro t s u w ht I hb
      rw [Nat.mul_succ] at hb
      have hb0 : Bd X s (X.k + 1) := hb.le (Nat.le_add_left _ _)
      unfold togR
      by_cases hc : t % 8 = 0
      · by_cases hal : s.al = true
        · rw [if_pos ⟨hc, hal⟩]
          refine (tg_8bal hA I hT hk hkm hb0 q n t (by omega) (by omega) hc hal u fr cs).mono ?_
          rintro _ _ ⟨rfl, I'⟩
          exact ⟨_, ⟨rfl, I'⟩, rfl⟩
        · have hal' : s.al = false := by simpa using hal
          rw [if_neg fun h => hal h.2, if_pos hc]
          by_cases hq : q ≤ limV X.ls (s.tick dl) dl X.k
          · rw [if_pos hq]
            refine (tg_8bhit hA I hT hk hkm hb0 q n t (by omega) (by omega) hc hal' hq u fr cs).mono ?_
            rintro _ _ ⟨rfl, I'⟩
            exact ⟨_, ⟨rfl, I'⟩, rfl⟩
          · rw [if_neg hq]
            refine (tg_8bgo hA I hT hk hkm hb0 q n t (by omega) (by omega) hc hal' hq u fr cs).then ?_
            rintro _ w' ⟨⟨u', rfl⟩, I'⟩
            exact ih (t + 1) _ u' w' (by omega) I' (Bd.lim hT.le X.k _ (Bd.tick hT.le hb))
      · rw [if_neg fun h => hc h.1, if_neg hc]
        by_cases hq : q ≤ limV X.ls s dl X.k
        · rw [if_pos hq]
          refine (tg_8ahit hA I hT hk hkm hb0 q n t (by omega) (by omega) hc hq u fr cs).mono ?_
          rintro _ _ ⟨rfl, I'⟩
          exact ⟨_, ⟨rfl, I'⟩, rfl⟩
        · rw [if_neg hq]
          refine (tg_8ago hA I hT hk hkm hb0 q n t (by omega) (by omega) hc hq u fr cs).then ?_
          rintro _ w' ⟨⟨u', rfl⟩, I'⟩
          exact ih (t + 1) _ u' w' (by omega) I' (Bd.lim hT.le X.k _ (hb.le (by omega)))
  exact loop n 0 s u w (Nat.zero_add _) I (hb.le (Nat.mul_le_mul_left _ hn))
end
end
end Go.Proofs.Ytgfajibjedfkdaa
