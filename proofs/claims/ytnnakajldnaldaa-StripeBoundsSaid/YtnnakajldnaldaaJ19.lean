/- Part 19. -/
import Derived.Test.YtnnakajldnaldaaJ18
set_option linter.unusedSimpArgs false
set_option linter.unusedVariables false
set_option maxHeartbeats 8000000
set_option maxRecDepth 100000
namespace Go.Proofs.Ytnnakajldnaldaa
open Go.Conc Go.RowKit Go.Relay
open Go.ConcN (upd upd_ne upd_same)
section
section
variable {a0 M cg cc tb tc n m : Nat} {ta : Option Addr} {C : Nat → Int} {T : Nat → R5} {main : Bool}
theorem set_in (i : Nat) (cs : List Frame) (w : World) :
    Walk Try.prog main (DR (fun _ => none)) (fun g w' => (∃ u, g = G (hdSet M i u) cs) ∧ ∃ d, w' = w.at d) (G (Frame.enter Try.prog 48 #[.pointer (some ⟨M, 0, none⟩), .int .i64 i] .normal) cs) w := by
  rw [enter_at _ Try.func48 code48_is]
  simp only [Try.ntmps48, ez, Nat.reduceAdd, Nat.reduceSub]
  repeat (first | refine Walk.cx ?_ | (refine Walk.cReg ?_; simp only [z48]) | (refine Walk.oq ?_; try walk_nrm) | (refine Walk.un ?_; walk_nrm))
  refine Walk.ctl rfl (fun w => stepG_loop) ?_
  refine .stop fun d => ⟨at_slots ?_, d, rfl⟩
  simp only [hdSet]
  rfl
theorem set_on {i : Nat} (hi : i < n) (w : World) (I : M5 a0 M cg cc tb tc n m ta C T w) (hpc : (T i).pc ≠ 0) (u : Nat → Value) (fr : Frame) (cs : List Frame) :
    Walk Try.prog main (DR (fun _ => none)) (fun g w' => g = G (fr.finish (.tuple #[])) cs ∧ ∃ d, w' = w.at d) (G (hdSet M i u) (fr :: cs)) w := by
  have hi0 : (0 : Int) ≤ i := by omega
  have hi1 : decide ((i : Int) < n) = true := by simp; omega
  have hi3 : decide (i < n) = true := by simp; omega
  have hi4 : (i : Int) < n := by omega
  have hb0 : ((T i).pc == 0) = false := by simp [hpc]
  have c1 : w.cell? ⟨M, 1, none⟩ = some (.slice (some ⟨tb, 0, none⟩) n tc) := I.cT (by omega)
  have c3 : w.cell? ⟨tb, i * 7 + 4, none⟩ = some (.int .i64 (T i).pc) := I.tcell hi rfl
  generalize (T i).pc = pc at *
  conv => arg 5; unfold hdSet
  repeat (first | refine Walk.cx ?_ | (refine Walk.cReg ?_; simp only [z48]) | (refine Walk.oq ?_; try walk_nrm) | (refine Walk.un ?_; walk_nrm))
  (refine Walk.drawnC (by kernel_rfl) size48_0 (by kernel_rfl) (by kernel_rfl) (by decide) ?_; simp only [List.range, List.range.loop]; repeat (first | (refine Cm.oq ?_) | (refine Cm.unw (ho_of (by conv => lhs; whnf) (by kernel_rfl)) (by rfl) ?_; walk_nrm)))
  refine Cm.done ?_
  repeat (first | refine Walk.cx ?_ | (refine Walk.cReg ?_; simp only [z48]) | (refine Walk.oq ?_; try walk_nrm) | (refine Walk.un ?_; walk_nrm))
  exact Walk.on0 rfl rfl Try.func48 rfl (.stop fun d => ⟨rfl, d, rfl⟩)
theorem set_end {i : Nat} (hi : i < n) (w : World) (I : M5 a0 M cg cc tb tc n m ta C T w) (hpc : (T i).pc = 0) (hat : (T i).at' = (T i).ops.length) (u : Nat → Value) (fr : Frame) (cs : List Frame) :
    Walk Try.prog main (DR (fun _ => none)) (fun g w' => g = G (fr.finish (.tuple #[])) cs ∧ ∃ d, w' = w.at d) (G (hdSet M i u) (fr :: cs)) w := by
  have hi0 : (0 : Int) ≤ i := by omega
  have hi1 : decide ((i : Int) < n) = true := by simp; omega
  have hi3 : decide (i < n) = true := by simp; omega
  have hi4 : (i : Int) < n := by omega
  obtain ⟨oa, oc, hov⟩ := (I.rows i hi).ovS
  have c1 : w.cell? ⟨M, 1, none⟩ = some (.slice (some ⟨tb, 0, none⟩) n tc) := I.cT (by omega)
  have c3 : w.cell? ⟨tb, i * 7 + 4, none⟩ = some (.int .i64 (T i).pc) := I.tcell hi rfl
  have c4 : w.cell? ⟨tb, i * 7 + 3, none⟩ = some (.int .i64 (T i).at') := I.tcell hi rfl
  have c5 : w.cell? ⟨tb, i * 7, none⟩ = some (T i).ov := I.tcell hi (j := 0) rfl
  rw [hpc] at c3
  rw [hat] at c4
  rw [hov] at c5
  generalize (T i).ops.length = ln at *
  have hb1 : decide ((ln : Int) < ln) = false := by simp
  have hb2 : decide (ln < ln) = false := by simp
  clear hov hat hpc
  conv => arg 5; unfold hdSet
  repeat (first | refine Walk.cx ?_ | (refine Walk.cReg ?_; simp only [z48]) | (refine Walk.oq ?_; try walk_nrm) | (refine Walk.un ?_; walk_nrm))
  (refine Walk.drawnC (by kernel_rfl) size48_0 (by kernel_rfl) (by kernel_rfl) (by decide) ?_; simp only [List.range, List.range.loop]; repeat (first | (refine Cm.oq ?_) | (refine Cm.unw (ho_of (by conv => lhs; whnf) (by kernel_rfl)) (by rfl) ?_; walk_nrm)))
  refine Cm.done ?_
  repeat (first | refine Walk.cx ?_ | (refine Walk.cReg ?_; simp only [z48]) | (refine Walk.oq ?_; try walk_nrm) | (refine Walk.un ?_; walk_nrm))
  exact Walk.on0 rfl rfl Try.func48 rfl (.stop fun d => ⟨rfl, d, rfl⟩)
theorem set_go {i : Nat} (hi : i < n) (o : OpV) (w : World) (I : M5 a0 M cg cc tb tc n m ta C T w) (hpc : (T i).pc = 0) (ho : (T i).ops[(T i).at']? = some o) (P : World → Prop) (hP : ∀ w d, P w → P (w.at d))
    (hbg : CallW Try.prog main (fun _ => none) 66 #[.pointer (some ⟨M, 0, none⟩), .int .i64 i, .agg #[.int .i64 o.k, .int .i64 o.a, .int .i64 o.b, .int .i64 o.c]] w (fun v w' => v = .tuple #[] ∧ P w')) (u : Nat → Value) (cs : List Frame) :
    Walk Try.prog main (DR (fun _ => none)) (fun g w' => (∃ u, g = G (hdSet M i u) cs) ∧ P w') (G (hdSet M i u) cs) w := by
  have hi0 : (0 : Int) ≤ i := by omega
  have hi1 : decide ((i : Int) < n) = true := by simp; omega
  have hi3 : decide (i < n) = true := by simp; omega
  have hi4 : (i : Int) < n := by omega
  have hlt := (List.getElem?_eq_some_iff.1 ho).1
  obtain ⟨fsO, huO⟩ := structT 46 (by kernel_rfl)
  obtain ⟨g, off, oc, hov, _, _, hop⟩ := (I.rows i hi).op ho
  have c1 : w.cell? ⟨M, 1, none⟩ = some (.slice (some ⟨tb, 0, none⟩) n tc) := I.cT (by omega)
  have c3 : w.cell? ⟨tb, i * 7 + 4, none⟩ = some (.int .i64 (T i).pc) := I.tcell hi rfl
  have c4 : w.cell? ⟨tb, i * 7 + 3, none⟩ = some (.int .i64 (T i).at') := I.tcell hi rfl
  have c5 : w.cell? ⟨tb, i * 7, none⟩ = some (T i).ov := I.tcell hi (j := 0) rfl
  rw [hpc] at c3
  rw [hov] at c5
  generalize (T i).ops.length = ln at *
  generalize (T i).at' = k at *
  have hk0 : (0 : Int) ≤ k := by omega
  have hk1 : decide ((k : Int) < ln) = true := by simp; omega
  have hk3 : decide (k < ln) = true := by simp; omega
  have hk4 : (k : Int) < ln := by omega
  clear hov hpc I ho
  conv => arg 5; unfold hdSet
  repeat (first | refine Walk.cx ?_ | (refine Walk.cReg ?_; simp only [z48]) | (refine Walk.oq ?_; try walk_nrm) | (refine Walk.un ?_; walk_nrm))
  (refine Walk.drawnC (by kernel_rfl) size48_0 (by kernel_rfl) (by kernel_rfl) (by decide) ?_; simp only [List.range, List.range.loop]; repeat (first | (refine Cm.oq ?_) | (refine Cm.unw (ho_of (by conv => lhs; whnf) (by kernel_rfl)) (by rfl) ?_; walk_nrm)))
  refine Cm.done ?_
  repeat (first | refine Walk.cx ?_ | (refine Walk.cReg ?_; simp only [z48]) | (refine Walk.oq ?_; try walk_nrm) | (refine Walk.un ?_; walk_nrm))
  (refine Walk.drawnL (by kernel_rfl) size48_1 (by kernel_rfl) (by kernel_rfl) (by kernel_rfl) (by decide) ?_; simp only [List.range, List.range.loop]; repeat (first | (refine Cm.oq ?_) | (refine Cm.unw (ho_of (by conv => lhs; whnf) (by kernel_rfl)) (by rfl) ?_; walk_nrm)))
  refine Cm.loadS 46 (.tmp 51) (ho_of (by conv => lhs; whnf) (by kernel_rfl)) (by rfl) rfl g (off + k * 4) [.int .i64 o.k, .int .i64 o.a, .int .i64 o.b, .int .i64 o.c] (.struct fsO) rfl (fun x hx => hx ▸ hop) huO rfl (by kernel_rfl) ?_
  walk_nrm
  refine Cm.done ?_
  intro rest hr0
  refine Walk.callW (Post := fun v w' => v = .tuple #[] ∧ P w') ?_ (ho_of (by conv => lhs; whnf) (by kernel_rfl)) (by rfl) (by decide) rfl Try.func66 (by kernel_rfl) (by rfl) ?_
  · walk_nrm
    exact hbg
  rintro v w1 ⟨rfl, hP1⟩
  refine hr0 _ _ ?_
  try walk_nrm
  repeat (first | refine Walk.cx ?_ | (refine Walk.cReg ?_; simp only [z48]) | (refine Walk.oq ?_; try walk_nrm) | (refine Walk.un ?_; walk_nrm))
  refine Walk.ctl rfl (fun w => stepG_inLoop) ?_
  refine .stop fun d => ⟨at_slots ?_, hP w1 d hP1⟩
  simp only [hdSet]
  rfl
structure Set5 (t t' : R5) : Prop where
  ov : t'.ov = t.ov
  ops : t'.ops = t.ops
  who : t'.who = t.who
  how : ∃ q, (∀ x, x < q → ∃ o, t.ops[t.at' + x]? = some o ∧ ¬ kindOk o) ∧ t'.at' = t.at' + q ∧ t'.ans = t.ans ++ List.replicate q (false, 0) ∧
    ((t'.at' = t.ops.length ∧ t'.pc = 0) ∨ ∃ o, t.ops[t'.at']? = some o ∧ kindOk o ∧ t'.pc = 1 ∧ t'.sum = 0 ∧ t'.seen = [])
theorem settle_loop {i : Nat} (hi : i < n) (hn : n ≤ 64) (fr : Frame) (cs : List Frame) : ∀ (r : Nat) (T : Nat → R5) (w : World) (u : Nat → Value), (T i).at' + r = (T i).ops.length → (T i).ops.length ≤ 65536 → (T i).ans.length ≤ (T i).at' → (T i).pc = 0 → a0 ≤ w.heap.size → M5 a0 M cg cc tb tc n m ta C T w →
    Walk Try.prog main (DR (fun _ => none)) (fun g w' => g = G (fr.finish (.tuple #[])) cs ∧ ∃ t', Set5 (T i) t' ∧ M5 a0 M cg cc tb tc n m ta C (upd T i t') w' ∧ Got M cg tb n T (upd T i t') w w') (G (hdSet M i u) (fr :: cs)) w := by
  intro r
  induction r with
  | zero =>
    intro T w u hr hln hal hpc ha0 I
    refine (set_end hi w I hpc hr u fr cs).mono ?_
    rintro g w' ⟨rfl, d, rfl⟩
    have e : upd T i (T i) = T := by
      funext k
      by_cases h : k = i
      · subst h; rw [upd_same]
      · rw [upd_ne _ _ h]
    refine ⟨rfl, T i, ⟨rfl, rfl, rfl, 0, fun x hx => absurd hx (Nat.not_lt_zero x), rfl, by simp, .inl ⟨hr, hpc⟩⟩, ?_, ?_⟩
    · rw [e]; exact I.same fun _ _ => rfl
    · rw [e]; exact ⟨Chg.refl.at d, fun _ h => .inl h⟩
  | succ r ih =>
    intro T w u hr hln hal hpc ha0 I
    obtain ⟨o, ho⟩ : ∃ o, (T i).ops[(T i).at']? = some o := ⟨_, List.getElem?_eq_getElem (by omega)⟩
    by_cases hk : kindOk o
    · refine (set_go hi o w I hpc ho (fun w' => M5 a0 M cg cc tb tc n m ta C (upd T i (T i).first) w' ∧ Got M cg tb n T (upd T i (T i).first) w w') (fun w' d h => ⟨h.1.same fun _ _ => rfl, ⟨h.2.chg.at d, h.2.own⟩⟩) (begin_yes hi o hk w I hn ha0) u (fr :: cs)).then ?_
      rintro _ w1 ⟨⟨u1, rfl⟩, I1, g1⟩
      refine (set_on hi w1 I1 (by rw [upd_same]; show (1 : Int) ≠ 0; decide) u1 fr cs).mono ?_
      rintro g w' ⟨rfl, d, rfl⟩
      exact ⟨rfl, (T i).first, ⟨rfl, rfl, rfl, 0, fun x hx => absurd hx (Nat.not_lt_zero x), rfl, by simp [R5.first], .inr ⟨o, ho, hk, rfl, rfl, rfl⟩⟩, I1.same fun _ _ => rfl, ⟨g1.chg.at d, g1.own⟩⟩
    · refine (set_go hi o w I hpc ho (fun w' => ∃ av, M5 a0 M cg cc tb tc n m ta C (upd T i ((T i).told (false, 0) av)) w' ∧ Got M cg tb n T (upd T i ((T i).told (false, 0) av)) w w') (fun w' d h => h.imp fun av h => ⟨h.1.same fun _ _ => rfl, ⟨h.2.chg.at d, h.2.own⟩⟩) (begin_no hi o hk w I hn ha0 (by omega) (by omega)) u (fr :: cs)).then ?_
      rintro _ w1 ⟨⟨u1, rfl⟩, av, I1, g1⟩
      have hz := g1.chg.size
      refine (ih (upd T i ((T i).told (false, 0) av)) w1 u1 (by rw [upd_same]; show (T i).at' + 1 + r = _; show _ = (T i).ops.length; omega) (by rw [upd_same]; exact hln) (by rw [upd_same]; simp [R5.told]; omega) (by rw [upd_same]; rfl) (by omega) I1).mono ?_
      rintro g w' ⟨rfl, t', S, I2, g2⟩
      rw [upd_same] at S
      rw [upd_twice] at I2 g2
      obtain ⟨q, s1, s2, s3, s4⟩ := S.how
      refine ⟨rfl, t', ⟨S.ov, S.ops, S.who, q + 1, fun x hx => ?_, ?_, ?_, s4⟩, I2, g1.trans g2⟩
      · cases x with
        | zero => exact ⟨o, ho, hk⟩
        | succ x =>
          obtain ⟨o', h1, h2⟩ := s1 x (by omega)
          refine ⟨o', ?_, h2⟩
          rw [← h1]
          show (T i).ops[(T i).at' + (x + 1)]? = (T i).ops[(T i).at' + 1 + x]?
          congr 1
          omega
      · rw [s2]
        show (T i).at' + 1 + q = _
        omega
      · rw [s3]
        show (T i).ans ++ [(false, 0)] ++ _ = _
        rw [List.replicate_succ, List.append_assoc]
        rfl
theorem settle_w {i : Nat} (hi : i < n) (hn : n ≤ 64) (w : World) (hr : (T i).at' ≤ (T i).ops.length) (hln : (T i).ops.length ≤ 65536) (hal : (T i).ans.length ≤ (T i).at') (hpc : (T i).pc = 0) (ha0 : a0 ≤ w.heap.size) (I : M5 a0 M cg cc tb tc n m ta C T w) :
    CallW Try.prog main (fun _ => none) 48 #[.pointer (some ⟨M, 0, none⟩), .int .i64 i] w (fun v w' => v = .tuple #[] ∧ ∃ t', Set5 (T i) t' ∧ M5 a0 M cg cc tb tc n m ta C (upd T i t') w' ∧ Got M cg tb n T (upd T i t') w w') := by
  intro c cs
  refine (set_in i (c :: cs) w).then ?_
  rintro _ _ ⟨⟨u, rfl⟩, d, rfl⟩
  refine Walk.back ?_ d
  refine (settle_loop hi hn c cs ((T i).ops.length - (T i).at') T w u (by omega) hln hal hpc ha0 I).mono ?_
  rintro g w' ⟨rfl, h⟩
  exact ⟨_, ⟨rfl, h⟩, rfl⟩
theorem settle_on {i : Nat} (hi : i < n) (w : World) (hpc : (T i).pc ≠ 0) (I : M5 a0 M cg cc tb tc n m ta C T w) :
    CallV Try.prog main (fun _ => none) 48 #[.pointer (some ⟨M, 0, none⟩), .int .i64 i] w (.tuple #[]) w := by
  intro c cs
  refine (set_in i (c :: cs) w).then ?_
  rintro _ _ ⟨⟨u, rfl⟩, d, rfl⟩
  refine Walk.back ?_ d
  refine (set_on hi w I hpc u c cs).mono ?_
  rintro g w' ⟨rfl, d, rfl⟩
  exact ⟨_, ⟨rfl, d, rfl⟩, rfl⟩
end
end
section
noncomputable def reg49_0 := rg Try.f49.body [0]
theorem size49_0 : reg49_0.size = 20 := by kernel_rfl
noncomputable def reg49_1 := rg Try.f49.body [1, 0]
noncomputable def reg49_2 := rg Try.f49.body [1, 1, 0]
noncomputable def reg49_3 := rg Try.f49.body [1, 1, 1, 0]
noncomputable def reg49_4 := rg Try.f49.body [1, 1, 1, 1, 0]
noncomputable def reg49_5 := rg Try.f49.body [1, 1, 1, 1, 1, 0, 0]
noncomputable def reg49_6 := rg Try.f49.body [1, 1, 1, 1, 1, 0, 1, 0, 0]
noncomputable def reg49_7 := rg Try.f49.body [1, 1, 1, 1, 1, 0, 1, 0, 1, 0]
theorem size49_7 : reg49_7.size = 17 := by kernel_rfl
noncomputable def reg49_8 := rg Try.f49.body [1, 1, 1, 1, 1, 0, 1, 0, 1, 1]
noncomputable def reg49_9 := rg Try.f49.body [1, 1, 1, 1, 1, 0, 1, 1, 0, 0]
noncomputable def reg49_10 := rg Try.f49.body [1, 1, 1, 1, 1, 0, 1, 1, 0, 1, 1]
noncomputable def reg49_11 := rg Try.f49.body [1, 1, 1, 1, 1, 0, 1, 1, 1, 0, 0]
theorem size49_11 : reg49_11.size = 24 := by kernel_rfl
noncomputable def reg49_12 := rg Try.f49.body [1, 1, 1, 1, 1, 0, 1, 1, 1, 0, 1, 0, 0]
noncomputable def reg49_13 := rg Try.f49.body [1, 1, 1, 1, 1, 0, 1, 1, 1, 0, 1, 0, 1, 0]
noncomputable def reg49_14 := rg Try.f49.body [1, 1, 1, 1, 1, 0, 1, 1, 1, 0, 1, 1, 0]
noncomputable def reg49_15 := rg Try.f49.body [1, 1, 1, 1, 1, 0, 1, 1, 1, 0, 1, 1, 1, 0]
noncomputable def reg49_16 := rg Try.f49.body [1, 1, 1, 1, 1, 0, 1, 1, 1, 1, 0]
noncomputable def reg49_17 := rg Try.f49.body [1, 1, 1, 1, 1, 0, 1, 1, 1, 1, 1, 0, 0, 0]
noncomputable def reg49_18 := rg Try.f49.body [1, 1, 1, 1, 1, 0, 1, 1, 1, 1, 1, 0, 0, 1, 0, 0]
noncomputable def reg49_19 := rg Try.f49.body [1, 1, 1, 1, 1, 0, 1, 1, 1, 1, 1, 0, 0, 1, 0, 1, 0]
theorem size49_19 : reg49_19.size = 17 := by kernel_rfl
noncomputable def reg49_20 := rg Try.f49.body [1, 1, 1, 1, 1, 0, 1, 1, 1, 1, 1, 0, 1, 0]
noncomputable def reg49_21 := rg Try.f49.body [1, 1, 1, 1, 1, 0, 1, 1, 1, 1, 1, 0, 1, 1, 0]
theorem size49_21 : reg49_21.size = 17 := by kernel_rfl
noncomputable def reg49_22 := rg Try.f49.body [1, 1, 1, 1, 1, 0, 1, 1, 1, 1, 1, 0, 1, 1, 1]
noncomputable def reg49_23 := rg Try.f49.body [1, 1, 1, 1, 1, 0, 1, 1, 1, 1, 1, 1, 0]
noncomputable def reg49_24 := rg Try.f49.body [1, 1, 1, 1, 1, 0, 1, 1, 1, 1, 1, 1, 1, 0, 0, 0]
noncomputable def reg49_25 := rg Try.f49.body [1, 1, 1, 1, 1, 0, 1, 1, 1, 1, 1, 1, 1, 0, 0, 1, 0, 0]
theorem size49_25 : reg49_25.size = 25 := by kernel_rfl
noncomputable def reg49_26 := rg Try.f49.body [1, 1, 1, 1, 1, 0, 1, 1, 1, 1, 1, 1, 1, 0, 0, 1, 0, 1, 0]
theorem size49_26 : reg49_26.size = 24 := by kernel_rfl
noncomputable def reg49_27 := rg Try.f49.body [1, 1, 1, 1, 1, 0, 1, 1, 1, 1, 1, 1, 1, 0, 1, 0, 0]
theorem size49_27 : reg49_27.size = 23 := by kernel_rfl
noncomputable def reg49_28 := rg Try.f49.body [1, 1, 1, 1, 1, 0, 1, 1, 1, 1, 1, 1, 1, 0, 1, 0, 1, 0, 0]
noncomputable def reg49_29 := rg Try.f49.body [1, 1, 1, 1, 1, 0, 1, 1, 1, 1, 1, 1, 1, 0, 1, 1, 0]
noncomputable def reg49_30 := rg Try.f49.body [1, 1, 1, 1, 1, 0, 1, 1, 1, 1, 1, 1, 1, 0, 1, 1, 1, 0]
theorem z49 : List.range reg49_0.size = [0, 1, 2, 3, 4, 5, 6, 7, 8, 9, 10, 11, 12, 13, 14, 15, 16, 17, 18, 19] ∧ List.range reg49_1.size = [0, 1, 2, 3, 4, 5] ∧ List.range reg49_2.size = [0, 1, 2, 3, 4, 5, 6, 7, 8, 9] ∧ List.range reg49_3.size = [0, 1, 2, 3, 4, 5, 6, 7, 8, 9] ∧ List.range reg49_4.size = [0, 1] ∧ List.range reg49_5.size = [0, 1] ∧ List.range reg49_6.size = [0, 1, 2, 3, 4] ∧ List.range reg49_7.size = [0, 1, 2, 3, 4, 5, 6, 7, 8, 9, 10, 11, 12, 13, 14, 15, 16] ∧ List.range reg49_8.size = [0, 1, 2, 3, 4, 5, 6, 7, 8, 9, 10] ∧ List.range reg49_9.size = [0, 1] ∧ List.range reg49_10.size = [0, 1] ∧ List.range reg49_11.size = [0, 1, 2, 3, 4, 5, 6, 7, 8, 9, 10, 11, 12, 13, 14, 15, 16, 17, 18, 19, 20, 21, 22, 23] ∧ List.range reg49_12.size = [0, 1, 2] ∧ List.range reg49_13.size = [0, 1, 2, 3, 4, 5, 6] ∧ List.range reg49_14.size = [0, 1, 2, 3] ∧ List.range reg49_15.size = [0, 1, 2, 3, 4, 5, 6, 7, 8, 9, 10, 11] ∧ List.range reg49_16.size = [0, 1] ∧ List.range reg49_17.size = [0, 1] ∧ List.range reg49_18.size = [0, 1, 2, 3, 4] ∧ List.range reg49_19.size = [0, 1, 2, 3, 4, 5, 6, 7, 8, 9, 10, 11, 12, 13, 14, 15, 16] ∧ List.range reg49_20.size = [0, 1, 2, 3, 4] ∧ List.range reg49_21.size = [0, 1, 2, 3, 4, 5, 6, 7, 8, 9, 10, 11, 12, 13, 14, 15, 16] ∧ List.range reg49_22.size = [0, 1, 2, 3] ∧ List.range reg49_23.size = [0, 1] ∧ List.range reg49_24.size = [0, 1, 2] ∧ List.range reg49_25.size = [0, 1, 2, 3, 4, 5, 6, 7, 8, 9, 10, 11, 12, 13, 14, 15, 16, 17, 18, 19, 20, 21, 22, 23, 24] ∧ List.range reg49_26.size = [0, 1, 2, 3, 4, 5, 6, 7, 8, 9, 10, 11, 12, 13, 14, 15, 16, 17, 18, 19, 20, 21, 22, 23] ∧ List.range reg49_27.size = [0, 1, 2, 3, 4, 5, 6, 7, 8, 9, 10, 11, 12, 13, 14, 15, 16, 17, 18, 19, 20, 21, 22] ∧ List.range reg49_28.size = [0, 1, 2, 3] ∧ List.range reg49_29.size = [0, 1, 2, 3, 4] ∧ List.range reg49_30.size = [0, 1, 2, 3, 4, 5, 6, 7, 8, 9, 10, 11] := by refine ⟨?_, ?_, ?_, ?_, ?_, ?_, ?_, ?_, ?_, ?_, ?_, ?_, ?_, ?_, ?_, ?_, ?_, ?_, ?_, ?_, ?_, ?_, ?_, ?_, ?_, ?_, ?_, ?_, ?_, ?_, ?_⟩ <;> kernel_rfl
theorem code49_is : Try.f49.body = some (.seq (.region 0 reg49_0 true) (.seq (.region 1 reg49_1 false) (.seq (.region 2 reg49_2 false) (.seq (.region 3 reg49_3 false) (.seq (.region 4 reg49_4 false) (.block 0 (.seq (.region 5 reg49_5 false) (.cond (.tmp 53 ) (.seq (.region 6 reg49_6 false) (.seq (.region 7 reg49_7 true) (.region 8 reg49_8 false))) (.seq (.seq (.region 9 reg49_9 false) (.cond (.tmp 86 ) (.skip) (.region 10 reg49_10 false))) (.cond (.tmp 86 ) (.seq (.region 11 reg49_11 true) (.seq (.seq (.region 12 reg49_12 false) (.cond (.tmp 114 ) (.region 13 reg49_13 false) (.skip))) (.seq (.region 14 reg49_14 false) (.cond (.tmp 124 ) (.region 15 reg49_15 false) (.skip))))) (.seq (.region 16 reg49_16 false) (.cond (.tmp 137 ) (.seq (.seq (.region 17 reg49_17 false) (.cond (.tmp 140 ) (.seq (.region 18 reg49_18 false) (.seq (.region 19 reg49_19 true) (.ret))) (.skip))) (.seq (.region 20 reg49_20 false) (.seq (.region 21 reg49_21 true) (.region 22 reg49_22 false)))) (.seq (.region 23 reg49_23 false) (.cond (.tmp 185 ) (.seq (.seq (.region 24 reg49_24 false) (.cond (.tmp 189 ) (.seq (.region 25 reg49_25 true) (.seq (.region 26 reg49_26 true) (.ret))) (.skip))) (.seq (.seq (.region 27 reg49_27 true) (.cond (.tmp 259 ) (.seq (.region 28 reg49_28 false) (.ret)) (.skip))) (.seq (.region 29 reg49_29 false) (.cond (.tmp 268 ) (.region 30 reg49_30 false) (.skip))))) (.skip))))))))))))))) := by kernel_rfl
noncomputable def hdStep (M i S m k : Nat) (kd : Int) (u : Nat → Value) : Frame :=
  (base 49).at { tmps := #[.pointer (some ⟨M, 0, none⟩), .int .i64 i, u 2, u 3, .pointer (some ⟨S, 0, none⟩), .int .i64 m, .int .i64 k, u 7, u 8, u 9, u 10, u 11, u 12, u 13, u 14, u 15, u 16, u 17, u 18, u 19, u 20, u 21, u 22, u 23, u 24, u 25, u 26, u 27, u 28, u 29, u 30, u 31, u 32, u 33, u 34, u 35, u 36, u 37, u 38, u 39, u 40, u 41, u 42, u 43, u 44, u 45, u 46, u 47, u 48, u 49, u 50, u 51, .int .i64 kd, .bool (kd == 1), u 54, u 55, u 56, u 57, u 58, u 59, u 60, u 61, u 62, u 63, u 64, u 65, u 66, u 67, u 68, u 69, u 70, u 71, u 72, u 73, u 74, u 75, u 76, u 77, u 78, u 79, u 80, u 81, u 82, u 83, u 84, u 85, u 86, u 87, u 88, u 89, u 90, u 91, u 92, u 93, u 94, u 95, u 96, u 97, u 98, u 99, u 100, u 101, u 102, u 103, u 104, u 105, u 106, u 107, u 108, u 109, u 110, u 111, u 112, u 113, u 114, u 115, u 116, u 117, u 118, u 119, u 120, u 121, u 122, u 123, u 124, u 125, u 126, u 127, u 128, u 129, u 130, u 131, u 132, u 133, u 134, u 135, u 136, u 137, u 138, u 139, u 140, u 141, u 142, u 143, u 144, u 145, u 146, u 147, u 148, u 149, u 150, u 151, u 152, u 153, u 154, u 155, u 156, u 157, u 158, u 159, u 160, u 161, u 162, u 163, u 164, u 165, u 166, u 167, u 168, u 169, u 170, u 171, u 172, u 173, u 174, u 175, u 176, u 177, u 178, u 179, u 180, u 181, u 182, u 183, u 184, u 185, u 186, u 187, u 188, u 189, u 190, u 191, u 192, u 193, u 194, u 195, u 196, u 197, u 198, u 199, u 200, u 201, u 202, u 203, u 204, u 205, u 206, u 207, u 208, u 209, u 210, u 211, u 212, u 213, u 214, u 215, u 216, u 217, u 218, u 219, u 220, u 221, u 222, u 223, u 224, u 225, u 226, u 227, u 228, u 229, u 230, u 231, u 232, u 233, u 234, u 235, u 236, u 237, u 238, u 239, u 240, u 241, u 242, u 243, u 244, u 245, u 246, u 247, u 248, u 249, u 250, u 251, u 252, u 253, u 254, u 255, u 256, u 257, u 258, u 259, u 260, u 261, u 262, u 263, u 264, u 265, u 266, u 267, u 268, u 269, u 270, u 271, u 272, u 273, u 274, u 275, u 276, u 277, u 278, u 279, u 280], defers := [] } [.code (.cond (.tmp 53 ) (.seq (.region 6 reg49_6 false) (.seq (.region 7 reg49_7 true) (.region 8 reg49_8 false))) (.seq (.seq (.region 9 reg49_9 false) (.cond (.tmp 86 ) (.skip) (.region 10 reg49_10 false))) (.cond (.tmp 86 ) (.seq (.region 11 reg49_11 true) (.seq (.seq (.region 12 reg49_12 false) (.cond (.tmp 114 ) (.region 13 reg49_13 false) (.skip))) (.seq (.region 14 reg49_14 false) (.cond (.tmp 124 ) (.region 15 reg49_15 false) (.skip))))) (.seq (.region 16 reg49_16 false) (.cond (.tmp 137 ) (.seq (.seq (.region 17 reg49_17 false) (.cond (.tmp 140 ) (.seq (.region 18 reg49_18 false) (.seq (.region 19 reg49_19 true) (.ret))) (.skip))) (.seq (.region 20 reg49_20 false) (.seq (.region 21 reg49_21 true) (.region 22 reg49_22 false)))) (.seq (.region 23 reg49_23 false) (.cond (.tmp 185 ) (.seq (.seq (.region 24 reg49_24 false) (.cond (.tmp 189 ) (.seq (.region 25 reg49_25 true) (.seq (.region 26 reg49_26 true) (.ret))) (.skip))) (.seq (.seq (.region 27 reg49_27 true) (.cond (.tmp 259 ) (.seq (.region 28 reg49_28 false) (.ret)) (.skip))) (.seq (.region 29 reg49_29 false) (.cond (.tmp 268 ) (.region 30 reg49_30 false) (.skip))))) (.skip)))))))), .inBlock 0]
def zOp : Obj := .cells #[.int .i64 0, .int .i64 0, .int .i64 0, .int .i64 0] 46
section
variable {a0 M cg cc tb tc n m : Nat} {ta : Option Addr} {C : Nat → Int} {T : Nat → R5} {main : Bool}
structure StepI (a0 M cg cc tb tc n m : Nat) (ta : Option Addr) (C : Nat → Int) (T : Nat → R5) (i k S : Nat) (o : OpV) (w w' : World) : Prop where
  I : M5 a0 M cg cc tb tc n m ta C (upd T i { T i with pc := (k : Int) + 2 }) w'
  got : Got M cg tb n T (upd T i { T i with pc := (k : Int) + 2 }) w w'
  op : w'.heap[S]? = some (.cells #[.int .i64 o.k, .int .i64 o.a, .int .i64 o.b, .int .i64 o.c] 46)
  lo : w.heap.size = S
theorem step_in {i k : Nat} (hi : i < n) (o : OpV) (w : World) (I : M5 a0 M cg cc tb tc n m ta C T w) (hm : m ≤ 64) (hpc : (T i).pc = (k : Int) + 1) (hk : k ≤ 1000) (ho : (T i).ops[(T i).at']? = some o) (hat : (T i).ops.length ≤ 65536) (cs : List Frame) :
    Walk Try.prog main (DR (fun _ => none)) (fun g w' => (∃ u, g = G (hdStep M i w.heap.size m k o.k u) cs) ∧ StepI a0 M cg cc tb tc n m ta C T i k w.heap.size o w w') (G (Frame.enter Try.prog 49 #[.pointer (some ⟨M, 0, none⟩), .int .i64 i] .normal) cs) w := by
  have hi0 : (0 : Int) ≤ i := by omega
  have hi1 : decide ((i : Int) < n) = true := by simp; omega
  have hi3 : decide (i < n) = true := by simp; omega
  have hi4 : (i : Int) < n := by omega
  have hlt := (List.getElem?_eq_some_iff.1 ho).1
  have hw1 : IntKind.i64.wrap ((k : Int) + 1 - 1) = (k : Int) := by rw [IntKind.wrap_i64]; omega
  have hw2 : IntKind.i64.wrap (k : Int) = (k : Int) := by rw [IntKind.wrap_i64]; omega
  have hw3 : IntKind.i64.wrap ((k : Int) + 2) = (k : Int) + 2 := by rw [IntKind.wrap_i64]; omega
  obtain ⟨fsO, huO⟩ := structT 46 (by kernel_rfl)
  obtain ⟨g, off, oc, hov, _, hgl, hop⟩ := (I.rows i hi).op ho
  have c0 : w.cell? ⟨M, 1, none⟩ = some (.slice (some ⟨tb, 0, none⟩) n tc) := I.cT (by omega)
  have c1 : w.cell? ⟨tb, i * 7 + 3, none⟩ = some (.int .i64 (T i).at') := I.tcell hi rfl
  have c2 : w.cell? ⟨tb, i * 7, none⟩ = some (T i).ov := I.tcell hi (j := 0) rfl
  rw [hov] at c2
  have hO1 : ∀ x, x < w.heap.size → (w.alloc zOp).heap[x]? = w.heap[x]? := fun x hx => heap_new_lt _ _ hx
  have I0 := I.same hO1
  have s0 : (w.alloc zOp).heap.size = w.heap.size + 1 := by simp
  have e0 := cell_alloc _ zOp c0
  have e1 := cell_alloc _ zOp c1
  have e2 := cell_alloc _ zOp c2
  have hop' : ∀ (j : Nat) (v : Value), ([.int .i64 o.k, .int .i64 o.a, .int .i64 o.b, .int .i64 o.c] : List Value)[j]? = some v → (w.alloc zOp).cell? ⟨g, off + (T i).at' * 4 + j, none⟩ = some v := fun j v hv => cell_alloc _ zOp (hop j v hv)
  generalize hln : (T i).ops.length = ln at *
  generalize hatk : (T i).at' = q at *
  have hk0 : (0 : Int) ≤ q := by omega
  have hk1 : decide ((q : Int) < ln) = true := by simp; omega
  have hk3 : decide (q < ln) = true := by simp; omega
  have hk4 : (q : Int) < ln := by omega
  rw [enter_at _ Try.func49 code49_is]
  simp only [Try.ntmps49, ez, Nat.reduceAdd, Nat.reduceSub]
  repeat (first | refine Walk.cx ?_ | (refine Walk.cReg ?_; simp only [z49]) | (refine Walk.oq ?_; try walk_nrm) | (refine Walk.un ?_; walk_nrm))
  refine Walk.drawnB (w1 := w.alloc (zOp)) (vm := .pointer (some ⟨w.heap.size, 0, none⟩)) (by kernel_rfl) size49_0 (by kernel_rfl) (by kernel_rfl) (by kernel_rfl) (by decide) (ho_of (by conv => lhs; whnf) (by kernel_rfl)) ?_ ?_
  · intro x rest hr
    (refine Walk.oa ?_; try walk_nrm)
    exact hr _ _ ⟨rfl, _, rfl⟩
  simp only [List.range, List.range.loop]
  repeat (first | (refine Cm.opqB (ho_of (by conv => lhs; whnf) (by kernel_rfl)) (by rfl) (fun dd e he => ?_) (fun dd e he => ?_) ?_; (· (simp [go_sem, *] at he; try (subst he; exact evR_read _ _))); (· (simp [go_sem, *] at he; try (subst he; exact evR_read _ _))); apply Exists.intro; apply And.intro; (· (intro dd K hK; go_simp; exact hK)); apply And.intro; (· (intro dd K hK; go_simp; exact hK))) | (refine Cm.unw (ho_of (by conv => lhs; whnf) (by kernel_rfl)) (by rfl) ?_; walk_nrm))
  refine Cm.loadS 46 (.tmp 26) (ho_of (by conv => lhs; whnf) (by kernel_rfl)) (by rfl) rfl g (off + q * 4) [.int .i64 o.k, .int .i64 o.a, .int .i64 o.b, .int .i64 o.c] (.struct fsO) rfl (fun x hx => by rcases hx with rfl | rfl; exact hop; exact hop') huO rfl (by kernel_rfl) ?_
  clear c0 c1 c2 e0 e1 e2 hop hop'
  walk_nrm
  refine Cm.done ?_
  intro rest hr
  have d0 := heap_alloc_new w zOp
  generalize hS : w.heap.size = S at *
  generalize w.alloc zOp = w0 at *
  unfold zOp at d0
  refine Walk.storeS 46 (.tmp 4) (.tmp 27) (ho_of (by conv => lhs; whnf) (by kernel_rfl)) (by rfl) (by decide) rfl S #[.int .i64 o.k, .int .i64 o.a, .int .i64 o.b, .int .i64 o.c] _ 46 rfl rfl d0 (by kernel_rfl) (by rfl) (by simp [Value.oneCell']) (ap0 _) ?_
  have d1 := setRow_self (cells := #[.int .i64 o.k, .int .i64 o.a, .int .i64 o.b, .int .i64 o.c]) d0
  have o1 : ∀ x, x < S → (w0.setRow S #[.int .i64 o.k, .int .i64 o.a, .int .i64 o.b, .int .i64 o.c]).heap[x]? = w.heap[x]? := fun x hx => (setRow_other _ _ (by omega)).trans (hO1 x hx)
  have s1 := setRow_size w0 S #[.int .i64 o.k, .int .i64 o.a, .int .i64 o.b, .int .i64 o.c]
  refine hr _ _ ?_
  generalize w0.setRow S #[.int .i64 o.k, .int .i64 o.a, .int .i64 o.b, .int .i64 o.c] = w1 at *
  have I1 : M5 a0 M cg cc tb tc n m ta C T w1 := I.same fun x hx => o1 x (by omega)
  clear I0 d0 hO1
  have c0 : w1.cell? ⟨M, 1, none⟩ = some (.slice (some ⟨tb, 0, none⟩) n tc) := I1.cT (by omega)
  have c1 : w1.cell? ⟨M, 0, none⟩ = some (.slice (some ⟨cg, 0, none⟩) m cc) := I1.cC
  have c2 : w1.cell? ⟨tb, i * 7 + 4, none⟩ = some (.int .i64 (T i).pc) := I1.tcell hi rfl
  have z2 := I1.tfrz hi (i * 7 + 4)
  rw [hpc] at c2
  have I2 := I1.put hi (j := 4) (v := .int .i64 ((k : Int) + 2)) (t := { T i with pc := (k : Int) + 2 }) rfl (by decide) ⟨rfl, rfl, rfl, rfl, rfl, rfl⟩
  try walk_nrm
  repeat (first | refine Walk.cx ?_ | (refine Walk.cReg ?_; simp only [z49]) | (refine Walk.oq ?_; try walk_nrm) | (refine Walk.un ?_; walk_nrm))
  (have hfr := fr0 tb (i * 7 + 4); refine Walk.os hfr c2 ?_; clear hfr; try walk_nrm)
  have d2 : (w1.setCell ⟨tb, i * 7 + 4, none⟩ (.int .i64 ((k : Int) + 2))).heap[S]? = some (.cells #[.int .i64 o.k, .int .i64 o.a, .int .i64 o.b, .int .i64 o.c] 46) := (heap_set_other _ _ _ _ (by have := I.lt.2.2 (by omega); show S ≠ tb; omega)).trans d1
  have s2 := size_set w1 ⟨tb, i * 7 + 4, none⟩ (.int .i64 ((k : Int) + 2))
  have o2 : ∀ x, x ≠ tb → (w1.setCell ⟨tb, i * 7 + 4, none⟩ (.int .i64 ((k : Int) + 2))).heap[x]? = w1.heap[x]? := fun x hx => heap_set_other _ _ _ _ hx
  generalize w1.setCell ⟨tb, i * 7 + 4, none⟩ (.int .i64 ((k : Int) + 2)) = w2 at *
  clear c0 c1 c2 z2
  have c0 := (cell_of d2 0).trans rfl
  try walk_nrm
  repeat (first | refine Walk.cx ?_ | (refine Walk.cReg ?_; simp only [z49]) | (refine Walk.oq ?_; try walk_nrm) | (refine Walk.un ?_; walk_nrm))
  refine .stop fun d => ⟨at_slots ?_, I2.same fun _ _ => rfl, ⟨⟨?_, fun x hx hn => ?_⟩, fun b hb => m5S_upd hi (t := { T i with pc := (k : Int) + 2 }) (fun b hb => .inl hb) b hb⟩, d2, hS⟩
  · simp only [hdStep]
    rfl
  · show w.heap.size ≤ w2.heap.size
    omega
  · show w2.heap[x]? = w.heap[x]?
    exact (o2 x fun e => hn (.inr (.inr (.inl e)))).trans (o1 x (by omega))
end
end
end Go.Proofs.Ytnnakajldnaldaa
