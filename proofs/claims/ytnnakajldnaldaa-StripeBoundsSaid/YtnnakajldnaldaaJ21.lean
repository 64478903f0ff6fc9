/- Part 21. -/
import Derived.Test.YtnnakajldnaldaaJ13
import Derived.Test.YtnnakajldnaldaaJ17
import Derived.Test.YtnnakajldnaldaaJ20
set_option linter.unusedSimpArgs false
set_option linter.unusedVariables false
set_option maxHeartbeats 8000000
set_option maxRecDepth 100000
namespace Go.Proofs.Ytnnakajldnaldaa
open Go.Conc Go.RowKit Go.Relay
open Go.ConcN (upd upd_ne upd_same)
section
theorem R5.Rows.see {t : R5} {a0 : Nat} {w : World} (h : t.Rows a0 w) {k : Nat} {y : Int} (hy : t.seen[k]? = some y) : ∃ g oc, t.sv = .slice (some ⟨g, 0, none⟩) t.seen.length oc ∧ w.cell? ⟨g, k, none⟩ = some (.int .i64 y) := by
  have hr := h.rS
  rcases hr.2 with ⟨_, hn⟩ | ⟨g, cap, cur, e, _⟩
  · have := (List.getElem?_eq_some_iff.1 hy).1
    omega
  · rw [e] at hr
    obtain ⟨g2, e2, _, _, h5⟩ := row_at hr (j := k) (x := .int .i64 y) (by simp [intRow, hy])
    cases e2
    exact ⟨g, cap, e, h5⟩
section
variable {a0 M cg cc tb tc n m : Nat} {ta : Option Addr} {C : Nat → Int} {T : Nat → R5} {main : Bool}
def EvI (a0 M cg cc tb tc n m : Nat) (ta : Option Addr) (C : Nat → Int) (T : Nat → R5) (i j : Nat) (y : Int) (w w' : World) : Prop :=
  (C j ≠ y ∧ ToldI a0 M cg cc tb tc n m ta C C T i (T i) (false, 0) w w') ∨
  (C j = y ∧ j + 1 = m ∧ ToldI a0 M cg cc tb tc n m ta C C T i (T i) (true, (T i).sum) w w') ∨
  (C j = y ∧ j + 1 ≠ m ∧ M5 a0 M cg cc tb tc n m ta C T w' ∧ Got M cg tb n T T w w')
theorem step_5b {i j S : Nat} (hi : i < n) (y : Int) (w : World) (I : M5 a0 M cg cc tb tc n m ta C T w) (hj : j < m) (hm : m ≤ 64) (hn : n ≤ 64) (ha0 : a0 ≤ w.heap.size) (hl : (T i).ans.length ≤ 65536) (hat : (T i).at' ≤ 65536) (hy : (T i).seen[j]? = some y) (u : Nat → Value) (fr : Frame) (cs : List Frame) :
    Walk Try.prog main (DR (fun _ => none)) (fun g w' => g = G (fr.finish (.tuple #[])) cs ∧ EvI a0 M cg cc tb tc n m ta C T i j y w w') (G (hdStep M i S m (m + j) 5 u) (fr :: cs)) w := by
  have hi0 : (0 : Int) ≤ i := by omega
  have hi1 : decide ((i : Int) < n) = true := by simp; omega
  have hi3 : decide (i < n) = true := by simp; omega
  have hi4 : (i : Int) < n := by omega
  have hp0 : (0 : Int) ≤ j := by omega
  have hp1 : decide ((j : Int) < m) = true := by simp; omega
  have hp3 : decide (j < m) = true := by simp; omega
  have hp4 : (j : Int) < m := by omega
  have hq0 : ¬ (j : Int) < 0 := by omega
  have hq1 : decide ((m : Int) + j < m) = false := by rw [decide_eq_false_iff_not]; omega
  have hw1 : IntKind.i64.wrap ((m : Int) + j - m) = (j : Int) := by rw [IntKind.wrap_i64]; omega
  have hw2 : IntKind.i64.wrap (j : Int) = (j : Int) := by rw [IntKind.wrap_i64]; omega
  have hw3 : IntKind.i64.wrap (2 * (m : Int)) = 2 * (m : Int) := by rw [IntKind.wrap_i64]; omega
  have hw4 : IntKind.i64.wrap (2 * (m : Int) - 1) = 2 * (m : Int) - 1 := by rw [IntKind.wrap_i64]; omega
  have hcc : ((m + j : Nat) : Int) = (m : Int) + j := by simp
  obtain ⟨g, oc, hsv, c5⟩ := (I.rows i hi).see hy
  have hlt := (List.getElem?_eq_some_iff.1 hy).1
  have c0 : w.cell? ⟨M, 1, none⟩ = some (.slice (some ⟨tb, 0, none⟩) n tc) := I.cT (by omega)
  have c1 : w.cell? ⟨M, 0, none⟩ = some (.slice (some ⟨cg, 0, none⟩) m cc) := I.cC
  have c2 := I.ccell hj
  have c3 : w.cell? ⟨tb, i * 7 + 6, none⟩ = some (T i).sv := I.tcell hi rfl
  have c4 : w.cell? ⟨tb, i * 7 + 5, none⟩ = some (.int .i64 (T i).sum) := I.tcell hi rfl
  rw [hsv] at c3
  have he1 := end_w (main := main) hi (false, 0) w I hn ha0 hl hat
  have he2 := end_w (main := main) hi (true, (T i).sum) w I hn ha0 hl hat
  simp only [ansVal] at he1 he2
  generalize (T i).seen.length = ln at *
  have hr1 : decide ((j : Int) < ln) = true := by simp; omega
  have hr3 : decide (j < ln) = true := by simp; omega
  have hr4 : (j : Int) < ln := by omega
  unfold EvI
  generalize hx : C j = x at *
  conv => arg 5; unfold hdStep
  rw [hcc]
  repeat (first | refine Walk.cx ?_ | (refine Walk.cReg ?_; simp only [z49]) | (refine Walk.oq ?_; try walk_nrm) | (refine Walk.un ?_; walk_nrm))
  (refine Walk.drawnC (by kernel_rfl) size49_27 (by kernel_rfl) (by kernel_rfl) (by decide) ?_; simp only [List.range, List.range.loop]; repeat (first | (refine Cm.oq ?_) | (refine Cm.unw (ho_of (by conv => lhs; whnf) (by kernel_rfl)) (by rfl) ?_; walk_nrm)))
  refine Cm.done ?_
  by_cases hxy : x = y
  · have hb : (x != y) = false := by simp [hxy]
    simp only [hb]
    by_cases hlast : j + 1 = m
    · have hbe : ((m : Int) + j == 2 * (m : Int) - 1) = true := by simp; omega
      repeat (first | refine Walk.cx ?_ | (refine Walk.cReg ?_; simp only [z49]) | (refine Walk.oq ?_; try walk_nrm) | (refine Walk.un ?_; walk_nrm))
      refine Walk.callW (Post := fun v w' => v = .tuple #[] ∧ ToldI a0 M cg cc tb tc n m ta C C T i (T i) (true, (T i).sum) w w') ?_ (ho_of (by conv => lhs; whnf) (by kernel_rfl)) (by rfl) (by decide) rfl Try.func68 (by kernel_rfl) (by rfl) ?_
      · walk_nrm
        exact he2
      rintro v w3 ⟨rfl, av, I3, g4⟩
      walk_nrm
      repeat (first | refine Walk.cx ?_ | (refine Walk.cReg ?_; simp only [z49]) | (refine Walk.oq ?_; try walk_nrm) | (refine Walk.un ?_; walk_nrm))
      exact Walk.on0 rfl rfl Try.func49 rfl (.stop fun d => ⟨rfl, .inr (.inl ⟨hxy, hlast, av, I3.same fun _ _ => rfl, ⟨g4.chg.at d, g4.own⟩⟩)⟩)
    · have hbe : ((m : Int) + j == 2 * (m : Int) - 1) = false := by simp; omega
      repeat (first | refine Walk.cx ?_ | (refine Walk.cReg ?_; simp only [z49]) | (refine Walk.oq ?_; try walk_nrm) | (refine Walk.un ?_; walk_nrm))
      exact Walk.on0 rfl rfl Try.func49 rfl (.stop fun d => ⟨rfl, .inr (.inr ⟨hxy, hlast, I.same fun _ _ => rfl, ⟨Chg.refl.at d, fun _ h => .inl h⟩⟩)⟩)
  · have hb : (x != y) = true := by simp [hxy]
    simp only [hb]
    repeat (first | refine Walk.cx ?_ | (refine Walk.cReg ?_; simp only [z49]) | (refine Walk.oq ?_; try walk_nrm) | (refine Walk.un ?_; walk_nrm))
    refine Walk.callW (Post := fun v w' => v = .tuple #[] ∧ ToldI a0 M cg cc tb tc n m ta C C T i (T i) (false, 0) w w') ?_ (ho_of (by conv => lhs; whnf) (by kernel_rfl)) (by rfl) (by decide) rfl Try.func68 (by kernel_rfl) (by rfl) ?_
    · walk_nrm
      exact he1
    rintro v w3 ⟨rfl, av, I3, g4⟩
    walk_nrm
    repeat (first | refine Walk.cx ?_ | (refine Walk.cReg ?_; simp only [z49]) | (refine Walk.oq ?_; try walk_nrm) | (refine Walk.un ?_; walk_nrm))
    exact Walk.on0 rfl rfl Try.func49 rfl (.stop fun d => ⟨rfl, .inl ⟨hxy, av, I3.same fun _ _ => rfl, ⟨g4.chg.at d, g4.own⟩⟩⟩)
end
end
section
def St5 (m : Nat) (o : OpV) (t : R5) : SD → Prop
  | .a1 i v => o.k = 1 ∧ i = stAt m o.a ∧ v = o.b ∧ t.pc = 1
  | .u1 k l => o.k = 2 ∧ k < m ∧ l.length = k ∧ t.pc = (k : Int) + 1 ∧ t.sum = sumZ l
  | .t1 k l => o.k = 3 ∧ k < m ∧ l.length = k ∧ t.pc = (k : Int) + 1 ∧ t.sum = sumZ l
  | .m1 i j v => o.k = 4 ∧ i = stAt m o.a ∧ j = stAt m o.b ∧ v = o.c ∧ t.pc = 1
  | .m2 j v => o.k = 4 ∧ j = stAt m o.b ∧ v = o.c ∧ t.pc = 2
  | .e1 k l => o.k = 5 ∧ k < m ∧ l.length = k ∧ t.pc = (k : Int) + 1 ∧ t.sum = sumZ l ∧ t.seen = l
  | .e2 k l => o.k = 5 ∧ k < m ∧ l.length = m ∧ t.pc = (m : Int) + k + 1 ∧ t.sum = sumZ l ∧ t.seen = l
structure Af5 (m : Nat) (o : OpV) (r : Ans ⊕ SD) (t t' : R5) : Prop where
  ov : t'.ov = t.ov
  ops : t'.ops = t.ops
  who : t'.who = t.who
  how : (∃ a, r = .inl a ∧ t'.ans = t.ans ++ [a] ∧ t'.at' = t.at' + 1 ∧ t'.pc = 0) ∨ (∃ d, r = .inr d ∧ t'.ans = t.ans ∧ t'.at' = t.at' ∧ St5 m o t' d)
theorem wrap_sub (s v : Int) : IntKind.i64.wrap (s + IntKind.i64.wrap (-v)) = IntKind.i64.wrap (s - v) := by
  simp only [IntKind.wrap_i64]
  omega
section
variable {a0 M cg cc tb tc n m : Nat} {ta : Option Addr} {T : Nat → R5} {main : Bool}
theorem M5.notS {C : Nat → Int} {w : World} (I : M5 a0 M cg cc tb tc n m ta C T w) (hn : 0 < n) : ¬ m5S M cg tb n T w.heap.size := by
  obtain ⟨l1, l2, l3⟩ := I.lt
  have l3 := l3 hn
  rintro (h | h | h | ⟨k, hk, h⟩)
  · omega
  · omega
  · omega
  · have := ((I.rows k hk).low h).2
    omega
def Step5 (main : Bool) (a0 M cg cc tb tc n m : Nat) (ta : Option Addr) (T : Nat → R5) (i : Nat) (s : Sp) (d : SD) (o : OpV) (w : World) : Prop :=
  CallW Try.prog main (fun _ => none) 49 #[.pointer (some ⟨M, 0, none⟩), .int .i64 i] w (fun v w' => v = .tuple #[] ∧ ∃ t', M5 a0 M cg cc tb tc n m ta (spAct m s d).1 (upd T i t') w' ∧ Got M cg tb n T (upd T i t') w w' ∧ Af5 m o (spAct m s d).2 (T i) t')
theorem step5_1 {i : Nat} (hi : i < n) (s : Sp) (o : OpV) (p : Nat) (v : Int) (w : World) (I : M5 a0 M cg cc tb tc n m ta s T w) (hm0 : 0 < m) (hm : m ≤ 64) (hn : n ≤ 64) (ha0 : a0 ≤ w.heap.size) (ho : (T i).ops[(T i).at']? = some o) (hol : (T i).ops.length ≤ 65536) (hal : (T i).ans.length ≤ (T i).at') (hd : St5 m o (T i) (.a1 p v)) : Step5 main a0 M cg cc tb tc n m ta T i s (.a1 p v) o w := by
  intro c cs
  obtain ⟨k1, rfl, rfl, hpc⟩ := hd
  have hlt := (List.getElem?_eq_some_iff.1 ho).1
  have hnS := I.notS (by omega)
  refine (step_in (k := 0) hi o w I hm (by rw [hpc]; rfl) (by omega) ho hol (c :: cs)).then ?_
  rintro _ w1 ⟨⟨u, rfl⟩, X⟩
  have hX := X.got.chg.size
  have hop := X.op
  rw [k1] at hop ⊢
  refine (step_1 hi o.a o.b o.c w1 X.I hm0 hm hn (by omega) (by rw [upd_same]; show (T i).ans.length ≤ _; omega) (by rw [upd_same]; show (T i).at' ≤ _; omega) hop (fun h => by
    rcases h with h | h | h | ⟨k, hk, h⟩
    · exact hnS (.inl h)
    · exact hnS (.inr (.inl h))
    · exact hnS (.inr (.inr (.inl h)))
    · refine hnS (.inr (.inr (.inr ⟨k, hk, ?_⟩)))
      by_cases e : k = i
      · subst e; rw [upd_same] at h; exact h
      · rw [upd_ne _ _ e] at h; exact h) u c cs).mono ?_
  rintro g w2 ⟨rfl, av, I2, g2⟩
  rw [upd_same, upd_twice] at I2 g2
  exact ⟨_, ⟨rfl, _, I2, X.got.trans g2, ⟨rfl, rfl, rfl, .inl ⟨_, rfl, rfl, rfl, rfl⟩⟩⟩, rfl⟩
end
end
section
section
variable {a0 M cg cc tb tc n m : Nat} {ta : Option Addr} {T : Nat → R5} {main : Bool}
theorem notS_upd {i S : Nat} {t : R5} (h : ¬ m5S M cg tb n T S) (ht : ∀ b, t.own b → (T i).own b) : ¬ m5S M cg tb n (upd T i t) S := by
  rintro (h1 | h1 | h1 | ⟨k, hk, h1⟩)
  · exact h (.inl h1)
  · exact h (.inr (.inl h1))
  · exact h (.inr (.inr (.inl h1)))
  · refine h (.inr (.inr (.inr ⟨k, hk, ?_⟩)))
    by_cases e : k = i
    · subst e; rw [upd_same] at h1; exact ht S h1
    · rw [upd_ne _ _ e] at h1; exact h1
theorem step5_m1 {i : Nat} (hi : i < n) (s : Sp) (o : OpV) (p q : Nat) (v : Int) (w : World) (I : M5 a0 M cg cc tb tc n m ta s T w) (hm0 : 0 < m) (hm : m ≤ 64) (hn : n ≤ 64) (ha0 : a0 ≤ w.heap.size) (ho : (T i).ops[(T i).at']? = some o) (hol : (T i).ops.length ≤ 65536) (hal : (T i).ans.length ≤ (T i).at') (hd : St5 m o (T i) (.m1 p q v)) : Step5 main a0 M cg cc tb tc n m ta T i s (.m1 p q v) o w := by
  intro c cs
  have hlt := (List.getElem?_eq_some_iff.1 ho).1
  have hnS := I.notS (by omega)
  obtain ⟨k1, rfl, rfl, rfl, hpc⟩ := hd
  refine (step_in (k := 0) hi o w I hm (by rw [hpc]; rfl) (by omega) ho hol (c :: cs)).then ?_
  rintro _ w1 ⟨⟨u, rfl⟩, X⟩
  have hX := X.got.chg.size
  have hop := X.op
  have hnS1 := notS_upd (t := { T i with pc := ((0 : Nat) : Int) + 2 }) hnS (fun _ h => h)
  rw [k1] at hop ⊢
  refine (step_4a hi o.a o.b o.c w1 X.I hm0 hm hop hnS1 u c cs).mono ?_
  rintro g w2 ⟨rfl, I2, g2⟩
  rw [← wrap_sub] at I2
  exact ⟨_, ⟨rfl, _, I2, X.got.trans g2, ⟨rfl, rfl, rfl, .inr ⟨_, rfl, rfl, rfl, k1, rfl, rfl, rfl⟩⟩⟩, rfl⟩
theorem step5_m2 {i : Nat} (hi : i < n) (s : Sp) (o : OpV) (q : Nat) (v : Int) (w : World) (I : M5 a0 M cg cc tb tc n m ta s T w) (hm0 : 0 < m) (hm : m ≤ 64) (hn : n ≤ 64) (ha0 : a0 ≤ w.heap.size) (ho : (T i).ops[(T i).at']? = some o) (hol : (T i).ops.length ≤ 65536) (hal : (T i).ans.length ≤ (T i).at') (hd : St5 m o (T i) (.m2 q v)) : Step5 main a0 M cg cc tb tc n m ta T i s (.m2 q v) o w := by
  intro c cs
  have hlt := (List.getElem?_eq_some_iff.1 ho).1
  have hnS := I.notS (by omega)
  obtain ⟨k1, rfl, rfl, hpc⟩ := hd
  refine (step_in (k := 1) hi o w I hm (by rw [hpc]; rfl) (by omega) ho hol (c :: cs)).then ?_
  rintro _ w1 ⟨⟨u, rfl⟩, X⟩
  have hX := X.got.chg.size
  have hop := X.op
  have hnS1 := notS_upd (t := { T i with pc := ((1 : Nat) : Int) + 2 }) hnS (fun _ h => h)
  rw [k1] at hop ⊢
  refine (step_4b hi o.a o.b o.c w1 X.I hm0 hm hn (by omega) (by rw [upd_same]; show (T i).ans.length ≤ _; omega) (by rw [upd_same]; show (T i).at' ≤ _; omega) hop hnS1 u c cs).mono ?_
  rintro g w2 ⟨rfl, av, I2, g2⟩
  rw [upd_same, upd_twice] at I2 g2
  exact ⟨_, ⟨rfl, _, I2, X.got.trans g2, ⟨rfl, rfl, rfl, .inl ⟨_, rfl, rfl, rfl, rfl⟩⟩⟩, rfl⟩
theorem step5_u1 {i : Nat} (hi : i < n) (s : Sp) (o : OpV) (k : Nat) (l : List Int) (w : World) (I : M5 a0 M cg cc tb tc n m ta s T w) (hm0 : 0 < m) (hm : m ≤ 64) (hn : n ≤ 64) (ha0 : a0 ≤ w.heap.size) (ho : (T i).ops[(T i).at']? = some o) (hol : (T i).ops.length ≤ 65536) (hal : (T i).ans.length ≤ (T i).at') (hd : St5 m o (T i) (.u1 k l)) : Step5 main a0 M cg cc tb tc n m ta T i s (.u1 k l) o w := by
  intro c cs
  have hlt := (List.getElem?_eq_some_iff.1 ho).1
  have hnS := I.notS (by omega)
  obtain ⟨k1, hk, hll, hpc, hsum⟩ := hd
  refine (step_in (k := k) hi o w I hm (by exact hpc) (by omega) ho hol (c :: cs)).then ?_
  rintro _ w1 ⟨⟨u, rfl⟩, X⟩
  have hX := X.got.chg.size
  have hop := X.op
  have hnS1 := notS_upd (t := { T i with pc := ((k : Nat) : Int) + 2 }) hnS (fun _ h => h)
  rw [k1] at hop ⊢
  refine (step_2 hi o.a o.b o.c w1 X.I hk hm hn (by omega) (by rw [upd_same]; show (T i).ans.length ≤ _; omega) (by rw [upd_same]; show (T i).at' ≤ _; omega) hop hnS1 u c cs).mono ?_
  rintro g w2 ⟨rfl, h⟩
  have hx : IntKind.i64.wrap ((T i).sum + s k) = sumZ (l ++ [s k]) := by rw [hsum, sumZ_snoc]
  unfold SumI at h
  simp only [upd_same, upd_twice] at h
  rw [hx] at h
  rcases h with ⟨hl, av, I2, g2⟩ | ⟨hl, I2, g2⟩
  · exact ⟨_, ⟨rfl, _, I2, X.got.trans g2, ⟨rfl, rfl, rfl, .inl ⟨_, if_pos hl, rfl, rfl, rfl⟩⟩⟩, rfl⟩
  · exact ⟨_, ⟨rfl, _, I2, X.got.trans g2, ⟨rfl, rfl, rfl, .inr ⟨_, if_neg hl, rfl, rfl, k1, by omega, by simp [hll], (by show (k : Int) + 2 = ((k + 1 : Nat) : Int) + 1; omega), rfl⟩⟩⟩, rfl⟩
theorem step5_t1 {i : Nat} (hi : i < n) (s : Sp) (o : OpV) (k : Nat) (l : List Int) (w : World) (I : M5 a0 M cg cc tb tc n m ta s T w) (hm0 : 0 < m) (hm : m ≤ 64) (hn : n ≤ 64) (ha0 : a0 ≤ w.heap.size) (ho : (T i).ops[(T i).at']? = some o) (hol : (T i).ops.length ≤ 65536) (hal : (T i).ans.length ≤ (T i).at') (hd : St5 m o (T i) (.t1 k l)) : Step5 main a0 M cg cc tb tc n m ta T i s (.t1 k l) o w := by
  intro c cs
  have hlt := (List.getElem?_eq_some_iff.1 ho).1
  have hnS := I.notS (by omega)
  obtain ⟨k1, hk, hll, hpc, hsum⟩ := hd
  refine (step_in (k := k) hi o w I hm (by exact hpc) (by omega) ho hol (c :: cs)).then ?_
  rintro _ w1 ⟨⟨u, rfl⟩, X⟩
  have hX := X.got.chg.size
  have hop := X.op
  have hnS1 := notS_upd (t := { T i with pc := ((k : Nat) : Int) + 2 }) hnS (fun _ h => h)
  rw [k1] at hop ⊢
  refine (step_3 hi o.a o.b o.c w1 X.I hk hm hn (by omega) (by rw [upd_same]; show (T i).ans.length ≤ _; omega) (by rw [upd_same]; show (T i).at' ≤ _; omega) hop hnS1 u c cs).mono ?_
  rintro g w2 ⟨rfl, h⟩
  have hx : IntKind.i64.wrap ((T i).sum + s k) = sumZ (l ++ [s k]) := by rw [hsum, sumZ_snoc]
  unfold SumI at h
  simp only [upd_same, upd_twice] at h
  rw [hx] at h
  rcases h with ⟨hl, av, I2, g2⟩ | ⟨hl, I2, g2⟩
  · exact ⟨_, ⟨rfl, _, I2, X.got.trans g2, ⟨rfl, rfl, rfl, .inl ⟨_, if_pos hl, rfl, rfl, rfl⟩⟩⟩, rfl⟩
  · exact ⟨_, ⟨rfl, _, I2, X.got.trans g2, ⟨rfl, rfl, rfl, .inr ⟨_, if_neg hl, rfl, rfl, k1, by omega, by simp [hll], (by show (k : Int) + 2 = ((k + 1 : Nat) : Int) + 1; omega), rfl⟩⟩⟩, rfl⟩
theorem step5_e1 {i : Nat} (hi : i < n) (s : Sp) (o : OpV) (k : Nat) (l : List Int) (w : World) (I : M5 a0 M cg cc tb tc n m ta s T w) (hm0 : 0 < m) (hm : m ≤ 64) (hn : n ≤ 64) (ha0 : a0 ≤ w.heap.size) (ho : (T i).ops[(T i).at']? = some o) (hol : (T i).ops.length ≤ 65536) (hal : (T i).ans.length ≤ (T i).at') (hd : St5 m o (T i) (.e1 k l)) : Step5 main a0 M cg cc tb tc n m ta T i s (.e1 k l) o w := by
  intro c cs
  have hlt := (List.getElem?_eq_some_iff.1 ho).1
  have hnS := I.notS (by omega)
  obtain ⟨k1, hk, hll, hpc, hsum, hseen⟩ := hd
  refine (step_in (k := k) hi o w I hm (by exact hpc) (by omega) ho hol (c :: cs)).then ?_
  rintro _ w1 ⟨⟨u, rfl⟩, X⟩
  have hX := X.got.chg.size
  have hop := X.op
  have hnS1 := notS_upd (t := { T i with pc := ((k : Nat) : Int) + 2 }) hnS (fun _ h => h)
  rw [k1] at hop ⊢
  refine (step_5a hi o.a o.b o.c w1 X.I hk hm hn (by omega) (by rw [upd_same]; show (T i).seen.length ≤ _; rw [hseen]; omega) u c cs).mono ?_
  rintro g w2 ⟨rfl, sv, h⟩
  have hx : IntKind.i64.wrap ((T i).sum + s k) = sumZ (l ++ [s k]) := by rw [hsum, sumZ_snoc]
  simp only [upd_same, upd_twice] at h
  obtain ⟨I2, g2⟩ := h
  by_cases hl : k + 1 = m
  · exact ⟨_, ⟨rfl, _, I2, X.got.trans g2, ⟨rfl, rfl, rfl, .inr ⟨_, if_pos hl, rfl, rfl, k1, hm0, by simp [hll]; omega, (by show (k : Int) + 2 = (m : Int) + ((0 : Nat) : Int) + 1; omega), hx, (by show (T i).seen ++ [s k] = l ++ [s k]; rw [hseen])⟩⟩⟩, rfl⟩
  · exact ⟨_, ⟨rfl, _, I2, X.got.trans g2, ⟨rfl, rfl, rfl, .inr ⟨_, if_neg hl, rfl, rfl, k1, by omega, by simp [hll], (by show (k : Int) + 2 = ((k + 1 : Nat) : Int) + 1; omega), hx, (by show (T i).seen ++ [s k] = l ++ [s k]; rw [hseen])⟩⟩⟩, rfl⟩
theorem step5_e2 {i : Nat} (hi : i < n) (s : Sp) (o : OpV) (k : Nat) (l : List Int) (w : World) (I : M5 a0 M cg cc tb tc n m ta s T w) (hm0 : 0 < m) (hm : m ≤ 64) (hn : n ≤ 64) (ha0 : a0 ≤ w.heap.size) (ho : (T i).ops[(T i).at']? = some o) (hol : (T i).ops.length ≤ 65536) (hal : (T i).ans.length ≤ (T i).at') (hd : St5 m o (T i) (.e2 k l)) : Step5 main a0 M cg cc tb tc n m ta T i s (.e2 k l) o w := by
  intro c cs
  have hlt := (List.getElem?_eq_some_iff.1 ho).1
  have hnS := I.notS (by omega)
  obtain ⟨k1, hk, hll, hpc, hsum, hseen⟩ := hd
  refine (step_in (k := m + k) hi o w I hm (by rw [hpc]; omega) (by omega) ho hol (c :: cs)).then ?_
  rintro _ w1 ⟨⟨u, rfl⟩, X⟩
  have hX := X.got.chg.size
  have hop := X.op
  have hnS1 := notS_upd (t := { T i with pc := ((m + k : Nat) : Int) + 2 }) hnS (fun _ h => h)
  rw [k1] at hop ⊢
  have hy : (T i).seen[k]? = some (l.getD k 0) := by rw [hseen, List.getD_eq_getElem?_getD, List.getElem?_eq_getElem (by omega)]; rfl
  refine (step_5b hi (l.getD k 0) w1 X.I hk hm hn (by omega) (by rw [upd_same]; show (T i).ans.length ≤ _; omega) (by rw [upd_same]; show (T i).at' ≤ _; omega) (by rw [upd_same]; exact hy) u c cs).mono ?_
  rintro g w2 ⟨rfl, h⟩
  unfold EvI ToldI at h
  simp only [upd_same, upd_twice] at h
  have hact : spAct m s (.e2 k l) = (s, if s k ≠ l.getD k 0 then .inl (false, 0) else if k + 1 = m then .inl (true, sumZ l) else .inr (.e2 (k + 1) l)) := rfl
  rcases h with ⟨hne, av, I2, g2⟩ | ⟨he, hl, av, I2, g2⟩ | ⟨he, hl, I2, g2⟩
  · exact ⟨_, ⟨rfl, _, I2, X.got.trans g2, ⟨rfl, rfl, rfl, .inl ⟨_, by rw [hact]; exact if_pos hne, rfl, rfl, rfl⟩⟩⟩, rfl⟩
  · exact ⟨_, ⟨rfl, _, I2, X.got.trans g2, ⟨rfl, rfl, rfl, .inl ⟨_, by rw [hact, hsum]; exact (if_neg (by simpa using he)).trans (if_pos hl), rfl, rfl, rfl⟩⟩⟩, rfl⟩
  · exact ⟨_, ⟨rfl, _, I2, X.got.trans g2, ⟨rfl, rfl, rfl, .inr ⟨.e2 (k + 1) l, by rw [hact]; exact (if_neg (by simpa using he)).trans (if_neg hl), rfl, rfl, k1, by omega, hll, (by show ((m + k : Nat) : Int) + 2 = (m : Int) + ((k + 1 : Nat) : Int) + 1; omega), hsum, hseen⟩⟩⟩, rfl⟩
theorem step5_w {i : Nat} (hi : i < n) (s : Sp) (o : OpV) (d : SD) (w : World) (I : M5 a0 M cg cc tb tc n m ta s T w) (hm0 : 0 < m) (hm : m ≤ 64) (hn : n ≤ 64) (ha0 : a0 ≤ w.heap.size) (ho : (T i).ops[(T i).at']? = some o) (hol : (T i).ops.length ≤ 65536) (hal : (T i).ans.length ≤ (T i).at') (hd : St5 m o (T i) d) : Step5 main a0 M cg cc tb tc n m ta T i s d o w := by
  cases d with
  | a1 p v => exact step5_1 hi s o p v w I hm0 hm hn ha0 ho hol hal hd
  | u1 k l => exact step5_u1 hi s o k l w I hm0 hm hn ha0 ho hol hal hd
  | t1 k l => exact step5_t1 hi s o k l w I hm0 hm hn ha0 ho hol hal hd
  | m1 p q v => exact step5_m1 hi s o p q v w I hm0 hm hn ha0 ho hol hal hd
  | m2 q v => exact step5_m2 hi s o q v w I hm0 hm hn ha0 ho hol hal hd
  | e1 k l => exact step5_e1 hi s o k l w I hm0 hm hn ha0 ho hol hal hd
  | e2 k l => exact step5_e2 hi s o k l w I hm0 hm hn ha0 ho hol hal hd
end
end
section
theorem info2 : ∃ ti : TypeInfo, Try.prog.info? 2 = some ti ∧ ti.zero = some (.int .i64 0) ∧ ti.size = 1 ∧ ti.bytes = 8 := by
  cases h : Try.prog.info? 2 with
  | none => exact absurd (by kernel_rfl : (Try.prog.info? 2).isSome = true) (by rw [h]; decide)
  | some ti =>
    have h1 : ((Try.prog.info? 2).bind fun x => x.zero) = some (.int .i64 0) := by kernel_rfl
    have h2 : (Try.prog.info? 2).map (fun x => x.size) = some 1 := by kernel_rfl
    have h3 : (Try.prog.info? 2).map (fun x => x.bytes) = some 8 := by kernel_rfl
    rw [h] at h1 h2 h3
    simp only [Option.bind_some, Option.map_some, Option.some.injEq] at h1 h2 h3
    exact ⟨ti, rfl, h1, h2, h3⟩
def Told (w : World) (B m : Nat) (l : List Int) : Prop := ∃ arr : Array Value, w.heap[B]? = some (.cells arr 2) ∧ arr.size = m ∧ ∀ (i : Nat) (x : Int), l[i]? = some x → arr[i]? = some (.int .i64 x)
theorem Told.snoc {w : World} {B m : Nat} {l : List Int} (h : Told w B m l) (hl : l.length < m) (x : Int) : Told (w.setCell ⟨B, l.length, none⟩ (.int .i64 x)) B m (l ++ [x]) := by
  obtain ⟨arr, h1, h2, h3⟩ := h
  refine ⟨_, heap_set_self _ _ h1, by simpa using h2, fun i y hy => ?_⟩
  by_cases hi : i < l.length
  · rw [List.getElem?_append_left hi] at hy
    rw [Array.getElem?_setIfInBounds_ne (by omega)]
    exact h3 i y hy
  · rw [List.getElem?_append_right (by omega)] at hy
    obtain ⟨h4, h5⟩ := List.getElem?_eq_some_iff.1 hy
    have h6 : i = l.length := by simp at h4; omega
    subst h6
    simp at h5
    subst h5
    exact Array.getElem?_setIfInBounds_self_of_lt (by omega)
noncomputable def reg43_0 := rg Try.f43.body [0]
noncomputable def reg43_1 := rg Try.f43.body [1, 0]
noncomputable def reg43_2 := rg Try.f43.body [1, 1, 0, 0]
noncomputable def reg43_3 := rg Try.f43.body [1, 1, 0, 1, 0, 0, 0]
noncomputable def reg43_4 := rg Try.f43.body [1, 1, 0, 1, 0, 0, 1, 1, 0, 0, 0]
noncomputable def reg43_5 := rg Try.f43.body [1, 1, 0, 1, 0, 0, 1, 1, 0, 0, 1]
noncomputable def reg43_6 := rg Try.f43.body [1, 1, 0, 1, 0, 0, 1, 1, 1]
noncomputable def reg43_7 := rg Try.f43.body [1, 1, 1, 0]
theorem z43 : List.range reg43_0.size = [0] ∧ List.range reg43_1.size = [0, 1, 2, 3] ∧ List.range reg43_2.size = [0, 1, 2] ∧ List.range reg43_3.size = [0] ∧ List.range reg43_4.size = [0, 1] ∧ List.range reg43_5.size = [0, 1, 2, 3, 4, 5, 6, 7, 8] ∧ List.range reg43_6.size = [0, 1] ∧ List.range reg43_7.size = [0, 1] := by refine ⟨?_, ?_, ?_, ?_, ?_, ?_, ?_, ?_⟩ <;> kernel_rfl
theorem code43_is : Try.f43.body = some (.seq (.region 0 reg43_0 false) (.seq (.region 1 reg43_1 false) (.seq (.seq (.region 2 reg43_2 false) (.block 0 (.loop (.seq (.region 3 reg43_3 false) (.seq (.cond (.tmp 13 ) (.skip) (.exit 0)) (.seq (.block 1 (.seq (.region 4 reg43_4 false) (.region 5 reg43_5 false))) (.region 6 reg43_6 false))))))) (.seq (.region 7 reg43_7 false) (.ret))))) := by kernel_rfl
noncomputable def reg52_0 := rg Try.f52.body [0]
noncomputable def reg52_1 := rg Try.f52.body [1, 0]
theorem z52 : List.range reg52_0.size = [0] ∧ List.range reg52_1.size = [0, 1, 2, 3] := by refine ⟨?_, ?_⟩ <;> kernel_rfl
theorem code52_is : Try.f52.body = some (.seq (.region 0 reg52_0 false) (.seq (.region 1 reg52_1 false) (.ret))) := by kernel_rfl
noncomputable def reg44_0 := rg Try.f44.body [0]
noncomputable def reg44_1 := rg Try.f44.body [1, 0]
theorem z44 : List.range reg44_0.size = [0] ∧ List.range reg44_1.size = [0, 1, 2, 3] := by refine ⟨?_, ?_⟩ <;> kernel_rfl
theorem code44_is : Try.f44.body = some (.seq (.region 0 reg44_0 false) (.seq (.region 1 reg44_1 false) (.ret))) := by kernel_rfl
noncomputable def hdEach (cb : Nat) (fm : FuncId) (caps : Array Value) (B m j : Nat) (u : Nat → Value) : Frame :=
  (base 43).at { tmps := #[.pointer (some ⟨cb, 0, none⟩), .func (.func fm) #[] caps, u 2, u 3, u 4, .slice (some ⟨B, 0, none⟩) m m, u 6, u 7, u 8, u 9, u 10, .int .i64 m, .int .i64 j, u 13, u 14, u 15, u 16, u 17, u 18, u 19, u 20, u 21, u 22, u 23, u 24], defers := [] } [.code (.seq (.region 3 reg43_3 false) (.seq (.cond (.tmp 13 ) (.skip) (.exit 0)) (.seq (.block 1 (.seq (.region 4 reg43_4 false) (.region 5 reg43_5 false))) (.region 6 reg43_6 false)))), .inLoop (.seq (.region 3 reg43_3 false) (.seq (.cond (.tmp 13 ) (.skip) (.exit 0)) (.seq (.block 1 (.seq (.region 4 reg43_4 false) (.region 5 reg43_5 false))) (.region 6 reg43_6 false)))), .inBlock 0, .code (.seq (.region 7 reg43_7 false) (.ret))]
section
variable {cb rb m : Nat} {ra : Option Addr} {rc : Nat} {sv : Value}
def AskOK (K : Lg (spLa cb rb m ra rc) sv) (dk : Nat → List Int → Ans ⊕ SD) (fm : FuncId) (caps : Array Value) : Prop :=
  ∀ (e : K.E) (k : Nat) (l : List Int), k < m → K.tgt e = (K.s e, dk k l) → SCall K.toLb fm (#[] ++ #[spP cb rb k] ++ caps) e (fun v e' => ∃ x, v = .int .i64 x ∧ K.tgt e' = (K.s e', dk (k + 1) (l ++ [x])))
def EachOut (K : Lg (spLa cb rb m ra rc) sv) (dk : Nat → List Int → Ans ⊕ SD) (v : Value) (e' : K.E) : Prop :=
  ∃ B l, v = .slice (some ⟨B, 0, none⟩) m m ∧ l.length = m ∧ K.mine e' B ∧ Told (K.w e') B m l ∧ K.tgt e' = (K.s e', dk m l)
theorem each_round (K : Lg (spLa cb rb m ra rc) sv) (dk : Nat → List Int → Ans ⊕ SD) (fm : FuncId) (fn : Func) (caps : Array Value) (hf : Try.prog.funcs[fm]? = some fn) (hname : (fn.name == "runtime.NumGoroutine") = false) (hb : fn.body.isNone = false) (hask : ∀ e0, AskOK (Fz K e0) dk fm caps)
    (B : Nat) (fr : Frame) (l : List Frame) (hp : Plain fr) (hl : ∀ f ∈ l, Plain f) (ls : List Int) (hj : ls.length < m) (e : K.E) (u : Nat → Value) (hB : K.mine e B) (hT : Told (K.w e) B m ls) (ht : K.tgt e = (K.s e, dk ls.length ls))
    (ih : ∀ (e' : K.E) (u : Nat → Value) (x : Int), K.mine e' B → Told (K.w e') B m (ls ++ [x]) → K.tgt e' = (K.s e', dk (ls.length + 1) (ls ++ [x])) → LW K.toLb e' (G (hdEach cb fm caps B m (ls.length + 1) u) (fr :: (l ++ K.bot e')))) :
    LW K.toLb e (G (hdEach cb fm caps B m ls.length u) (fr :: (l ++ K.bot e))) := by
  have hm := (K.inv e).pos.2
  have hs := stripe_w (main := K.main) (V := K.V e) ls.length hj (K.w e) (K.inv e)
  have ha := SCall.fz K (hask e (fz0 K e) ls.length ls hj ht)
  have hsn := fun (w : World) (h : Told w B m ls) x => h.snoc hj x
  generalize ls.length = j at *
  have hj0 : (0 : Int) ≤ j := by omega
  have hj1 : decide ((j : Int) < m) = true := by simp; omega
  have hj3 : decide (j < m) = true := by simp; omega
  have hj4 : (j : Int) < m := by omega
  have hw1 : IntKind.wrap .i64 ((j : Int) + 1) = ((j + 1 : Nat) : Int) := by rw [IntKind.wrap_i64]; omega
  unfold LW hdEach
  repeat (first | refine Walk.cx ?_ | (refine Walk.cReg ?_; simp only [z43]) | (refine Walk.oq ?_; try walk_nrm) | (refine Walk.un ?_; walk_nrm))
  refine Walk.callV (x := spP cb rb j) (W := K.w e) ?_ (ho_of (by conv => lhs; whnf) (by kernel_rfl)) (by rfl) (by decide) rfl Try.func38 (by kernel_rfl) (by rfl) ?_
  · walk_nrm
    exact hs
  walk_nrm
  repeat (first | refine Walk.cx ?_ | (refine Walk.cReg ?_; simp only [z43]) | (refine Walk.oq ?_; try walk_nrm) | (refine Walk.un ?_; walk_nrm))
  refine Walk.ctl rfl (fun w' => stepG_callValue (ho_of (by conv => lhs; whnf) (by kernel_rfl)) (by rfl) (by decide) rfl rfl hf hname hb) ?_
  walk_nrm
  generalize hX : Frame.at _ _ _ = X
  have hpX : Plain X := by subst hX; exact ⟨rfl, rfl, _, Try.func43⟩
  refine ha X (fr :: l) hpX (plain_cons hp hl) ?_
  rintro v e1 ⟨hkept, x, rfl, ht1⟩
  replace ht1 : K.tgt e1 = (K.s e1, dk (j + 1) (ls ++ [x])) := ht1
  obtain ⟨hm1, hb1⟩ := hkept B hB
  have hT1 : Told (K.w e1) B m ls := by
    obtain ⟨arr, h1, h2⟩ := hT
    exact ⟨arr, hb1.trans h1, h2⟩
  have hT2 := hsn _ hT1 x
  obtain ⟨y, hcy⟩ : ∃ y, (K.w e1).cell? ⟨B, j, none⟩ = some y := by
    obtain ⟨arr, h1, h2, _⟩ := hT1
    exact ⟨_, (cell_of h1 j).trans (Array.getElem?_eq_getElem (by omega))⟩
  have hfz : (K.w e1).frozen? ⟨B, j, none⟩ = false := by
    obtain ⟨arr, h1, _⟩ := hT1
    exact frozen_of h1 j
  have hap := (K.mineA e1 _ hm1).1.1 ⟨B, j, none⟩ rfl
  obtain ⟨e2, m2⟩ := K.own e1 (w' := (K.w e1).setCell ⟨B, j, none⟩ (.int .i64 x)) (by simp) (fun b _ hbm => heap_set_other _ _ _ _ (fun he : b = B => hbm (by rw [he]; exact hm1)))
  have hm2 : K.mine e2 B := (m2.mine B).2 (.inl hm1)
  have ht2 : K.tgt e2 = (K.s e2, dk (j + 1) (ls ++ [x])) := by rw [m2.tgt, m2.s]; exact ht1
  rw [← m2.w] at hT2
  have hih := fun u => ih e2 u x hm2 hT2 ht2
  rw [← hX]
  clear hX hpX ih hs ha hT hT1 hT2 hsn hask
  unfold LW
  refine Walk.finish (ho_of (by conv => lhs; whnf) (by kernel_rfl)) ?_
  walk_nrm
  repeat (first | refine Walk.cx ?_ | (refine Walk.cReg ?_; simp only [z43]) | (refine Walk.oq ?_; try walk_nrm) | (refine Walk.un ?_; walk_nrm))
  (refine Walk.os hap hcy ?_; try walk_nrm)
  refine LW.to (l := fr :: l) m2 ?_
  unfold LW at hih ⊢
  repeat (first | refine Walk.cx ?_ | (refine Walk.cReg ?_; simp only [z43]) | (refine Walk.oq ?_; try walk_nrm) | (refine Walk.un ?_; walk_nrm))
  refine Walk.ctl rfl (fun w => stepG_inLoop) ?_
  refine slots_walk (F := fun u => G (hdEach cb fm caps B m (j + 1) u) (fr :: (l ++ K.bot e2))) hih ?_
  simp only [hdEach]
  rfl
theorem each_end (K : Lg (spLa cb rb m ra rc) sv) (dk : Nat → List Int → Ans ⊕ SD) (fm : FuncId) (caps : Array Value) (B : Nat) (fr : Frame) (l : List Frame) (hk : ∀ x e', EachOut K dk x e' → LW K.toLb e' (G (fr.finish x) (l ++ K.bot e'))) (ls : List Int) (hj : ls.length = m) (e : K.E) (u : Nat → Value) (hB : K.mine e B) (hT : Told (K.w e) B m ls) (ht : K.tgt e = (K.s e, dk m ls)) :
    LW K.toLb e (G (hdEach cb fm caps B m m u) (fr :: (l ++ K.bot e))) := by
  have hj3 : decide (m < m) = false := by simp
  have hkk := hk (.slice (some ⟨B, 0, none⟩) m m) e ⟨B, ls, rfl, hj, hB, hT, ht⟩
  unfold LW hdEach
  unfold LW at hkk
  repeat (first | refine Walk.cx ?_ | (refine Walk.cReg ?_; simp only [z43]) | (refine Walk.oq ?_; try walk_nrm) | (refine Walk.un ?_; walk_nrm))
  exact Walk.on1 rfl rfl Try.func43 rfl hkk
theorem each_loop (K : Lg (spLa cb rb m ra rc) sv) (dk : Nat → List Int → Ans ⊕ SD) (fm : FuncId) (fn : Func) (caps : Array Value) (hf : Try.prog.funcs[fm]? = some fn) (hname : (fn.name == "runtime.NumGoroutine") = false) (hb : fn.body.isNone = false) (hask : ∀ e0, AskOK (Fz K e0) dk fm caps)
    (B : Nat) (fr : Frame) (l : List Frame) (hp : Plain fr) (hl : ∀ f ∈ l, Plain f) (hk : ∀ x e', EachOut K dk x e' → LW K.toLb e' (G (fr.finish x) (l ++ K.bot e'))) :
    ∀ (r : Nat) (ls : List Int) (e : K.E) (u : Nat → Value), ls.length + r = m → K.mine e B → Told (K.w e) B m ls → K.tgt e = (K.s e, dk ls.length ls) → LW K.toLb e (G (hdEach cb fm caps B m ls.length u) (fr :: (l ++ K.bot e))) := by
  intro r
  induction r with
  | zero =>
    intro ls e u hj hB hT ht
    have hj' : ls.length = m := by simpa using hj
    rw [hj'] at ht ⊢
    exact each_end K dk fm caps B fr l hk ls hj' e u hB hT ht
  | succ r ih =>
    intro ls e u hj hB hT ht
    refine each_round K dk fm fn caps hf hname hb hask B fr l hp hl ls (by omega) e u hB hT ht fun e' u' x hB' hT' ht' => ?_
    have hlen : (ls ++ [x]).length = ls.length + 1 := by simp
    have := ih (ls ++ [x]) e' u' (by omega) hB' hT'
    rw [hlen] at this
    exact this ht'
theorem each_s (K : Lg (spLa cb rb m ra rc) sv) (dk : Nat → List Int → Ans ⊕ SD) (fm : FuncId) (fn : Func) (caps : Array Value) (hf : Try.prog.funcs[fm]? = some fn) (hname : (fn.name == "runtime.NumGoroutine") = false) (hb : fn.body.isNone = false) (hask : ∀ e0, AskOK (Fz K e0) dk fm caps)
    (e : K.E) (ht : K.tgt e = (K.s e, dk 0 [])) : SCall K.toLb 43 #[.pointer (some ⟨cb, 0, none⟩), .func (.func fm) #[] caps] e (EachOut K dk) := by
  intro fr l hp hl hk
  have hm := (K.inv e).pos.2
  have h1 := stripes_w (main := K.main) (V := K.V e) (K.w e) (K.inv e)
  have hlp := fun B e' u hB hT ht' => each_loop K dk fm fn caps hf hname hb hask B fr l hp hl hk m [] e' u (by simp) hB hT ht'
  simp only [List.length_nil] at hlp
  clear hask hk
  unfold LW
  rw [enter_at _ Try.func43 code43_is]
  simp only [Try.ntmps43, ez, Nat.reduceAdd, Nat.reduceSub]
  repeat (first | refine Walk.cx ?_ | (refine Walk.cReg ?_; simp only [z43]) | (refine Walk.oq ?_; try walk_nrm) | (refine Walk.un ?_; walk_nrm))
  refine Walk.callV (x := .int .i64 m) (W := K.w e) ?_ (ho_of (by conv => lhs; whnf) (by kernel_rfl)) (by rfl) (by decide) rfl Try.func17 (by kernel_rfl) (by rfl) ?_
  · walk_nrm
    exact h1
  walk_nrm
  obtain ⟨ti, hi1, hz, hsz, hby⟩ := info2
  refine Walk.make 22 (.tmp 8) (.tmp 8) (ho_of (by conv => lhs; whnf) (by kernel_rfl)) (by rfl) (by decide) rfl 2 _ (.int .i64 0) 1 8 (by kernel_rfl) hi1 hz hsz hby m (by rfl) (by rfl) (by omega) (by omega) ?_
  walk_nrm
  simp only [Value.cells]
  have c1 := heap_alloc_new (K.w e) (.cells (madeCells #[.int .i64 0] (m * 1)) 2)
  have s1 : ((K.w e).alloc (.cells (madeCells #[.int .i64 0] (m * 1)) 2)).heap.size = (K.w e).heap.size + 1 := by simp
  obtain ⟨e1, m1⟩ := K.grow e (w' := (K.w e).alloc (.cells (madeCells #[.int .i64 0] (m * 1)) 2)) (by omega) (fun b hb' => heap_new_lt _ _ hb')
  generalize hR : (K.w e).heap.size = R at *
  generalize (K.w e).alloc (.cells (madeCells #[.int .i64 0] (m * 1)) 2) = w1 at *
  have hmR : K.mine e1 R := m1.new (by omega) (by omega)
  have ht1 : K.tgt e1 = (K.s e1, dk 0 []) := by rw [m1.tgt, m1.s]; exact ht
  have hT1 : Told (K.w e1) R m [] := by
    rw [m1.w]
    exact ⟨_, c1, by simp [madeCells], fun i x h => by simp at h⟩
  have hh := fun u => hlp R e1 u hmR hT1 ht1
  unfold LW at hh
  refine LW.to (l := fr :: l) m1 ?_
  unfold LW
  clear hi1 hz hsz hby c1
  repeat (first | refine Walk.cx ?_ | (refine Walk.cReg ?_; simp only [z43]) | (refine Walk.oq ?_; try walk_nrm) | (refine Walk.un ?_; walk_nrm))
  refine Walk.ctl rfl (fun w => stepG_loop) ?_
  refine slots_walk (F := fun u => G (hdEach cb fm caps R m 0 u) (fr :: (l ++ K.bot e1))) hh ?_
  simp only [hdEach]
  rfl
theorem askLoad_ok (K : Lg (spLa cb rb m ra rc) sv) (dk : Nat → List Int → Ans ⊕ SD) (dl : Nat → List Int → SD) (hdk : ∀ k l, k < m → dk k l = .inr (dl k l)) (hact : ∀ s k l, spAct m s (dl k l) = (s, dk (k + 1) (l ++ [s k])))
    (vb : Nat) (hcap : ∀ e : K.E, (K.w e).heap[vb]? = some (.cells #[sv] 84)) : AskOK K dk 52 #[.pointer (some ⟨vb, 0, none⟩)] := by
  intro e k lz hkm ht fr l hp hl hk
  have w1 := word_load K (spW k hkm) e (dl k lz) (by rw [ht, hdk k lz hkm]; rfl)
  unfold Wd.p at w1
  have ha : (#[] ++ #[spP cb rb k] ++ #[.pointer (some ⟨vb, 0, none⟩)] : Array Value) = #[spP cb rb k, .pointer (some ⟨vb, 0, none⟩)] := rfl
  have c1 := (cell_of (hcap e) 0).trans rfl
  rw [ha]
  unfold LW
  rw [enter_at _ Try.func52 code52_is]
  simp only [Try.ntmps52, ez, Nat.reduceAdd, Nat.reduceSub]
  repeat (first | refine Walk.cx ?_ | (refine Walk.cReg ?_; simp only [z52]) | (refine Walk.oq ?_; try walk_nrm) | (refine Walk.un ?_; walk_nrm))
  refine LW.callS (K := K.toLb) (e := e) (l := fr :: l) (f := 39) (Q := fun v e' => Aft K.toLb e (dl k lz) e' ∧ v = .int .i64 ((K.s e' : Sp) k)) ?_ (ho_of (by conv => lhs; whnf) (by kernel_rfl)) (by rfl) (by decide) rfl Try.func39 (by kernel_rfl) (by rfl) ⟨rfl, rfl, _, Try.func52⟩ (plain_cons hp hl) ?_
  · walk_nrm
    exact w1
  rintro v e1 ⟨ha1, rfl⟩
  have hkk := hk (.int .i64 ((K.s e1 : Sp) k)) e1 ⟨_, rfl, ha1.tgt.trans (hact _ k lz)⟩
  generalize (K.s e1 : Sp) k = x at *
  unfold LW at hkk ⊢
  walk_nrm
  repeat (first | refine Walk.cx ?_ | (refine Walk.cReg ?_; simp only [z52]) | (refine Walk.oq ?_; try walk_nrm) | (refine Walk.un ?_; walk_nrm))
  exact Walk.on1 rfl rfl Try.func52 rfl hkk
theorem askTake_ok (K : Lg (spLa cb rb m ra rc) sv) (dk : Nat → List Int → Ans ⊕ SD) (dl : Nat → List Int → SD) (hdk : ∀ k l, k < m → dk k l = .inr (dl k l)) (hact : ∀ s k l, spAct m s (dl k l) = (spPut s k 0, dk (k + 1) (l ++ [s k])))
    (vb : Nat) (hcap : ∀ e : K.E, (K.w e).heap[vb]? = some (.cells #[sv] 84)) : AskOK K dk 44 #[.pointer (some ⟨vb, 0, none⟩)] := by
  intro e k lz hkm ht fr l hp hl hk
  have w1 := word_swap K (spW k hkm) e (dl k lz) 0 (fun _ => trivial) (by rw [ht, hdk k lz hkm]; rfl)
  unfold Wd.p at w1
  have ha : (#[] ++ #[spP cb rb k] ++ #[.pointer (some ⟨vb, 0, none⟩)] : Array Value) = #[spP cb rb k, .pointer (some ⟨vb, 0, none⟩)] := rfl
  have c1 := (cell_of (hcap e) 0).trans rfl
  rw [ha]
  unfold LW
  rw [enter_at _ Try.func44 code44_is]
  simp only [Try.ntmps44, ez, Nat.reduceAdd, Nat.reduceSub]
  repeat (first | refine Walk.cx ?_ | (refine Walk.cReg ?_; simp only [z44]) | (refine Walk.oq ?_; try walk_nrm) | (refine Walk.un ?_; walk_nrm))
  refine LW.callS (K := K.toLb) (e := e) (l := fr :: l) (f := 45) (Q := fun v e' => ∃ s : Sp, v = .int .i64 (s k) ∧ Wrote K e (dl k lz) s (spPut s k 0) e') ?_ (ho_of (by conv => lhs; whnf) (by kernel_rfl)) (by rfl) (by decide) rfl Try.func45 (by kernel_rfl) (by rfl) ⟨rfl, rfl, _, Try.func44⟩ (plain_cons hp hl) ?_
  · walk_nrm
    exact w1
  rintro v e1 ⟨s, rfl, hw⟩
  have ht1 : K.tgt e1 = (K.s e1, dk (k + 1) (lz ++ [s k])) := by rw [hw.s]; exact hw.tgt.trans (hact s k lz)
  have hkk := hk (.int .i64 (s k)) e1 ⟨_, rfl, ht1⟩
  generalize s k = x at *
  unfold LW at hkk ⊢
  walk_nrm
  repeat (first | refine Walk.cx ?_ | (refine Walk.cReg ?_; simp only [z44]) | (refine Walk.oq ?_; try walk_nrm) | (refine Walk.un ?_; walk_nrm))
  exact Walk.on1 rfl rfl Try.func44 rfl hkk
end
end
end Go.Proofs.Ytnnakajldnaldaa
