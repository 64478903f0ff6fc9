/- Part 20. -/
import Derived.Test.YtnnakajldnaldaaJ19
set_option linter.unusedSimpArgs false
set_option linter.unusedVariables false
set_option maxHeartbeats 8000000
set_option maxRecDepth 100000
namespace Go.Proofs.Ytnnakajldnaldaa
open Go.Conc Go.RowKit Go.Relay
open Go.ConcN (upd upd_ne upd_same)
section
section
variable {a0 M cg cc tb tc n m : Nat} {ta : Option Addr} {C : Nat → Int} {T : Nat → R5} {main : Bool}
theorem Got.putC {cg' i : Nat} {v : Value} {w : World} (h : cg' = cg) : Got M cg tb n T T w (w.setCell ⟨cg', i, none⟩ v) := ⟨Chg.set (.inr (.inl h)), fun _ h => .inl h⟩
theorem M5.opq {S : Nat} {w : World} {x : Array Value} {ty : TypeId} (I : M5 a0 M cg cc tb tc n m ta C T w) (h : w.heap[S]? = some (.cells x ty)) (hS : ¬ m5S M cg tb n T S) (p : Nat) (v : Value) : (w.setCell ⟨cg, p, none⟩ v).heap[S]? = some (.cells x ty) :=
  (heap_set_other _ _ _ _ fun e => hS (.inr (.inl e))).trans h
def ToldI (a0 M cg cc tb tc n m : Nat) (ta : Option Addr) (C C' : Nat → Int) (T : Nat → R5) (i : Nat) (t : R5) (a : Ans) (w w' : World) : Prop :=
  ∃ av, M5 a0 M cg cc tb tc n m ta C' (upd T i (t.told a av)) w' ∧ Got M cg tb n T (upd T i (t.told a av)) w w'
theorem step_1 {i k S : Nat} (hi : i < n) (oa ob oc : Int) (w : World) (I : M5 a0 M cg cc tb tc n m ta C T w) (hm0 : 0 < m) (hm : m ≤ 64) (hn : n ≤ 64) (ha0 : a0 ≤ w.heap.size) (hl : (T i).ans.length ≤ 65536) (hat : (T i).at' ≤ 65536)
    (hop : w.heap[S]? = some (.cells #[.int .i64 1, .int .i64 oa, .int .i64 ob, .int .i64 oc] 46)) (hS : ¬ m5S M cg tb n T S) (u : Nat → Value) (fr : Frame) (cs : List Frame) :
    Walk Try.prog main (DR (fun _ => none)) (fun g w' => g = G (fr.finish (.tuple #[])) cs ∧ ToldI a0 M cg cc tb tc n m ta C (upd C (stAt m oa) (IntKind.i64.wrap (C (stAt m oa) + ob))) T i (T i) (true, IntKind.i64.wrap (C (stAt m oa) + ob)) w w') (G (hdStep M i S m k 1 u) (fr :: cs)) w := by
  have hA := rat_w (main := main) (V := fun _ => none) oa m hm0 hm w
  have hlt := stAt_lt hm0 oa
  generalize stAt m oa = p at *
  have hp0 : (0 : Int) ≤ p := by omega
  have hp1 : decide ((p : Int) < m) = true := by simp; omega
  have hp3 : decide (p < m) = true := by simp; omega
  have hp4 : (p : Int) < m := by omega
  have d1 := (cell_of hop 1).trans rfl
  have d2 := (cell_of hop 2).trans rfl
  have c1 : w.cell? ⟨M, 0, none⟩ = some (.slice (some ⟨cg, 0, none⟩) m cc) := I.cC
  have c2 := I.ccell hlt
  have z2 := I.cfrz p
  have I1 := I.putC hlt (IntKind.i64.wrap (C p + ob))
  have g1 : Got M cg tb n T T w (w.setCell ⟨cg, p, none⟩ (.int .i64 (IntKind.i64.wrap (C p + ob)))) := Got.putC rfl
  have s1 := size_set w ⟨cg, p, none⟩ (.int .i64 (IntKind.i64.wrap (C p + ob)))
  conv => arg 5; unfold hdStep
  repeat (first | refine Walk.cx ?_ | (refine Walk.cReg ?_; simp only [z49]) | (refine Walk.oq ?_; try walk_nrm) | (refine Walk.un ?_; walk_nrm))
  refine Walk.callV (x := .int .i64 (p : Nat)) (W := w) ?_ (ho_of (by conv => lhs; whnf) (by kernel_rfl)) (by rfl) (by decide) rfl Try.func67 (by kernel_rfl) (by rfl) ?_
  · walk_nrm
    exact hA
  walk_nrm
  repeat (first | refine Walk.cx ?_ | (refine Walk.cReg ?_; simp only [z49]) | (refine Walk.oq ?_; try walk_nrm) | (refine Walk.un ?_; walk_nrm))
  (refine Walk.drawnL (by kernel_rfl) size49_7 (by kernel_rfl) (by kernel_rfl) (by kernel_rfl) (by decide) ?_; simp only [List.range, List.range.loop]; repeat (first | (refine Cm.oq ?_) | (refine Cm.unw (ho_of (by conv => lhs; whnf) (by kernel_rfl)) (by rfl) ?_; walk_nrm)))
  refine Cm.done ?_
  intro rest hr
  (have hfr := fr0 cg p; refine Walk.os hfr c2 ?_; clear hfr; try walk_nrm)
  refine hr _ _ ?_
  generalize hx : IntKind.i64.wrap (C p + ob) = x at *
  generalize w.setCell ⟨cg, p, none⟩ (.int .i64 x) = w1 at *
  clear c1 c2 z2 d1 d2 hA
  have c1 : w1.cell? ⟨M, 0, none⟩ = some (.slice (some ⟨cg, 0, none⟩) m cc) := I1.cC
  have c2 := I1.ccell hlt
  rw [upd_same] at c2
  have he := end_w (main := main) hi (true, x) w1 I1 hn (by omega) hl hat
  simp only [ansVal] at he
  try walk_nrm
  repeat (first | refine Walk.cx ?_ | (refine Walk.cReg ?_; simp only [z49]) | (refine Walk.oq ?_; try walk_nrm) | (refine Walk.un ?_; walk_nrm))
  refine Walk.callW (Post := fun v w' => v = .tuple #[] ∧ ∃ av, M5 a0 M cg cc tb tc n m ta (upd C p x) (upd T i ((T i).told (true, x) av)) w' ∧ Got M cg tb n T (upd T i ((T i).told (true, x) av)) w1 w') ?_ (ho_of (by conv => lhs; whnf) (by kernel_rfl)) (by rfl) (by decide) rfl Try.func68 (by kernel_rfl) (by rfl) ?_
  · walk_nrm
    exact he
  rintro v w2 ⟨rfl, av, I2, g2⟩
  walk_nrm
  repeat (first | refine Walk.cx ?_ | (refine Walk.cReg ?_; simp only [z49]) | (refine Walk.oq ?_; try walk_nrm) | (refine Walk.un ?_; walk_nrm))
  exact Walk.on0 rfl rfl Try.func49 rfl (.stop fun d => ⟨rfl, av, I2.same fun _ _ => rfl, ⟨(g1.trans g2).chg.at d, (g1.trans g2).own⟩⟩)
theorem step_4a {i S : Nat} (hi : i < n) (oa ob oc : Int) (w : World) (I : M5 a0 M cg cc tb tc n m ta C T w) (hm0 : 0 < m) (hm : m ≤ 64)
    (hop : w.heap[S]? = some (.cells #[.int .i64 4, .int .i64 oa, .int .i64 ob, .int .i64 oc] 46)) (hS : ¬ m5S M cg tb n T S) (u : Nat → Value) (fr : Frame) (cs : List Frame) :
    Walk Try.prog main (DR (fun _ => none)) (fun g w' => g = G (fr.finish (.tuple #[])) cs ∧ M5 a0 M cg cc tb tc n m ta (upd C (stAt m oa) (IntKind.i64.wrap (C (stAt m oa) - oc))) T w' ∧ Got M cg tb n T T w w') (G (hdStep M i S m 0 4 u) (fr :: cs)) w := by
  have hA := rat_w (main := main) (V := fun _ => none) oa m hm0 hm w
  have hlt := stAt_lt hm0 oa
  generalize stAt m oa = p at *
  have hp0 : (0 : Int) ≤ p := by omega
  have hp1 : decide ((p : Int) < m) = true := by simp; omega
  have hp3 : decide (p < m) = true := by simp; omega
  have hp4 : (p : Int) < m := by omega
  have d1 := (cell_of hop 1).trans rfl
  have d3 := (cell_of hop 3).trans rfl
  have c1 : w.cell? ⟨M, 0, none⟩ = some (.slice (some ⟨cg, 0, none⟩) m cc) := I.cC
  have c2 := I.ccell hlt
  have z2 := I.cfrz p
  have I1 := I.putC hlt (IntKind.i64.wrap (C p - oc))
  have g1 : Got M cg tb n T T w (w.setCell ⟨cg, p, none⟩ (.int .i64 (IntKind.i64.wrap (C p - oc)))) := Got.putC rfl
  conv => arg 5; unfold hdStep
  repeat (first | refine Walk.cx ?_ | (refine Walk.cReg ?_; simp only [z49]) | (refine Walk.oq ?_; try walk_nrm) | (refine Walk.un ?_; walk_nrm))
  refine Walk.callV (x := .int .i64 (p : Nat)) (W := w) ?_ (ho_of (by conv => lhs; whnf) (by kernel_rfl)) (by rfl) (by decide) rfl Try.func67 (by kernel_rfl) (by rfl) ?_
  · walk_nrm
    exact hA
  walk_nrm
  repeat (first | refine Walk.cx ?_ | (refine Walk.cReg ?_; simp only [z49]) | (refine Walk.oq ?_; try walk_nrm) | (refine Walk.un ?_; walk_nrm))
  (refine Walk.drawnL (by kernel_rfl) size49_19 (by kernel_rfl) (by kernel_rfl) (by kernel_rfl) (by decide) ?_; simp only [List.range, List.range.loop]; repeat (first | (refine Cm.oq ?_) | (refine Cm.unw (ho_of (by conv => lhs; whnf) (by kernel_rfl)) (by rfl) ?_; walk_nrm)))
  refine Cm.done ?_
  intro rest hr
  (have hfr := fr0 cg p; refine Walk.os hfr c2 ?_; clear hfr; try walk_nrm)
  refine hr _ _ ?_
  generalize hx : IntKind.i64.wrap (C p - oc) = x at *
  generalize w.setCell ⟨cg, p, none⟩ (.int .i64 x) = w1 at *
  try walk_nrm
  repeat (first | refine Walk.cx ?_ | (refine Walk.cReg ?_; simp only [z49]) | (refine Walk.oq ?_; try walk_nrm) | (refine Walk.un ?_; walk_nrm))
  exact Walk.on0 rfl rfl Try.func49 rfl (.stop fun d => ⟨rfl, I1.same fun _ _ => rfl, ⟨g1.chg.at d, g1.own⟩⟩)
theorem step_4b {i S : Nat} (hi : i < n) (oa ob oc : Int) (w : World) (I : M5 a0 M cg cc tb tc n m ta C T w) (hm0 : 0 < m) (hm : m ≤ 64) (hn : n ≤ 64) (ha0 : a0 ≤ w.heap.size) (hl : (T i).ans.length ≤ 65536) (hat : (T i).at' ≤ 65536)
    (hop : w.heap[S]? = some (.cells #[.int .i64 4, .int .i64 oa, .int .i64 ob, .int .i64 oc] 46)) (hS : ¬ m5S M cg tb n T S) (u : Nat → Value) (fr : Frame) (cs : List Frame) :
    Walk Try.prog main (DR (fun _ => none)) (fun g w' => g = G (fr.finish (.tuple #[])) cs ∧ ToldI a0 M cg cc tb tc n m ta C (upd C (stAt m ob) (IntKind.i64.wrap (C (stAt m ob) + oc))) T i (T i) (true, 0) w w') (G (hdStep M i S m 1 4 u) (fr :: cs)) w := by
  have hA := rat_w (main := main) (V := fun _ => none) ob m hm0 hm w
  have hlt := stAt_lt hm0 ob
  generalize stAt m ob = p at *
  have hp0 : (0 : Int) ≤ p := by omega
  have hp1 : decide ((p : Int) < m) = true := by simp; omega
  have hp3 : decide (p < m) = true := by simp; omega
  have hp4 : (p : Int) < m := by omega
  have d2 := (cell_of hop 2).trans rfl
  have d3 := (cell_of hop 3).trans rfl
  have c1 : w.cell? ⟨M, 0, none⟩ = some (.slice (some ⟨cg, 0, none⟩) m cc) := I.cC
  have c2 := I.ccell hlt
  have z2 := I.cfrz p
  have I1 := I.putC hlt (IntKind.i64.wrap (C p + oc))
  have g1 : Got M cg tb n T T w (w.setCell ⟨cg, p, none⟩ (.int .i64 (IntKind.i64.wrap (C p + oc)))) := Got.putC rfl
  have s1 := size_set w ⟨cg, p, none⟩ (.int .i64 (IntKind.i64.wrap (C p + oc)))
  conv => arg 5; unfold hdStep
  repeat (first | refine Walk.cx ?_ | (refine Walk.cReg ?_; simp only [z49]) | (refine Walk.oq ?_; try walk_nrm) | (refine Walk.un ?_; walk_nrm))
  refine Walk.callV (x := .int .i64 (p : Nat)) (W := w) ?_ (ho_of (by conv => lhs; whnf) (by kernel_rfl)) (by rfl) (by decide) rfl Try.func67 (by kernel_rfl) (by rfl) ?_
  · walk_nrm
    exact hA
  walk_nrm
  repeat (first | refine Walk.cx ?_ | (refine Walk.cReg ?_; simp only [z49]) | (refine Walk.oq ?_; try walk_nrm) | (refine Walk.un ?_; walk_nrm))
  (refine Walk.drawnL (by kernel_rfl) size49_21 (by kernel_rfl) (by kernel_rfl) (by kernel_rfl) (by decide) ?_; simp only [List.range, List.range.loop]; repeat (first | (refine Cm.oq ?_) | (refine Cm.unw (ho_of (by conv => lhs; whnf) (by kernel_rfl)) (by rfl) ?_; walk_nrm)))
  refine Cm.done ?_
  intro rest hr
  (have hfr := fr0 cg p; refine Walk.os hfr c2 ?_; clear hfr; try walk_nrm)
  refine hr _ _ ?_
  generalize hx : IntKind.i64.wrap (C p + oc) = x at *
  generalize w.setCell ⟨cg, p, none⟩ (.int .i64 x) = w1 at *
  clear c1 c2 z2 d2 d3 hA
  have he := end_w (main := main) hi (true, 0) w1 I1 hn (by omega) hl hat
  simp only [ansVal] at he
  try walk_nrm
  repeat (first | refine Walk.cx ?_ | (refine Walk.cReg ?_; simp only [z49]) | (refine Walk.oq ?_; try walk_nrm) | (refine Walk.un ?_; walk_nrm))
  refine Walk.callW (Post := fun v w' => v = .tuple #[] ∧ ∃ av, M5 a0 M cg cc tb tc n m ta (upd C p x) (upd T i ((T i).told (true, 0) av)) w' ∧ Got M cg tb n T (upd T i ((T i).told (true, 0) av)) w1 w') ?_ (ho_of (by conv => lhs; whnf) (by kernel_rfl)) (by rfl) (by decide) rfl Try.func68 (by kernel_rfl) (by rfl) ?_
  · walk_nrm
    exact he
  rintro v w2 ⟨rfl, av, I2, g2⟩
  walk_nrm
  repeat (first | refine Walk.cx ?_ | (refine Walk.cReg ?_; simp only [z49]) | (refine Walk.oq ?_; try walk_nrm) | (refine Walk.un ?_; walk_nrm))
  exact Walk.on0 rfl rfl Try.func49 rfl (.stop fun d => ⟨rfl, av, I2.same fun _ _ => rfl, ⟨(g1.trans g2).chg.at d, (g1.trans g2).own⟩⟩)
end
end
section
section
variable {a0 M cg cc tb tc n m : Nat} {ta : Option Addr} {C : Nat → Int} {T : Nat → R5} {main : Bool}
def SumI (a0 M cg cc tb tc n m : Nat) (ta : Option Addr) (C' : Nat → Int) (T : Nat → R5) (i k : Nat) (x : Int) (w w' : World) : Prop :=
  (k + 1 = m ∧ ∃ av, M5 a0 M cg cc tb tc n m ta C' (upd T i (R5.told { T i with sum := x } (true, x) av)) w' ∧ Got M cg tb n T (upd T i (R5.told { T i with sum := x } (true, x) av)) w w') ∨
  (k + 1 ≠ m ∧ M5 a0 M cg cc tb tc n m ta C' (upd T i { T i with sum := x }) w' ∧ Got M cg tb n T (upd T i { T i with sum := x }) w w')
theorem step_2 {i k S : Nat} (hi : i < n) (oa ob oc : Int) (w : World) (I : M5 a0 M cg cc tb tc n m ta C T w) (hk : k < m) (hm : m ≤ 64) (hn : n ≤ 64) (ha0 : a0 ≤ w.heap.size) (hl : (T i).ans.length ≤ 65536) (hat : (T i).at' ≤ 65536)
    (hop : w.heap[S]? = some (.cells #[.int .i64 2, .int .i64 oa, .int .i64 ob, .int .i64 oc] 46)) (hS : ¬ m5S M cg tb n T S) (u : Nat → Value) (fr : Frame) (cs : List Frame) :
    Walk Try.prog main (DR (fun _ => none)) (fun g w' => g = G (fr.finish (.tuple #[])) cs ∧ SumI a0 M cg cc tb tc n m ta C T i k (IntKind.i64.wrap ((T i).sum + C k)) w w') (G (hdStep M i S m k 2 u) (fr :: cs)) w := by
  have hi0 : (0 : Int) ≤ i := by omega
  have hi1 : decide ((i : Int) < n) = true := by simp; omega
  have hi3 : decide (i < n) = true := by simp; omega
  have hi4 : (i : Int) < n := by omega
  have hp0 : (0 : Int) ≤ k := by omega
  have hp1 : decide ((k : Int) < m) = true := by simp; omega
  have hp3 : decide (k < m) = true := by simp; omega
  have hp4 : (k : Int) < m := by omega
  have hwm : IntKind.i64.wrap ((m : Int) - 1) = (m : Int) - 1 := by rw [IntKind.wrap_i64]; omega
  have c1 : w.cell? ⟨M, 0, none⟩ = some (.slice (some ⟨cg, 0, none⟩) m cc) := I.cC
  have c0 : w.cell? ⟨M, 1, none⟩ = some (.slice (some ⟨tb, 0, none⟩) n tc) := I.cT (by omega)
  have c2 := I.ccell hk
  have c3 : w.cell? ⟨tb, i * 7 + 5, none⟩ = some (.int .i64 (T i).sum) := I.tcell hi rfl
  have z3 := I.tfrz hi (i * 7 + 5)
  have I1 := I.put hi (j := 5) (v := .int .i64 (IntKind.i64.wrap ((T i).sum + C k))) (t := { T i with sum := IntKind.i64.wrap ((T i).sum + C k) }) rfl (by decide) ⟨rfl, rfl, rfl, rfl, rfl, rfl⟩
  have g1 : Got M cg tb n T (upd T i { T i with sum := IntKind.i64.wrap ((T i).sum + C k) }) w (w.setCell ⟨tb, i * 7 + 5, none⟩ (.int .i64 (IntKind.i64.wrap ((T i).sum + C k)))) := ⟨Chg.set (.inr (.inr (.inl rfl))), fun b hb => m5S_upd hi (t := { T i with sum := IntKind.i64.wrap ((T i).sum + C k) }) (fun b hb => .inl hb) b hb⟩
  have s1 := size_set w ⟨tb, i * 7 + 5, none⟩ (.int .i64 (IntKind.i64.wrap ((T i).sum + C k)))
  have d1 : (w.setCell ⟨tb, i * 7 + 5, none⟩ (.int .i64 (IntKind.i64.wrap ((T i).sum + C k)))).heap[S]? = some (.cells #[.int .i64 2, .int .i64 oa, .int .i64 ob, .int .i64 oc] 46) := (heap_set_other _ _ _ _ fun e => hS (.inr (.inr (.inl e)))).trans hop
  conv => arg 5; unfold hdStep
  repeat (first | refine Walk.cx ?_ | (refine Walk.cReg ?_; simp only [z49]) | (refine Walk.oq ?_; try walk_nrm) | (refine Walk.un ?_; walk_nrm))
  (refine Walk.drawnL (by kernel_rfl) size49_11 (by kernel_rfl) (by kernel_rfl) (by kernel_rfl) (by decide) ?_; simp only [List.range, List.range.loop]; repeat (first | (refine Cm.oq ?_) | (refine Cm.unw (ho_of (by conv => lhs; whnf) (by kernel_rfl)) (by rfl) ?_; walk_nrm)))
  refine Cm.done ?_
  intro rest hr
  (have hfr := fr0 tb (i * 7 + 5); refine Walk.os hfr c3 ?_; clear hfr; try walk_nrm)
  refine hr _ _ ?_
  generalize hx : IntKind.i64.wrap ((T i).sum + C k) = x at *
  generalize w.setCell ⟨tb, i * 7 + 5, none⟩ (.int .i64 x) = w1 at *
  clear c0 c1 c2 c3 z3
  have c9 := (cell_of d1 0).trans rfl
  have I2 := I1
  have g3 := g1
  have s2 : w1.heap.size = w1.heap.size := rfl
  have c0 : w1.cell? ⟨M, 1, none⟩ = some (.slice (some ⟨tb, 0, none⟩) n tc) := I2.cT (by omega)
  have c3 : w1.cell? ⟨tb, i * 7 + 5, none⟩ = some (.int .i64 x) := I2.tcell hi (by rw [upd_same]; rfl)
  have he := end_w (main := main) hi (true, x) w1 I2 hn (by omega) (by rw [upd_same]; exact hl) (by rw [upd_same]; exact hat)
  simp only [ansVal, upd_same, upd_twice] at he
  try walk_nrm
  by_cases hlast : k + 1 = m
  · have hbe : ((k : Int) == (m : Int) - 1) = true := by simp; omega
    repeat (first | refine Walk.cx ?_ | (refine Walk.cReg ?_; simp only [z49]) | (refine Walk.oq ?_; try walk_nrm) | (refine Walk.un ?_; walk_nrm))
    refine Walk.callW (Post := fun v w' => v = .tuple #[] ∧ ∃ av, M5 a0 M cg cc tb tc n m ta C (upd T i (R5.told { T i with sum := x } (true, x) av)) w' ∧ Got M cg tb n (upd T i { T i with sum := x }) (upd T i (R5.told { T i with sum := x } (true, x) av)) w1 w') ?_ (ho_of (by conv => lhs; whnf) (by kernel_rfl)) (by rfl) (by decide) rfl Try.func68 (by kernel_rfl) (by rfl) ?_
    · walk_nrm
      exact he
    rintro v w3 ⟨rfl, av, I3, g4⟩
    walk_nrm
    repeat (first | refine Walk.cx ?_ | (refine Walk.cReg ?_; simp only [z49]) | (refine Walk.oq ?_; try walk_nrm) | (refine Walk.un ?_; walk_nrm))
    exact Walk.on0 rfl rfl Try.func49 rfl (.stop fun d => ⟨rfl, .inl ⟨hlast, av, I3.same fun _ _ => rfl, ⟨(g3.trans g4).chg.at d, (g3.trans g4).own⟩⟩⟩)
  · have hbe : ((k : Int) == (m : Int) - 1) = false := by simp; omega
    repeat (first | refine Walk.cx ?_ | (refine Walk.cReg ?_; simp only [z49]) | (refine Walk.oq ?_; try walk_nrm) | (refine Walk.un ?_; walk_nrm))
    exact Walk.on0 rfl rfl Try.func49 rfl (.stop fun d => ⟨rfl, .inr ⟨hlast, I2.same fun _ _ => rfl, ⟨g3.chg.at d, g3.own⟩⟩⟩)
theorem step_3 {i k S : Nat} (hi : i < n) (oa ob oc : Int) (w : World) (I : M5 a0 M cg cc tb tc n m ta C T w) (hk : k < m) (hm : m ≤ 64) (hn : n ≤ 64) (ha0 : a0 ≤ w.heap.size) (hl : (T i).ans.length ≤ 65536) (hat : (T i).at' ≤ 65536)
    (hop : w.heap[S]? = some (.cells #[.int .i64 3, .int .i64 oa, .int .i64 ob, .int .i64 oc] 46)) (hS : ¬ m5S M cg tb n T S) (u : Nat → Value) (fr : Frame) (cs : List Frame) :
    Walk Try.prog main (DR (fun _ => none)) (fun g w' => g = G (fr.finish (.tuple #[])) cs ∧ SumI a0 M cg cc tb tc n m ta (upd C k 0) T i k (IntKind.i64.wrap ((T i).sum + C k)) w w') (G (hdStep M i S m k 3 u) (fr :: cs)) w := by
  have hi0 : (0 : Int) ≤ i := by omega
  have hi1 : decide ((i : Int) < n) = true := by simp; omega
  have hi3 : decide (i < n) = true := by simp; omega
  have hi4 : (i : Int) < n := by omega
  have hp0 : (0 : Int) ≤ k := by omega
  have hp1 : decide ((k : Int) < m) = true := by simp; omega
  have hp3 : decide (k < m) = true := by simp; omega
  have hp4 : (k : Int) < m := by omega
  have hwm : IntKind.i64.wrap ((m : Int) - 1) = (m : Int) - 1 := by rw [IntKind.wrap_i64]; omega
  have c1 : w.cell? ⟨M, 0, none⟩ = some (.slice (some ⟨cg, 0, none⟩) m cc) := I.cC
  have c0 : w.cell? ⟨M, 1, none⟩ = some (.slice (some ⟨tb, 0, none⟩) n tc) := I.cT (by omega)
  have c2 := I.ccell hk
  have c3 : w.cell? ⟨tb, i * 7 + 5, none⟩ = some (.int .i64 (T i).sum) := I.tcell hi rfl
  have z3 := I.tfrz hi (i * 7 + 5)
  have I1 := I.put hi (j := 5) (v := .int .i64 (IntKind.i64.wrap ((T i).sum + C k))) (t := { T i with sum := IntKind.i64.wrap ((T i).sum + C k) }) rfl (by decide) ⟨rfl, rfl, rfl, rfl, rfl, rfl⟩
  have g1 : Got M cg tb n T (upd T i { T i with sum := IntKind.i64.wrap ((T i).sum + C k) }) w (w.setCell ⟨tb, i * 7 + 5, none⟩ (.int .i64 (IntKind.i64.wrap ((T i).sum + C k)))) := ⟨Chg.set (.inr (.inr (.inl rfl))), fun b hb => m5S_upd hi (t := { T i with sum := IntKind.i64.wrap ((T i).sum + C k) }) (fun b hb => .inl hb) b hb⟩
  have s1 := size_set w ⟨tb, i * 7 + 5, none⟩ (.int .i64 (IntKind.i64.wrap ((T i).sum + C k)))
  have d1 : (w.setCell ⟨tb, i * 7 + 5, none⟩ (.int .i64 (IntKind.i64.wrap ((T i).sum + C k)))).heap[S]? = some (.cells #[.int .i64 3, .int .i64 oa, .int .i64 ob, .int .i64 oc] 46) := (heap_set_other _ _ _ _ fun e => hS (.inr (.inr (.inl e)))).trans hop
  conv => arg 5; unfold hdStep
  repeat (first | refine Walk.cx ?_ | (refine Walk.cReg ?_; simp only [z49]) | (refine Walk.oq ?_; try walk_nrm) | (refine Walk.un ?_; walk_nrm))
  (refine Walk.drawnL (by kernel_rfl) size49_11 (by kernel_rfl) (by kernel_rfl) (by kernel_rfl) (by decide) ?_; simp only [List.range, List.range.loop]; repeat (first | (refine Cm.oq ?_) | (refine Cm.unw (ho_of (by conv => lhs; whnf) (by kernel_rfl)) (by rfl) ?_; walk_nrm)))
  refine Cm.done ?_
  intro rest hr
  (have hfr := fr0 tb (i * 7 + 5); refine Walk.os hfr c3 ?_; clear hfr; try walk_nrm)
  refine hr _ _ ?_
  generalize hx : IntKind.i64.wrap ((T i).sum + C k) = x at *
  generalize w.setCell ⟨tb, i * 7 + 5, none⟩ (.int .i64 x) = w1 at *
  clear c0 c1 c2 c3 z3
  have c9 := (cell_of d1 0).trans rfl
  have c1 : w1.cell? ⟨M, 0, none⟩ = some (.slice (some ⟨cg, 0, none⟩) m cc) := I1.cC
  have c2 := I1.ccell hk
  have z2 := I1.cfrz k
  have I2 := I1.putC hk 0
  have g2 : Got M cg tb n (upd T i { T i with sum := x }) (upd T i { T i with sum := x }) w1 (w1.setCell ⟨cg, k, none⟩ (.int .i64 0)) := Got.putC rfl
  have s2 := size_set w1 ⟨cg, k, none⟩ (.int .i64 0)
  try walk_nrm
  repeat (first | refine Walk.cx ?_ | (refine Walk.cReg ?_; simp only [z49]) | (refine Walk.oq ?_; try walk_nrm) | (refine Walk.un ?_; walk_nrm))
  (have hfr := fr0 cg k; refine Walk.os hfr c2 ?_; clear hfr; try walk_nrm)
  generalize w1.setCell ⟨cg, k, none⟩ (.int .i64 0) = w2 at *
  have g3 := g1.trans g2
  clear c1 c2 z2 c9 d1 g1 g2 I1
  have c0 : w2.cell? ⟨M, 1, none⟩ = some (.slice (some ⟨tb, 0, none⟩) n tc) := I2.cT (by omega)
  have c3 : w2.cell? ⟨tb, i * 7 + 5, none⟩ = some (.int .i64 x) := I2.tcell hi (by rw [upd_same]; rfl)
  have he := end_w (main := main) hi (true, x) w2 I2 hn (by omega) (by rw [upd_same]; exact hl) (by rw [upd_same]; exact hat)
  simp only [ansVal, upd_same, upd_twice] at he
  try walk_nrm
  by_cases hlast : k + 1 = m
  · have hbe : ((k : Int) == (m : Int) - 1) = true := by simp; omega
    repeat (first | refine Walk.cx ?_ | (refine Walk.cReg ?_; simp only [z49]) | (refine Walk.oq ?_; try walk_nrm) | (refine Walk.un ?_; walk_nrm))
    refine Walk.callW (Post := fun v w' => v = .tuple #[] ∧ ∃ av, M5 a0 M cg cc tb tc n m ta (upd C k 0) (upd T i (R5.told { T i with sum := x } (true, x) av)) w' ∧ Got M cg tb n (upd T i { T i with sum := x }) (upd T i (R5.told { T i with sum := x } (true, x) av)) w2 w') ?_ (ho_of (by conv => lhs; whnf) (by kernel_rfl)) (by rfl) (by decide) rfl Try.func68 (by kernel_rfl) (by rfl) ?_
    · walk_nrm
      exact he
    rintro v w3 ⟨rfl, av, I3, g4⟩
    walk_nrm
    repeat (first | refine Walk.cx ?_ | (refine Walk.cReg ?_; simp only [z49]) | (refine Walk.oq ?_; try walk_nrm) | (refine Walk.un ?_; walk_nrm))
    exact Walk.on0 rfl rfl Try.func49 rfl (.stop fun d => ⟨rfl, .inl ⟨hlast, av, I3.same fun _ _ => rfl, ⟨(g3.trans g4).chg.at d, (g3.trans g4).own⟩⟩⟩)
  · have hbe : ((k : Int) == (m : Int) - 1) = false := by simp; omega
    repeat (first | refine Walk.cx ?_ | (refine Walk.cReg ?_; simp only [z49]) | (refine Walk.oq ?_; try walk_nrm) | (refine Walk.un ?_; walk_nrm))
    exact Walk.on0 rfl rfl Try.func49 rfl (.stop fun d => ⟨rfl, .inr ⟨hlast, I2.same fun _ _ => rfl, ⟨g3.chg.at d, g3.own⟩⟩⟩)
end
end
section
def intO (x : Int) : Obj := .cells #[.int .i64 x] 2
structure AppI (a0 : Nat) (w1 : World) (x : Int) (hd : Value) (l : List Int) (gb gcap : Nat) (w3 : World) : Prop where
  own : w3.ownsRow a0 2 1 (.slice (some ⟨gb, 0, none⟩) (l.length + 1) gcap) (l.length + 1) (intRow l ++ [.int .i64 x])
  grown : (w1.alloc (intO x)).grownBy w3 hd.ownBlock
  hat : hd.ownBlock = some gb ∨ gb = (w1.alloc (intO x)).heap.size
  hlt : gb < w3.heap.size
section
variable {a0 M cg cc tb tc n m : Nat} {ta : Option Addr} {C : Nat → Int} {T : Nat → R5} {main : Bool}
theorem step_5a {i k S : Nat} (hi : i < n) (oa ob oc : Int) (w0 : World) (I0 : M5 a0 M cg cc tb tc n m ta C T w0) (hk : k < m) (hm : m ≤ 64) (hn : n ≤ 64) (ha0 : a0 ≤ w0.heap.size) (hl : (T i).seen.length ≤ 65536) (u : Nat → Value) (fr : Frame) (cs : List Frame) :
    Walk Try.prog main (DR (fun _ => none)) (fun g w' => g = G (fr.finish (.tuple #[])) cs ∧ ∃ sv, M5 a0 M cg cc tb tc n m ta C (upd T i { T i with sv := sv, seen := (T i).seen ++ [C k], sum := IntKind.i64.wrap ((T i).sum + C k) }) w' ∧ Got M cg tb n T (upd T i { T i with sv := sv, seen := (T i).seen ++ [C k], sum := IntKind.i64.wrap ((T i).sum + C k) }) w0 w') (G (hdStep M i S m k 5 u) (fr :: cs)) w0 := by
  have hi0 : (0 : Int) ≤ i := by omega
  have hi1 : decide ((i : Int) < n) = true := by simp; omega
  have hi3 : decide (i < n) = true := by simp; omega
  have hi4 : (i : Int) < n := by omega
  have hp0 : (0 : Int) ≤ k := by omega
  have hp1 : decide ((k : Int) < m) = true := by simp; omega
  have hp3 : decide (k < m) = true := by simp; omega
  have hp4 : (k : Int) < m := by omega
  obtain ⟨bb1, bb2, bb3, bb4⟩ := I0.base
  obtain ⟨bb5, bb6, bb7⟩ := bb4 (by omega)
  obtain ⟨ll1, ll2, ll3⟩ := I0.lt
  have ll3 := ll3 (by omega)
  have R0 := I0.rows i hi
  have c1 : w0.cell? ⟨M, 1, none⟩ = some (.slice (some ⟨tb, 0, none⟩) n tc) := I0.cT (by omega)
  have c2 : w0.cell? ⟨tb, i * 7 + 6, none⟩ = some (T i).sv := I0.tcell hi rfl
  have c3 : w0.cell? ⟨M, 0, none⟩ = some (.slice (some ⟨cg, 0, none⟩) m cc) := I0.cC
  have c4 := I0.ccell hk
  obtain ⟨carr, hc1, hc2⟩ := I0.cs
  generalize hx : C k = x at *
  have hsz1 : w0.heap.size + 1 ≤ (w0.alloc (intO x)).heap.size ∧ (w0.alloc (intO x)).heap.size ≤ w0.heap.size + 1 := by simp
  have hO1 : ∀ y, y < w0.heap.size → (w0.alloc (intO x)).heap[y]? = w0.heap[y]? := fun y hy => heap_new_lt _ _ hy
  have hown' : (w0.alloc (intO x)).ownsRow a0 2 1 (T i).sv (T i).seen.length (intRow (T i).seen) := row_same R0.rS fun g hg => hO1 g (R0.rS.lt g hg).2
  have hnews : ∀ (j : Nat) (u : Value), ([.int .i64 x] : List Value)[j]? = some u → (w0.alloc (intO x)).cell? ((⟨w0.heap.size, 0, none⟩ : Addr).add j) = some u := fun j u hu => by
    rw [add_none, Nat.zero_add]
    refine (cell_of (heap_alloc_new _ _) j).trans ?_
    simpa using hu
  have hnM : ∀ g, (T i).sv.ownBlock = some g → g ≠ M ∧ g ≠ cg ∧ g ≠ tb := fun g hg => by
    obtain ⟨e1, e2, e3, _⟩ := I0.far i hi g (.inr hg)
    exact ⟨e1, e2, e3⟩
  have hfar : ∀ (y : Nat) (w2 : World), y < w0.heap.size → (∀ g, (T i).sv.ownBlock = some g → g ≠ y) → (w0.alloc (intO x)).grownBy w2 (T i).sv.ownBlock → w2.heap[y]? = w0.heap[y]? := fun y w2 hy hne hg => (hg.block y (by omega) (fun e => hne y e.symm rfl)).trans (hO1 y hy)
  conv => arg 5; unfold hdStep
  repeat (first | refine Walk.cx ?_ | (refine Walk.cReg ?_; simp only [z49]) | (refine Walk.oq ?_; try walk_nrm) | (refine Walk.un ?_; walk_nrm))
  refine Walk.drawnT (iA := 20) (iB := 21) (w1 := w0.alloc (intO x)) (vA := .slice (some ⟨w0.heap.size, 0, none⟩) 1 1) (Z := fun y => y.cell? ⟨M, 1, none⟩ = some (.slice (some ⟨tb, 0, none⟩) n tc) ∧ y.cell? ⟨tb, i * 7 + 6, none⟩ = some (T i).sv ∧ y.cell? ⟨M, 0, none⟩ = some (.slice (some ⟨cg, 0, none⟩) m cc) ∧ y.cell? ⟨cg, k, none⟩ = some (.int .i64 x))
    (fun v w2 => ∃ g cap, v = .slice (some ⟨g, 0, none⟩) ((T i).seen.length + 1) cap ∧ AppI a0 w0 x (T i).sv (T i).seen g cap w2) (by kernel_rfl) size49_25 (by kernel_rfl) (by kernel_rfl) (by kernel_rfl) (by kernel_rfl) (by decide) (ho_of (by conv => lhs; whnf) (by kernel_rfl)) (ho_of (by conv => lhs; whnf) (by kernel_rfl)) ⟨c1, c2, c3, c4⟩ ⟨cell_alloc _ _ c1, cell_alloc _ _ c2, cell_alloc _ _ c3, cell_alloc _ _ c4⟩ ?_ ?_
  · rintro v w2 ⟨g, cap, _, hA⟩
    exact ⟨(World.cell?_of_block (a := ⟨M, 1, none⟩) (hfar M w2 (by omega) (fun g hg => (hnM g hg).1) hA.grown)).trans c1, (World.cell?_of_block (a := ⟨tb, i * 7 + 6, none⟩) (hfar tb w2 (by omega) (fun g hg => (hnM g hg).2.2) hA.grown)).trans c2, (World.cell?_of_block (a := ⟨M, 0, none⟩) (hfar M w2 (by omega) (fun g hg => (hnM g hg).1) hA.grown)).trans c3, (World.cell?_of_block (a := ⟨cg, k, none⟩) (hfar cg w2 (by omega) (fun g hg => (hnM g hg).2.1) hA.grown)).trans c4⟩
  rw [show List.filter (quietQ 20 21) (List.range 24) = [0, 1, 2, 3, 4, 5, 6, 7, 8, 9, 10, 11, 12, 13, 14, 15, 16, 17, 18, 19, 22, 23] from by decide]
  repeat (first | (refine Cm.opqZ (ho_of (by conv => lhs; whnf) (by kernel_rfl)) (by rfl) (fun wz hz dd e he => ?_) ?_; (· (obtain ⟨z1, z2, z3, z4⟩ := hz; simp [go_sem, *] at he; try (subst he; exact evR_read _ _))); apply Exists.intro; apply And.intro; (· (intro wz hz dd K hK; obtain ⟨z1, z2, z3, z4⟩ := hz; go_simp; exact hK))) | (refine Cm.unw (ho_of (by conv => lhs; whnf) (by kernel_rfl)) (by rfl) ?_; walk_nrm))
  refine Cm.done ⟨?_, ?_, ?_⟩
  · intro y hev rest hr'
    have e0 : y.eval (.tmp 209) = .int .i64 x := (hev (.tmp 209) (by simp [Op.operands])).trans rfl
    have e1 : y.tmps[209]?.getD undef = .int .i64 x := by
      rw [← Array.getD_eq_getD_getElem?]
      exact e0
    clear e0 hev
    (refine Walk.oa ?_; try walk_nrm)
    exact hr' _ _ ⟨rfl, _, rfl⟩
  · intro y hev rest hr'
    have e1 : y.eval (.tmp 202) = (T i).sv := (hev (.tmp 202) (by simp [Op.operands, Call.operands])).trans rfl
    have e2 : y.eval (.tmp 210) = .slice (some ⟨w0.heap.size, 0, none⟩) 1 1 := (hev (.tmp 210) (by simp [Op.operands, Call.operands])).trans rfl
    have hiA := Option.some_get (show (Try.prog.info? 2).isSome = true by kernel_rfl)
    refine Walk.append (.tmp 202) (.tmp 210) 22 (ho_of (by conv => lhs; whnf) (by kernel_rfl)) (by rfl) (by decide) rfl a0 2 _ (.int .i64 0) 1 8 (by kernel_rfl) hiA.symm (by rfl) (by rfl) (by rfl) (by rfl) (by decide) (T i).sv (T i).seen.length (intRow (T i).seen) e1 hown' ⟨w0.heap.size, 0, none⟩ 1 1 [.int .i64 x] e2 (by rfl) hnews (by simp [Value.oneCell']) (by decide) (by simp [maxLen]; omega) (by omega) (by omega) (fun g _ => ap0 g) (fun g cap w3 hown hg hat hlt => ?_)
    exact hr' _ _ ⟨_, w3, ⟨g, cap, rfl, hown, hg, hat, hlt⟩, rfl, w3.drawn, rfl⟩
  rintro v w2 ⟨g, cap, rfl, hA⟩ rest hr'
  have hb2 : w2.heap[tb]? = w0.heap[tb]? := hfar tb w2 (by omega) (fun g hg => (hnM g hg).2.2) hA.grown
  have h12 : w2.cell? ⟨tb, i * 7 + 6, none⟩ = some (T i).sv := (World.cell?_of_block (a := ⟨tb, i * 7 + 6, none⟩) hb2).trans c2
  have z12 : w2.frozen? ⟨tb, i * 7 + 6, none⟩ = false := by
    obtain ⟨_, arr, h1, _⟩ := I0.ts (by omega)
    exact frozen_of (hb2.trans h1) _
  have hgs := hA.grown.size
  have hlen : ((T i).seen ++ [x]).length = (T i).seen.length + 1 := by simp
  have hgo : ∀ b, ({ T i with sv := .slice (some ⟨g, 0, none⟩) ((T i).seen.length + 1) cap, seen := (T i).seen ++ [x] } : R5).own b → (T i).own b ∨ w0.heap.size ≤ b := fun b hb => by
    rcases hb with hb | hb
    · exact .inl (.inl hb)
    · simp only [Value.ownBlock, Option.some.injEq] at hb
      subst hb
      rcases hA.hat with h | h
      · exact .inl (.inr h)
      · exact .inr (by omega)
  have I3 : M5 a0 M cg cc tb tc n m ta C (upd T i { T i with sv := .slice (some ⟨g, 0, none⟩) ((T i).seen.length + 1) cap, seen := (T i).seen ++ [x] }) (w2.setCell ⟨tb, i * 7 + 6, none⟩ (.slice (some ⟨g, 0, none⟩) ((T i).seen.length + 1) cap)) := by
    refine I0.put' hi rfl (by decide) w2 (fun b hb hn => hfar b w2 hb (fun g hg e => hn (.inr (by rw [← e]; exact hg))) hA.grown) ⟨?_, ?_, ?_, fun b hb => ?_⟩ hgo
    · exact R0.rO.same fun b hb hw => hfar b w2 hw (fun g hg e => by have := (R0.rS.lt g hg).1; omega) hA.grown
    · exact row_same R0.rA fun b hb => hfar b w2 (R0.rA.lt b hb).2 (fun g hg e => R0.ne b hb (by rw [← e]; exact hg)) hA.grown
    · show w2.ownsRow a0 _ 1 _ ((T i).seen ++ [x]).length (intRow ((T i).seen ++ [x]))
      rw [hlen, intRow_snoc]
      exact hA.own
    · have hlt := (R0.rA.lt b hb).2
      rcases hA.hat with h | h
      · exact fun e => R0.ne b hb (by rw [h]; exact e)
      · exact fun e => by
          simp only [Value.ownBlock, Option.some.injEq] at e
          omega
  have hC3 : Got M cg tb n T (upd T i { T i with sv := .slice (some ⟨g, 0, none⟩) ((T i).seen.length + 1) cap, seen := (T i).seen ++ [x] }) w0 (w2.setCell ⟨tb, i * 7 + 6, none⟩ (.slice (some ⟨g, 0, none⟩) ((T i).seen.length + 1) cap)) := by
    refine ⟨⟨by rw [size_set]; omega, fun y hy hn => ?_⟩, fun b hb => m5S_upd hi hgo b hb⟩
    rw [heap_set_other _ _ _ _ (fun e => hn (.inr (.inr (.inl e)))), hfar y w2 (by omega) (fun g hg e => hn (.inr (.inr (.inr ⟨i, hi, .inr (by rw [← e]; exact hg)⟩)))) hA.grown]
  (have hfr := fr0 tb (i * 7 + 6); refine Walk.os hfr h12 ?_; clear hfr; try walk_nrm)
  refine hr' _ _ ?_
  generalize w2.setCell ⟨tb, i * 7 + 6, none⟩ (.slice (some ⟨g, 0, none⟩) ((T i).seen.length + 1) cap) = w3 at *
  generalize hav : Value.slice (some ⟨g, 0, none⟩) ((T i).seen.length + 1) cap = sv at *
  clear hA hgo h12 z12 hb2 hfar hown' hnews hnM hO1 c1 c2 c3 c4 R0 I0 hc1 hc2
  have c1 : w3.cell? ⟨M, 1, none⟩ = some (.slice (some ⟨tb, 0, none⟩) n tc) := I3.cT (by omega)
  have c3 : w3.cell? ⟨tb, i * 7 + 5, none⟩ = some (.int .i64 (T i).sum) := I3.tcell hi (by rw [upd_same]; rfl)
  have c2 : w3.cell? ⟨M, 0, none⟩ = some (.slice (some ⟨cg, 0, none⟩) m cc) := I3.cC
  have c4 := I3.ccell hk
  rw [hx] at c4
  have z3 := I3.tfrz hi (i * 7 + 5)
  have I4 := I3.put hi (j := 5) (v := .int .i64 (IntKind.i64.wrap ((T i).sum + x))) (t := { T i with sv := sv, seen := (T i).seen ++ [x], sum := IntKind.i64.wrap ((T i).sum + x) }) (by rw [upd_same]; rfl) (by decide) (by rw [upd_same]; exact ⟨rfl, rfl, rfl, rfl, rfl, rfl⟩)
  rw [upd_twice] at I4
  try walk_nrm
  repeat (first | refine Walk.cx ?_ | (refine Walk.cReg ?_; simp only [z49]) | (refine Walk.oq ?_; try walk_nrm) | (refine Walk.un ?_; walk_nrm))
  (refine Walk.drawnL (by kernel_rfl) size49_26 (by kernel_rfl) (by kernel_rfl) (by kernel_rfl) (by decide) ?_; simp only [List.range, List.range.loop]; repeat (first | (refine Cm.oq ?_) | (refine Cm.unw (ho_of (by conv => lhs; whnf) (by kernel_rfl)) (by rfl) ?_; walk_nrm)))
  refine Cm.done ?_
  intro rest hr
  (have hfr := fr0 tb (i * 7 + 5); refine Walk.os hfr c3 ?_; clear hfr; try walk_nrm)
  refine hr _ _ ?_
  have s4 := size_set w3 ⟨tb, i * 7 + 5, none⟩ (.int .i64 (IntKind.i64.wrap ((T i).sum + x)))
  have o4 : ∀ y, y ≠ tb → (w3.setCell ⟨tb, i * 7 + 5, none⟩ (.int .i64 (IntKind.i64.wrap ((T i).sum + x)))).heap[y]? = w3.heap[y]? := fun y hy => heap_set_other _ _ _ _ hy
  generalize hz : IntKind.i64.wrap ((T i).sum + x) = z at *
  generalize w3.setCell ⟨tb, i * 7 + 5, none⟩ (.int .i64 z) = w4 at *
  try walk_nrm
  repeat (first | refine Walk.cx ?_ | (refine Walk.cReg ?_; simp only [z49]) | (refine Walk.oq ?_; try walk_nrm) | (refine Walk.un ?_; walk_nrm))
  refine Walk.on0 rfl rfl Try.func49 rfl (.stop fun d => ⟨rfl, sv, I4.same fun _ _ => rfl, ⟨⟨?_, fun y hy hn => ?_⟩, fun b hb => ?_⟩⟩)
  · show w0.heap.size ≤ w4.heap.size
    have := hC3.chg.size
    omega
  · show w4.heap[y]? = w0.heap[y]?
    exact (o4 y fun e => hn (.inr (.inr (.inl e)))).trans (hC3.chg.same y hy hn)
  · refine hC3.own b ?_
    rcases hb with hb | hb | hb | ⟨q, hq, hb⟩
    · exact .inl hb
    · exact .inr (.inl hb)
    · exact .inr (.inr (.inl hb))
    · refine .inr (.inr (.inr ⟨q, hq, ?_⟩))
      by_cases e : q = i
      · subst e
        rw [upd_same] at hb ⊢
        exact hb
      · rw [upd_ne _ _ e] at hb ⊢
        exact hb
end
end
end Go.Proofs.Ytnnakajldnaldaa
