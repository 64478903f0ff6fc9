/- Part 15. -/
import Derived.Test.YtcdcnmphjhfbpaaJ14
set_option linter.unusedSimpArgs false
set_option linter.unusedVariables false
set_option linter.unusedVariables false
set_option maxHeartbeats 8000000
set_option maxRecDepth 100000
namespace Go.Proofs.Ytcdcnmphjhfbpaa
open Go.Conc Go.RowKit Go.Relay
open Go.ConcN (upd upd_ne upd_same)
section
section
variable {a0 M tb tc n m : Nat} {cb : CB} {ta : Option Addr} {S : Rg} {T : Nat -> R11}
theorem bg_4y {main : Bool} {i : Nat} (hi : i < n) (oa ob oc : Int) (hm0 : 0 < m) (hgo : good oa) (hb : ¬ ob < oa) (w : World) (I : M11 a0 M cb tb tc n m ta S T w) (hn : n <= 64) (hm : m <= 65536) (ha0 : a0 <= w.heap.size) :
  CallW Try.prog main (fun _ => none) 148 #[.pointer (some ⟨M, 0, none⟩), .int .i64 i, .agg #[.int .i64 4, .int .i64 oa, .int .i64 ob, .int .i64 oc]] w (fun v w' => v = .tuple #[] /\ M11 a0 M cb tb tc n m ta S (upd T i ((T i).first oa)) w' /\ Got M cb m tb n T (upd T i ((T i).first oa)) w w') := by
 have m1 : ((m : Int) == 0) = false := by simp; omega
 have m2 : ¬ m = 0 := by omega
 have hgd := Cz (main := main) (V := fun _ => none) oa hgo
 have k2 : decide (ob < oa) = false := decide_eq_false hb
 intro kf cs
 have hi0 : (0 : Int) <= i := by omega
 have hi1 : decide ((i : Int) < n) = true := by simp; omega
 have hi3 : decide (i < n) = true := by simp; omega
 have hi4 : (i : Int) < n := by omega
 have ll3 := I.lt.2.2 (by omega)
 rw [enter_at _ Try.func148 code148_is]
 simp only [Try.ntmps148, ez, Nat.reduceAdd, Nat.reduceSub]
 refine Aa z148 ?_
 (refine Walk.oa ?_; try walk_nrm)
 have s0 : (w.alloc (.cells #[.int .i64 4, .int .i64 oa, .int .i64 ob, .int .i64 oc] 49)).heap.size = w.heap.size + 1 := by simp
 have o0 : ∀ x, x < w.heap.size -> (w.alloc (.cells #[.int .i64 4, .int .i64 oa, .int .i64 ob, .int .i64 oc] 49)).heap[x]? = w.heap[x]? := fun x hx => Ad _ _ hx
 have d0 := heap_alloc_new w (.cells #[.int .i64 4, .int .i64 oa, .int .i64 ob, .int .i64 oc] 49)
 have I0 := I.same o0
 generalize hT : w.heap.size = Zs at *
 generalize hw0 : (w.alloc (.cells #[.int .i64 4, .int .i64 oa, .int .i64 ob, .int .i64 oc] 49)) = w0 at *
 have b0 := (Ac d0 0).trans rfl
 have b1 := (Ac d0 1).trans rfl
 have b2 := (Ac d0 2).trans rfl
 have c1 : w0.cell? ⟨M, 3, none⟩ = some (.slice (some ⟨tb, 0, none⟩) n tc) := I0.cT (by omega)
 have c3 : w0.cell? ⟨tb, i * 9 + 5, none⟩ = some (.int .i64 (T i).q) := I0.tcell hi (rfl)
 have z3 := I0.tfrz hi (i * 9 + 5)
 have I1 := I0.put hi (j := 5) (v := .int .i64 oa) (t := { T i with q := oa }) rfl (by decide) ⟨rfl, rfl, rfl, rfl, rfl, rfl, rfl, rfl⟩
 refine Aa z148 ?_
 (refine Ay (by kernel_rfl) size148_1 (by kernel_rfl) (by kernel_rfl) (by kernel_rfl) (by decide) ?_; simp only [List.range, List.range.loop]; repeat (first | (refine Cm.oq ?_) | (refine Al Aj (by rfl) ?_; walk_nrm)))
 refine Cm.done ?_
 intro rest hr
 (have hfr := Dq tb (i * 9 + 5); refine Walk.os hfr c3 ?_; clear hfr; try walk_nrm)
 refine hr _ _ ?_
 have s1 := Af w0 ⟨tb, i * 9 + 5, none⟩ (.int .i64 oa)
 have o1 : ∀ x, x ≠ tb -> (w0.setCell ⟨tb, i * 9 + 5, none⟩ (.int .i64 oa)).heap[x]? = w0.heap[x]? := fun x hx => Ab _ _ _ _ hx
 have d1 := (o1 Zs (by omega)).trans d0
 generalize w0.setCell ⟨tb, i * 9 + 5, none⟩ (.int .i64 oa) = w1 at *
 clear c1 c3 z3 b0 b1 b2
 have c1 : w1.cell? ⟨M, 3, none⟩ = some (.slice (some ⟨tb, 0, none⟩) n tc) := I1.cT (by omega)
 have c3 : w1.cell? ⟨tb, i * 9 + 8, none⟩ = some ((T i).sv) := I1.tcell hi (by rw [upd_same]; rfl)
 have z3 := I1.tfrz hi (i * 9 + 8)
 have R1 := I1.rows i hi
 have I2 := I1.put' hi (j := 8) (v := .slice none 0 0) (t := (T i).clr oa) (by rw [upd_same]; rfl) (by decide) w1 (fun _ _ _ => rfl) (by
  rw [upd_same] at R1
  exact ⟨R1.rO, R1.rA, fun _ => ⟨rfl, .inl ⟨rfl, rfl⟩⟩, fun _ b hb => (by cases hb), R1.lo⟩) (fun b hb => .inl (by
  rw [upd_same]
  rcases hb with hb | ⟨_, hb⟩
  ·exact .inl hb
  ·cases hb))
 rw [Ag] at I2
 try walk_nrm
 refine Aa z148 ?_
 (have hfr := Dq tb (i * 9 + 8); refine Walk.os hfr c3 ?_; clear hfr; try walk_nrm)
 have s2 := Af w1 ⟨tb, i * 9 + 8, none⟩ (.slice none 0 0)
 have o2 : ∀ x, x ≠ tb -> (w1.setCell ⟨tb, i * 9 + 8, none⟩ (.slice none 0 0)).heap[x]? = w1.heap[x]? := fun x hx => Ab _ _ _ _ hx
 have d2 := (o2 Zs (by omega)).trans d1
 generalize w1.setCell ⟨tb, i * 9 + 8, none⟩ (.slice none 0 0) = w2 at *
 clear c1 c3 z3 R1
 have b0 := (Ac d2 0).trans rfl
 have b1 := (Ac d2 1).trans rfl
 have b2 := (Ac d2 2).trans rfl
 have c0 : w2.cell? ⟨M, 0, none⟩ = some (.int .i64 m) := I2.cZ
 have g2 : Got M cb m tb n T (upd T i ((T i).clr oa)) w w2 := ⟨⟨by omega, fun x hx hn => by
  have hx' : x ≠ tb := fun e => hn (.inr (.inr (.inl e)))
  exact (o2 x hx').trans ((o1 x hx').trans (o0 x (by omega)))⟩, fun b hb => Au hi (fun b hb => .inl (by
  rcases hb with hb | ⟨_, hb⟩
  ·exact .inl hb
  ·cases hb)) b hb⟩
 have hz2 : Zs <= w2.heap.size := by omega
 clear o0 o1 o2 d0 d1 d2 s0 s1 s2 hw0 hT I0 I1 I
 try walk_nrm
 refine Aa z148 ?_
 refine Walk.callV (x := .bool true) (W := w2) ?_ Aj (by rfl) (by decide) rfl Try.func22 (by kernel_rfl) (by rfl) ?_
 ·walk_nrm
  exact hgd w2
 walk_nrm
 refine Aa z148 ?_
 have c1 : w2.cell? ⟨M, 3, none⟩ = some (.slice (some ⟨tb, 0, none⟩) n tc) := I2.cT (by omega)
 have c3 : w2.cell? ⟨tb, i * 9 + 4, none⟩ = some (.int .i64 (T i).pc) := I2.tcell hi (by rw [upd_same]; rfl)
 have z3 := I2.tfrz hi (i * 9 + 4)
 have I3 := I2.put hi (j := 4) (v := .int .i64 1) (t := (T i).first oa) (by rw [upd_same]; rfl) (by decide) (by rw [upd_same]; exact ⟨rfl, rfl, rfl, rfl, rfl, rfl, rfl, rfl⟩)
 rw [Ag] at I3
 try walk_nrm
 refine Aa z148 ?_
 (have hfr := Dq tb (i * 9 + 4); refine Walk.os hfr c3 ?_; clear hfr; try walk_nrm)
 have s3 := Af w2 ⟨tb, i * 9 + 4, none⟩ (.int .i64 1)
 have o3 : ∀ x, x ≠ tb -> (w2.setCell ⟨tb, i * 9 + 4, none⟩ (.int .i64 1)).heap[x]? = w2.heap[x]? := fun x hx => Ab _ _ _ _ hx
 generalize w2.setCell ⟨tb, i * 9 + 4, none⟩ (.int .i64 1) = w3 at *
 clear c1 c3 z3
 have g3 : Got M cb m tb n (upd T i ((T i).clr oa)) (upd T i ((T i).first oa)) w2 w3 := ⟨⟨by omega, fun x hx hn => o3 x fun e => hn (.inr (.inr (.inl e)))⟩, fun b hb => by
  have := Au (M := M) (cb := cb) (m := m) (tb := tb) (T := upd T i ((T i).clr oa)) (t := (T i).first oa) (s := w2.heap.size) hi (fun b hb => .inl (by rw [upd_same]; exact hb)) b
  rw [Ag] at this
  exact this hb⟩
 try walk_nrm
 refine Aa z148 ?_
 exact Ar rfl rfl Try.func148 rfl (.stop fun d => ⟨_, ⟨rfl, I3.same fun _ _ => rfl, ⟨(g2.trans g3).chg.at d, (g2.trans g3).own⟩⟩, rfl⟩)
theorem bg_3n {main : Bool} {i : Nat} (hi : i < n) (oa ob oc : Int) (hm0 : 0 < m) (hgo : ¬ good oa) (w : World) (I : M11 a0 M cb tb tc n m ta S T w) (hn : n <= 64) (hm : m <= 65536) (ha0 : a0 <= w.heap.size) (hl : (T i).ans.length <= 65536) (hat : (T i).at' <= 65536) :
  CallW Try.prog main (fun _ => none) 148 #[.pointer (some ⟨M, 0, none⟩), .int .i64 i, .agg #[.int .i64 3, .int .i64 oa, .int .i64 ob, .int .i64 oc]] w (fun v w' => v = .tuple #[] /\ ∃ av oA, M11 a0 M cb tb tc n m ta S (upd T i (((T i).clr oa).told ⟨false, 0, []⟩ av oA)) w' /\ Got M cb m tb n T (upd T i (((T i).clr oa).told ⟨false, 0, []⟩ av oA)) w w') := by
 have m1 : ((m : Int) == 0) = false := by simp; omega
 have m2 : ¬ m = 0 := by omega
 have hgd := Ey (main := main) (V := fun _ => none) oa hgo
 intro kf cs
 have hi0 : (0 : Int) <= i := by omega
 have hi1 : decide ((i : Int) < n) = true := by simp; omega
 have hi3 : decide (i < n) = true := by simp; omega
 have hi4 : (i : Int) < n := by omega
 have ll3 := I.lt.2.2 (by omega)
 rw [enter_at _ Try.func148 code148_is]
 simp only [Try.ntmps148, ez, Nat.reduceAdd, Nat.reduceSub]
 refine Aa z148 ?_
 (refine Walk.oa ?_; try walk_nrm)
 have s0 : (w.alloc (.cells #[.int .i64 3, .int .i64 oa, .int .i64 ob, .int .i64 oc] 49)).heap.size = w.heap.size + 1 := by simp
 have o0 : ∀ x, x < w.heap.size -> (w.alloc (.cells #[.int .i64 3, .int .i64 oa, .int .i64 ob, .int .i64 oc] 49)).heap[x]? = w.heap[x]? := fun x hx => Ad _ _ hx
 have d0 := heap_alloc_new w (.cells #[.int .i64 3, .int .i64 oa, .int .i64 ob, .int .i64 oc] 49)
 have I0 := I.same o0
 generalize hT : w.heap.size = Zs at *
 generalize hw0 : (w.alloc (.cells #[.int .i64 3, .int .i64 oa, .int .i64 ob, .int .i64 oc] 49)) = w0 at *
 have b0 := (Ac d0 0).trans rfl
 have b1 := (Ac d0 1).trans rfl
 have b2 := (Ac d0 2).trans rfl
 have c1 : w0.cell? ⟨M, 3, none⟩ = some (.slice (some ⟨tb, 0, none⟩) n tc) := I0.cT (by omega)
 have c3 : w0.cell? ⟨tb, i * 9 + 5, none⟩ = some (.int .i64 (T i).q) := I0.tcell hi (rfl)
 have z3 := I0.tfrz hi (i * 9 + 5)
 have I1 := I0.put hi (j := 5) (v := .int .i64 oa) (t := { T i with q := oa }) rfl (by decide) ⟨rfl, rfl, rfl, rfl, rfl, rfl, rfl, rfl⟩
 refine Aa z148 ?_
 (refine Ay (by kernel_rfl) size148_1 (by kernel_rfl) (by kernel_rfl) (by kernel_rfl) (by decide) ?_; simp only [List.range, List.range.loop]; repeat (first | (refine Cm.oq ?_) | (refine Al Aj (by rfl) ?_; walk_nrm)))
 refine Cm.done ?_
 intro rest hr
 (have hfr := Dq tb (i * 9 + 5); refine Walk.os hfr c3 ?_; clear hfr; try walk_nrm)
 refine hr _ _ ?_
 have s1 := Af w0 ⟨tb, i * 9 + 5, none⟩ (.int .i64 oa)
 have o1 : ∀ x, x ≠ tb -> (w0.setCell ⟨tb, i * 9 + 5, none⟩ (.int .i64 oa)).heap[x]? = w0.heap[x]? := fun x hx => Ab _ _ _ _ hx
 have d1 := (o1 Zs (by omega)).trans d0
 generalize w0.setCell ⟨tb, i * 9 + 5, none⟩ (.int .i64 oa) = w1 at *
 clear c1 c3 z3 b0 b1 b2
 have c1 : w1.cell? ⟨M, 3, none⟩ = some (.slice (some ⟨tb, 0, none⟩) n tc) := I1.cT (by omega)
 have c3 : w1.cell? ⟨tb, i * 9 + 8, none⟩ = some ((T i).sv) := I1.tcell hi (by rw [upd_same]; rfl)
 have z3 := I1.tfrz hi (i * 9 + 8)
 have R1 := I1.rows i hi
 have I2 := I1.put' hi (j := 8) (v := .slice none 0 0) (t := (T i).clr oa) (by rw [upd_same]; rfl) (by decide) w1 (fun _ _ _ => rfl) (by
  rw [upd_same] at R1
  exact ⟨R1.rO, R1.rA, fun _ => ⟨rfl, .inl ⟨rfl, rfl⟩⟩, fun _ b hb => (by cases hb), R1.lo⟩) (fun b hb => .inl (by
  rw [upd_same]
  rcases hb with hb | ⟨_, hb⟩
  ·exact .inl hb
  ·cases hb))
 rw [Ag] at I2
 try walk_nrm
 refine Aa z148 ?_
 (have hfr := Dq tb (i * 9 + 8); refine Walk.os hfr c3 ?_; clear hfr; try walk_nrm)
 have s2 := Af w1 ⟨tb, i * 9 + 8, none⟩ (.slice none 0 0)
 have o2 : ∀ x, x ≠ tb -> (w1.setCell ⟨tb, i * 9 + 8, none⟩ (.slice none 0 0)).heap[x]? = w1.heap[x]? := fun x hx => Ab _ _ _ _ hx
 have d2 := (o2 Zs (by omega)).trans d1
 generalize w1.setCell ⟨tb, i * 9 + 8, none⟩ (.slice none 0 0) = w2 at *
 clear c1 c3 z3 R1
 have b0 := (Ac d2 0).trans rfl
 have b1 := (Ac d2 1).trans rfl
 have b2 := (Ac d2 2).trans rfl
 have c0 : w2.cell? ⟨M, 0, none⟩ = some (.int .i64 m) := I2.cZ
 have g2 : Got M cb m tb n T (upd T i ((T i).clr oa)) w w2 := ⟨⟨by omega, fun x hx hn => by
  have hx' : x ≠ tb := fun e => hn (.inr (.inr (.inl e)))
  exact (o2 x hx').trans ((o1 x hx').trans (o0 x (by omega)))⟩, fun b hb => Au hi (fun b hb => .inl (by
  rcases hb with hb | ⟨_, hb⟩
  ·exact .inl hb
  ·cases hb)) b hb⟩
 have hz2 : Zs <= w2.heap.size := by omega
 clear o0 o1 o2 d0 d1 d2 s0 s1 s2 hw0 hT I0 I1 I
 try walk_nrm
 refine Aa z148 ?_
 refine Walk.callV (x := .bool false) (W := w2) ?_ Aj (by rfl) (by decide) rfl Try.func22 (by kernel_rfl) (by rfl) ?_
 ·walk_nrm
  exact hgd w2
 walk_nrm
 refine Aa z148 ?_
 have he := Dk (main := main) hi ⟨false, 0, []⟩ (.slice none 0 0) w2 (LsAt.nil _ _ _) I2 hn (by omega) (by rw [upd_same]; exact hl) (by rw [upd_same]; exact hat)
 simp only [upd_same, Ag] at he
 simp only [Cu] at he
 try walk_nrm
 refine Aa z148 ?_
 refine Ah (Post := fun v w' => v = .tuple #[] /\ ∃ av oA, M11 a0 M cb tb tc n m ta S (upd T i (((T i).clr oa).told ⟨false, 0, []⟩ av oA)) w' /\ Got M cb m tb n (upd T i ((T i).clr oa)) (upd T i (((T i).clr oa).told ⟨false, 0, []⟩ av oA)) w2 w') ?_ Aj (by rfl) (by decide) rfl Try.func149 (by kernel_rfl) (by rfl) ?_
 ·walk_nrm
  exact he
 rintro v w4 ⟨rfl, av, oA, I4, g4⟩
 walk_nrm
 refine Aa z148 ?_
 exact Ar rfl rfl Try.func148 rfl (.stop fun d => ⟨_, ⟨rfl, av, oA, I4.same fun _ _ => rfl, ⟨(g2.trans g4).chg.at d, (g2.trans g4).own⟩⟩, rfl⟩)
theorem bg_n {main : Bool} {i : Nat} (hi : i < n) (k oa ob oc : Int) (hm0 : 0 < m) (hk1 : 1 <= k) (hk2 : k <= 5) (hk3 : k ≠ 3) (hk4 : k ≠ 4) (hgo : ¬ good oa) (w : World) (I : M11 a0 M cb tb tc n m ta S T w) (hn : n <= 64) (hm : m <= 65536) (ha0 : a0 <= w.heap.size) (hl : (T i).ans.length <= 65536) (hat : (T i).at' <= 65536) :
  CallW Try.prog main (fun _ => none) 148 #[.pointer (some ⟨M, 0, none⟩), .int .i64 i, .agg #[.int .i64 k, .int .i64 oa, .int .i64 ob, .int .i64 oc]] w (fun v w' => v = .tuple #[] /\ ∃ av oA, M11 a0 M cb tb tc n m ta S (upd T i (((T i).clr oa).told ⟨false, 1, []⟩ av oA)) w' /\ Got M cb m tb n T (upd T i (((T i).clr oa).told ⟨false, 1, []⟩ av oA)) w w') := by
 have m1 : ((m : Int) == 0) = false := by simp; omega
 have m2 : ¬ m = 0 := by omega
 have kk0 : decide (k < 1) = false := by simp; omega
 have kk1 : decide (5 < k) = false := by simp; omega
 have kf4 : (k == 4) = false := by simp; omega
 have kf3 : (k == 3) = false := by simp; omega
 have hgd := Ey (main := main) (V := fun _ => none) oa hgo
 intro kf cs
 have hi0 : (0 : Int) <= i := by omega
 have hi1 : decide ((i : Int) < n) = true := by simp; omega
 have hi3 : decide (i < n) = true := by simp; omega
 have hi4 : (i : Int) < n := by omega
 have ll3 := I.lt.2.2 (by omega)
 rw [enter_at _ Try.func148 code148_is]
 simp only [Try.ntmps148, ez, Nat.reduceAdd, Nat.reduceSub]
 refine Aa z148 ?_
 (refine Walk.oa ?_; try walk_nrm)
 have s0 : (w.alloc (.cells #[.int .i64 k, .int .i64 oa, .int .i64 ob, .int .i64 oc] 49)).heap.size = w.heap.size + 1 := by simp
 have o0 : ∀ x, x < w.heap.size -> (w.alloc (.cells #[.int .i64 k, .int .i64 oa, .int .i64 ob, .int .i64 oc] 49)).heap[x]? = w.heap[x]? := fun x hx => Ad _ _ hx
 have d0 := heap_alloc_new w (.cells #[.int .i64 k, .int .i64 oa, .int .i64 ob, .int .i64 oc] 49)
 have I0 := I.same o0
 generalize hT : w.heap.size = Zs at *
 generalize hw0 : (w.alloc (.cells #[.int .i64 k, .int .i64 oa, .int .i64 ob, .int .i64 oc] 49)) = w0 at *
 have b0 := (Ac d0 0).trans rfl
 have b1 := (Ac d0 1).trans rfl
 have b2 := (Ac d0 2).trans rfl
 have c1 : w0.cell? ⟨M, 3, none⟩ = some (.slice (some ⟨tb, 0, none⟩) n tc) := I0.cT (by omega)
 have c3 : w0.cell? ⟨tb, i * 9 + 5, none⟩ = some (.int .i64 (T i).q) := I0.tcell hi (rfl)
 have z3 := I0.tfrz hi (i * 9 + 5)
 have I1 := I0.put hi (j := 5) (v := .int .i64 oa) (t := { T i with q := oa }) rfl (by decide) ⟨rfl, rfl, rfl, rfl, rfl, rfl, rfl, rfl⟩
 refine Aa z148 ?_
 (refine Ay (by kernel_rfl) size148_1 (by kernel_rfl) (by kernel_rfl) (by kernel_rfl) (by decide) ?_; simp only [List.range, List.range.loop]; repeat (first | (refine Cm.oq ?_) | (refine Al Aj (by rfl) ?_; walk_nrm)))
 refine Cm.done ?_
 intro rest hr
 (have hfr := Dq tb (i * 9 + 5); refine Walk.os hfr c3 ?_; clear hfr; try walk_nrm)
 refine hr _ _ ?_
 have s1 := Af w0 ⟨tb, i * 9 + 5, none⟩ (.int .i64 oa)
 have o1 : ∀ x, x ≠ tb -> (w0.setCell ⟨tb, i * 9 + 5, none⟩ (.int .i64 oa)).heap[x]? = w0.heap[x]? := fun x hx => Ab _ _ _ _ hx
 have d1 := (o1 Zs (by omega)).trans d0
 generalize w0.setCell ⟨tb, i * 9 + 5, none⟩ (.int .i64 oa) = w1 at *
 clear c1 c3 z3 b0 b1 b2
 have c1 : w1.cell? ⟨M, 3, none⟩ = some (.slice (some ⟨tb, 0, none⟩) n tc) := I1.cT (by omega)
 have c3 : w1.cell? ⟨tb, i * 9 + 8, none⟩ = some ((T i).sv) := I1.tcell hi (by rw [upd_same]; rfl)
 have z3 := I1.tfrz hi (i * 9 + 8)
 have R1 := I1.rows i hi
 have I2 := I1.put' hi (j := 8) (v := .slice none 0 0) (t := (T i).clr oa) (by rw [upd_same]; rfl) (by decide) w1 (fun _ _ _ => rfl) (by
  rw [upd_same] at R1
  exact ⟨R1.rO, R1.rA, fun _ => ⟨rfl, .inl ⟨rfl, rfl⟩⟩, fun _ b hb => (by cases hb), R1.lo⟩) (fun b hb => .inl (by
  rw [upd_same]
  rcases hb with hb | ⟨_, hb⟩
  ·exact .inl hb
  ·cases hb))
 rw [Ag] at I2
 try walk_nrm
 refine Aa z148 ?_
 (have hfr := Dq tb (i * 9 + 8); refine Walk.os hfr c3 ?_; clear hfr; try walk_nrm)
 have s2 := Af w1 ⟨tb, i * 9 + 8, none⟩ (.slice none 0 0)
 have o2 : ∀ x, x ≠ tb -> (w1.setCell ⟨tb, i * 9 + 8, none⟩ (.slice none 0 0)).heap[x]? = w1.heap[x]? := fun x hx => Ab _ _ _ _ hx
 have d2 := (o2 Zs (by omega)).trans d1
 generalize w1.setCell ⟨tb, i * 9 + 8, none⟩ (.slice none 0 0) = w2 at *
 clear c1 c3 z3 R1
 have b0 := (Ac d2 0).trans rfl
 have b1 := (Ac d2 1).trans rfl
 have b2 := (Ac d2 2).trans rfl
 have c0 : w2.cell? ⟨M, 0, none⟩ = some (.int .i64 m) := I2.cZ
 have g2 : Got M cb m tb n T (upd T i ((T i).clr oa)) w w2 := ⟨⟨by omega, fun x hx hn => by
  have hx' : x ≠ tb := fun e => hn (.inr (.inr (.inl e)))
  exact (o2 x hx').trans ((o1 x hx').trans (o0 x (by omega)))⟩, fun b hb => Au hi (fun b hb => .inl (by
  rcases hb with hb | ⟨_, hb⟩
  ·exact .inl hb
  ·cases hb)) b hb⟩
 have hz2 : Zs <= w2.heap.size := by omega
 clear o0 o1 o2 d0 d1 d2 s0 s1 s2 hw0 hT I0 I1 I
 try walk_nrm
 refine Aa z148 ?_
 refine Walk.callV (x := .bool false) (W := w2) ?_ Aj (by rfl) (by decide) rfl Try.func22 (by kernel_rfl) (by rfl) ?_
 ·walk_nrm
  exact hgd w2
 walk_nrm
 refine Aa z148 ?_
 refine Walk.callV (x := .bool false) (W := w2) ?_ Aj (by rfl) (by decide) rfl Try.func22 (by kernel_rfl) (by rfl) ?_
 ·walk_nrm
  exact hgd w2
 walk_nrm
 refine Aa z148 ?_
 have he := Dk (main := main) hi ⟨false, 1, []⟩ (.slice none 0 0) w2 (LsAt.nil _ _ _) I2 hn (by omega) (by rw [upd_same]; exact hl) (by rw [upd_same]; exact hat)
 simp only [upd_same, Ag] at he
 simp only [Cu] at he
 try walk_nrm
 refine Aa z148 ?_
 refine Ah (Post := fun v w' => v = .tuple #[] /\ ∃ av oA, M11 a0 M cb tb tc n m ta S (upd T i (((T i).clr oa).told ⟨false, 1, []⟩ av oA)) w' /\ Got M cb m tb n (upd T i ((T i).clr oa)) (upd T i (((T i).clr oa).told ⟨false, 1, []⟩ av oA)) w2 w') ?_ Aj (by rfl) (by decide) rfl Try.func149 (by kernel_rfl) (by rfl) ?_
 ·walk_nrm
  exact he
 rintro v w4 ⟨rfl, av, oA, I4, g4⟩
 walk_nrm
 refine Aa z148 ?_
 exact Ar rfl rfl Try.func148 rfl (.stop fun d => ⟨_, ⟨rfl, av, oA, I4.same fun _ _ => rfl, ⟨(g2.trans g4).chg.at d, (g2.trans g4).own⟩⟩, rfl⟩)
theorem bg_5n {main : Bool} {i : Nat} (hi : i < n) (oa ob oc : Int) (hm0 : 0 < m) (hgo : good oa) (hb : ob < 1) (w : World) (I : M11 a0 M cb tb tc n m ta S T w) (hn : n <= 64) (hm : m <= 65536) (ha0 : a0 <= w.heap.size) (hl : (T i).ans.length <= 65536) (hat : (T i).at' <= 65536) :
  CallW Try.prog main (fun _ => none) 148 #[.pointer (some ⟨M, 0, none⟩), .int .i64 i, .agg #[.int .i64 5, .int .i64 oa, .int .i64 ob, .int .i64 oc]] w (fun v w' => v = .tuple #[] /\ ∃ av oA, M11 a0 M cb tb tc n m ta S (upd T i (((T i).clr oa).told ⟨true, 0, []⟩ av oA)) w' /\ Got M cb m tb n T (upd T i (((T i).clr oa).told ⟨true, 0, []⟩ av oA)) w w') := by
 have m1 : ((m : Int) == 0) = false := by simp; omega
 have m2 : ¬ m = 0 := by omega
 have hgd := Cz (main := main) (V := fun _ => none) oa hgo
 have k2 : decide (ob < 1) = true := decide_eq_true hb
 intro kf cs
 have hi0 : (0 : Int) <= i := by omega
 have hi1 : decide ((i : Int) < n) = true := by simp; omega
 have hi3 : decide (i < n) = true := by simp; omega
 have hi4 : (i : Int) < n := by omega
 have ll3 := I.lt.2.2 (by omega)
 rw [enter_at _ Try.func148 code148_is]
 simp only [Try.ntmps148, ez, Nat.reduceAdd, Nat.reduceSub]
 refine Aa z148 ?_
 (refine Walk.oa ?_; try walk_nrm)
 have s0 : (w.alloc (.cells #[.int .i64 5, .int .i64 oa, .int .i64 ob, .int .i64 oc] 49)).heap.size = w.heap.size + 1 := by simp
 have o0 : ∀ x, x < w.heap.size -> (w.alloc (.cells #[.int .i64 5, .int .i64 oa, .int .i64 ob, .int .i64 oc] 49)).heap[x]? = w.heap[x]? := fun x hx => Ad _ _ hx
 have d0 := heap_alloc_new w (.cells #[.int .i64 5, .int .i64 oa, .int .i64 ob, .int .i64 oc] 49)
 have I0 := I.same o0
 generalize hT : w.heap.size = Zs at *
 generalize hw0 : (w.alloc (.cells #[.int .i64 5, .int .i64 oa, .int .i64 ob, .int .i64 oc] 49)) = w0 at *
 have b0 := (Ac d0 0).trans rfl
 have b1 := (Ac d0 1).trans rfl
 have b2 := (Ac d0 2).trans rfl
 have c1 : w0.cell? ⟨M, 3, none⟩ = some (.slice (some ⟨tb, 0, none⟩) n tc) := I0.cT (by omega)
 have c3 : w0.cell? ⟨tb, i * 9 + 5, none⟩ = some (.int .i64 (T i).q) := I0.tcell hi (rfl)
 have z3 := I0.tfrz hi (i * 9 + 5)
 have I1 := I0.put hi (j := 5) (v := .int .i64 oa) (t := { T i with q := oa }) rfl (by decide) ⟨rfl, rfl, rfl, rfl, rfl, rfl, rfl, rfl⟩
 refine Aa z148 ?_
 (refine Ay (by kernel_rfl) size148_1 (by kernel_rfl) (by kernel_rfl) (by kernel_rfl) (by decide) ?_; simp only [List.range, List.range.loop]; repeat (first | (refine Cm.oq ?_) | (refine Al Aj (by rfl) ?_; walk_nrm)))
 refine Cm.done ?_
 intro rest hr
 (have hfr := Dq tb (i * 9 + 5); refine Walk.os hfr c3 ?_; clear hfr; try walk_nrm)
 refine hr _ _ ?_
 have s1 := Af w0 ⟨tb, i * 9 + 5, none⟩ (.int .i64 oa)
 have o1 : ∀ x, x ≠ tb -> (w0.setCell ⟨tb, i * 9 + 5, none⟩ (.int .i64 oa)).heap[x]? = w0.heap[x]? := fun x hx => Ab _ _ _ _ hx
 have d1 := (o1 Zs (by omega)).trans d0
 generalize w0.setCell ⟨tb, i * 9 + 5, none⟩ (.int .i64 oa) = w1 at *
 clear c1 c3 z3 b0 b1 b2
 have c1 : w1.cell? ⟨M, 3, none⟩ = some (.slice (some ⟨tb, 0, none⟩) n tc) := I1.cT (by omega)
 have c3 : w1.cell? ⟨tb, i * 9 + 8, none⟩ = some ((T i).sv) := I1.tcell hi (by rw [upd_same]; rfl)
 have z3 := I1.tfrz hi (i * 9 + 8)
 have R1 := I1.rows i hi
 have I2 := I1.put' hi (j := 8) (v := .slice none 0 0) (t := (T i).clr oa) (by rw [upd_same]; rfl) (by decide) w1 (fun _ _ _ => rfl) (by
  rw [upd_same] at R1
  exact ⟨R1.rO, R1.rA, fun _ => ⟨rfl, .inl ⟨rfl, rfl⟩⟩, fun _ b hb => (by cases hb), R1.lo⟩) (fun b hb => .inl (by
  rw [upd_same]
  rcases hb with hb | ⟨_, hb⟩
  ·exact .inl hb
  ·cases hb))
 rw [Ag] at I2
 try walk_nrm
 refine Aa z148 ?_
 (have hfr := Dq tb (i * 9 + 8); refine Walk.os hfr c3 ?_; clear hfr; try walk_nrm)
 have s2 := Af w1 ⟨tb, i * 9 + 8, none⟩ (.slice none 0 0)
 have o2 : ∀ x, x ≠ tb -> (w1.setCell ⟨tb, i * 9 + 8, none⟩ (.slice none 0 0)).heap[x]? = w1.heap[x]? := fun x hx => Ab _ _ _ _ hx
 have d2 := (o2 Zs (by omega)).trans d1
 generalize w1.setCell ⟨tb, i * 9 + 8, none⟩ (.slice none 0 0) = w2 at *
 clear c1 c3 z3 R1
 have b0 := (Ac d2 0).trans rfl
 have b1 := (Ac d2 1).trans rfl
 have b2 := (Ac d2 2).trans rfl
 have c0 : w2.cell? ⟨M, 0, none⟩ = some (.int .i64 m) := I2.cZ
 have g2 : Got M cb m tb n T (upd T i ((T i).clr oa)) w w2 := ⟨⟨by omega, fun x hx hn => by
  have hx' : x ≠ tb := fun e => hn (.inr (.inr (.inl e)))
  exact (o2 x hx').trans ((o1 x hx').trans (o0 x (by omega)))⟩, fun b hb => Au hi (fun b hb => .inl (by
  rcases hb with hb | ⟨_, hb⟩
  ·exact .inl hb
  ·cases hb)) b hb⟩
 have hz2 : Zs <= w2.heap.size := by omega
 clear o0 o1 o2 d0 d1 d2 s0 s1 s2 hw0 hT I0 I1 I
 try walk_nrm
 refine Aa z148 ?_
 refine Walk.callV (x := .bool true) (W := w2) ?_ Aj (by rfl) (by decide) rfl Try.func22 (by kernel_rfl) (by rfl) ?_
 ·walk_nrm
  exact hgd w2
 walk_nrm
 refine Aa z148 ?_
 refine Walk.callV (x := .bool true) (W := w2) ?_ Aj (by rfl) (by decide) rfl Try.func22 (by kernel_rfl) (by rfl) ?_
 ·walk_nrm
  exact hgd w2
 walk_nrm
 refine Aa z148 ?_
 have he := Dk (main := main) hi ⟨true, 0, []⟩ (.slice none 0 0) w2 (LsAt.nil _ _ _) I2 hn (by omega) (by rw [upd_same]; exact hl) (by rw [upd_same]; exact hat)
 simp only [upd_same, Ag] at he
 simp only [Cu] at he
 try walk_nrm
 refine Aa z148 ?_
 refine Ah (Post := fun v w' => v = .tuple #[] /\ ∃ av oA, M11 a0 M cb tb tc n m ta S (upd T i (((T i).clr oa).told ⟨true, 0, []⟩ av oA)) w' /\ Got M cb m tb n (upd T i ((T i).clr oa)) (upd T i (((T i).clr oa).told ⟨true, 0, []⟩ av oA)) w2 w') ?_ Aj (by rfl) (by decide) rfl Try.func149 (by kernel_rfl) (by rfl) ?_
 ·walk_nrm
  exact he
 rintro v w4 ⟨rfl, av, oA, I4, g4⟩
 walk_nrm
 refine Aa z148 ?_
 exact Ar rfl rfl Try.func148 rfl (.stop fun d => ⟨_, ⟨rfl, av, oA, I4.same fun _ _ => rfl, ⟨(g2.trans g4).chg.at d, (g2.trans g4).own⟩⟩, rfl⟩)
theorem bg_5y {main : Bool} {i : Nat} (hi : i < n) (oa ob oc : Int) (hm0 : 0 < m) (hgo : good oa) (hb : ¬ ob < 1) (w : World) (I : M11 a0 M cb tb tc n m ta S T w) (hn : n <= 64) (hm : m <= 65536) (ha0 : a0 <= w.heap.size) :
  CallW Try.prog main (fun _ => none) 148 #[.pointer (some ⟨M, 0, none⟩), .int .i64 i, .agg #[.int .i64 5, .int .i64 oa, .int .i64 ob, .int .i64 oc]] w (fun v w' => v = .tuple #[] /\ M11 a0 M cb tb tc n m ta S (upd T i ((T i).first oa)) w' /\ Got M cb m tb n T (upd T i ((T i).first oa)) w w') := by
 have m1 : ((m : Int) == 0) = false := by simp; omega
 have m2 : ¬ m = 0 := by omega
 have hgd := Cz (main := main) (V := fun _ => none) oa hgo
 have k2 : decide (ob < 1) = false := decide_eq_false hb
 intro kf cs
 have hi0 : (0 : Int) <= i := by omega
 have hi1 : decide ((i : Int) < n) = true := by simp; omega
 have hi3 : decide (i < n) = true := by simp; omega
 have hi4 : (i : Int) < n := by omega
 have ll3 := I.lt.2.2 (by omega)
 rw [enter_at _ Try.func148 code148_is]
 simp only [Try.ntmps148, ez, Nat.reduceAdd, Nat.reduceSub]
 refine Aa z148 ?_
 (refine Walk.oa ?_; try walk_nrm)
 have s0 : (w.alloc (.cells #[.int .i64 5, .int .i64 oa, .int .i64 ob, .int .i64 oc] 49)).heap.size = w.heap.size + 1 := by simp
 have o0 : ∀ x, x < w.heap.size -> (w.alloc (.cells #[.int .i64 5, .int .i64 oa, .int .i64 ob, .int .i64 oc] 49)).heap[x]? = w.heap[x]? := fun x hx => Ad _ _ hx
 have d0 := heap_alloc_new w (.cells #[.int .i64 5, .int .i64 oa, .int .i64 ob, .int .i64 oc] 49)
 have I0 := I.same o0
 generalize hT : w.heap.size = Zs at *
 generalize hw0 : (w.alloc (.cells #[.int .i64 5, .int .i64 oa, .int .i64 ob, .int .i64 oc] 49)) = w0 at *
 have b0 := (Ac d0 0).trans rfl
 have b1 := (Ac d0 1).trans rfl
 have b2 := (Ac d0 2).trans rfl
 have c1 : w0.cell? ⟨M, 3, none⟩ = some (.slice (some ⟨tb, 0, none⟩) n tc) := I0.cT (by omega)
 have c3 : w0.cell? ⟨tb, i * 9 + 5, none⟩ = some (.int .i64 (T i).q) := I0.tcell hi (rfl)
 have z3 := I0.tfrz hi (i * 9 + 5)
 have I1 := I0.put hi (j := 5) (v := .int .i64 oa) (t := { T i with q := oa }) rfl (by decide) ⟨rfl, rfl, rfl, rfl, rfl, rfl, rfl, rfl⟩
 refine Aa z148 ?_
 (refine Ay (by kernel_rfl) size148_1 (by kernel_rfl) (by kernel_rfl) (by kernel_rfl) (by decide) ?_; simp only [List.range, List.range.loop]; repeat (first | (refine Cm.oq ?_) | (refine Al Aj (by rfl) ?_; walk_nrm)))
 refine Cm.done ?_
 intro rest hr
 (have hfr := Dq tb (i * 9 + 5); refine Walk.os hfr c3 ?_; clear hfr; try walk_nrm)
 refine hr _ _ ?_
 have s1 := Af w0 ⟨tb, i * 9 + 5, none⟩ (.int .i64 oa)
 have o1 : ∀ x, x ≠ tb -> (w0.setCell ⟨tb, i * 9 + 5, none⟩ (.int .i64 oa)).heap[x]? = w0.heap[x]? := fun x hx => Ab _ _ _ _ hx
 have d1 := (o1 Zs (by omega)).trans d0
 generalize w0.setCell ⟨tb, i * 9 + 5, none⟩ (.int .i64 oa) = w1 at *
 clear c1 c3 z3 b0 b1 b2
 have c1 : w1.cell? ⟨M, 3, none⟩ = some (.slice (some ⟨tb, 0, none⟩) n tc) := I1.cT (by omega)
 have c3 : w1.cell? ⟨tb, i * 9 + 8, none⟩ = some ((T i).sv) := I1.tcell hi (by rw [upd_same]; rfl)
 have z3 := I1.tfrz hi (i * 9 + 8)
 have R1 := I1.rows i hi
 have I2 := I1.put' hi (j := 8) (v := .slice none 0 0) (t := (T i).clr oa) (by rw [upd_same]; rfl) (by decide) w1 (fun _ _ _ => rfl) (by
  rw [upd_same] at R1
  exact ⟨R1.rO, R1.rA, fun _ => ⟨rfl, .inl ⟨rfl, rfl⟩⟩, fun _ b hb => (by cases hb), R1.lo⟩) (fun b hb => .inl (by
  rw [upd_same]
  rcases hb with hb | ⟨_, hb⟩
  ·exact .inl hb
  ·cases hb))
 rw [Ag] at I2
 try walk_nrm
 refine Aa z148 ?_
 (have hfr := Dq tb (i * 9 + 8); refine Walk.os hfr c3 ?_; clear hfr; try walk_nrm)
 have s2 := Af w1 ⟨tb, i * 9 + 8, none⟩ (.slice none 0 0)
 have o2 : ∀ x, x ≠ tb -> (w1.setCell ⟨tb, i * 9 + 8, none⟩ (.slice none 0 0)).heap[x]? = w1.heap[x]? := fun x hx => Ab _ _ _ _ hx
 have d2 := (o2 Zs (by omega)).trans d1
 generalize w1.setCell ⟨tb, i * 9 + 8, none⟩ (.slice none 0 0) = w2 at *
 clear c1 c3 z3 R1
 have b0 := (Ac d2 0).trans rfl
 have b1 := (Ac d2 1).trans rfl
 have b2 := (Ac d2 2).trans rfl
 have c0 : w2.cell? ⟨M, 0, none⟩ = some (.int .i64 m) := I2.cZ
 have g2 : Got M cb m tb n T (upd T i ((T i).clr oa)) w w2 := ⟨⟨by omega, fun x hx hn => by
  have hx' : x ≠ tb := fun e => hn (.inr (.inr (.inl e)))
  exact (o2 x hx').trans ((o1 x hx').trans (o0 x (by omega)))⟩, fun b hb => Au hi (fun b hb => .inl (by
  rcases hb with hb | ⟨_, hb⟩
  ·exact .inl hb
  ·cases hb)) b hb⟩
 have hz2 : Zs <= w2.heap.size := by omega
 clear o0 o1 o2 d0 d1 d2 s0 s1 s2 hw0 hT I0 I1 I
 try walk_nrm
 refine Aa z148 ?_
 refine Walk.callV (x := .bool true) (W := w2) ?_ Aj (by rfl) (by decide) rfl Try.func22 (by kernel_rfl) (by rfl) ?_
 ·walk_nrm
  exact hgd w2
 walk_nrm
 refine Aa z148 ?_
 refine Walk.callV (x := .bool true) (W := w2) ?_ Aj (by rfl) (by decide) rfl Try.func22 (by kernel_rfl) (by rfl) ?_
 ·walk_nrm
  exact hgd w2
 walk_nrm
 refine Aa z148 ?_
 have c1 : w2.cell? ⟨M, 3, none⟩ = some (.slice (some ⟨tb, 0, none⟩) n tc) := I2.cT (by omega)
 have c3 : w2.cell? ⟨tb, i * 9 + 4, none⟩ = some (.int .i64 (T i).pc) := I2.tcell hi (by rw [upd_same]; rfl)
 have z3 := I2.tfrz hi (i * 9 + 4)
 have I3 := I2.put hi (j := 4) (v := .int .i64 1) (t := (T i).first oa) (by rw [upd_same]; rfl) (by decide) (by rw [upd_same]; exact ⟨rfl, rfl, rfl, rfl, rfl, rfl, rfl, rfl⟩)
 rw [Ag] at I3
 try walk_nrm
 refine Aa z148 ?_
 (have hfr := Dq tb (i * 9 + 4); refine Walk.os hfr c3 ?_; clear hfr; try walk_nrm)
 have s3 := Af w2 ⟨tb, i * 9 + 4, none⟩ (.int .i64 1)
 have o3 : ∀ x, x ≠ tb -> (w2.setCell ⟨tb, i * 9 + 4, none⟩ (.int .i64 1)).heap[x]? = w2.heap[x]? := fun x hx => Ab _ _ _ _ hx
 generalize w2.setCell ⟨tb, i * 9 + 4, none⟩ (.int .i64 1) = w3 at *
 clear c1 c3 z3
 have g3 : Got M cb m tb n (upd T i ((T i).clr oa)) (upd T i ((T i).first oa)) w2 w3 := ⟨⟨by omega, fun x hx hn => o3 x fun e => hn (.inr (.inr (.inl e)))⟩, fun b hb => by
  have := Au (M := M) (cb := cb) (m := m) (tb := tb) (T := upd T i ((T i).clr oa)) (t := (T i).first oa) (s := w2.heap.size) hi (fun b hb => .inl (by rw [upd_same]; exact hb)) b
  rw [Ag] at this
  exact this hb⟩
 try walk_nrm
 refine Aa z148 ?_
 exact Ar rfl rfl Try.func148 rfl (.stop fun d => ⟨_, ⟨rfl, I3.same fun _ _ => rfl, ⟨(g2.trans g3).chg.at d, (g2.trans g3).own⟩⟩, rfl⟩)
theorem bg_y {main : Bool} {i : Nat} (hi : i < n) (k oa ob oc : Int) (hm0 : 0 < m) (hk1 : 1 <= k) (hk2 : k <= 3) (hgo : good oa) (w : World) (I : M11 a0 M cb tb tc n m ta S T w) (hn : n <= 64) (hm : m <= 65536) (ha0 : a0 <= w.heap.size) :
  CallW Try.prog main (fun _ => none) 148 #[.pointer (some ⟨M, 0, none⟩), .int .i64 i, .agg #[.int .i64 k, .int .i64 oa, .int .i64 ob, .int .i64 oc]] w (fun v w' => v = .tuple #[] /\ M11 a0 M cb tb tc n m ta S (upd T i ((T i).first oa)) w' /\ Got M cb m tb n T (upd T i ((T i).first oa)) w w') := by
 have m1 : ((m : Int) == 0) = false := by simp; omega
 have m2 : ¬ m = 0 := by omega
 have kk0 : decide (k < 1) = false := by simp; omega
 have kk1 : decide (5 < k) = false := by simp; omega
 have kf4 : (k == 4) = false := by simp; omega
 have kf5 : (k == 5) = false := by simp; omega
 have hgd := Cz (main := main) (V := fun _ => none) oa hgo
 intro kf cs
 have hi0 : (0 : Int) <= i := by omega
 have hi1 : decide ((i : Int) < n) = true := by simp; omega
 have hi3 : decide (i < n) = true := by simp; omega
 have hi4 : (i : Int) < n := by omega
 have ll3 := I.lt.2.2 (by omega)
 rw [enter_at _ Try.func148 code148_is]
 simp only [Try.ntmps148, ez, Nat.reduceAdd, Nat.reduceSub]
 refine Aa z148 ?_
 (refine Walk.oa ?_; try walk_nrm)
 have s0 : (w.alloc (.cells #[.int .i64 k, .int .i64 oa, .int .i64 ob, .int .i64 oc] 49)).heap.size = w.heap.size + 1 := by simp
 have o0 : ∀ x, x < w.heap.size -> (w.alloc (.cells #[.int .i64 k, .int .i64 oa, .int .i64 ob, .int .i64 oc] 49)).heap[x]? = w.heap[x]? := fun x hx => Ad _ _ hx
 have d0 := heap_alloc_new w (.cells #[.int .i64 k, .int .i64 oa, .int .i64 ob, .int .i64 oc] 49)
 have I0 := I.same o0
 generalize hT : w.heap.size = Zs at *
 generalize hw0 : (w.alloc (.cells #[.int .i64 k, .int .i64 oa, .int .i64 ob, .int .i64 oc] 49)) = w0 at *
 have b0 := (Ac d0 0).trans rfl
 have b1 := (Ac d0 1).trans rfl
 have b2 := (Ac d0 2).trans rfl
 have c1 : w0.cell? ⟨M, 3, none⟩ = some (.slice (some ⟨tb, 0, none⟩) n tc) := I0.cT (by omega)
 have c3 : w0.cell? ⟨tb, i * 9 + 5, none⟩ = some (.int .i64 (T i).q) := I0.tcell hi (rfl)
 have z3 := I0.tfrz hi (i * 9 + 5)
 have I1 := I0.put hi (j := 5) (v := .int .i64 oa) (t := { T i with q := oa }) rfl (by decide) ⟨rfl, rfl, rfl, rfl, rfl, rfl, rfl, rfl⟩
 refine Aa z148 ?_
 (refine Ay (by kernel_rfl) size148_1 (by kernel_rfl) (by kernel_rfl) (by kernel_rfl) (by decide) ?_; simp only [List.range, List.range.loop]; repeat (first | (refine Cm.oq ?_) | (refine Al Aj (by rfl) ?_; walk_nrm)))
 refine Cm.done ?_
 intro rest hr
 (have hfr := Dq tb (i * 9 + 5); refine Walk.os hfr c3 ?_; clear hfr; try walk_nrm)
 refine hr _ _ ?_
 have s1 := Af w0 ⟨tb, i * 9 + 5, none⟩ (.int .i64 oa)
 have o1 : ∀ x, x ≠ tb -> (w0.setCell ⟨tb, i * 9 + 5, none⟩ (.int .i64 oa)).heap[x]? = w0.heap[x]? := fun x hx => Ab _ _ _ _ hx
 have d1 := (o1 Zs (by omega)).trans d0
 generalize w0.setCell ⟨tb, i * 9 + 5, none⟩ (.int .i64 oa) = w1 at *
 clear c1 c3 z3 b0 b1 b2
 have c1 : w1.cell? ⟨M, 3, none⟩ = some (.slice (some ⟨tb, 0, none⟩) n tc) := I1.cT (by omega)
 have c3 : w1.cell? ⟨tb, i * 9 + 8, none⟩ = some ((T i).sv) := I1.tcell hi (by rw [upd_same]; rfl)
 have z3 := I1.tfrz hi (i * 9 + 8)
 have R1 := I1.rows i hi
 have I2 := I1.put' hi (j := 8) (v := .slice none 0 0) (t := (T i).clr oa) (by rw [upd_same]; rfl) (by decide) w1 (fun _ _ _ => rfl) (by
  rw [upd_same] at R1
  exact ⟨R1.rO, R1.rA, fun _ => ⟨rfl, .inl ⟨rfl, rfl⟩⟩, fun _ b hb => (by cases hb), R1.lo⟩) (fun b hb => .inl (by
  rw [upd_same]
  rcases hb with hb | ⟨_, hb⟩
  ·exact .inl hb
  ·cases hb))
 rw [Ag] at I2
 try walk_nrm
 refine Aa z148 ?_
 (have hfr := Dq tb (i * 9 + 8); refine Walk.os hfr c3 ?_; clear hfr; try walk_nrm)
 have s2 := Af w1 ⟨tb, i * 9 + 8, none⟩ (.slice none 0 0)
 have o2 : ∀ x, x ≠ tb -> (w1.setCell ⟨tb, i * 9 + 8, none⟩ (.slice none 0 0)).heap[x]? = w1.heap[x]? := fun x hx => Ab _ _ _ _ hx
 have d2 := (o2 Zs (by omega)).trans d1
 generalize w1.setCell ⟨tb, i * 9 + 8, none⟩ (.slice none 0 0) = w2 at *
 clear c1 c3 z3 R1
 have b0 := (Ac d2 0).trans rfl
 have b1 := (Ac d2 1).trans rfl
 have b2 := (Ac d2 2).trans rfl
 have c0 : w2.cell? ⟨M, 0, none⟩ = some (.int .i64 m) := I2.cZ
 have g2 : Got M cb m tb n T (upd T i ((T i).clr oa)) w w2 := ⟨⟨by omega, fun x hx hn => by
  have hx' : x ≠ tb := fun e => hn (.inr (.inr (.inl e)))
  exact (o2 x hx').trans ((o1 x hx').trans (o0 x (by omega)))⟩, fun b hb => Au hi (fun b hb => .inl (by
  rcases hb with hb | ⟨_, hb⟩
  ·exact .inl hb
  ·cases hb)) b hb⟩
 have hz2 : Zs <= w2.heap.size := by omega
 clear o0 o1 o2 d0 d1 d2 s0 s1 s2 hw0 hT I0 I1 I
 try walk_nrm
 refine Aa z148 ?_
 refine Walk.callV (x := .bool true) (W := w2) ?_ Aj (by rfl) (by decide) rfl Try.func22 (by kernel_rfl) (by rfl) ?_
 ·walk_nrm
  exact hgd w2
 walk_nrm
 refine Aa z148 ?_
 refine Walk.callV (x := .bool true) (W := w2) ?_ Aj (by rfl) (by decide) rfl Try.func22 (by kernel_rfl) (by rfl) ?_
 ·walk_nrm
  exact hgd w2
 walk_nrm
 refine Aa z148 ?_
 have c1 : w2.cell? ⟨M, 3, none⟩ = some (.slice (some ⟨tb, 0, none⟩) n tc) := I2.cT (by omega)
 have c3 : w2.cell? ⟨tb, i * 9 + 4, none⟩ = some (.int .i64 (T i).pc) := I2.tcell hi (by rw [upd_same]; rfl)
 have z3 := I2.tfrz hi (i * 9 + 4)
 have I3 := I2.put hi (j := 4) (v := .int .i64 1) (t := (T i).first oa) (by rw [upd_same]; rfl) (by decide) (by rw [upd_same]; exact ⟨rfl, rfl, rfl, rfl, rfl, rfl, rfl, rfl⟩)
 rw [Ag] at I3
 try walk_nrm
 refine Aa z148 ?_
 (have hfr := Dq tb (i * 9 + 4); refine Walk.os hfr c3 ?_; clear hfr; try walk_nrm)
 have s3 := Af w2 ⟨tb, i * 9 + 4, none⟩ (.int .i64 1)
 have o3 : ∀ x, x ≠ tb -> (w2.setCell ⟨tb, i * 9 + 4, none⟩ (.int .i64 1)).heap[x]? = w2.heap[x]? := fun x hx => Ab _ _ _ _ hx
 generalize w2.setCell ⟨tb, i * 9 + 4, none⟩ (.int .i64 1) = w3 at *
 clear c1 c3 z3
 have g3 : Got M cb m tb n (upd T i ((T i).clr oa)) (upd T i ((T i).first oa)) w2 w3 := ⟨⟨by omega, fun x hx hn => o3 x fun e => hn (.inr (.inr (.inl e)))⟩, fun b hb => by
  have := Au (M := M) (cb := cb) (m := m) (tb := tb) (T := upd T i ((T i).clr oa)) (t := (T i).first oa) (s := w2.heap.size) hi (fun b hb => .inl (by rw [upd_same]; exact hb)) b
  rw [Ag] at this
  exact this hb⟩
 try walk_nrm
 refine Aa z148 ?_
 exact Ar rfl rfl Try.func148 rfl (.stop fun d => ⟨_, ⟨rfl, I3.same fun _ _ => rfl, ⟨(g2.trans g3).chg.at d, (g2.trans g3).own⟩⟩, rfl⟩)
end
end
end Go.Proofs.Ytcdcnmphjhfbpaa
