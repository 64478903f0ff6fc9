/- Part 25. -/
import Derived.Test.YtcdcnmphjhfbpaaJ6
import Derived.Test.YtcdcnmphjhfbpaaJ10
import Derived.Test.YtcdcnmphjhfbpaaJ14
import Derived.Test.YtcdcnmphjhfbpaaJ18
import Derived.Test.YtcdcnmphjhfbpaaJ24
set_option linter.unusedSimpArgs false
set_option linter.unusedVariables false
set_option linter.unusedVariables false
set_option maxHeartbeats 8000000
set_option maxRecDepth 100000
namespace Go.Proofs.Ytcdcnmphjhfbpaa
open Go.Conc Go.RowKit Go.Relay
open Go.ConcN (upd upd_ne upd_same)
structure TrO (base : Nat) (cells : Array Value) (n : Nat) (F : Nat → List Ans) (ord : List Nat) (sts : List Int) (k : Bool) (w : World) : Prop where
  all : ∃ (A : Nat) (oo : Option Addr) (ok : Nat) (sv : Value) (hd : Nat → Value) (own : Nat → Nat → Prop), cells = trC (.slice (some ⟨A, 0, none⟩) n n) (.slice oo ord.length ok) sv k ∧ base ≤ A ∧
    w.ownsRow base 3 1 (.slice oo ord.length ok) ord.length (ord.map fun i => .int .i64 (i : Nat)) ∧ w.ownsRow base 2 1 sv sts.length (sts.map fun z => .int .i64 z) ∧
    (∃ arr : Array Value, w.heap[A]? = some (.cells arr 44) ∧ arr.size = n ∧ ∀ i, i < n → arr[i]? = some (hd i)) ∧ (∀ i, i < n → RowA base (own i) (hd i) (F i) w) ∧ (∀ i j b, own i b → own j b → i = j) ∧
    (∀ i b, own i b → b ≠ A ∧ (Value.slice oo ord.length ok).ownBlock ≠ some b ∧ sv.ownBlock ≠ some b) ∧ (Value.slice oo ord.length ok).ownBlock ≠ some A ∧ sv.ownBlock ≠ some A ∧ ∀ b, (Value.slice oo ord.length ok).ownBlock = some b → sv.ownBlock ≠ some b
theorem TrO.tr {base : Nat} {cells : Array Value} {n : Nat} {F : Nat → List Ans} {ord : List Nat} {sts : List Int} {k : Bool} {w : World} (h : TrO base cells n F ord sts k w) : TrA cells n F ord sts k w := by
  obtain ⟨A, oo, ok, sv, hd, own, e, hA, hord, hst, ⟨arr, h1, h2, h3⟩, hrows, _⟩ := h.all
  obtain ⟨sa, sc, rfl⟩ : ∃ sa sc, sv = .slice sa sts.length sc := by
    rcases hst.2 with ⟨e, e0⟩ | ⟨g, cap, cur, e, _⟩
    · exact ⟨none, 0, by rw [e, e0]⟩
    · exact ⟨_, _, e⟩
  refine ⟨⟨some ⟨A, 0, none⟩, n, oo, ok, sa, sc, e, ?_, numA_of hst, fun i hi => ?_⟩⟩
  · refine numA_of (base := base) (e := 3) (m := ord.length) (tc := ok) ?_
    have : ((ord.map fun i => ((i : Nat) : Int)).map (Value.int .i64)) = (ord.map fun i => .int .i64 (i : Nat)) := by simp
    rw [this]
    exact hord
  · obtain ⟨ta, tc, e, hans⟩ := ansA_of (hrows i hi)
    refine ⟨A, 0, ta, tc, rfl, ?_, hans⟩
    rw [Nat.zero_add, ← e]
    exact (cell_of h1 i).trans (h3 i hi)
section
structure SolR (rb sb n : Nat) (s : Rg) (w w' : World) : Prop where
  I : RgI rb sb n s w'
  old : ∀ b, b < w.heap.size → b ≠ rb → b ≠ sb → w'.heap[b]? = w.heap[b]?
  size : w.heap.size ≤ w'.heap.size
section
variable {rb sb n : Nat}
theorem SolR.of {s : Rg} {a : Ans} {w w' : World} {y : (rgLa rb sb n).Gh} (h : Lone (rgLa rb sb n) () w (s, a) w' y) : SolR rb sb n s w w' := ⟨h.I, fun b hb h1 h2 => h.old b hb fun h => h.elim h1 h2, h.size⟩
theorem SolR.trans {s s' : Rg} {w w' w2 : World} (h : SolR rb sb n s w w') (k : SolR rb sb n s' w' w2) : SolR rb sb n s' w w2 :=
  ⟨k.I, fun b hb h1 h2 => (k.old b (Nat.lt_of_lt_of_le hb h.size) h1 h2).trans (h.old b hb h1 h2), Nat.le_trans h.size k.size⟩
theorem SolR.at {s : Rg} {w w' : World} (h : SolR rb sb n s w w') (d : Nat) : SolR rb sb n s w (w'.at d) := ⟨⟨h.I.hd, h.I.sl, h.I.pos⟩, h.old, h.size⟩
variable {main : Bool} {V : Nat → Option Wait} {s : Rg} {w : World}
end
theorem got_ok {a er z : Int} (h : (⟨true, z, []⟩ : Ans) = ⟨er == 0, if er = 0 then a else er, []⟩) : er = 0 ∧ a = z := by
  injection h with h1 h2
  have : er = 0 := by simpa using h1.symm
  exact ⟨this, by rw [if_pos this] at h2; exact h2.symm⟩
theorem got_no {a er z : Int} (h : (⟨false, z, []⟩ : Ans) = ⟨er == 0, if er = 0 then a else er, []⟩) : er = z := by
  injection h with h1 h2
  have : ¬ er = 0 := by simpa using h1.symm
  rw [if_neg this] at h2
  exact h2.symm
end
section
noncomputable def reg32_0 := rg Try.f32.body [0]
noncomputable def reg32_1 := rg Try.f32.body [1, 0]
noncomputable def reg32_2 := rg Try.f32.body [1, 1, 0, 0]
noncomputable def reg32_3 := rg Try.f32.body [1, 1, 0, 1, 0, 0]
noncomputable def reg32_4 := rg Try.f32.body [1, 1, 1, 0]
noncomputable def reg32_5 := rg Try.f32.body [1, 1, 1, 1, 0]
noncomputable def reg32_6 := rg Try.f32.body [1, 1, 1, 1, 1, 0, 0]
noncomputable def reg32_7 := rg Try.f32.body [1, 1, 1, 1, 1, 0, 1, 0, 0]
noncomputable def reg32_8 := rg Try.f32.body [1, 1, 1, 1, 1, 1, 0]
noncomputable def reg32_9 := rg Try.f32.body [1, 1, 1, 1, 1, 1, 1, 0]
noncomputable def reg32_10 := rg Try.f32.body [1, 1, 1, 1, 1, 1, 1, 1, 0]
noncomputable def reg32_11 := rg Try.f32.body [1, 1, 1, 1, 1, 1, 1, 1, 1, 0]
noncomputable def reg32_12 := rg Try.f32.body [1, 1, 1, 1, 1, 1, 1, 1, 1, 1, 0]
noncomputable def reg32_13 := rg Try.f32.body [1, 1, 1, 1, 1, 1, 1, 1, 1, 1, 1, 0]
theorem z32 : List.range reg32_0.size = [0] ∧ List.range reg32_1.size = [0, 1, 2, 3, 4, 5] ∧ List.range reg32_2.size = [0, 1, 2, 3, 4, 5] ∧ List.range reg32_3.size = [0] ∧ List.range reg32_4.size = [0, 1, 2] ∧ List.range reg32_5.size = [0, 1, 2, 3, 4, 5, 6, 7, 8, 9] ∧ List.range reg32_6.size = [0, 1, 2, 3, 4, 5, 6, 7, 8, 9, 10, 11, 12] ∧ List.range reg32_7.size = [0] ∧ List.range reg32_8.size = [0, 1, 2, 3, 4, 5, 6, 7, 8] ∧ List.range reg32_9.size = [0, 1, 2, 3, 4, 5, 6, 7, 8] ∧ List.range reg32_10.size = [0, 1, 2, 3, 4, 5, 6, 7, 8, 9] ∧ List.range reg32_11.size = [0, 1, 2, 3, 4, 5, 6, 7, 8] ∧ List.range reg32_12.size = [0, 1, 2, 3, 4, 5, 6, 7, 8] ∧ List.range reg32_13.size = [0, 1, 2, 3, 4, 5, 6, 7, 8, 9, 10, 11, 12, 13, 14, 15, 16, 17, 18, 19, 20, 21, 22, 23, 24, 25, 26, 27, 28, 29, 30, 31, 32, 33, 34, 35, 36, 37, 38, 39, 40] := by refine ⟨?_, ?_, ?_, ?_, ?_, ?_, ?_, ?_, ?_, ?_, ?_, ?_, ?_, ?_⟩ <;> kernel_rfl
theorem code32_is : Try.f32.body = some (.seq (.region 0 reg32_0 false) (.seq (.region 1 reg32_1 false) (.seq (.seq (.region 2 reg32_2 false) (.cond (.tmp 23 ) (.seq (.region 3 reg32_3 false) (.ret)) (.skip))) (.seq (.region 4 reg32_4 false) (.seq (.region 5 reg32_5 false) (.seq (.seq (.region 6 reg32_6 false) (.cond (.tmp 46 ) (.seq (.region 7 reg32_7 false) (.ret)) (.skip))) (.seq (.region 8 reg32_8 false) (.seq (.region 9 reg32_9 false) (.seq (.region 10 reg32_10 false) (.seq (.region 11 reg32_11 false) (.seq (.region 12 reg32_12 false) (.seq (.region 13 reg32_13 false) (.ret))))))))))))) := by kernel_rfl
def RowC (w : World) (g : Nat) (l : List Int) : Prop := ∀ (j : Nat) (x : Value), (intRow3 l)[j]? = some x → w.cell? ⟨g, j, none⟩ = some x
section
variable {main : Bool} {V : Nat → Option Wait}
theorem writes_w (w : World) (hA : ∀ b, Apart V b) : CallW Try.prog main V 32 #[] w (fun v w' => v = .bool true ∧ (∀ b, b < w.heap.size → w'.heap[b]? = w.heap[b]?) ∧ w.heap.size ≤ w'.heap.size) := by
  intro c cs
  have hif1 := run_ifaceSteps
  have hif2 := ev_ifaceSteps
  have hnw : CallW Try.prog main V 38 #[.int .i64 2, .int .i64 1] w (fun v w' => ∃ ob qb, v = .tuple #[.pointer (some ⟨ob, 0, none⟩), .int .i64 0] ∧ NwS w (w.heap.size + 1) w.heap.size 2 ob qb 1 1 w' ∧ w.heap.size ≤ ob ∧ w.heap.size ≤ qb) := son_w 2 1 ⟨by decide, by decide, by kernel_rfl⟩ (by decide) (by decide) w hA
  rw [enter_at _ Try.func32 code32_is]
  simp only [Try.ntmps32, ez, Nat.reduceAdd, Nat.reduceSub]
  generalize hT : w.heap.size = T at *
  repeat (first | refine Walk.cx ?_ | (refine Walk.cReg ?_; simp only [z32]) | (refine Walk.oq ?_; try walk_nrm) | (refine Walk.un ?_; walk_nrm))
  refine Walk.callW (Post := fun v w' => ∃ ob qb, v = .tuple #[.pointer (some ⟨ob, 0, none⟩), .int .i64 0] ∧ NwS w (T + 1) T 2 ob qb 1 1 w' ∧ T ≤ ob ∧ T ≤ qb) ?_ (ho_of (by conv => lhs; whnf) (by kernel_rfl)) (by rfl) (by decide) rfl Try.func38 (by kernel_rfl) (by rfl) ?_
  · walk_nrm
    exact hnw
  rintro _ w1 ⟨ob, qb, rfl, E1, hob, hqb⟩
  clear hnw
  have hq1 := fun w => run_eql_ptr (P := Try.prog) 76 undSolo (some ⟨ob, 0, none⟩) w
  have hq2 := fun w es => ev_eql_ptr (P := Try.prog) 76 undSolo (some ⟨ob, 0, none⟩) w es
  simp only [Option.isNone_some] at hq1
  have I1 := E1.I
  have u1 := E1.old
  have s1 := E1.size
  rw [hT] at s1 u1
  have hlt : ∀ b, soSh (T + 1) T ob qb b → b < w1.heap.size := fun b hb => I1.lt hb
  have hge : ∀ b, b < T → ¬ soSh (T + 1) T ob qb b := fun b hb h => by rcases h with rfl | rfl | rfl | rfl <;> omega
  clear E1
  walk_nrm
  repeat (first | refine Walk.cx ?_ | (refine Walk.cReg ?_; simp only [z32]) | (refine Walk.oq ?_; try walk_nrm) | (refine Walk.un ?_; walk_nrm))
  (refine Walk.oa ?_; try walk_nrm)
  have s2 : (w1.alloc (.cells #[.int .i64 0] 147)).heap.size = w1.heap.size + 1 := by simp
  have o2 : ∀ b, b < w1.heap.size → (w1.alloc (.cells #[.int .i64 0] 147)).heap[b]? = w1.heap[b]? := fun b hb => heap_new_lt _ _ hb
  have n2 := heap_alloc_new w1 (.cells #[.int .i64 0] 147)
  generalize hP : w1.heap.size = P at *
  generalize w1.alloc (.cells #[.int .i64 0] 147) = w2 at *
  have hnp : ¬ soSh (T + 1) T ob qb P := fun h => by have := hlt _ h; omega
  have I2 := I1.old fun b hb => o2 b (hlt b hb)
  clear I1
  try simp only [hP]
  repeat (first | refine Walk.cx ?_ | (refine Walk.cReg ?_; simp only [z32]) | (refine Walk.oq ?_; try walk_nrm) | (refine Walk.un ?_; walk_nrm))
  (refine Walk.oa ?_; try walk_nrm)
  have s3 : (w2.alloc (.cells #[.int .i64 7, .int .i64 8] 2)).heap.size = w2.heap.size + 1 := by simp
  have o3 : ∀ b, b < w2.heap.size → (w2.alloc (.cells #[.int .i64 7, .int .i64 8] 2)).heap[b]? = w2.heap[b]? := fun b hb => heap_new_lt _ _ hb
  have d3 : NumB (w2.alloc (.cells #[.int .i64 7, .int .i64 8] 2)) w2.heap.size [7, 8] := heap_alloc_new w2 (.cells #[.int .i64 7, .int .i64 8] 2)
  rw [s2] at s3 o3 d3
  generalize hw3 : w2.alloc (.cells #[.int .i64 7, .int .i64 8] 2) = w3 at *
  clear hw3
  have I3 := I2.old fun b hb => o3 b (by have := hlt b hb; omega)
  have n3 := (o3 P (by omega)).trans n2
  have hcal := write1_c (main := main) (V := V) hA I3 hnp n3 (P + 1) d3 (by omega) (fun h => by have := hlt _ h; omega) (by omega)
  refine Walk.callP (Post := fun v w' => ∃ a er, v = .tuple #[.int .i64 a, .int .i64 er] ∧ (⟨true, 0, []⟩ : Ans) = ⟨er == 0, if er = 0 then a else er, []⟩ ∧ (er ≠ 0 → a = 0) ∧ CS (T + 1) T 2 ob qb 1 P 7 ws1 w3 w') ?_ (ho_of (by conv => lhs; whnf) (by kernel_rfl)) (by rfl) (by decide) rfl Try.func41 (by kernel_rfl) (by rfl) ⟨rfl, rfl, _, Try.func32⟩ ?_
  · walk_nrm
    exact hcal
  rintro _ w4 ⟨a, er, rfl, he, he0, H4⟩
  clear hcal
  obtain ⟨rfl, rfl⟩ := got_ok he
  clear he he0
  have I4 := H4.I
  have n4 := H4.cnt
  have s4 := H4.size
  walk_nrm
  have c4 : w4.cell? ⟨P, 0, none⟩ = some (.int .i64 7) := (cell_of n4 0).trans rfl
  repeat (first | refine Walk.cx ?_ | (refine Walk.cReg ?_; simp only [z32]) | (refine Walk.oq ?_; try walk_nrm) | (refine Walk.un ?_; walk_nrm))
  clear c4
  (refine Walk.oa ?_; try walk_nrm)
  have s5 : (w4.alloc (.cells #[.int .i64 9] 2)).heap.size = w4.heap.size + 1 := by simp
  have o5 : ∀ b, b < w4.heap.size → (w4.alloc (.cells #[.int .i64 9] 2)).heap[b]? = w4.heap[b]? := fun b hb => heap_new_lt _ _ hb
  have d5 : NumB (w4.alloc (.cells #[.int .i64 9] 2)) w4.heap.size [9] := heap_alloc_new w4 (.cells #[.int .i64 9] 2)
  generalize hw5 : w4.alloc (.cells #[.int .i64 9] 2) = w5 at *
  clear hw5
  have I5 := I4.old fun b hb => o5 b (by have := hlt b hb; omega)
  have n5 := (o5 P (by omega)).trans n4
  have hcal := write2_c (main := main) (V := V) hA I5 hnp n5 w4.heap.size d5 (by omega) (fun h => by have := hlt _ h; omega) (by omega)
  refine Walk.callP (Post := fun v w' => ∃ a er, v = .tuple #[.int .i64 a, .int .i64 er] ∧ (⟨false, 3, []⟩ : Ans) = ⟨er == 0, if er = 0 then a else er, []⟩ ∧ (er ≠ 0 → a = 0) ∧ CS (T + 1) T 2 ob qb 1 P 8 ws2 w5 w') ?_ (ho_of (by conv => lhs; whnf) (by kernel_rfl)) (by rfl) (by decide) rfl Try.func41 (by kernel_rfl) (by rfl) ⟨rfl, rfl, _, Try.func32⟩ ?_
  · walk_nrm
    exact hcal
  rintro _ w6 ⟨a, er, rfl, he, he0, H6⟩
  clear hcal
  obtain rfl := got_no he
  obtain rfl := he0 (by decide)
  clear he he0
  have I6 := H6.I
  have n6 := H6.cnt
  have s6 := H6.size
  walk_nrm
  repeat (first | refine Walk.cx ?_ | (refine Walk.cReg ?_; simp only [z32]) | (refine Walk.oq ?_; try walk_nrm) | (refine Walk.un ?_; walk_nrm))
  have hcal := read3_c (main := main) (V := V) hA I6 hnp n6
  refine Walk.callP (Post := fun v w' => ∃ a er, v = .tuple #[.int .i64 a, .int .i64 er] ∧ (⟨true, 7, []⟩ : Ans) = ⟨er == 0, if er = 0 then a else er, []⟩ ∧ (er ≠ 0 → a = 0) ∧ CS (T + 1) T 2 ob qb 1 P 13 ws3 w6 w') ?_ (ho_of (by conv => lhs; whnf) (by kernel_rfl)) (by rfl) (by decide) rfl Try.func81 (by kernel_rfl) (by rfl) ⟨rfl, rfl, _, Try.func32⟩ ?_
  · walk_nrm
    exact hcal
  rintro _ w7 ⟨a, er, rfl, he, he0, H7⟩
  clear hcal
  obtain ⟨rfl, rfl⟩ := got_ok he
  clear he he0
  have I7 := H7.I
  have n7 := H7.cnt
  have s7 := H7.size
  walk_nrm
  repeat (first | refine Walk.cx ?_ | (refine Walk.cReg ?_; simp only [z32]) | (refine Walk.oq ?_; try walk_nrm) | (refine Walk.un ?_; walk_nrm))
  (refine Walk.oa ?_; try walk_nrm)
  have s8 : (w7.alloc (.cells #[.int .i64 9] 2)).heap.size = w7.heap.size + 1 := by simp
  have o8 : ∀ b, b < w7.heap.size → (w7.alloc (.cells #[.int .i64 9] 2)).heap[b]? = w7.heap[b]? := fun b hb => heap_new_lt _ _ hb
  have d8 : NumB (w7.alloc (.cells #[.int .i64 9] 2)) w7.heap.size [9] := heap_alloc_new w7 (.cells #[.int .i64 9] 2)
  generalize hw8 : w7.alloc (.cells #[.int .i64 9] 2) = w8 at *
  clear hw8
  have I8 := I7.old fun b hb => o8 b (by have := hlt b hb; omega)
  have n8 := (o8 P (by omega)).trans n7
  have hcal := write4_c (main := main) (V := V) hA I8 hnp n8 w7.heap.size d8 (by omega) (fun h => by have := hlt _ h; omega) (by omega)
  refine Walk.callP (Post := fun v w' => ∃ a er, v = .tuple #[.int .i64 a, .int .i64 er] ∧ (⟨true, 2, []⟩ : Ans) = ⟨er == 0, if er = 0 then a else er, []⟩ ∧ (er ≠ 0 → a = 0) ∧ CS (T + 1) T 2 ob qb 1 P 18 ws4 w8 w') ?_ (ho_of (by conv => lhs; whnf) (by kernel_rfl)) (by rfl) (by decide) rfl Try.func41 (by kernel_rfl) (by rfl) ⟨rfl, rfl, _, Try.func32⟩ ?_
  · walk_nrm
    exact hcal
  rintro _ w9 ⟨a, er, rfl, he, he0, H9⟩
  clear hcal
  obtain ⟨rfl, rfl⟩ := got_ok he
  clear he he0
  have I9 := H9.I
  have n9 := H9.cnt
  have s9 := H9.size
  walk_nrm
  repeat (first | refine Walk.cx ?_ | (refine Walk.cReg ?_; simp only [z32]) | (refine Walk.oq ?_; try walk_nrm) | (refine Walk.un ?_; walk_nrm))
  have hcal := batch5_c (main := main) (V := V) hA I9 hnp n9
  refine Walk.callP (Post := fun v w' => ∃ a cp er, v = .tuple #[.slice a 2 cp, .int .i64 er] ∧ true = (er == 0) ∧ (0 : Int) = er ∧ w'.ownsRow 0 2 1 (.slice a 2 cp) 2 (([8, 9] : List Int).map fun z => .int .i64 z) ∧ (∀ b, (Value.slice a 2 cp).ownBlock = some b → w9.heap.size ≤ b ∧ b < w'.heap.size) ∧ CS (T + 1) T 2 ob qb 1 P 26 ws5 w9 w') ?_ (ho_of (by conv => lhs; whnf) (by kernel_rfl)) (by rfl) (by decide) rfl Try.func42 (by kernel_rfl) (by rfl) ⟨rfl, rfl, _, Try.func32⟩ ?_
  · walk_nrm
    exact hcal
  rintro _ w10 ⟨a, cp, er, rfl, hx1, rfl, hrow, hx2, H10⟩
  clear hcal hx1 hx2
  have I10 := H10.I
  have s10 := H10.size
  obtain ⟨g, hg, hgl, hgc⟩ : ∃ g, a = some ⟨g, 0, none⟩ ∧ g < w10.heap.size ∧ RowC w10 g [8, 9] := by
    rcases hrow.2 with ⟨_, e⟩ | ⟨g, cap, cur, e, hb, hh, hc, _, hs, ht⟩
    · cases e
    · injection e with e1 _ _
      refine ⟨g, e1, (Array.getElem?_eq_some_iff.1 hh).1, fun j x hx => ?_⟩
      refine (cell_of hh j).trans ?_
      have hx : (([8, 9] : List Int).map fun z => Value.int .i64 z)[j]? = some x := hx
      rw [← ht, List.getElem?_take] at hx
      split at hx
      · simpa using hx
      · cases hx
  subst hg
  clear hrow
  walk_nrm
  repeat (first | refine Walk.cx ?_ | (refine Walk.cReg ?_; simp only [z32]) | (refine Walk.oq ?_; try walk_nrm) | (refine Walk.un ?_; walk_nrm))
  have hst := state_w (main := main) (V := V) w10 I10 hA
  rw [wf.1, wf.2.1] at hst
  refine Walk.callW (Post := fun v w' => v = .tuple #[.int .i64 3, .int .i64 2, .slice (some ⟨w10.heap.size, 0, none⟩) 1 1] ∧ NewN 1 ws5.nm w10 (.slice (some ⟨w10.heap.size, 0, none⟩) 1 1) w') ?_ (ho_of (by conv => lhs; whnf) (by kernel_rfl)) (by rfl) (by decide) rfl Try.func44 (by kernel_rfl) (by rfl) ?_
  · walk_nrm
    exact hst
  rintro _ w11 ⟨rfl, hx1, d11, o11, s11⟩
  clear hst hx1
  have e11 : (List.range 1).map ws5.nm = [2] := congrArg (fun x => [x]) wf.2.2
  rw [e11] at d11
  clear e11
  walk_nrm
  repeat (first | refine Walk.cx ?_ | (refine Walk.cReg ?_; simp only [z32]) | (refine Walk.oq ?_; try walk_nrm) | (refine Walk.un ?_; walk_nrm))
  (refine Walk.oa ?_; try walk_nrm)
  have s12 : (w11.alloc (.cells #[.int .i64 8, .int .i64 9] 2)).heap.size = w11.heap.size + 1 := by simp
  have o12 : ∀ b, b < w11.heap.size → (w11.alloc (.cells #[.int .i64 8, .int .i64 9] 2)).heap[b]? = w11.heap[b]? := fun b hb => heap_new_lt _ _ hb
  have d12 : NumB (w11.alloc (.cells #[.int .i64 8, .int .i64 9] 2)) w11.heap.size [8, 9] := heap_alloc_new w11 (.cells #[.int .i64 8, .int .i64 9] 2)
  generalize hw12 : w11.alloc (.cells #[.int .i64 8, .int .i64 9] 2) = w12 at *
  clear hw12
  have hsm : CallV Try.prog main V 43 #[.slice (some ⟨g, 0, none⟩) 2 cp, .slice (some ⟨w11.heap.size, 0, none⟩) 2 2] w12 (.bool true) w12 := same3_w [8, 9] g w11.heap.size cp 2 w12 (by decide) (fun j x hx => (World.cell?_of_block (a := ⟨g, j, none⟩) ((o12 g (by omega)).trans (o11 g hgl))).trans (hgc j x hx)) (fun j x hx => by
    have hx : (([8, 9] : List Int).map fun z => Value.int .i64 z)[j]? = some x := hx
    rw [List.getElem?_map, Option.map_eq_some_iff] at hx
    obtain ⟨y, hy, rfl⟩ := hx
    exact d12.cell hy)
  repeat (first | refine Walk.cx ?_ | (refine Walk.cReg ?_; simp only [z32]) | (refine Walk.oq ?_; try walk_nrm) | (refine Walk.un ?_; walk_nrm))
  refine Walk.callV (x := .bool true) (W := w12) ?_ (ho_of (by conv => lhs; whnf) (by kernel_rfl)) (by rfl) (by decide) rfl Try.func43 (by kernel_rfl) (by rfl) ?_
  · walk_nrm
    exact hsm
  clear hsm
  walk_nrm
  repeat (first | refine Walk.cx ?_ | (refine Walk.cReg ?_; simp only [z32]) | (refine Walk.oq ?_; try walk_nrm) | (refine Walk.un ?_; walk_nrm))
  (refine Walk.oa ?_; try walk_nrm)
  have s13 : (w12.alloc (.cells #[.int .i64 2] 2)).heap.size = w12.heap.size + 1 := by simp
  have o13 : ∀ b, b < w12.heap.size → (w12.alloc (.cells #[.int .i64 2] 2)).heap[b]? = w12.heap[b]? := fun b hb => heap_new_lt _ _ hb
  have d13 : NumB (w12.alloc (.cells #[.int .i64 2] 2)) w12.heap.size [2] := heap_alloc_new w12 (.cells #[.int .i64 2] 2)
  rw [s12] at s13 o13 d13
  generalize hw13 : w12.alloc (.cells #[.int .i64 2] 2) = w13 at *
  clear hw13
  have hsm : CallV Try.prog main V 43 #[.slice (some ⟨w10.heap.size, 0, none⟩) 1 1, .slice (some ⟨w11.heap.size + 1, 0, none⟩) 1 1] w13 (.bool true) w13 := same3_w [2] w10.heap.size (w11.heap.size + 1) 1 1 w13 (by decide) (fun j x hx => by
    have hx : (([2] : List Int).map fun z => Value.int .i64 z)[j]? = some x := hx
    rw [List.getElem?_map, Option.map_eq_some_iff] at hx
    obtain ⟨y, hy, rfl⟩ := hx
    exact (World.cell?_of_block (a := ⟨w10.heap.size, j, none⟩) ((o13 w10.heap.size (by omega)).trans (o12 w10.heap.size (by omega)))).trans (d11.cell hy)) (fun j x hx => by
    have hx : (([2] : List Int).map fun z => Value.int .i64 z)[j]? = some x := hx
    rw [List.getElem?_map, Option.map_eq_some_iff] at hx
    obtain ⟨y, hy, rfl⟩ := hx
    exact d13.cell hy)
  repeat (first | refine Walk.cx ?_ | (refine Walk.cReg ?_; simp only [z32]) | (refine Walk.oq ?_; try walk_nrm) | (refine Walk.un ?_; walk_nrm))
  refine Walk.callV (x := .bool true) (W := w13) ?_ (ho_of (by conv => lhs; whnf) (by kernel_rfl)) (by rfl) (by decide) rfl Try.func43 (by kernel_rfl) (by rfl) ?_
  · walk_nrm
    exact hsm
  clear hsm
  walk_nrm
  repeat (first | refine Walk.cx ?_ | (refine Walk.cReg ?_; simp only [z32]) | (refine Walk.oq ?_; try walk_nrm) | (refine Walk.un ?_; walk_nrm))
  have h4 := H4.old
  have h6 := H6.old
  have h7 := H7.old
  have h9 := H9.old
  have h10 := H10.old
  have hall : ∀ b, b < T → w13.heap[b]? = w.heap[b]? := fun b hb => by
    have hn := hge b hb
    have hbp : b ≠ P := by omega
    rw [o13 b (by omega), o12 b (by omega), o11 b (by omega), h10 b (by omega) hn hbp, h9 b (by omega) hn hbp, o8 b (by omega), h7 b (by omega) hn hbp, h6 b (by omega) hn hbp, o5 b (by omega), h4 b (by omega) hn hbp, o3 b (by omega), o2 b (by omega), u1 b (by omega)]
  exact Walk.on1 rfl rfl Try.func32 rfl (.stop fun d => ⟨_, ⟨rfl, hall, by show T ≤ w13.heap.size; omega⟩, rfl⟩)
end
end
end Go.Proofs.Ytcdcnmphjhfbpaa
