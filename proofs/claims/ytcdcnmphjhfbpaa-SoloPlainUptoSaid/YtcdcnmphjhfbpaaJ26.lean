/- Part 26. -/
import Derived.Test.YtcdcnmphjhfbpaaJ23
import Derived.Test.YtcdcnmphjhfbpaaJ25
set_option linter.unusedSimpArgs false
set_option linter.unusedVariables false
set_option linter.unusedVariables false
set_option maxHeartbeats 8000000
set_option maxRecDepth 100000
namespace Go.Proofs.Ytcdcnmphjhfbpaa
open Go.Conc Go.RowKit Go.Relay
open Go.ConcN (upd upd_ne upd_same)
theorem soM_new (n k : Nat) : SoM n k [] (fun _ => 0) (soJ n k) := by
  refine ⟨rfl, rfl, rfl, fun i hi => ?_, fun i hi => ?_, fun i hi => Nat.zero_le _, fun i hi => by simp, fun i hi => ?_, fun q v h => by simp at h⟩
  · show (if i < k then (-1 : Int) else 0) = _
    rw [if_pos hi]; rfl
  · show (if i < k then (-1 : Int) else 0) = _
    rw [if_pos hi]; rfl
  · show (-1 : Int) ≤ _
    omega
def BegP (n k ob : Nat) (sv : Value) (L : Nat) (W : World) (g : Goroutine) (w : World) : Prop :=
  ∃ rb sb qb tb base, (∃ u, g = G (hdPa n k ob (.slice none 0 0) (.slice (some ⟨tb, 0, none⟩) k k) sv L 0 u) []) ∧ PlI W n k rb sb ob qb tb base [] (fun _ => 0) (soJ n k) none 0 w
theorem plain_in0 (sz rd : Int) (k : Nat) (hsz : sz.tmod 5 = 0) (hrd : rd.tmod 3 = k) (hk : k ≤ 2) (sa : Option Addr) (L sc : Nat) (w : World) :
    Walk Try.prog true (DR (fun _ => none)) (fun g w' => ∃ ob, BegP 1 k ob (.slice sa L sc) L w g w') (G (Frame.enter Try.prog 9 #[.int .u8 sz, .int .u8 rd, .slice sa L sc] .normal) []) w := by
  have hA : ∀ b, Apart (fun _ => none) b := fun b => ⟨fun _ _ _ _ h => (by cases h), fun _ _ h => (by cases h)⟩
  have hwr := writes_w (main := true) (V := fun _ => none) w hA
  have hiI := Option.some_get (show (Try.prog.info? 3).isSome = true by kernel_rfl)
  have hw1 : IntKind.wrap .u8 (0 : Int) = 0 := by decide
  have hw2 : IntKind.wrap .u8 (k : Int) = k := by rw [IntKind.wrap_u8]; omega
  have hw3 : IntKind.wrap .i64 (k : Int) = k := by rw [IntKind.wrap_i64]; omega
  rw [enter_at _ Try.func9 code9_is]
  simp only [Try.ntmps9, ez, Nat.reduceAdd, Nat.reduceSub]
  repeat (first | refine Walk.cx ?_ | (refine Walk.cReg ?_; simp only [z9]) | (refine Walk.oq ?_; try walk_nrm) | (refine Walk.un ?_; walk_nrm))
  refine Walk.callW (Post := fun v w' => v = .bool true ∧ (∀ b, b < w.heap.size → w'.heap[b]? = w.heap[b]?) ∧ w.heap.size ≤ w'.heap.size) ?_ (ho_of (by conv => lhs; whnf) (by kernel_rfl)) (by rfl) (by decide) rfl Try.func32 (by kernel_rfl) (by rfl) ?_
  · walk_nrm
    exact hwr
  rintro _ w1 ⟨rfl, o1, z1⟩
  clear hwr
  walk_nrm
  repeat (first | refine Walk.cx ?_ | (refine Walk.cReg ?_; simp only [z9]) | (refine Walk.oq ?_; try walk_nrm) | (refine Walk.un ?_; walk_nrm))
  have hnw : CallW Try.prog true (fun _ => none) 38 #[.int .i64 1, .int .i64 k] w1 (fun v w' => ∃ ob qb, v = .tuple #[.pointer (some ⟨ob, 0, none⟩), .int .i64 0] ∧ NwS w1 (w1.heap.size + 1) w1.heap.size 1 ob qb k k w' ∧ w1.heap.size ≤ ob ∧ w1.heap.size ≤ qb) := son_w 1 (k : Nat) ⟨by decide, by decide, by kernel_rfl⟩ (by omega) (by omega) w1 hA
  refine Walk.callW (Post := fun v w' => ∃ ob qb, v = .tuple #[.pointer (some ⟨ob, 0, none⟩), .int .i64 0] ∧ NwS w1 (w1.heap.size + 1) w1.heap.size 1 ob qb k k w' ∧ w1.heap.size ≤ ob ∧ w1.heap.size ≤ qb) ?_ (ho_of (by conv => lhs; whnf) (by kernel_rfl)) (by rfl) (by decide) rfl Try.func38 (by kernel_rfl) (by rfl) ?_
  · walk_nrm
    exact hnw
  rintro _ w2 ⟨ob, qb, rfl, E, lo1, lo2⟩
  clear hnw
  have hsz1 := osize_w (main := true) (V := fun _ => none) w2 E.I
  have hrd1 := oreaders_w (main := true) (V := fun _ => none) w2 E.I
  have hsh : ∀ b, soSh (w1.heap.size + 1) w1.heap.size ob qb b → b < w2.heap.size := fun b hb => E.I.lt hb
  have hz2 := E.size
  have ho2 := E.old
  have hp1 := fun w => run_eql_ptr (P := Try.prog) 76 undSolo (some ⟨ob, 0, none⟩) w
  have hp2 := fun w es => ev_eql_ptr (P := Try.prog) 76 undSolo (some ⟨ob, 0, none⟩) w es
  simp only [Option.isNone_some] at hp1
  have q1 : ((1 : Int) != 1) = false := by decide
  have q2 : ((k : Int) != (k : Int)) = false := by simp
  walk_nrm
  repeat (first | refine Walk.cx ?_ | (refine Walk.cReg ?_; simp only [z9]) | (refine Walk.oq ?_; try walk_nrm) | (refine Walk.un ?_; walk_nrm))
  refine Walk.callV (x := .int .i64 1) (W := w2) ?_ (ho_of (by conv => lhs; whnf) (by kernel_rfl)) (by rfl) (by decide) rfl Try.func39 (by kernel_rfl) (by rfl) ?_
  · walk_nrm
    exact hsz1
  clear hsz1
  walk_nrm
  repeat (first | refine Walk.cx ?_ | (refine Walk.cReg ?_; simp only [z9]) | (refine Walk.oq ?_; try walk_nrm) | (refine Walk.un ?_; walk_nrm))
  refine Walk.callV (x := .int .i64 k) (W := w2) ?_ (ho_of (by conv => lhs; whnf) (by kernel_rfl)) (by rfl) (by decide) rfl Try.func40 (by kernel_rfl) (by rfl) ?_
  · walk_nrm
    exact hrd1
  clear hrd1
  walk_nrm
  repeat (first | refine Walk.cx ?_ | (refine Walk.cReg ?_; simp only [z9]) | (refine Walk.oq ?_; try walk_nrm) | (refine Walk.un ?_; walk_nrm))
  refine Walk.make 24 (.tmp 66) (.tmp 66) (ho_of (by conv => lhs; whnf) (by kernel_rfl)) (by rfl) (by decide) rfl 3 _ (.int .i64 0) 1 8 (by kernel_rfl) hiI.symm (by rfl) (by rfl) (by rfl) k (by rfl) (by rfl) (by omega) (by omega) ?_
  walk_nrm
  simp only [Value.cells, Nat.mul_one, made_zero]
  have s3 : (w2.alloc (.cells ((List.replicate k (0 : Int)).map fun z => Value.int .i64 z).toArray 3)).heap.size = w2.heap.size + 1 := by simp
  have o3 : ∀ b, b < w2.heap.size → (w2.alloc (.cells ((List.replicate k (0 : Int)).map fun z => Value.int .i64 z).toArray 3)).heap[b]? = w2.heap[b]? := fun b hb => heap_new_lt _ _ hb
  have d3 := heap_alloc_new w2 (.cells ((List.replicate k (0 : Int)).map fun z => Value.int .i64 z).toArray 3)
  have I3 := E.I.old fun b hb => o3 b (hsh b hb)
  generalize hB : w2.heap.size = B at *
  generalize w2.alloc (.cells ((List.replicate k (0 : Int)).map fun z => Value.int .i64 z).toArray 3) = w3 at *
  have P3 : PlI w 1 k (w1.heap.size + 1) w1.heap.size ob qb B (B + 1) [] (fun _ => 0) (soJ 1 k) none 0 w3 := by
    refine ⟨I3, soM_new 1 k, ⟨rfl, .inl ⟨rfl, rfl⟩⟩, ⟨_, d3, fun i hi => ?_⟩, fun b hb => by rw [o3 b (by omega), ho2 b (by omega), o1 b hb], by omega, ⟨by omega, by omega, by omega⟩, fun b hb => ?_⟩
    · simp [hi]
    · have h1 := hsh b hb
      refine ⟨?_, by omega, by omega⟩
      rcases hb with rfl | rfl | rfl | rfl <;> omega
  clear E I3 o3 d3 hsh ho2 o1
  repeat (first | refine Walk.cx ?_ | (refine Walk.cReg ?_; simp only [z9]) | (refine Walk.oq ?_; try walk_nrm) | (refine Walk.un ?_; walk_nrm))
  refine Walk.ctl rfl (fun w => stepG_loop) ?_
  refine .stop fun d => ⟨ob, _, _, qb, B, B + 1, at_slots ?_, P3.at d⟩
  simp only [hdPa]
  rfl
theorem plain_in1 (sz rd : Int) (k : Nat) (hsz : sz.tmod 5 = 1) (hrd : rd.tmod 3 = k) (hk : k ≤ 2) (sa : Option Addr) (L sc : Nat) (w : World) :
    Walk Try.prog true (DR (fun _ => none)) (fun g w' => ∃ ob, BegP 2 k ob (.slice sa L sc) L w g w') (G (Frame.enter Try.prog 9 #[.int .u8 sz, .int .u8 rd, .slice sa L sc] .normal) []) w := by
  have hA : ∀ b, Apart (fun _ => none) b := fun b => ⟨fun _ _ _ _ h => (by cases h), fun _ _ h => (by cases h)⟩
  have hwr := writes_w (main := true) (V := fun _ => none) w hA
  have hiI := Option.some_get (show (Try.prog.info? 3).isSome = true by kernel_rfl)
  have hw1 : IntKind.wrap .u8 (1 : Int) = 1 := by decide
  have hw2 : IntKind.wrap .u8 (k : Int) = k := by rw [IntKind.wrap_u8]; omega
  have hw3 : IntKind.wrap .i64 (k : Int) = k := by rw [IntKind.wrap_i64]; omega
  rw [enter_at _ Try.func9 code9_is]
  simp only [Try.ntmps9, ez, Nat.reduceAdd, Nat.reduceSub]
  repeat (first | refine Walk.cx ?_ | (refine Walk.cReg ?_; simp only [z9]) | (refine Walk.oq ?_; try walk_nrm) | (refine Walk.un ?_; walk_nrm))
  refine Walk.callW (Post := fun v w' => v = .bool true ∧ (∀ b, b < w.heap.size → w'.heap[b]? = w.heap[b]?) ∧ w.heap.size ≤ w'.heap.size) ?_ (ho_of (by conv => lhs; whnf) (by kernel_rfl)) (by rfl) (by decide) rfl Try.func32 (by kernel_rfl) (by rfl) ?_
  · walk_nrm
    exact hwr
  rintro _ w1 ⟨rfl, o1, z1⟩
  clear hwr
  walk_nrm
  repeat (first | refine Walk.cx ?_ | (refine Walk.cReg ?_; simp only [z9]) | (refine Walk.oq ?_; try walk_nrm) | (refine Walk.un ?_; walk_nrm))
  have hnw : CallW Try.prog true (fun _ => none) 38 #[.int .i64 2, .int .i64 k] w1 (fun v w' => ∃ ob qb, v = .tuple #[.pointer (some ⟨ob, 0, none⟩), .int .i64 0] ∧ NwS w1 (w1.heap.size + 1) w1.heap.size 2 ob qb k k w' ∧ w1.heap.size ≤ ob ∧ w1.heap.size ≤ qb) := son_w 2 (k : Nat) ⟨by decide, by decide, by kernel_rfl⟩ (by omega) (by omega) w1 hA
  refine Walk.callW (Post := fun v w' => ∃ ob qb, v = .tuple #[.pointer (some ⟨ob, 0, none⟩), .int .i64 0] ∧ NwS w1 (w1.heap.size + 1) w1.heap.size 2 ob qb k k w' ∧ w1.heap.size ≤ ob ∧ w1.heap.size ≤ qb) ?_ (ho_of (by conv => lhs; whnf) (by kernel_rfl)) (by rfl) (by decide) rfl Try.func38 (by kernel_rfl) (by rfl) ?_
  · walk_nrm
    exact hnw
  rintro _ w2 ⟨ob, qb, rfl, E, lo1, lo2⟩
  clear hnw
  have hsz1 := osize_w (main := true) (V := fun _ => none) w2 E.I
  have hrd1 := oreaders_w (main := true) (V := fun _ => none) w2 E.I
  have hsh : ∀ b, soSh (w1.heap.size + 1) w1.heap.size ob qb b → b < w2.heap.size := fun b hb => E.I.lt hb
  have hz2 := E.size
  have ho2 := E.old
  have hp1 := fun w => run_eql_ptr (P := Try.prog) 76 undSolo (some ⟨ob, 0, none⟩) w
  have hp2 := fun w es => ev_eql_ptr (P := Try.prog) 76 undSolo (some ⟨ob, 0, none⟩) w es
  simp only [Option.isNone_some] at hp1
  have q1 : ((2 : Int) != 2) = false := by decide
  have q2 : ((k : Int) != (k : Int)) = false := by simp
  walk_nrm
  repeat (first | refine Walk.cx ?_ | (refine Walk.cReg ?_; simp only [z9]) | (refine Walk.oq ?_; try walk_nrm) | (refine Walk.un ?_; walk_nrm))
  refine Walk.callV (x := .int .i64 2) (W := w2) ?_ (ho_of (by conv => lhs; whnf) (by kernel_rfl)) (by rfl) (by decide) rfl Try.func39 (by kernel_rfl) (by rfl) ?_
  · walk_nrm
    exact hsz1
  clear hsz1
  walk_nrm
  repeat (first | refine Walk.cx ?_ | (refine Walk.cReg ?_; simp only [z9]) | (refine Walk.oq ?_; try walk_nrm) | (refine Walk.un ?_; walk_nrm))
  refine Walk.callV (x := .int .i64 k) (W := w2) ?_ (ho_of (by conv => lhs; whnf) (by kernel_rfl)) (by rfl) (by decide) rfl Try.func40 (by kernel_rfl) (by rfl) ?_
  · walk_nrm
    exact hrd1
  clear hrd1
  walk_nrm
  repeat (first | refine Walk.cx ?_ | (refine Walk.cReg ?_; simp only [z9]) | (refine Walk.oq ?_; try walk_nrm) | (refine Walk.un ?_; walk_nrm))
  refine Walk.make 24 (.tmp 66) (.tmp 66) (ho_of (by conv => lhs; whnf) (by kernel_rfl)) (by rfl) (by decide) rfl 3 _ (.int .i64 0) 1 8 (by kernel_rfl) hiI.symm (by rfl) (by rfl) (by rfl) k (by rfl) (by rfl) (by omega) (by omega) ?_
  walk_nrm
  simp only [Value.cells, Nat.mul_one, made_zero]
  have s3 : (w2.alloc (.cells ((List.replicate k (0 : Int)).map fun z => Value.int .i64 z).toArray 3)).heap.size = w2.heap.size + 1 := by simp
  have o3 : ∀ b, b < w2.heap.size → (w2.alloc (.cells ((List.replicate k (0 : Int)).map fun z => Value.int .i64 z).toArray 3)).heap[b]? = w2.heap[b]? := fun b hb => heap_new_lt _ _ hb
  have d3 := heap_alloc_new w2 (.cells ((List.replicate k (0 : Int)).map fun z => Value.int .i64 z).toArray 3)
  have I3 := E.I.old fun b hb => o3 b (hsh b hb)
  generalize hB : w2.heap.size = B at *
  generalize w2.alloc (.cells ((List.replicate k (0 : Int)).map fun z => Value.int .i64 z).toArray 3) = w3 at *
  have P3 : PlI w 2 k (w1.heap.size + 1) w1.heap.size ob qb B (B + 1) [] (fun _ => 0) (soJ 2 k) none 0 w3 := by
    refine ⟨I3, soM_new 2 k, ⟨rfl, .inl ⟨rfl, rfl⟩⟩, ⟨_, d3, fun i hi => ?_⟩, fun b hb => by rw [o3 b (by omega), ho2 b (by omega), o1 b hb], by omega, ⟨by omega, by omega, by omega⟩, fun b hb => ?_⟩
    · simp [hi]
    · have h1 := hsh b hb
      refine ⟨?_, by omega, by omega⟩
      rcases hb with rfl | rfl | rfl | rfl <;> omega
  clear E I3 o3 d3 hsh ho2 o1
  repeat (first | refine Walk.cx ?_ | (refine Walk.cReg ?_; simp only [z9]) | (refine Walk.oq ?_; try walk_nrm) | (refine Walk.un ?_; walk_nrm))
  refine Walk.ctl rfl (fun w => stepG_loop) ?_
  refine .stop fun d => ⟨ob, _, _, qb, B, B + 1, at_slots ?_, P3.at d⟩
  simp only [hdPa]
  rfl
theorem plain_in2 (sz rd : Int) (k : Nat) (hsz : sz.tmod 5 = 2) (hrd : rd.tmod 3 = k) (hk : k ≤ 2) (sa : Option Addr) (L sc : Nat) (w : World) :
    Walk Try.prog true (DR (fun _ => none)) (fun g w' => ∃ ob, BegP 4 k ob (.slice sa L sc) L w g w') (G (Frame.enter Try.prog 9 #[.int .u8 sz, .int .u8 rd, .slice sa L sc] .normal) []) w := by
  have hA : ∀ b, Apart (fun _ => none) b := fun b => ⟨fun _ _ _ _ h => (by cases h), fun _ _ h => (by cases h)⟩
  have hwr := writes_w (main := true) (V := fun _ => none) w hA
  have hiI := Option.some_get (show (Try.prog.info? 3).isSome = true by kernel_rfl)
  have hw1 : IntKind.wrap .u8 (2 : Int) = 2 := by decide
  have hw2 : IntKind.wrap .u8 (k : Int) = k := by rw [IntKind.wrap_u8]; omega
  have hw3 : IntKind.wrap .i64 (k : Int) = k := by rw [IntKind.wrap_i64]; omega
  rw [enter_at _ Try.func9 code9_is]
  simp only [Try.ntmps9, ez, Nat.reduceAdd, Nat.reduceSub]
  repeat (first | refine Walk.cx ?_ | (refine Walk.cReg ?_; simp only [z9]) | (refine Walk.oq ?_; try walk_nrm) | (refine Walk.un ?_; walk_nrm))
  refine Walk.callW (Post := fun v w' => v = .bool true ∧ (∀ b, b < w.heap.size → w'.heap[b]? = w.heap[b]?) ∧ w.heap.size ≤ w'.heap.size) ?_ (ho_of (by conv => lhs; whnf) (by kernel_rfl)) (by rfl) (by decide) rfl Try.func32 (by kernel_rfl) (by rfl) ?_
  · walk_nrm
    exact hwr
  rintro _ w1 ⟨rfl, o1, z1⟩
  clear hwr
  walk_nrm
  repeat (first | refine Walk.cx ?_ | (refine Walk.cReg ?_; simp only [z9]) | (refine Walk.oq ?_; try walk_nrm) | (refine Walk.un ?_; walk_nrm))
  have hnw : CallW Try.prog true (fun _ => none) 38 #[.int .i64 4, .int .i64 k] w1 (fun v w' => ∃ ob qb, v = .tuple #[.pointer (some ⟨ob, 0, none⟩), .int .i64 0] ∧ NwS w1 (w1.heap.size + 1) w1.heap.size 4 ob qb k k w' ∧ w1.heap.size ≤ ob ∧ w1.heap.size ≤ qb) := son_w 4 (k : Nat) ⟨by decide, by decide, by kernel_rfl⟩ (by omega) (by omega) w1 hA
  refine Walk.callW (Post := fun v w' => ∃ ob qb, v = .tuple #[.pointer (some ⟨ob, 0, none⟩), .int .i64 0] ∧ NwS w1 (w1.heap.size + 1) w1.heap.size 4 ob qb k k w' ∧ w1.heap.size ≤ ob ∧ w1.heap.size ≤ qb) ?_ (ho_of (by conv => lhs; whnf) (by kernel_rfl)) (by rfl) (by decide) rfl Try.func38 (by kernel_rfl) (by rfl) ?_
  · walk_nrm
    exact hnw
  rintro _ w2 ⟨ob, qb, rfl, E, lo1, lo2⟩
  clear hnw
  have hsz1 := osize_w (main := true) (V := fun _ => none) w2 E.I
  have hrd1 := oreaders_w (main := true) (V := fun _ => none) w2 E.I
  have hsh : ∀ b, soSh (w1.heap.size + 1) w1.heap.size ob qb b → b < w2.heap.size := fun b hb => E.I.lt hb
  have hz2 := E.size
  have ho2 := E.old
  have hp1 := fun w => run_eql_ptr (P := Try.prog) 76 undSolo (some ⟨ob, 0, none⟩) w
  have hp2 := fun w es => ev_eql_ptr (P := Try.prog) 76 undSolo (some ⟨ob, 0, none⟩) w es
  simp only [Option.isNone_some] at hp1
  have q1 : ((4 : Int) != 4) = false := by decide
  have q2 : ((k : Int) != (k : Int)) = false := by simp
  walk_nrm
  repeat (first | refine Walk.cx ?_ | (refine Walk.cReg ?_; simp only [z9]) | (refine Walk.oq ?_; try walk_nrm) | (refine Walk.un ?_; walk_nrm))
  refine Walk.callV (x := .int .i64 4) (W := w2) ?_ (ho_of (by conv => lhs; whnf) (by kernel_rfl)) (by rfl) (by decide) rfl Try.func39 (by kernel_rfl) (by rfl) ?_
  · walk_nrm
    exact hsz1
  clear hsz1
  walk_nrm
  repeat (first | refine Walk.cx ?_ | (refine Walk.cReg ?_; simp only [z9]) | (refine Walk.oq ?_; try walk_nrm) | (refine Walk.un ?_; walk_nrm))
  refine Walk.callV (x := .int .i64 k) (W := w2) ?_ (ho_of (by conv => lhs; whnf) (by kernel_rfl)) (by rfl) (by decide) rfl Try.func40 (by kernel_rfl) (by rfl) ?_
  · walk_nrm
    exact hrd1
  clear hrd1
  walk_nrm
  repeat (first | refine Walk.cx ?_ | (refine Walk.cReg ?_; simp only [z9]) | (refine Walk.oq ?_; try walk_nrm) | (refine Walk.un ?_; walk_nrm))
  refine Walk.make 24 (.tmp 66) (.tmp 66) (ho_of (by conv => lhs; whnf) (by kernel_rfl)) (by rfl) (by decide) rfl 3 _ (.int .i64 0) 1 8 (by kernel_rfl) hiI.symm (by rfl) (by rfl) (by rfl) k (by rfl) (by rfl) (by omega) (by omega) ?_
  walk_nrm
  simp only [Value.cells, Nat.mul_one, made_zero]
  have s3 : (w2.alloc (.cells ((List.replicate k (0 : Int)).map fun z => Value.int .i64 z).toArray 3)).heap.size = w2.heap.size + 1 := by simp
  have o3 : ∀ b, b < w2.heap.size → (w2.alloc (.cells ((List.replicate k (0 : Int)).map fun z => Value.int .i64 z).toArray 3)).heap[b]? = w2.heap[b]? := fun b hb => heap_new_lt _ _ hb
  have d3 := heap_alloc_new w2 (.cells ((List.replicate k (0 : Int)).map fun z => Value.int .i64 z).toArray 3)
  have I3 := E.I.old fun b hb => o3 b (hsh b hb)
  generalize hB : w2.heap.size = B at *
  generalize w2.alloc (.cells ((List.replicate k (0 : Int)).map fun z => Value.int .i64 z).toArray 3) = w3 at *
  have P3 : PlI w 4 k (w1.heap.size + 1) w1.heap.size ob qb B (B + 1) [] (fun _ => 0) (soJ 4 k) none 0 w3 := by
    refine ⟨I3, soM_new 4 k, ⟨rfl, .inl ⟨rfl, rfl⟩⟩, ⟨_, d3, fun i hi => ?_⟩, fun b hb => by rw [o3 b (by omega), ho2 b (by omega), o1 b hb], by omega, ⟨by omega, by omega, by omega⟩, fun b hb => ?_⟩
    · simp [hi]
    · have h1 := hsh b hb
      refine ⟨?_, by omega, by omega⟩
      rcases hb with rfl | rfl | rfl | rfl <;> omega
  clear E I3 o3 d3 hsh ho2 o1
  repeat (first | refine Walk.cx ?_ | (refine Walk.cReg ?_; simp only [z9]) | (refine Walk.oq ?_; try walk_nrm) | (refine Walk.un ?_; walk_nrm))
  refine Walk.ctl rfl (fun w => stepG_loop) ?_
  refine .stop fun d => ⟨ob, _, _, qb, B, B + 1, at_slots ?_, P3.at d⟩
  simp only [hdPa]
  rfl
theorem plain_in3 (sz rd : Int) (k : Nat) (hsz : sz.tmod 5 = 3) (hrd : rd.tmod 3 = k) (hk : k ≤ 2) (sa : Option Addr) (L sc : Nat) (w : World) :
    Walk Try.prog true (DR (fun _ => none)) (fun g w' => ∃ ob, BegP 8 k ob (.slice sa L sc) L w g w') (G (Frame.enter Try.prog 9 #[.int .u8 sz, .int .u8 rd, .slice sa L sc] .normal) []) w := by
  have hA : ∀ b, Apart (fun _ => none) b := fun b => ⟨fun _ _ _ _ h => (by cases h), fun _ _ h => (by cases h)⟩
  have hwr := writes_w (main := true) (V := fun _ => none) w hA
  have hiI := Option.some_get (show (Try.prog.info? 3).isSome = true by kernel_rfl)
  have hw1 : IntKind.wrap .u8 (3 : Int) = 3 := by decide
  have hw2 : IntKind.wrap .u8 (k : Int) = k := by rw [IntKind.wrap_u8]; omega
  have hw3 : IntKind.wrap .i64 (k : Int) = k := by rw [IntKind.wrap_i64]; omega
  rw [enter_at _ Try.func9 code9_is]
  simp only [Try.ntmps9, ez, Nat.reduceAdd, Nat.reduceSub]
  repeat (first | refine Walk.cx ?_ | (refine Walk.cReg ?_; simp only [z9]) | (refine Walk.oq ?_; try walk_nrm) | (refine Walk.un ?_; walk_nrm))
  refine Walk.callW (Post := fun v w' => v = .bool true ∧ (∀ b, b < w.heap.size → w'.heap[b]? = w.heap[b]?) ∧ w.heap.size ≤ w'.heap.size) ?_ (ho_of (by conv => lhs; whnf) (by kernel_rfl)) (by rfl) (by decide) rfl Try.func32 (by kernel_rfl) (by rfl) ?_
  · walk_nrm
    exact hwr
  rintro _ w1 ⟨rfl, o1, z1⟩
  clear hwr
  walk_nrm
  repeat (first | refine Walk.cx ?_ | (refine Walk.cReg ?_; simp only [z9]) | (refine Walk.oq ?_; try walk_nrm) | (refine Walk.un ?_; walk_nrm))
  have hnw : CallW Try.prog true (fun _ => none) 38 #[.int .i64 8, .int .i64 k] w1 (fun v w' => ∃ ob qb, v = .tuple #[.pointer (some ⟨ob, 0, none⟩), .int .i64 0] ∧ NwS w1 (w1.heap.size + 1) w1.heap.size 8 ob qb k k w' ∧ w1.heap.size ≤ ob ∧ w1.heap.size ≤ qb) := son_w 8 (k : Nat) ⟨by decide, by decide, by kernel_rfl⟩ (by omega) (by omega) w1 hA
  refine Walk.callW (Post := fun v w' => ∃ ob qb, v = .tuple #[.pointer (some ⟨ob, 0, none⟩), .int .i64 0] ∧ NwS w1 (w1.heap.size + 1) w1.heap.size 8 ob qb k k w' ∧ w1.heap.size ≤ ob ∧ w1.heap.size ≤ qb) ?_ (ho_of (by conv => lhs; whnf) (by kernel_rfl)) (by rfl) (by decide) rfl Try.func38 (by kernel_rfl) (by rfl) ?_
  · walk_nrm
    exact hnw
  rintro _ w2 ⟨ob, qb, rfl, E, lo1, lo2⟩
  clear hnw
  have hsz1 := osize_w (main := true) (V := fun _ => none) w2 E.I
  have hrd1 := oreaders_w (main := true) (V := fun _ => none) w2 E.I
  have hsh : ∀ b, soSh (w1.heap.size + 1) w1.heap.size ob qb b → b < w2.heap.size := fun b hb => E.I.lt hb
  have hz2 := E.size
  have ho2 := E.old
  have hp1 := fun w => run_eql_ptr (P := Try.prog) 76 undSolo (some ⟨ob, 0, none⟩) w
  have hp2 := fun w es => ev_eql_ptr (P := Try.prog) 76 undSolo (some ⟨ob, 0, none⟩) w es
  simp only [Option.isNone_some] at hp1
  have q1 : ((8 : Int) != 8) = false := by decide
  have q2 : ((k : Int) != (k : Int)) = false := by simp
  walk_nrm
  repeat (first | refine Walk.cx ?_ | (refine Walk.cReg ?_; simp only [z9]) | (refine Walk.oq ?_; try walk_nrm) | (refine Walk.un ?_; walk_nrm))
  refine Walk.callV (x := .int .i64 8) (W := w2) ?_ (ho_of (by conv => lhs; whnf) (by kernel_rfl)) (by rfl) (by decide) rfl Try.func39 (by kernel_rfl) (by rfl) ?_
  · walk_nrm
    exact hsz1
  clear hsz1
  walk_nrm
  repeat (first | refine Walk.cx ?_ | (refine Walk.cReg ?_; simp only [z9]) | (refine Walk.oq ?_; try walk_nrm) | (refine Walk.un ?_; walk_nrm))
  refine Walk.callV (x := .int .i64 k) (W := w2) ?_ (ho_of (by conv => lhs; whnf) (by kernel_rfl)) (by rfl) (by decide) rfl Try.func40 (by kernel_rfl) (by rfl) ?_
  · walk_nrm
    exact hrd1
  clear hrd1
  walk_nrm
  repeat (first | refine Walk.cx ?_ | (refine Walk.cReg ?_; simp only [z9]) | (refine Walk.oq ?_; try walk_nrm) | (refine Walk.un ?_; walk_nrm))
  refine Walk.make 24 (.tmp 66) (.tmp 66) (ho_of (by conv => lhs; whnf) (by kernel_rfl)) (by rfl) (by decide) rfl 3 _ (.int .i64 0) 1 8 (by kernel_rfl) hiI.symm (by rfl) (by rfl) (by rfl) k (by rfl) (by rfl) (by omega) (by omega) ?_
  walk_nrm
  simp only [Value.cells, Nat.mul_one, made_zero]
  have s3 : (w2.alloc (.cells ((List.replicate k (0 : Int)).map fun z => Value.int .i64 z).toArray 3)).heap.size = w2.heap.size + 1 := by simp
  have o3 : ∀ b, b < w2.heap.size → (w2.alloc (.cells ((List.replicate k (0 : Int)).map fun z => Value.int .i64 z).toArray 3)).heap[b]? = w2.heap[b]? := fun b hb => heap_new_lt _ _ hb
  have d3 := heap_alloc_new w2 (.cells ((List.replicate k (0 : Int)).map fun z => Value.int .i64 z).toArray 3)
  have I3 := E.I.old fun b hb => o3 b (hsh b hb)
  generalize hB : w2.heap.size = B at *
  generalize w2.alloc (.cells ((List.replicate k (0 : Int)).map fun z => Value.int .i64 z).toArray 3) = w3 at *
  have P3 : PlI w 8 k (w1.heap.size + 1) w1.heap.size ob qb B (B + 1) [] (fun _ => 0) (soJ 8 k) none 0 w3 := by
    refine ⟨I3, soM_new 8 k, ⟨rfl, .inl ⟨rfl, rfl⟩⟩, ⟨_, d3, fun i hi => ?_⟩, fun b hb => by rw [o3 b (by omega), ho2 b (by omega), o1 b hb], by omega, ⟨by omega, by omega, by omega⟩, fun b hb => ?_⟩
    · simp [hi]
    · have h1 := hsh b hb
      refine ⟨?_, by omega, by omega⟩
      rcases hb with rfl | rfl | rfl | rfl <;> omega
  clear E I3 o3 d3 hsh ho2 o1
  repeat (first | refine Walk.cx ?_ | (refine Walk.cReg ?_; simp only [z9]) | (refine Walk.oq ?_; try walk_nrm) | (refine Walk.un ?_; walk_nrm))
  refine Walk.ctl rfl (fun w => stepG_loop) ?_
  refine .stop fun d => ⟨ob, _, _, qb, B, B + 1, at_slots ?_, P3.at d⟩
  simp only [hdPa]
  rfl
theorem plain_in4 (sz rd : Int) (k : Nat) (hsz : sz.tmod 5 = 4) (hrd : rd.tmod 3 = k) (hk : k ≤ 2) (sa : Option Addr) (L sc : Nat) (w : World) :
    Walk Try.prog true (DR (fun _ => none)) (fun g w' => ∃ ob, BegP 16 k ob (.slice sa L sc) L w g w') (G (Frame.enter Try.prog 9 #[.int .u8 sz, .int .u8 rd, .slice sa L sc] .normal) []) w := by
  have hA : ∀ b, Apart (fun _ => none) b := fun b => ⟨fun _ _ _ _ h => (by cases h), fun _ _ h => (by cases h)⟩
  have hwr := writes_w (main := true) (V := fun _ => none) w hA
  have hiI := Option.some_get (show (Try.prog.info? 3).isSome = true by kernel_rfl)
  have hw1 : IntKind.wrap .u8 (4 : Int) = 4 := by decide
  have hw2 : IntKind.wrap .u8 (k : Int) = k := by rw [IntKind.wrap_u8]; omega
  have hw3 : IntKind.wrap .i64 (k : Int) = k := by rw [IntKind.wrap_i64]; omega
  rw [enter_at _ Try.func9 code9_is]
  simp only [Try.ntmps9, ez, Nat.reduceAdd, Nat.reduceSub]
  repeat (first | refine Walk.cx ?_ | (refine Walk.cReg ?_; simp only [z9]) | (refine Walk.oq ?_; try walk_nrm) | (refine Walk.un ?_; walk_nrm))
  refine Walk.callW (Post := fun v w' => v = .bool true ∧ (∀ b, b < w.heap.size → w'.heap[b]? = w.heap[b]?) ∧ w.heap.size ≤ w'.heap.size) ?_ (ho_of (by conv => lhs; whnf) (by kernel_rfl)) (by rfl) (by decide) rfl Try.func32 (by kernel_rfl) (by rfl) ?_
  · walk_nrm
    exact hwr
  rintro _ w1 ⟨rfl, o1, z1⟩
  clear hwr
  walk_nrm
  repeat (first | refine Walk.cx ?_ | (refine Walk.cReg ?_; simp only [z9]) | (refine Walk.oq ?_; try walk_nrm) | (refine Walk.un ?_; walk_nrm))
  have hnw : CallW Try.prog true (fun _ => none) 38 #[.int .i64 16, .int .i64 k] w1 (fun v w' => ∃ ob qb, v = .tuple #[.pointer (some ⟨ob, 0, none⟩), .int .i64 0] ∧ NwS w1 (w1.heap.size + 1) w1.heap.size 16 ob qb k k w' ∧ w1.heap.size ≤ ob ∧ w1.heap.size ≤ qb) := son_w 16 (k : Nat) ⟨by decide, by decide, by kernel_rfl⟩ (by omega) (by omega) w1 hA
  refine Walk.callW (Post := fun v w' => ∃ ob qb, v = .tuple #[.pointer (some ⟨ob, 0, none⟩), .int .i64 0] ∧ NwS w1 (w1.heap.size + 1) w1.heap.size 16 ob qb k k w' ∧ w1.heap.size ≤ ob ∧ w1.heap.size ≤ qb) ?_ (ho_of (by conv => lhs; whnf) (by kernel_rfl)) (by rfl) (by decide) rfl Try.func38 (by kernel_rfl) (by rfl) ?_
  · walk_nrm
    exact hnw
  rintro _ w2 ⟨ob, qb, rfl, E, lo1, lo2⟩
  clear hnw
  have hsz1 := osize_w (main := true) (V := fun _ => none) w2 E.I
  have hrd1 := oreaders_w (main := true) (V := fun _ => none) w2 E.I
  have hsh : ∀ b, soSh (w1.heap.size + 1) w1.heap.size ob qb b → b < w2.heap.size := fun b hb => E.I.lt hb
  have hz2 := E.size
  have ho2 := E.old
  have hp1 := fun w => run_eql_ptr (P := Try.prog) 76 undSolo (some ⟨ob, 0, none⟩) w
  have hp2 := fun w es => ev_eql_ptr (P := Try.prog) 76 undSolo (some ⟨ob, 0, none⟩) w es
  simp only [Option.isNone_some] at hp1
  have q1 : ((16 : Int) != 16) = false := by decide
  have q2 : ((k : Int) != (k : Int)) = false := by simp
  walk_nrm
  repeat (first | refine Walk.cx ?_ | (refine Walk.cReg ?_; simp only [z9]) | (refine Walk.oq ?_; try walk_nrm) | (refine Walk.un ?_; walk_nrm))
  refine Walk.callV (x := .int .i64 16) (W := w2) ?_ (ho_of (by conv => lhs; whnf) (by kernel_rfl)) (by rfl) (by decide) rfl Try.func39 (by kernel_rfl) (by rfl) ?_
  · walk_nrm
    exact hsz1
  clear hsz1
  walk_nrm
  repeat (first | refine Walk.cx ?_ | (refine Walk.cReg ?_; simp only [z9]) | (refine Walk.oq ?_; try walk_nrm) | (refine Walk.un ?_; walk_nrm))
  refine Walk.callV (x := .int .i64 k) (W := w2) ?_ (ho_of (by conv => lhs; whnf) (by kernel_rfl)) (by rfl) (by decide) rfl Try.func40 (by kernel_rfl) (by rfl) ?_
  · walk_nrm
    exact hrd1
  clear hrd1
  walk_nrm
  repeat (first | refine Walk.cx ?_ | (refine Walk.cReg ?_; simp only [z9]) | (refine Walk.oq ?_; try walk_nrm) | (refine Walk.un ?_; walk_nrm))
  refine Walk.make 24 (.tmp 66) (.tmp 66) (ho_of (by conv => lhs; whnf) (by kernel_rfl)) (by rfl) (by decide) rfl 3 _ (.int .i64 0) 1 8 (by kernel_rfl) hiI.symm (by rfl) (by rfl) (by rfl) k (by rfl) (by rfl) (by omega) (by omega) ?_
  walk_nrm
  simp only [Value.cells, Nat.mul_one, made_zero]
  have s3 : (w2.alloc (.cells ((List.replicate k (0 : Int)).map fun z => Value.int .i64 z).toArray 3)).heap.size = w2.heap.size + 1 := by simp
  have o3 : ∀ b, b < w2.heap.size → (w2.alloc (.cells ((List.replicate k (0 : Int)).map fun z => Value.int .i64 z).toArray 3)).heap[b]? = w2.heap[b]? := fun b hb => heap_new_lt _ _ hb
  have d3 := heap_alloc_new w2 (.cells ((List.replicate k (0 : Int)).map fun z => Value.int .i64 z).toArray 3)
  have I3 := E.I.old fun b hb => o3 b (hsh b hb)
  generalize hB : w2.heap.size = B at *
  generalize w2.alloc (.cells ((List.replicate k (0 : Int)).map fun z => Value.int .i64 z).toArray 3) = w3 at *
  have P3 : PlI w 16 k (w1.heap.size + 1) w1.heap.size ob qb B (B + 1) [] (fun _ => 0) (soJ 16 k) none 0 w3 := by
    refine ⟨I3, soM_new 16 k, ⟨rfl, .inl ⟨rfl, rfl⟩⟩, ⟨_, d3, fun i hi => ?_⟩, fun b hb => by rw [o3 b (by omega), ho2 b (by omega), o1 b hb], by omega, ⟨by omega, by omega, by omega⟩, fun b hb => ?_⟩
    · simp [hi]
    · have h1 := hsh b hb
      refine ⟨?_, by omega, by omega⟩
      rcases hb with rfl | rfl | rfl | rfl <;> omega
  clear E I3 o3 d3 hsh ho2 o1
  repeat (first | refine Walk.cx ?_ | (refine Walk.cReg ?_; simp only [z9]) | (refine Walk.oq ?_; try walk_nrm) | (refine Walk.un ?_; walk_nrm))
  refine Walk.ctl rfl (fun w => stepG_loop) ?_
  refine .stop fun d => ⟨ob, _, _, qb, B, B + 1, at_slots ?_, P3.at d⟩
  simp only [hdPa]
  rfl
end Go.Proofs.Ytcdcnmphjhfbpaa
