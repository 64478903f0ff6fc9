/- Part 13. -/
import Derived.Test.YtjenoiekfkhafaaJ11
import Derived.Test.YtjenoiekfkhafaaJ12
set_option linter.unusedSimpArgs false
set_option linter.unusedVariables false
set_option linter.unusedVariables false
set_option maxHeartbeats 8000000
set_option maxRecDepth 100000
namespace Go.Proofs.Ytjenoiekfkhafaa
open Go.Conc Go.RowKit Go.Relay
open Go.ConcN (upd upd_ne upd_same)
section
def NumB (w : World) (B : Nat) (xs : List Int) : Prop := w.heap[B]? = some (.cells (xs.map fun z => Value.int .i64 z).toArray 2)
theorem NumB.cell {w : World} {B : Nat} {xs : List Int} (h : NumB w B xs) {j : Nat} {z : Int} (hj : xs[j]? = some z) : w.cell? ⟨B, j, none⟩ = some (.int .i64 z) := by
  refine (cell_of h j).trans ?_
  simp [hj]
theorem NumB.frozen {w : World} {B : Nat} {xs : List Int} (h : NumB w B xs) (j : Nat) : w.frozen? ⟨B, j, none⟩ = false := frozen_of h j
theorem NumB.set {w : World} {B : Nat} {xs : List Int} (h : NumB w B xs) (j : Nat) (z : Int) : NumB (w.setCell ⟨B, j, none⟩ (.int .i64 z)) B (xs.set j z) := by
  unfold NumB
  rw [heap_set_self _ _ h]
  simp [List.map_set]
theorem NumB.same {w w' : World} {B : Nat} {xs : List Int} (h : NumB w B xs) (hb : w'.heap[B]? = w.heap[B]?) : NumB w' B xs := hb.trans h
theorem NumB.lt {w : World} {B : Nat} {xs : List Int} (h : NumB w B xs) : B < w.heap.size := (Array.getElem?_eq_some_iff.1 h).1
theorem NumB.row {w : World} {B : Nat} {xs : List Int} (h : NumB w B xs) {base : Nat} (hb : base ≤ B) (hn : xs.length ≤ maxLen) : w.ownsRow base 2 1 (.slice (some ⟨B, 0, none⟩) xs.length xs.length) xs.length (xs.map fun z => .int .i64 z) :=
  ⟨by simp, .inr ⟨B, xs.length, _, rfl, hb, h, Nat.le_refl _, hn, by simp, by simpa using List.take_of_length_le (by simp)⟩⟩
theorem NumB.lsR {w : World} {B : Nat} {xs : List Int} (h : NumB w B xs) : LsR (.slice (some ⟨B, 0, none⟩) xs.length xs.length) xs w :=
  ⟨_, _, rfl, Nat.le_refl _, fun e => (by cases e), fun j z hj => ⟨B, 0, rfl, by rw [Nat.zero_add]; exact h.cell hj⟩⟩
theorem made_zero (n : Nat) : madeCells #[Value.int .i64 0] n = ((List.replicate n (0 : Int)).map fun z => Value.int .i64 z).toArray := by
  apply Array.ext'
  rw [toList_madeCells_one]
  simp
def padL (l : List Int) (n : Nat) : List Int := l ++ List.replicate (n - l.length) 0
theorem padL_len {l : List Int} {n : Nat} (h : l.length ≤ n) : (padL l n).length = n := by simp [padL]; omega
theorem padL_full {l : List Int} {n : Nat} (h : l.length = n) : padL l n = l := by simp [padL, h]
theorem padL_set {l : List Int} {n : Nat} (h : l.length < n) (v : Int) : (padL l n).set l.length v = padL (l ++ [v]) n := by
  unfold padL
  obtain ⟨m, hm⟩ : ∃ m, n - l.length = m + 1 := ⟨n - l.length - 1, by omega⟩
  have hm2 : n - (l ++ [v]).length = m := by simp; omega
  rw [hm, hm2, List.replicate_succ, List.set_append_right _ _ (Nat.le_refl _)]
  simp
theorem range_snoc (f : Nat → Int) (j : Nat) : (List.range (j + 1)).map f = (List.range j).map f ++ [f j] := by simp [List.range_succ]
theorem ix_word (lb j : Nat) (hj : j < 16) (w : World) (es : Array Event) : (Instr.indexAt 73 (.pointer (some ⟨lb, 1, none⟩)) (.int .i64 j)).run Try.prog w = .ok (.pointer (some ⟨lb, 1 + j, none⟩)) w ∧ (Instr.indexAt 73 (.pointer (some ⟨lb, 1, none⟩)) (.int .i64 j)).events Try.prog w es = es := by
  have hu : Try.prog.underlying 73 = some (.array 16 72) := by kernel_rfl
  have h0 : (0 : Int) ≤ j := by omega
  have h1 : (j : Int) < 16 := by omega
  refine ⟨?_, events_indexAt_array _ _ 16 _ _ _ hu ⟨h0, h1⟩⟩
  have hs : (Try.prog.info? 72).map (·.size) = some 1 := by kernel_rfl
  cases hq : Try.prog.info? 72 with
  | none => simp [hq] at hs
  | some i =>
    have hi : i.size = 1 := by simpa [hq] using hs
    simp [Instr.indexAt, Instr.sureAddr, run_underlying hu, asIntOf, h1, hj, sizeOf, typeInfo, hq, hi, Addr.add]
theorem undLock : Try.prog.underlying 35 = some (.pointer 75) := by kernel_rfl
noncomputable def reg17_0 := rg Try.f17.body [0]
noncomputable def reg17_1 := rg Try.f17.body [1, 0, 0]
noncomputable def reg17_2 := rg Try.f17.body [1, 0, 1, 0, 0]
noncomputable def reg17_3 := rg Try.f17.body [1, 1, 0]
theorem z17 : List.range reg17_0.size = [0] ∧ List.range reg17_1.size = [0, 1] ∧ List.range reg17_2.size = [0] ∧ List.range reg17_3.size = [0, 1, 2, 3, 4, 5] := by refine ⟨?_, ?_, ?_, ?_⟩ <;> kernel_rfl
theorem code17_is : Try.f17.body = some (.seq (.region 0 reg17_0 false) (.seq (.seq (.region 1 reg17_1 false) (.cond (.tmp 4 ) (.seq (.region 2 reg17_2 false) (.ret)) (.skip))) (.seq (.region 3 reg17_3 false) (.ret)))) := by kernel_rfl
noncomputable def reg45_0 := rg Try.f45.body [0]
noncomputable def reg45_1 := rg Try.f45.body [1, 0]
theorem z45 : List.range reg45_0.size = [0] ∧ List.range reg45_1.size = [0, 1, 2, 3] := by refine ⟨?_, ?_⟩ <;> kernel_rfl
theorem code45_is : Try.f45.body = some (.seq (.region 0 reg45_0 false) (.seq (.region 1 reg45_1 false) (.ret))) := by kernel_rfl
noncomputable def reg47_0 := rg Try.f47.body [0]
noncomputable def reg47_1 := rg Try.f47.body [1, 0]
theorem z47 : List.range reg47_0.size = [0] ∧ List.range reg47_1.size = [0, 1, 2, 3] := by refine ⟨?_, ?_⟩ <;> kernel_rfl
theorem code47_is : Try.f47.body = some (.seq (.region 0 reg47_0 false) (.seq (.region 1 reg47_1 false) (.ret))) := by kernel_rfl
noncomputable def reg38_0 := rg Try.f38.body [0]
noncomputable def reg38_1 := rg Try.f38.body [1, 0]
noncomputable def reg38_2 := rg Try.f38.body [1, 1, 0]
noncomputable def reg38_3 := rg Try.f38.body [1, 1, 1, 0]
theorem z38 : List.range reg38_0.size = [0] ∧ List.range reg38_1.size = [0, 1, 2, 3] ∧ List.range reg38_2.size = [0, 1, 2] ∧ List.range reg38_3.size = [0, 1] := by refine ⟨?_, ?_, ?_, ?_⟩ <;> kernel_rfl
theorem code38_is : Try.f38.body = some (.seq (.region 0 reg38_0 false) (.seq (.region 1 reg38_1 false) (.seq (.region 2 reg38_2 false) (.seq (.region 3 reg38_3 false) (.ret))))) := by kernel_rfl
noncomputable def reg51_0 := rg Try.f51.body [0]
noncomputable def reg51_1 := rg Try.f51.body [1, 0]
noncomputable def reg51_2 := rg Try.f51.body [1, 1, 0, 0]
noncomputable def reg51_3 := rg Try.f51.body [1, 1, 0, 1, 0, 0, 0]
noncomputable def reg51_4 := rg Try.f51.body [1, 1, 0, 1, 0, 0, 1, 1, 0, 0, 0]
noncomputable def reg51_5 := rg Try.f51.body [1, 1, 0, 1, 0, 0, 1, 1, 0, 0, 1]
noncomputable def reg51_6 := rg Try.f51.body [1, 1, 0, 1, 0, 0, 1, 1, 1]
noncomputable def reg51_7 := rg Try.f51.body [1, 1, 1, 0]
theorem z51 : List.range reg51_0.size = [0, 1] ∧ List.range reg51_1.size = [0, 1, 2, 3] ∧ List.range reg51_2.size = [0, 1, 2] ∧ List.range reg51_3.size = [0] ∧ List.range reg51_4.size = [0, 1] ∧ List.range reg51_5.size = [0, 1, 2, 3, 4, 5, 6, 7, 8, 9, 10] ∧ List.range reg51_6.size = [0, 1] ∧ List.range reg51_7.size = [0, 1] := by refine ⟨?_, ?_, ?_, ?_, ?_, ?_, ?_, ?_⟩ <;> kernel_rfl
theorem code51_is : Try.f51.body = some (.seq (.region 0 reg51_0 false) (.seq (.region 1 reg51_1 false) (.seq (.seq (.region 2 reg51_2 false) (.block 0 (.loop (.seq (.region 3 reg51_3 false) (.seq (.cond (.tmp 13 ) (.skip) (.exit 0)) (.seq (.block 1 (.seq (.region 4 reg51_4 false) (.region 5 reg51_5 false))) (.region 6 reg51_6 false))))))) (.seq (.region 7 reg51_7 false) (.ret))))) := by kernel_rfl
noncomputable def hdVal (lb X N n j : Nat) (u : Nat → Value) : Frame :=
  (base 51).at { tmps := #[.pointer (some ⟨lb, 0, none⟩), u 1, u 2, .pointer (some ⟨X, 0, none⟩), u 4, .slice (some ⟨N, 0, none⟩) n n, u 6, u 7, u 8, u 9, u 10, .int .i64 n, .int .i64 j, u 13, u 14, u 15, u 16, u 17, u 18, u 19, u 20, u 21, u 22, u 23, u 24, u 25, u 26], defers := [] } [.code (.seq (.region 3 reg51_3 false) (.seq (.cond (.tmp 13 ) (.skip) (.exit 0)) (.seq (.block 1 (.seq (.region 4 reg51_4 false) (.region 5 reg51_5 false))) (.region 6 reg51_6 false)))), .inLoop (.seq (.region 3 reg51_3 false) (.seq (.cond (.tmp 13 ) (.skip) (.exit 0)) (.seq (.block 1 (.seq (.region 4 reg51_4 false) (.region 5 reg51_5 false))) (.region 6 reg51_6 false)))), .inBlock 0, .code (.seq (.region 7 reg51_7 false) (.ret))]
section
variable {main : Bool} {V : Nat → Option Wait} {lb k : Nat} {s : Sq}
theorem len_w (w : World) (I : SqI lb k s w) : CallV Try.prog main V 17 #[.pointer (some ⟨lb, 0, none⟩)] w (.int .i64 ((k : Int) + 1)) w := by
  have hk := I.pos
  have c1 := I.rdM
  have hp1 := fun w => run_eql_ptr (P := Try.prog) 35 undLock (some ⟨lb, 0, none⟩) w
  have hp2 := fun w es => ev_eql_ptr (P := Try.prog) 35 undLock (some ⟨lb, 0, none⟩) w es
  have hw : IntKind.i64.wrap (1 + (k : Int)) = (k : Int) + 1 := by rw [IntKind.wrap_i64]; omega
  simp only [Option.isNone_some] at hp1
  clear I
  refine callW_in Try.func17 code17_is fun fr cs => ?_
  simp only [Try.ntmps17, ez, Nat.reduceAdd, Nat.reduceSub]
  repeat (first | refine Walk.cx ?_ | (refine Walk.cReg ?_; simp only [z17]) | (refine Walk.oq ?_; try walk_nrm) | (refine Walk.un ?_; walk_nrm))
  exact Walk.ret1 rfl rfl Try.func17 rfl fun d => ⟨rfl, d, rfl⟩
theorem within_w (a : Int) (w : World) : CallV Try.prog main V 45 #[.int .i64 a] w (.int .i64 (sqTr a : Nat)) w := by
  have hmn := @events_min_ints Try.prog
  have hmx := @events_max_ints Try.prog
  have hmin : min (max a 1) 1024 = ((sqTr a : Nat) : Int) := by unfold sqTr; omega
  refine callW_in Try.func45 code45_is fun fr cs => ?_
  simp only [Try.ntmps45, ez, Nat.reduceAdd, Nat.reduceSub]
  repeat (first | refine Walk.cx ?_ | (refine Walk.cReg ?_; simp only [z45]) | (refine Walk.oq ?_; try walk_nrm) | (refine Walk.un ?_; walk_nrm))
  exact Walk.ret1 rfl rfl Try.func45 rfl fun d => ⟨by simp [hmin], d, rfl⟩
theorem odd_w (v : Int) (w : World) : CallV Try.prog main V 47 #[.int .i64 v] w (.bool (decide (sqOdd v))) w := by
  have ho : (decide (sqOdd v)) = !(v.tmod 2 == 0) := by
    unfold sqOdd
    by_cases h : v.tmod 2 = 0 <;> simp [h]
  rw [ho]
  refine callW_in Try.func47 code47_is fun fr cs => ?_
  simp only [Try.ntmps47, ez, Nat.reduceAdd, Nat.reduceSub]
  repeat (first | refine Walk.cx ?_ | (refine Walk.cReg ?_; simp only [z47]) | (refine Walk.oq ?_; try walk_nrm) | (refine Walk.un ?_; walk_nrm))
  exact Walk.ret1 rfl rfl Try.func47 rfl fun d => ⟨by simp [bne], d, rfl⟩
def NewNum (xs : List Int) (w : World) (v : Value) (w' : World) : Prop := ∃ B, v = .slice (some ⟨B, 0, none⟩) xs.length xs.length ∧ w.heap.size ≤ B ∧ B < w'.heap.size ∧ NumB w' B xs ∧ (∀ b, b < w.heap.size → w'.heap[b]? = w.heap[b]?) ∧ w.heap.size ≤ w'.heap.size
theorem whole_w (w : World) (I : SqI lb k s w) (sl : Value) (vs : List Int) (hl : LsR sl vs w) (hA : ∀ b, w.heap.size ≤ b → Apart V b) : CallW Try.prog main V 38 #[.pointer (some ⟨lb, 0, none⟩), sl] w (NewNum (padL (vs.take (k + 1)) (k + 1)) w) := by
  obtain ⟨sa, sc, rfl, hc, hnn, hcells⟩ := hl
  have hk := I.pos
  have hlen := len_w (main := main) (V := V) w I
  have hi1 := Option.some_get (show (Try.prog.info? 2).isSome = true by kernel_rfl)
  have hpl : (padL (vs.take (k + 1)) (k + 1)).length = k + 1 := padL_len (by simp; omega)
  have hcc : ((k : Int) + 1) = ((k + 1 : Nat) : Int) := by simp
  rw [hcc] at hlen
  have hn17 : k + 1 ≤ 16 := by omega
  have hn0 : 0 < k + 1 := by omega
  clear hcc I hk
  generalize k + 1 = n at *
  refine callW_in Try.func38 code38_is fun fr cs => ?_
  simp only [Try.ntmps38, ez, Nat.reduceAdd, Nat.reduceSub]
  repeat (first | refine Walk.cx ?_ | (refine Walk.cReg ?_; simp only [z38]) | (refine Walk.oq ?_; try walk_nrm) | (refine Walk.un ?_; walk_nrm))
  refine Walk.callV (x := .int .i64 (n : Int)) (W := w) ?_ (ho_of (by conv => lhs; whnf) (by kernel_rfl)) (by rfl) (by decide) rfl Try.func17 (by kernel_rfl) (by rfl) ?_
  · walk_nrm
    exact hlen
  walk_nrm
  repeat (first | refine Walk.cx ?_ | (refine Walk.cReg ?_; simp only [z38]) | (refine Walk.oq ?_; try walk_nrm) | (refine Walk.un ?_; walk_nrm))
  refine Walk.make 22 (.tmp 7) (.tmp 7) (ho_of (by conv => lhs; whnf) (by kernel_rfl)) (by rfl) (by decide) rfl 2 _ (.int .i64 0) 1 8 (by kernel_rfl) hi1.symm (by rfl) (by rfl) (by rfl) n (by rfl) (by rfl) (by omega) (by omega) ?_
  walk_nrm
  simp only [Value.cells, Nat.mul_one, made_zero]
  have s1 : (w.alloc (.cells ((List.replicate n (0 : Int)).map fun z => Value.int .i64 z).toArray 2)).heap.size = w.heap.size + 1 := by simp
  have o1 : ∀ b, b < w.heap.size → (w.alloc (.cells ((List.replicate n (0 : Int)).map fun z => Value.int .i64 z).toArray 2)).heap[b]? = w.heap[b]? := fun b hb => heap_new_lt _ _ hb
  have d1 := heap_alloc_new w (.cells ((List.replicate n (0 : Int)).map fun z => Value.int .i64 z).toArray 2)
  have hcells1 : ∀ (j : Nat) (z : Int), vs[j]? = some z → ∃ ad, sa = some ad ∧ (w.alloc (.cells ((List.replicate n (0 : Int)).map fun z => Value.int .i64 z).toArray 2)).cell? (ad.add j) = some (.int .i64 z) := fun j z hj => by
    obtain ⟨b, off, e, h⟩ := hcells j z hj
    refine ⟨_, e, ?_⟩
    rw [add_none]
    exact cell_alloc w _ h
  have hap := hA w.heap.size (Nat.le_refl _)
  generalize hN : w.heap.size = N at *
  generalize w.alloc (.cells ((List.replicate n (0 : Int)).map fun z => Value.int .i64 z).toArray 2) = w1 at *
  repeat (first | refine Walk.cx ?_ | (refine Walk.cReg ?_; simp only [z38]) | (refine Walk.oq ?_; try walk_nrm) | (refine Walk.un ?_; walk_nrm))
  refine Walk.copy (.tmp 9) (.tmp 10) 22 22 2 (ho_of (by conv => lhs; whnf) (by kernel_rfl)) (by rfl) (by decide) rfl huI64s (by kernel_rfl) N n n sa vs.length sc _ 2 ((vs.take n).map fun z => .int .i64 z) rfl rfl d1 (by simp [Nat.min_comm]) (fun e => ⟨by have := hnn e; omega, hnn e⟩) (fun j v hj => ?_) (by simp; omega) (fun v hv => ?_) hap ?_
  · rw [List.getElem?_map, Option.map_eq_some_iff] at hj
    obtain ⟨z, hz, rfl⟩ := hj
    refine hcells1 j z ?_
    rw [List.getElem?_take] at hz
    split at hz
    · exact hz
    · cases hz
  · obtain ⟨z, _, rfl⟩ := List.mem_map.1 hv
    rfl
  have d2 := setRow_self (cells := (((vs.take n).map fun z => Value.int .i64 z) ++ (((List.replicate n (0 : Int)).map fun z => Value.int .i64 z).toArray).toList.drop (((vs.take n).map fun z => Value.int .i64 z)).length).toArray) d1
  have hrow : ((((vs.take n).map fun z => Value.int .i64 z) ++ (((List.replicate n (0 : Int)).map fun z => Value.int .i64 z).toArray).toList.drop (((vs.take n).map fun z => Value.int .i64 z)).length).toArray) = ((padL (vs.take n) n).map fun z => Value.int .i64 z).toArray := by
    simp [padL]
  have o2 : ∀ b, b < N → (w1.setRow N ((((vs.take n).map fun z => Value.int .i64 z) ++ (((List.replicate n (0 : Int)).map fun z => Value.int .i64 z).toArray).toList.drop (((vs.take n).map fun z => Value.int .i64 z)).length).toArray)).heap[b]? = w.heap[b]? := fun b hb => (setRow_other _ _ (by omega)).trans (o1 b hb)
  have s2 := setRow_size w1 N ((((vs.take n).map fun z => Value.int .i64 z) ++ (((List.replicate n (0 : Int)).map fun z => Value.int .i64 z).toArray).toList.drop (((vs.take n).map fun z => Value.int .i64 z)).length).toArray)
  rw [hrow] at d2 o2 s2 ⊢
  generalize w1.setRow N ((padL (vs.take n) n).map fun z => Value.int .i64 z).toArray = w2 at *
  walk_nrm
  repeat (first | refine Walk.cx ?_ | (refine Walk.cReg ?_; simp only [z38]) | (refine Walk.oq ?_; try walk_nrm) | (refine Walk.un ?_; walk_nrm))
  exact Walk.ret1 rfl rfl Try.func38 rfl fun d => ⟨N, by rw [hpl]; rfl, by omega, show N < w2.heap.size by omega, d2, fun b hb => o2 b (by omega), show w.heap.size ≤ w2.heap.size by omega⟩
end
end
section
section
variable {main : Bool} {V : Nat → Option Wait} {lb k : Nat} {s : Sq}
structure ValI (w0 : World) (X N n : Nat) (o : OpV) (j : Nat) (w : World) : Prop where
  op : w.heap[X]? = some (.cells #[.int .i64 o.k, .int .i64 o.a, .int .i64 o.b, .int .i64 o.c] 47)
  num : NumB w N (padL ((List.range j).map (sqVal o)) n)
  old : ∀ b, b < w0.heap.size → w.heap[b]? = w0.heap[b]?
  lo : w0.heap.size ≤ X ∧ X < N ∧ N < w.heap.size ∧ w0.heap.size ≤ N
theorem ValI.at {w0 : World} {X N n : Nat} {o : OpV} {j : Nat} {w : World} (h : ValI w0 X N n o j w) (d : Nat) : ValI w0 X N n o j (w.at d) := ⟨h.op, h.num, h.old, h.lo⟩
theorem val_in (o : OpV) (w : World) (I : SqI lb k s w) (hA : ∀ b, w.heap.size ≤ b → Apart V b) (cs : List Frame) :
    Walk Try.prog main (DR V) (fun g w' => (∃ u, g = G (hdVal lb w.heap.size (w.heap.size + 1) (k + 1) 0 u) cs) ∧ ValI w w.heap.size (w.heap.size + 1) (k + 1) o 0 w') (G (Frame.enter Try.prog 51 #[.pointer (some ⟨lb, 0, none⟩), opVal o] .normal) cs) w := by
  have hk := I.pos
  have hi1 := Option.some_get (show (Try.prog.info? 2).isSome = true by kernel_rfl)
  have hlen : ∀ w' : World, w'.heap[lb]? = w.heap[lb]? → CallV Try.prog main V 17 #[.pointer (some ⟨lb, 0, none⟩)] w' (.int .i64 ((k + 1 : Nat) : Int)) w' := fun w' h => by
    have := len_w (main := main) (V := V) w' (I.old h)
    have hcc : ((k : Int) + 1) = ((k + 1 : Nat) : Int) := by simp
    rwa [hcc] at this
  have hlt := I.lt
  have hn17 : k + 1 ≤ 16 := by omega
  have hn0 : 0 < k + 1 := by omega
  clear I hk
  generalize k + 1 = n at *
  obtain ⟨ok, oa, ob, oc⟩ := o
  simp only [opVal]
  rw [enter_at _ Try.func51 code51_is]
  simp only [Try.ntmps51, ez, Nat.reduceAdd, Nat.reduceSub]
  repeat (first | refine Walk.cx ?_ | (refine Walk.cReg ?_; simp only [z51]) | (refine Walk.oq ?_; try walk_nrm) | (refine Walk.un ?_; walk_nrm))
  (refine Walk.oa ?_; try walk_nrm)
  have s0 : (w.alloc (.cells #[.int .i64 ok, .int .i64 oa, .int .i64 ob, .int .i64 oc] 47)).heap.size = w.heap.size + 1 := by simp
  have o0 : ∀ b, b < w.heap.size → (w.alloc (.cells #[.int .i64 ok, .int .i64 oa, .int .i64 ob, .int .i64 oc] 47)).heap[b]? = w.heap[b]? := fun b hb => heap_new_lt _ _ hb
  have d0 := heap_alloc_new w (.cells #[.int .i64 ok, .int .i64 oa, .int .i64 ob, .int .i64 oc] 47)
  generalize hX : w.heap.size = X at *
  generalize w.alloc (.cells #[.int .i64 ok, .int .i64 oa, .int .i64 ob, .int .i64 oc] 47) = w1 at *
  repeat (first | refine Walk.cx ?_ | (refine Walk.cReg ?_; simp only [z51]) | (refine Walk.oq ?_; try walk_nrm) | (refine Walk.un ?_; walk_nrm))
  refine Walk.callV (x := .int .i64 (n : Int)) (W := w1) ?_ (ho_of (by conv => lhs; whnf) (by kernel_rfl)) (by rfl) (by decide) rfl Try.func17 (by kernel_rfl) (by rfl) ?_
  · walk_nrm
    exact hlen w1 (o0 lb (by omega))
  walk_nrm
  repeat (first | refine Walk.cx ?_ | (refine Walk.cReg ?_; simp only [z51]) | (refine Walk.oq ?_; try walk_nrm) | (refine Walk.un ?_; walk_nrm))
  refine Walk.make 22 (.tmp 8) (.tmp 8) (ho_of (by conv => lhs; whnf) (by kernel_rfl)) (by rfl) (by decide) rfl 2 _ (.int .i64 0) 1 8 (by kernel_rfl) hi1.symm (by rfl) (by rfl) (by rfl) n (by rfl) (by rfl) (by omega) (by omega) ?_
  walk_nrm
  simp only [Value.cells, Nat.mul_one, made_zero]
  have s1 : (w1.alloc (.cells ((List.replicate n (0 : Int)).map fun z => Value.int .i64 z).toArray 2)).heap.size = X + 2 := by simp; omega
  have o1 : ∀ b, b < X + 1 → (w1.alloc (.cells ((List.replicate n (0 : Int)).map fun z => Value.int .i64 z).toArray 2)).heap[b]? = w1.heap[b]? := fun b hb => heap_new_lt _ _ (by omega)
  have d1 := heap_alloc_new w1 (.cells ((List.replicate n (0 : Int)).map fun z => Value.int .i64 z).toArray 2)
  rw [s0] at d1
  try simp only [s0]
  generalize w1.alloc (.cells ((List.replicate n (0 : Int)).map fun z => Value.int .i64 z).toArray 2) = w2 at *
  repeat (first | refine Walk.cx ?_ | (refine Walk.cReg ?_; simp only [z51]) | (refine Walk.oq ?_; try walk_nrm) | (refine Walk.un ?_; walk_nrm))
  refine Walk.ctl rfl (fun w => stepG_loop) ?_
  refine .stop fun d => ⟨at_slots ?_, ValI.at (o := ⟨ok, oa, ob, oc⟩) (j := 0) (n := n) (N := X + 1) (X := X) ⟨(o1 X (by omega)).trans d0, (show NumB w2 (X + 1) (padL ((List.range 0).map (sqVal ⟨ok, oa, ob, oc⟩)) n) from d1), fun b hb => (o1 b (by omega)).trans (o0 b (by omega)), by omega, by omega, by omega, by omega⟩ d⟩
  simp only [hdVal]
  rfl
theorem val_go (o : OpV) (X N n j : Nat) (hn17 : n ≤ 16) (hj : j < n) (u : Nat → Value) (cs : List Frame) (w0 w : World) (M : ValI w0 X N n o j w) (hA : ∀ b, w0.heap.size ≤ b → Apart V b) :
    Walk Try.prog main (DR V) (fun g w' => (∃ u, g = G (hdVal lb X N n (j + 1) u) cs) ∧ ValI w0 X N n o (j + 1) w') (G (hdVal lb X N n j u) cs) w := by
  obtain ⟨hop, hnum, hold, hlo⟩ := M
  have hap := hA N hlo.2.2.2
  have c2 := (cell_of hop 2).trans rfl
  have c3 := (cell_of hop 3).trans rfl
  have hl : ((List.range j).map (sqVal o)).length = j := by simp
  have c5 := hnum.cell (j := j) (z := 0) (by
    unfold padL
    rw [List.getElem?_append_right (by omega), hl, Nat.sub_self, List.getElem?_replicate, if_pos (by omega)])
  have z5 := hnum.frozen j
  have f5 := hap.1 ⟨N, j, none⟩ rfl
  have hi0 : (0 : Int) ≤ j := by omega
  have hi1 : decide ((j : Int) < n) = true := by simp; omega
  have hi2 : decide (n ≤ j) = false := by simp; omega
  have hi3 : decide (j < n) = true := by simp; omega
  have hw1 : IntKind.wrap .i64 ((j : Int) + 1) = (j : Int) + 1 := by rw [IntKind.wrap_i64]; omega
  have hw2 : IntKind.wrap .i64 (j : Int) = (j : Int) := by rw [IntKind.wrap_i64]; omega
  have hv : sqVal o j = IntKind.i64.wrap (o.b + IntKind.i64.wrap ((j : Int) * o.c)) := rfl
  have hset := hnum.set j (sqVal o j)
  have hs6 := size_set w ⟨N, j, none⟩ (.int .i64 (sqVal o j))
  have o6 : ∀ b, b ≠ N → (w.setCell ⟨N, j, none⟩ (.int .i64 (sqVal o j))).heap[b]? = w.heap[b]? := fun b hb => heap_set_other _ _ _ _ hb
  have hpd := padL_set (l := (List.range j).map (sqVal o)) (n := n) (by omega) (sqVal o j)
  rw [hl, ← range_snoc] at hpd
  rw [hpd] at hset
  rw [hv] at hset hs6 o6
  clear hv hpd hnum
  unfold hdVal
  repeat (first | refine Walk.cx ?_ | (refine Walk.cReg ?_; simp only [z51]) | (refine Walk.oq ?_; try walk_nrm) | (refine Walk.un ?_; walk_nrm))
  (refine Walk.os f5 c5 ?_; try walk_nrm)
  generalize w.setCell ⟨N, j, none⟩ (.int .i64 (IntKind.i64.wrap (o.b + IntKind.i64.wrap ((j : Int) * o.c)))) = w6 at *
  repeat (first | refine Walk.cx ?_ | (refine Walk.cReg ?_; simp only [z51]) | (refine Walk.oq ?_; try walk_nrm) | (refine Walk.un ?_; walk_nrm))
  refine Walk.ctl rfl (fun w => stepG_inLoop) ?_
  refine .stop fun d => ⟨at_slots ?_, ValI.at ⟨(o6 X (by omega)).trans hop, hset, fun b hb => (o6 b (by omega)).trans (hold b hb), by omega, by omega, by omega, by omega⟩ d⟩
  have hc : ((j + 1 : Nat) : Int) = (j : Int) + 1 := by simp
  simp only [hdVal, hc]
  rfl
theorem val_end (X N n : Nat) (u : Nat → Value) (c : Frame) (cs : List Frame) (w : World) :
    Walk Try.prog main (DR V) (fun g w' => g = G (c.finish (.slice (some ⟨N, 0, none⟩) n n)) cs ∧ ∃ d, w' = w.at d) (G (hdVal lb X N n n u) (c :: cs)) w := by
  unfold hdVal
  repeat (first | refine Walk.cx ?_ | (refine Walk.cReg ?_; simp only [z51]) | (refine Walk.oq ?_; try walk_nrm) | (refine Walk.un ?_; walk_nrm))
  exact Walk.on1 rfl rfl Try.func51 rfl (.stop fun d => ⟨rfl, d, rfl⟩)
theorem values_w (o : OpV) (w : World) (I : SqI lb k s w) (hA : ∀ b, w.heap.size ≤ b → Apart V b) : CallW Try.prog main V 51 #[.pointer (some ⟨lb, 0, none⟩), opVal o] w (NewNum ((List.range (k + 1)).map (sqVal o)) w) := by
  intro c cs
  have hk := I.pos
  refine (val_in o w I hA (c :: cs)).then ?_
  rintro g w1 ⟨⟨u, rfl⟩, M⟩
  have loop : ∀ (r i : Nat) (u : Nat → Value) (w1 : World), i + r = k + 1 → ValI w w.heap.size (w.heap.size + 1) (k + 1) o i w1 →
      Walk Try.prog main (DR V) (fun g w' => ∃ v, NewNum ((List.range (k + 1)).map (sqVal o)) w v w' ∧ g = G (c.finish v) cs) (G (hdVal lb w.heap.size (w.heap.size + 1) (k + 1) i u) (c :: cs)) w1 := by
    intro r
    induction r with
    | zero =>
      intro i u w1 hi M
      obtain rfl : i = k + 1 := hi
      refine (val_end _ _ _ u c cs w1).mono ?_
      rintro g w' ⟨rfl, d, rfl⟩
      refine ⟨_, ⟨w.heap.size + 1, ?_, by omega, M.lo.2.2.1, ?_, M.old, by have := M.lo; show w.heap.size ≤ w1.heap.size; omega⟩, rfl⟩
      · simp
      · have := M.num
        rw [padL_full (by simp)] at this
        exact this
    | succ r ih =>
      intro i u w1 hi M
      refine (val_go o _ _ (k + 1) i (by omega) (by omega) u (c :: cs) w w1 M hA).then ?_
      rintro g w' ⟨⟨u', rfl⟩, M'⟩
      exact ih (i + 1) u' w' (by omega) M'
  exact loop (k + 1) 0 u w1 (by omega) M
end
end
section
noncomputable def reg30_0 := rg Try.f30.body [0]
noncomputable def reg30_1 := rg Try.f30.body [1, 0, 0]
noncomputable def reg30_2 := rg Try.f30.body [1, 0, 1, 0, 0]
noncomputable def reg30_3 := rg Try.f30.body [1, 1, 0]
noncomputable def reg30_4 := rg Try.f30.body [1, 1, 1, 0]
theorem z30 : List.range reg30_0.size = [0, 1] ∧ List.range reg30_1.size = [0, 1] ∧ List.range reg30_2.size = [0, 1] ∧ List.range reg30_3.size = [0, 1, 2, 3, 4, 5] ∧ List.range reg30_4.size = [0, 1, 2, 3, 4, 5] := by refine ⟨?_, ?_, ?_, ?_, ?_⟩ <;> kernel_rfl
theorem code30_is : Try.f30.body = some (.seq (.region 0 reg30_0 false) (.seq (.seq (.region 1 reg30_1 false) (.cond (.tmp 10 ) (.seq (.region 2 reg30_2 false) (.ret)) (.skip))) (.seq (.region 3 reg30_3 false) (.seq (.region 4 reg30_4 false) (.ret))))) := by kernel_rfl
noncomputable def reg31_0 := rg Try.f31.body [0]
noncomputable def reg31_1 := rg Try.f31.body [1, 0]
noncomputable def reg31_2 := rg Try.f31.body [1, 1, 0, 0]
noncomputable def reg31_3 := rg Try.f31.body [1, 1, 0, 1, 0, 0, 0]
noncomputable def reg31_4 := rg Try.f31.body [1, 1, 0, 1, 0, 0, 1, 1, 0, 0, 0]
noncomputable def reg31_5 := rg Try.f31.body [1, 1, 0, 1, 0, 0, 1, 1, 0, 0, 1]
noncomputable def reg31_6 := rg Try.f31.body [1, 1, 0, 1, 0, 0, 1, 1, 1]
noncomputable def reg31_7 := rg Try.f31.body [1, 1, 1, 0]
theorem z31 : List.range reg31_0.size = [0] ∧ List.range reg31_1.size = [0, 1, 2, 3] ∧ List.range reg31_2.size = [0, 1, 2] ∧ List.range reg31_3.size = [0] ∧ List.range reg31_4.size = [0, 1] ∧ List.range reg31_5.size = [0, 1, 2, 3, 4, 5, 6, 7, 8, 9, 10] ∧ List.range reg31_6.size = [0, 1] ∧ List.range reg31_7.size = [0, 1] := by refine ⟨?_, ?_, ?_, ?_, ?_, ?_, ?_, ?_⟩ <;> kernel_rfl
theorem code31_is : Try.f31.body = some (.seq (.region 0 reg31_0 false) (.seq (.region 1 reg31_1 false) (.seq (.seq (.region 2 reg31_2 false) (.block 0 (.loop (.seq (.region 3 reg31_3 false) (.seq (.cond (.tmp 13 ) (.skip) (.exit 0)) (.seq (.block 1 (.seq (.region 4 reg31_4 false) (.region 5 reg31_5 false))) (.region 6 reg31_6 false))))))) (.seq (.region 7 reg31_7 false) (.ret))))) := by kernel_rfl
noncomputable def hdRaw (lb : Nat) (sv : Value) (N n j : Nat) (u : Nat → Value) : Frame :=
  (base 31).at { tmps := #[.pointer (some ⟨lb, 0, none⟩), sv, u 2, u 3, u 4, .slice (some ⟨N, 0, none⟩) n n, u 6, u 7, u 8, u 9, u 10, .int .i64 n, .int .i64 j, u 13, u 14, u 15, u 16, u 17, u 18, u 19, u 20, u 21, u 22, u 23, u 24, u 25, u 26], defers := [] } [.code (.seq (.region 3 reg31_3 false) (.seq (.cond (.tmp 13 ) (.skip) (.exit 0)) (.seq (.block 1 (.seq (.region 4 reg31_4 false) (.region 5 reg31_5 false))) (.region 6 reg31_6 false)))), .inLoop (.seq (.region 3 reg31_3 false) (.seq (.cond (.tmp 13 ) (.skip) (.exit 0)) (.seq (.block 1 (.seq (.region 4 reg31_4 false) (.region 5 reg31_5 false))) (.region 6 reg31_6 false)))), .inBlock 0, .code (.seq (.region 7 reg31_7 false) (.ret))]
section
variable {lb k : Nat} {sv : Value}
theorem load_ver (K : Lg (sqLa lb k) sv) (e : K.E) (d : QD) (ht : K.tgt e = (K.s e, .inr d)) : SCall K.toLb 46 #[.pointer (some ⟨lb, 0, none⟩), sv] e (fun v e' => Aft K.toLb e d e' ∧ v = .int .i64 ((K.s e' : Sq).v)) := word_load K verW e d trivial ht
theorem load_word (K : Lg (sqLa lb k) sv) (i : Nat) (hi : i ≤ k) (e : K.E) (d : QD) (ht : K.tgt e = (K.s e, .inr d)) : SCall K.toLb 46 #[.pointer (some ⟨lb, 1 + i, none⟩), sv] e (fun v e' => Aft K.toLb e d e' ∧ v = .int .i64 ((K.s e' : Sq).w i)) := word_load K (worW i hi) e d trivial ht
def NewerOut (K : Lg (sqLa lb k) sv) (v : Value) (e' : K.E) : Prop := ∃ b x, v = .tuple #[.int .i64 x, .bool b] ∧ K.tgt e' = (K.s e', .inl ⟨b, x, []⟩)
theorem newer_s (K : Lg (sqLa lb k) sv) (e : K.E) (a : Int) (ht : K.tgt e = (K.s e, .inr (.n1 a))) : SCall K.toLb 30 #[.pointer (some ⟨lb, 0, none⟩), sv, .int .i64 a] e (NewerOut K) := by
  intro fr l hp hl hk
  have w1 := load_ver K e (.n1 a) ht
  have hp1 := fun w => run_eql_ptr (P := Try.prog) 35 undLock (some ⟨lb, 0, none⟩) w
  have hp2 := fun w es => ev_eql_ptr (P := Try.prog) 35 undLock (some ⟨lb, 0, none⟩) w es
  simp only [Option.isNone_some] at hp1
  unfold LW
  rw [enter_at _ Try.func30 code30_is]
  simp only [Try.ntmps30, ez, Nat.reduceAdd, Nat.reduceSub]
  repeat (first | refine Walk.cx ?_ | (refine Walk.cReg ?_; simp only [z30]) | (refine Walk.oq ?_; try walk_nrm) | (refine Walk.un ?_; walk_nrm))
  refine LW.callS (K := K.toLb) (e := e) (l := fr :: l) (f := 46) (Q := fun v e' => Aft K.toLb e (.n1 a) e' ∧ v = .int .i64 ((K.s e' : Sq).v)) ?_ (ho_of (by conv => lhs; whnf) (by kernel_rfl)) (by rfl) (by decide) rfl Try.func46 (by kernel_rfl) (by rfl) ⟨rfl, rfl, _, Try.func30⟩ (plain_cons hp hl) ?_
  · walk_nrm
    exact w1
  rintro v e1 ⟨ha, rfl⟩
  have hkk := hk (.tuple #[.int .i64 ((K.s e1 : Sq).v), .bool (decide (a < (K.s e1 : Sq).v))]) e1 ⟨_, _, rfl, ha.tgt⟩
  generalize (K.s e1 : Sq).v = x at *
  unfold LW at hkk ⊢
  walk_nrm
  repeat (first | refine Walk.cx ?_ | (refine Walk.cReg ?_; simp only [z30]) | (refine Walk.oq ?_; try walk_nrm) | (refine Walk.un ?_; walk_nrm))
  exact Walk.on2 rfl rfl Try.func30 rfl hkk
def RawOut (K : Lg (sqLa lb k) sv) (D : Nat → List Int → Ans ⊕ QD) (v : Value) (e' : K.E) : Prop := ∃ B l, v = .slice (some ⟨B, 0, none⟩) (k + 1) (k + 1) ∧ l.length = k + 1 ∧ K.mine e' B ∧ NumB (K.w e') B l ∧ K.tgt e' = (K.s e', D (k + 1) l)
theorem raw_round (K : Lg (sqLa lb k) sv) (D : Nat → List Int → Ans ⊕ QD) (dd : Nat → List Int → QD) (hD : ∀ i l, i ≤ k → D i l = .inr (dd i l)) (hact : ∀ s i l, i ≤ k → sqAct k s (dd i l) = (s, D (i + 1) (l ++ [s.w i])))
    (B : Nat) (fr : Frame) (l : List Frame) (hp : Plain fr) (hl : ∀ f ∈ l, Plain f) (ls : List Int) (hj : ls.length < k + 1) (e : K.E) (u : Nat → Value) (hB : K.mine e B) (hT : NumB (K.w e) B (padL ls (k + 1))) (ht : K.tgt e = (K.s e, D ls.length ls))
    (ih : ∀ (e' : K.E) (u' : Nat → Value) (x : Int), K.mine e' B → NumB (K.w e') B (padL (ls ++ [x]) (k + 1)) → K.tgt e' = (K.s e', D (ls.length + 1) (ls ++ [x])) → LW K.toLb e' (G (hdRaw lb sv B (k + 1) (ls.length + 1) u') (fr :: (l ++ K.bot e')))) :
    LW K.toLb e (G (hdRaw lb sv B (k + 1) ls.length u) (fr :: (l ++ K.bot e))) := by
  have hk15 := (K.inv e).pos
  have w1 := load_word K ls.length (by omega) e (dd ls.length ls) (by rw [ht, hD _ _ (by omega)]; rfl)
  have hact' := fun s => hact s ls.length ls (by omega)
  have hset := fun (w : World) (h : NumB w B (padL ls (k + 1))) (x : Int) => (padL_set hj x) ▸ h.set ls.length x
  have hcl := fun (w : World) (h : NumB w B (padL ls (k + 1))) => h.cell (j := ls.length) (z := 0) (by
    unfold padL
    rw [List.getElem?_append_right (Nat.le_refl _), Nat.sub_self, List.getElem?_replicate, if_pos (by omega)])
  clear hD hact
  have hn17 : k + 1 ≤ 16 := by omega
  have h17 : ((17 : Nat) : Int) = 17 := rfl
  generalize hjj : ls.length = j at *
  have hj0 : (0 : Int) ≤ j := by omega
  have hj1 : decide ((j : Int) < ((k + 1 : Nat) : Int)) = true := by simp; omega
  have hj3 : decide (j < k + 1) = true := by simp; omega
  have hj4 : (j : Int) < ((k + 1 : Nat) : Int) := by omega
  have hj5 : (j : Int) < 16 := by omega
  have hj6 : j < 16 := by omega
  have hw1 : IntKind.wrap .i64 ((j : Int) + 1) = ((j + 1 : Nat) : Int) := by rw [IntKind.wrap_i64]; omega
  have hx1 := fun w => (ix_word lb j hj6 w #[]).1
  have hx2 := fun w es => (ix_word lb j hj6 w es).2
  clear hk15 hjj
  generalize k + 1 = n at *
  unfold LW hdRaw
  repeat (first | refine Walk.cx ?_ | (refine Walk.cReg ?_; simp only [z31]) | (refine Walk.oq ?_; try walk_nrm) | (refine Walk.un ?_; walk_nrm))
  refine LW.callS (K := K.toLb) (e := e) (l := fr :: l) (f := 46) (Q := fun v e' => Aft K.toLb e (dd j ls) e' ∧ v = .int .i64 ((K.s e' : Sq).w j)) ?_ (ho_of (by conv => lhs; whnf) (by kernel_rfl)) (by rfl) (by decide) rfl Try.func46 (by kernel_rfl) (by rfl) ⟨rfl, rfl, _, Try.func31⟩ (plain_cons hp hl) ?_
  · walk_nrm
    exact w1
  rintro v e1 ⟨ha, rfl⟩
  have ht1 : K.tgt e1 = (K.s e1, D (j + 1) (ls ++ [(K.s e1 : Sq).w j])) := ha.tgt.trans (hact' _)
  obtain ⟨hm1, hb1⟩ := ha.mine B hB
  have hT1 := hT.same hb1
  have hcy := hcl _ hT1
  have hfz := hT1.frozen j
  have hap := (K.mineA e1 _ hm1).1.1 ⟨B, j, none⟩ rfl
  have hT2 := hset _ hT1 ((K.s e1 : Sq).w j)
  generalize (K.s e1 : Sq).w j = x at *
  obtain ⟨e2, m2⟩ := K.own e1 (w' := (K.w e1).setCell ⟨B, j, none⟩ (.int .i64 x)) (by simp) (fun b _ hbm => heap_set_other _ _ _ _ (fun he : b = B => hbm (by rw [he]; exact hm1)))
  have hm2 : K.mine e2 B := (m2.mine B).2 (.inl hm1)
  have ht2 : K.tgt e2 = (K.s e2, D (j + 1) (ls ++ [x])) := by rw [m2.tgt, m2.s]; exact ht1
  rw [← m2.w] at hT2
  have hih := fun u => ih e2 u x hm2 hT2 ht2
  clear ih w1 hset hcl hact' hT hT1 hT2
  unfold LW
  walk_nrm
  repeat (first | refine Walk.cx ?_ | (refine Walk.cReg ?_; simp only [z31]) | (refine Walk.oq ?_; try walk_nrm) | (refine Walk.un ?_; walk_nrm))
  (refine Walk.os hap hcy ?_; try walk_nrm)
  refine LW.to (l := fr :: l) m2 ?_
  unfold LW at hih ⊢
  repeat (first | refine Walk.cx ?_ | (refine Walk.cReg ?_; simp only [z31]) | (refine Walk.oq ?_; try walk_nrm) | (refine Walk.un ?_; walk_nrm))
  refine Walk.ctl rfl (fun w => stepG_inLoop) ?_
  refine slots_walk (F := fun u => G (hdRaw lb sv B n (j + 1) u) (fr :: (l ++ K.bot e2))) hih ?_
  simp only [hdRaw]
  rfl
theorem raw_end (K : Lg (sqLa lb k) sv) (D : Nat → List Int → Ans ⊕ QD) (B : Nat) (fr : Frame) (l : List Frame) (hk : ∀ x e', RawOut K D x e' → LW K.toLb e' (G (fr.finish x) (l ++ K.bot e'))) (ls : List Int) (hj : ls.length = k + 1) (e : K.E) (u : Nat → Value) (hB : K.mine e B) (hT : NumB (K.w e) B (padL ls (k + 1))) (ht : K.tgt e = (K.s e, D (k + 1) ls)) :
    LW K.toLb e (G (hdRaw lb sv B (k + 1) (k + 1) u) (fr :: (l ++ K.bot e))) := by
  rw [padL_full hj] at hT
  have hkk := hk (.slice (some ⟨B, 0, none⟩) (k + 1) (k + 1)) e ⟨B, ls, rfl, hj, hB, hT, ht⟩
  clear hk hT ht hj
  generalize k + 1 = n at *
  have hj3 : decide (n < n) = false := by simp
  unfold LW hdRaw
  unfold LW at hkk
  repeat (first | refine Walk.cx ?_ | (refine Walk.cReg ?_; simp only [z31]) | (refine Walk.oq ?_; try walk_nrm) | (refine Walk.un ?_; walk_nrm))
  exact Walk.on1 rfl rfl Try.func31 rfl hkk
theorem raw_loop (K : Lg (sqLa lb k) sv) (D : Nat → List Int → Ans ⊕ QD) (dd : Nat → List Int → QD) (hD : ∀ i l, i ≤ k → D i l = .inr (dd i l)) (hact : ∀ s i l, i ≤ k → sqAct k s (dd i l) = (s, D (i + 1) (l ++ [s.w i])))
    (B : Nat) (fr : Frame) (l : List Frame) (hp : Plain fr) (hl : ∀ f ∈ l, Plain f) (hk : ∀ x e', RawOut K D x e' → LW K.toLb e' (G (fr.finish x) (l ++ K.bot e'))) :
    ∀ (r : Nat) (ls : List Int) (e : K.E) (u : Nat → Value), ls.length + r = k + 1 → K.mine e B → NumB (K.w e) B (padL ls (k + 1)) → K.tgt e = (K.s e, D ls.length ls) → LW K.toLb e (G (hdRaw lb sv B (k + 1) ls.length u) (fr :: (l ++ K.bot e))) := by
  intro r
  induction r with
  | zero =>
    intro ls e u hj hB hT ht
    have hj' : ls.length = k + 1 := by simpa using hj
    rw [hj'] at ht ⊢
    exact raw_end K D B fr l hk ls hj' e u hB hT ht
  | succ r ih =>
    intro ls e u hj hB hT ht
    refine raw_round K D dd hD hact B fr l hp hl ls (by omega) e u hB hT ht fun e' u' x hB' hT' ht' => ?_
    have hlen : (ls ++ [x]).length = ls.length + 1 := by simp
    have := ih (ls ++ [x]) e' u' (by omega) hB' hT'
    rw [hlen] at this
    exact this ht'
theorem raw_s (K : Lg (sqLa lb k) sv) (D : Nat → List Int → Ans ⊕ QD) (dd : Nat → List Int → QD) (hD : ∀ i l, i ≤ k → D i l = .inr (dd i l)) (hact : ∀ s i l, i ≤ k → sqAct k s (dd i l) = (s, D (i + 1) (l ++ [s.w i])))
    (e : K.E) (ht : K.tgt e = (K.s e, D 0 [])) : SCall K.toLb 31 #[.pointer (some ⟨lb, 0, none⟩), sv] e (RawOut K D) := by
  intro fr l hp hl hk
  have hk15 := (K.inv e).pos
  have hi1 := Option.some_get (show (Try.prog.info? 2).isSome = true by kernel_rfl)
  have h1 := len_w (main := K.main) (V := K.V e) (K.w e) (K.inv e)
  have hcc : ((k : Int) + 1) = ((k + 1 : Nat) : Int) := by simp
  rw [hcc] at h1
  have hlp := fun B e' u hB hT ht' => raw_loop K D dd hD hact B fr l hp hl hk (k + 1) [] e' u (by simp) hB hT ht'
  simp only [List.length_nil] at hlp
  clear hk hcc hD hact
  have hn17 : k + 1 ≤ 16 := by omega
  have hn0 : 0 < k + 1 := by omega
  clear hk15
  generalize k + 1 = n at *
  unfold LW
  rw [enter_at _ Try.func31 code31_is]
  simp only [Try.ntmps31, ez, Nat.reduceAdd, Nat.reduceSub]
  repeat (first | refine Walk.cx ?_ | (refine Walk.cReg ?_; simp only [z31]) | (refine Walk.oq ?_; try walk_nrm) | (refine Walk.un ?_; walk_nrm))
  refine Walk.callV (x := .int .i64 (n : Int)) (W := K.w e) ?_ (ho_of (by conv => lhs; whnf) (by kernel_rfl)) (by rfl) (by decide) rfl Try.func17 (by kernel_rfl) (by rfl) ?_
  · walk_nrm
    exact h1
  walk_nrm
  repeat (first | refine Walk.cx ?_ | (refine Walk.cReg ?_; simp only [z31]) | (refine Walk.oq ?_; try walk_nrm) | (refine Walk.un ?_; walk_nrm))
  refine Walk.make 22 (.tmp 8) (.tmp 8) (ho_of (by conv => lhs; whnf) (by kernel_rfl)) (by rfl) (by decide) rfl 2 _ (.int .i64 0) 1 8 (by kernel_rfl) hi1.symm (by rfl) (by rfl) (by rfl) n (by rfl) (by rfl) (by omega) (by omega) ?_
  walk_nrm
  simp only [Value.cells, Nat.mul_one, made_zero]
  have c1 := heap_alloc_new (K.w e) (.cells ((List.replicate n (0 : Int)).map fun z => Value.int .i64 z).toArray 2)
  have s1 : ((K.w e).alloc (.cells ((List.replicate n (0 : Int)).map fun z => Value.int .i64 z).toArray 2)).heap.size = (K.w e).heap.size + 1 := by simp
  obtain ⟨e1, m1⟩ := K.grow e (w' := (K.w e).alloc (.cells ((List.replicate n (0 : Int)).map fun z => Value.int .i64 z).toArray 2)) (by omega) (fun b hb' => heap_new_lt _ _ hb')
  generalize hR : (K.w e).heap.size = R at *
  generalize (K.w e).alloc (.cells ((List.replicate n (0 : Int)).map fun z => Value.int .i64 z).toArray 2) = w1 at *
  have hmR : K.mine e1 R := m1.new (by omega) (by omega)
  have ht1 : K.tgt e1 = (K.s e1, D 0 []) := by rw [m1.tgt, m1.s]; exact ht
  have hT1 : NumB (K.w e1) R (padL [] n) := by
    rw [m1.w]
    exact c1
  have hh := fun u => hlp R e1 u hmR hT1 ht1
  unfold LW at hh
  refine LW.to (l := fr :: l) m1 ?_
  unfold LW
  clear hi1 c1
  repeat (first | refine Walk.cx ?_ | (refine Walk.cReg ?_; simp only [z31]) | (refine Walk.oq ?_; try walk_nrm) | (refine Walk.un ?_; walk_nrm))
  refine Walk.ctl rfl (fun w => stepG_loop) ?_
  refine slots_walk (F := fun u => G (hdRaw lb sv R n 0 u) (fr :: (l ++ K.bot e1))) hh ?_
  simp only [hdRaw]
  rfl
end
end
end Go.Proofs.Ytjenoiekfkhafaa
