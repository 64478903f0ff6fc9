/- Part 16. -/
import Derived.Test.YtdmpmoggacjgcaaJ3
import Derived.Test.YtdmpmoggacjgcaaJ4
import Derived.Test.YtdmpmoggacjgcaaJ13
import Derived.Test.YtdmpmoggacjgcaaJ15
set_option linter.unusedSimpArgs false
set_option linter.unusedVariables false
set_option maxHeartbeats 8000000
set_option maxRecDepth 100000
namespace Go.Proofs.Ytdmpmoggacjgcaa
open Go.Conc Go.RowKit Go.Relay
open Go.ConcN (upd upd_ne upd_same)
section
variable {main : Bool} {V : Nat → Option Wait}
section
variable {P : Program} {t e : TypeId} {ti : TypeInfo}
theorem run_sl_of (hu : P.underlying t = some (.slice e)) (hi : P.info? e = some ti) (tb m cap x : Nat) (hx : x ≤ cap) (w : World) (es : Array Event) : (Instr.sliceAt t (.slice (some ⟨tb, 0, none⟩) m cap) none (some (.int .i64 x)) none).run P w = .ok (.slice (some ⟨tb, 0, none⟩) x cap) w ∧
    (Instr.sliceAt t (.slice (some ⟨tb, 0, none⟩) m cap) none (some (.int .i64 x)) none).events P w es = es := by
  have h1 : (x : Int) ≤ cap := by omega
  constructor <;> simp [Instr.sliceAt, Instr.slice, run_underlying hu, Instr.sliceBounds, Instr.sliceBound, asIntOf, sizeOf, typeInfo, hi, h1, hx, Addr.add]
end
theorem hu53 : Try.prog.underlying 111 = some (.slice 126) := by kernel_rfl
theorem first_some (tb m tcap : Nat) (w : World) (hm : m ≤ tcap) : CallV Try.prog main V 70 #[.slice (some ⟨tb, 0, none⟩) m tcap] w (.slice (some ⟨tb, 0, none⟩) (min m 64) tcap) w := by
  refine callW_in Try.func70 rfl fun fr cs => ?_
  simp only [Try.ntmps70, ez, Nat.reduceAdd, Nat.reduceSub]
  have hmn := @events_min_ints Try.prog
  repeat (first | refine Walk.cx ?_ | refine Walk.cR ?_ | (refine Walk.oq ?_; try walk_nrm) | (refine Walk.un ?_; walk_nrm))
  have hmin : min (m : Int) 64 = ((min m 64 : Nat) : Int) := by omega
  rw [hmin]
  have hxl : min m 64 ≤ tcap := by omega
  generalize min m 64 = x at hxl ⊢
  have hi := Option.some_get (show (Try.prog.info? 126).isSome = true by kernel_rfl)
  have hs := fun w => (run_sl_of hu53 hi.symm tb m tcap x hxl w #[]).1
  have hse := fun w es => (run_sl_of hu53 hi.symm tb m tcap x hxl w es).2
  clear hi
  repeat (first | refine Walk.cx ?_ | refine Walk.cR ?_ | (refine Walk.oq ?_; try walk_nrm) | (refine Walk.un ?_; walk_nrm))
  exact Walk.ret1 rfl rfl Try.func70 rfl fun d => ⟨by simp, d, rfl⟩
end
section
noncomputable def reg55_0 := rg Try.f55.body [0]
noncomputable def reg55_1 := rg Try.f55.body [1, 0]
noncomputable def reg55_2 := rg Try.f55.body [1, 1, 0]
noncomputable def reg55_3 := rg Try.f55.body [1, 1, 1, 0]
noncomputable def reg55_4 := rg Try.f55.body [1, 1, 1, 1, 0, 0]
noncomputable def reg55_5 := rg Try.f55.body [1, 1, 1, 1, 0, 1, 0, 0, 0]
noncomputable def reg55_6 := rg Try.f55.body [1, 1, 1, 1, 0, 1, 0, 0, 1, 1, 0, 0, 0]
noncomputable def reg55_7 := rg Try.f55.body [1, 1, 1, 1, 0, 1, 0, 0, 1, 1, 0, 0, 1, 0]
noncomputable def reg55_8 := rg Try.f55.body [1, 1, 1, 1, 0, 1, 0, 0, 1, 1, 0, 0, 1, 1]
noncomputable def reg55_9 := rg Try.f55.body [1, 1, 1, 1, 0, 1, 0, 0, 1, 1, 1]
noncomputable def reg55_10 := rg Try.f55.body [1, 1, 1, 1, 1, 0]
theorem size55_10 : reg55_10.size = 4 := by kernel_rfl
theorem z55 : List.range reg55_0.size = [0, 1, 2] ∧ List.range reg55_1.size = [0, 1, 2] ∧ List.range reg55_2.size = [0, 1, 2, 3, 4] ∧ List.range reg55_3.size = [0, 1, 2, 3] ∧ List.range reg55_4.size = [0, 1, 2] ∧ List.range reg55_5.size = [0] ∧ List.range reg55_6.size = [0, 1, 2, 3, 4, 5, 6] ∧ List.range reg55_7.size = [0, 1, 2, 3, 4, 5] ∧ List.range reg55_8.size = [0, 1, 2, 3, 4] ∧ List.range reg55_9.size = [0, 1] ∧ List.range reg55_10.size = [0, 1, 2, 3] := by refine ⟨?_, ?_, ?_, ?_, ?_, ?_, ?_, ?_, ?_, ?_, ?_⟩ <;> kernel_rfl
theorem code55_is : Try.f55.body = some (.seq (.region 0 reg55_0 false) (.seq (.region 1 reg55_1 false) (.seq (.region 2 reg55_2 false) (.seq (.region 3 reg55_3 false) (.seq (.seq (.region 4 reg55_4 false) (.block 0 (.loop (.seq (.region 5 reg55_5 false) (.seq (.cond (.tmp 21 ) (.skip) (.exit 0)) (.seq (.block 1 (.seq (.region 6 reg55_6 false) (.seq (.region 7 reg55_7 false) (.region 8 reg55_8 false)))) (.region 9 reg55_9 false))))))) (.seq (.region 10 reg55_10 true) (.ret))))))) := by kernel_rfl
def thrO (N i : Nat) : Value := .func (.func 68) #[] #[.pointer (some ⟨N + 5 + 2 * i, 0, none⟩), .pointer (some ⟨N + 2, 0, none⟩), .pointer (some ⟨N + 4 + 2 * i, 0, none⟩), .pointer (some ⟨N, 0, none⟩)]
structure MkO (N n : Nat) (dv : Value) (oa : Nat → Option Addr) (ln oc : Nat → Nat) (w0 w : World) (i : Nat) : Prop where
  size : w.heap.size = N + 4 + 2 * i
  old : ∀ b, b < N → w.heap[b]? = w0.heap[b]?
  cD : w.heap[N]? = some (.cells #[dv] 79)
  cN : w.heap[N + 1]? = some (.cells (madeCells #[.slice none 0 0] n) 29)
  cA : w.heap[N + 2]? = some (.cells #[.slice (some ⟨N + 1, 0, none⟩) n n] 23)
  cF : ∃ arr : Array Value, w.heap[N + 3]? = some (.cells arr 126) ∧ arr.size = n ∧ ∀ j, j < i → arr[j]? = some (thrO N j)
  cI : ∀ j, j < i → w.heap[N + 4 + 2 * j]? = some (.cells #[.int .i64 (j : Nat)] 3)
  cO : ∀ j, j < i → w.heap[N + 5 + 2 * j]? = some (.cells #[.slice (oa j) (min (ln j) 65536) (oc j)] 37)
theorem MkO.at {N n : Nat} {dv : Value} {oa : Nat → Option Addr} {ln oc : Nat → Nat} {w0 w : World} {i : Nat} (h : MkO N n dv oa ln oc w0 w i) (d : Nat) : MkO N n dv oa ln oc w0 (w.at d) i := ⟨h.size, h.old, h.cD, h.cN, h.cA, h.cF, h.cI, h.cO⟩
section
variable {P : Program} {t e : TypeId} {ti : TypeInfo}
theorem run_slx (hu : P.underlying t = some (.slice e)) (hi : P.info? e = some ti) (a : Option Addr) (m cap x : Nat) (hx : x ≤ cap) (ha : a = none ∧ cap = 0 ∨ ∃ p, a = some p) (w : World) (es : Array Event) : (Instr.sliceAt t (.slice a m cap) none (some (.int .i64 x)) none).run P w = .ok (.slice a x cap) w ∧
    (Instr.sliceAt t (.slice a m cap) none (some (.int .i64 x)) none).events P w es = es := by
  have h1 : (x : Int) ≤ cap := by omega
  rcases ha with ⟨rfl, rfl⟩ | ⟨p, rfl⟩
  · have : x = 0 := by omega
    subst this
    constructor <;> simp [Instr.sliceAt, Instr.slice, run_underlying hu, Instr.sliceBounds, Instr.sliceBound, asIntOf, sizeOf, typeInfo, hi]
  · constructor <;> simp [Instr.sliceAt, Instr.slice, run_underlying hu, Instr.sliceBounds, Instr.sliceBound, asIntOf, sizeOf, typeInfo, hi, h1, hx, Addr.add]
end
theorem huOps : Try.prog.underlying 37 = some (.slice 45) := by kernel_rfl
noncomputable def hd46 (dv : Value) (ta : Option Addr) (tc N n j : Nat) (u : Nat → Value) : Frame :=
  (base 55).at { tmps := #[.slice ta n tc, dv, u 2, .pointer (some ⟨N, 0, none⟩), u 4, u 5, .pointer (some ⟨N + 2, 0, none⟩), .slice (some ⟨N + 3, 0, none⟩) n n, u 8, u 9, u 10, u 11, u 12, u 13, u 14, u 15, u 16, u 17, .slice ta n tc, .int .i64 n, .int .i64 j, u 21, u 22, u 23, u 24, u 25, u 26, u 27, u 28, u 29, u 30, u 31, u 32, u 33, u 34, u 35, u 36], defers := [] } [.code (.seq (.region 5 reg55_5 false) (.seq (.cond (.tmp 21 ) (.skip) (.exit 0)) (.seq (.block 1 (.seq (.region 6 reg55_6 false) (.seq (.region 7 reg55_7 false) (.region 8 reg55_8 false)))) (.region 9 reg55_9 false)))), .inLoop (.seq (.region 5 reg55_5 false) (.seq (.cond (.tmp 21 ) (.skip) (.exit 0)) (.seq (.block 1 (.seq (.region 6 reg55_6 false) (.seq (.region 7 reg55_7 false) (.region 8 reg55_8 false)))) (.region 9 reg55_9 false)))), .inBlock 0, .code (.seq (.region 10 reg55_10 true) (.ret))]
section
variable {main : Bool} {V : Nat → Option Wait}
theorem madeCells_get (v : Value) (n i : Nat) (hi : i < n) : (madeCells #[v] n)[i]? = some v := by
  have : (madeCells #[v] n)[i]? = (madeCells #[v] n).toList[i]? := by simp
  rw [this, toList_madeCells_one, List.getElem?_replicate, if_pos hi]
theorem madeCells_size (v : Value) (n : Nat) : (madeCells #[v] n).size = n := by
  rw [← Array.length_toList, toList_madeCells_one, List.length_replicate]
theorem opThreads_in (fdo : FuncId) (first cap : Array Value) (tv : Value) (ta : Option Addr) (tc n : Nat) (hn : n ≤ 64) (cs : List Frame) (w : World) (hA : ∀ b, w.heap.size ≤ b → Apart V b)
    (hp : ∀ w' : World, (∀ b, b < w.heap.size → w'.heap[b]? = w.heap[b]?) → CallV Try.prog main V 67 #[tv] w' (.slice ta n tc) w') (oa : Nat → Option Addr) (ln oc : Nat → Nat) :
    Walk Try.prog main (DR V) (fun g w' => (∃ u, g = G (hd46 (.func (.func fdo) first cap) ta tc w.heap.size n 0 u) cs) ∧ MkO w.heap.size n (.func (.func fdo) first cap) oa ln oc w w' 0) (G (Frame.enter Try.prog 55 #[tv, .func (.func fdo) first cap] .normal) cs) w := by
  have hi1 := Option.some_get (show (Try.prog.info? 29).isSome = true by kernel_rfl)
  have hi2 := Option.some_get (show (Try.prog.info? 126).isSome = true by kernel_rfl)
  rw [enter_at _ Try.func55 code55_is]
  simp only [Try.ntmps55, ez, Nat.reduceAdd, Nat.reduceSub]
  repeat (first | refine Walk.cx ?_ | (refine Walk.cReg ?_; simp only [z55]) | (refine Walk.oq ?_; try walk_nrm) | (refine Walk.un ?_; walk_nrm))
  (refine Walk.oa ?_; try walk_nrm)
  have s1 : (w.alloc (.cells #[.func (.func fdo) first cap] 79)).heap.size = w.heap.size + 1 := by simp
  have o1 : ∀ b, b < w.heap.size → (w.alloc (.cells #[.func (.func fdo) first cap] 79)).heap[b]? = w.heap[b]? := fun b hb => heap_new_lt _ _ hb
  have d1 := heap_alloc_new w (.cells #[.func (.func fdo) first cap] 79)
  generalize hN : w.heap.size = N at *
  generalize w.alloc (.cells #[.func (.func fdo) first cap] 79) = w1 at *
  repeat (first | refine Walk.cx ?_ | (refine Walk.cReg ?_; simp only [z55]) | (refine Walk.oq ?_; try walk_nrm) | (refine Walk.un ?_; walk_nrm))
  refine Walk.callV (x := .slice ta n tc) (W := w1) ?_ (ho_of (by conv => lhs; whnf) (by kernel_rfl)) (by rfl) (by decide) rfl Try.func67 (by kernel_rfl) (by rfl) ?_
  · walk_nrm
    exact hp w1 o1
  walk_nrm
  repeat (first | refine Walk.cx ?_ | (refine Walk.cReg ?_; simp only [z55]) | (refine Walk.oq ?_; try walk_nrm) | (refine Walk.un ?_; walk_nrm))
  refine Walk.make 23 (.tmp 13) (.tmp 13) (ho_of (by conv => lhs; whnf) (by kernel_rfl)) (by rfl) (by decide) rfl 29 _ (.slice none 0 0) 1 24 (by kernel_rfl) hi1.symm (by rfl) (by rfl) (by rfl) n (by rfl) (by rfl) (by omega) (by omega) ?_
  walk_nrm
  simp only [Value.cells, Nat.mul_one]
  have s2 : (w1.alloc (.cells (madeCells #[.slice none 0 0] n) 29)).heap.size = N + 2 := by simp [s1]
  have o2 : ∀ b, b < N + 1 → (w1.alloc (.cells (madeCells #[.slice none 0 0] n) 29)).heap[b]? = w1.heap[b]? := fun b hb => heap_new_lt _ _ (by omega)
  have d2 := heap_alloc_new w1 (.cells (madeCells #[.slice none 0 0] n) 29)
  rw [s1] at d2
  try simp only [s1]
  generalize w1.alloc (.cells (madeCells #[.slice none 0 0] n) 29) = w2 at *
  (refine Walk.oa ?_; try walk_nrm)
  have s3 : (w2.alloc (.cells #[.slice none 0 0] 23)).heap.size = N + 3 := by simp [s2]
  have o3 : ∀ b, b < N + 2 → (w2.alloc (.cells #[.slice none 0 0] 23)).heap[b]? = w2.heap[b]? := fun b hb => heap_new_lt _ _ (by omega)
  have d3 := heap_alloc_new w2 (.cells #[.slice none 0 0] 23)
  rw [s2] at d3
  try simp only [s2]
  generalize w2.alloc (.cells #[.slice none 0 0] 23) = w3 at *
  have c3 := (cell_of d3 0).trans rfl
  have z3 := frozen_of d3 0
  have f3 := (hA (N + 2) (by omega)).1 ⟨N + 2, 0, none⟩ rfl
  (refine Walk.os f3 c3 ?_; try walk_nrm)
  have s4 := size_set w3 ⟨N + 2, 0, none⟩ (.slice (some ⟨N + 1, 0, none⟩) n n)
  have o4 : ∀ b, b ≠ N + 2 → (w3.setCell ⟨N + 2, 0, none⟩ (.slice (some ⟨N + 1, 0, none⟩) n n)).heap[b]? = w3.heap[b]? := fun b hb => heap_set_other _ _ _ _ hb
  have d4 : (w3.setCell ⟨N + 2, 0, none⟩ (.slice (some ⟨N + 1, 0, none⟩) n n)).heap[N + 2]? = some (.cells #[.slice (some ⟨N + 1, 0, none⟩) n n] 23) := by
    rw [heap_set_self _ _ d3]
    simp
  rw [s3] at s4
  clear c3 z3 f3
  generalize w3.setCell ⟨N + 2, 0, none⟩ (.slice (some ⟨N + 1, 0, none⟩) n n) = w4 at *
  repeat (first | refine Walk.cx ?_ | (refine Walk.cReg ?_; simp only [z55]) | (refine Walk.oq ?_; try walk_nrm) | (refine Walk.un ?_; walk_nrm))
  refine Walk.make 111 (.tmp 16) (.tmp 16) (ho_of (by conv => lhs; whnf) (by kernel_rfl)) (by rfl) (by decide) rfl 126 _ .nilFunc 1 8 (by kernel_rfl) hi2.symm (by rfl) (by rfl) (by rfl) n (by rfl) (by rfl) (by omega) (by omega) ?_
  walk_nrm
  simp only [Value.cells, Nat.mul_one]
  have s5 : (w4.alloc (.cells (madeCells #[.nilFunc] n) 126)).heap.size = N + 4 := by simp [s4]
  have o5 : ∀ b, b < N + 3 → (w4.alloc (.cells (madeCells #[.nilFunc] n) 126)).heap[b]? = w4.heap[b]? := fun b hb => heap_new_lt _ _ (by omega)
  have d5 := heap_alloc_new w4 (.cells (madeCells #[.nilFunc] n) 126)
  rw [s4] at d5
  try simp only [s4]
  generalize w4.alloc (.cells (madeCells #[.nilFunc] n) 126) = w5 at *
  repeat (first | refine Walk.cx ?_ | (refine Walk.cReg ?_; simp only [z55]) | (refine Walk.oq ?_; try walk_nrm) | (refine Walk.un ?_; walk_nrm))
  refine Walk.ctl rfl (fun w => stepG_loop) ?_
  refine .stop fun d => ⟨at_slots ?_, MkO.at ⟨by omega, fun b hb => ?_, ?_, ?_, ?_, ⟨_, d5, madeCells_size _ _, fun j hj => absurd hj (Nat.not_lt_zero _)⟩, fun j hj => absurd hj (Nat.not_lt_zero _), fun j hj => absurd hj (Nat.not_lt_zero _)⟩ d⟩
  · simp only [hd46]
    rfl
  · rw [o5 b (by omega), o4 b (by omega), o3 b (by omega), o2 b (by omega), o1 b hb]
  · rw [o5 N (by omega), o4 N (by omega), o3 N (by omega), o2 N (by omega), d1]
  · rw [o5 _ (by omega), o4 _ (by omega), o3 _ (by omega), d2]
  · rw [o5 _ (by omega), d4]
end
end
section
def nxN (n j : Nat) : Int := if j + 1 = n then -1 else (j : Int) + 1
def firstN (n m : Nat) : Int := if m = n then -1 else (m : Int)
def sk0 (n : Nat) : Sk := ⟨0, heldX 0 0, nxN n, fun _ => 0⟩
theorem okH_zero (n : Nat) : OkH n 0 := by
  have h : nodeX 0 = -1 := by decide
  exact ⟨by omega, by omega, by omega, by omega⟩
theorem okH_one (n : Nat) (hn : 1 ≤ n) : OkH n (heldX 0 0) := by
  have h : heldX 0 0 = 1 := by decide
  have h2 : nodeX 1 = 0 := by decide
  rw [h]
  exact ⟨by omega, by omega, by omega, by omega⟩
structure NewI (kb nb n : Nat) (tg : Bool) (w0 w : World) (m : Nat) : Prop where
  k : w.heap[kb]? = some (.cells #[.bool tg, .int .i64 0, .bool tg, .int .i64 0, .slice (some ⟨nb, 0, none⟩) n n] 70)
  nd : ∃ arr : Array Value, w.heap[nb]? = some (.cells arr 95) ∧ ∀ i, i < n → arr[i * 2]? = some (.int .i64 (if i < m then 0 else nxN n i)) ∧ arr[i * 2 + 1]? = some (.int .i64 0)
  old : ∀ b, b < w0.heap.size → w.heap[b]? = w0.heap[b]?
  size : w.heap.size = w0.heap.size + 2
noncomputable def reg17_0 := rg Try.f17.body [0]
noncomputable def reg17_1 := rg Try.f17.body [1, 0]
noncomputable def reg17_2 := rg Try.f17.body [1, 1, 0]
noncomputable def reg17_3 := rg Try.f17.body [1, 1, 1, 0, 0]
noncomputable def reg17_4 := rg Try.f17.body [1, 1, 1, 0, 1, 0, 0, 0, 0]
noncomputable def reg17_6 := rg Try.f17.body [1, 1, 1, 0, 1, 0, 0, 1, 0, 0, 0]
noncomputable def reg17_7 := rg Try.f17.body [1, 1, 1, 0, 1, 0, 0, 1, 0, 0, 1]
noncomputable def reg17_5 := rg Try.f17.body [1, 1, 1, 0, 1, 0, 0, 1, 1]
noncomputable def reg17_8 := rg Try.f17.body [1, 1, 1, 1, 0]
theorem size17_8 : reg17_8.size = 7 := by kernel_rfl
noncomputable def reg17_9 := rg Try.f17.body [1, 1, 1, 1, 1, 0]
theorem z17 : List.range reg17_0.size = [0] ∧ List.range reg17_1.size = [0, 1, 2, 3, 4, 5, 6, 7, 8, 9, 10] ∧ List.range reg17_2.size = [0] ∧ List.range reg17_3.size = [0, 1, 2, 3, 4, 5, 6] ∧ List.range reg17_4.size = [0, 1] ∧ List.range reg17_5.size = [0, 1, 2] ∧ List.range reg17_6.size = [0, 1, 2, 3, 4, 5, 6, 7, 8] ∧ List.range reg17_7.size = [0, 1] ∧ List.range reg17_8.size = [0, 1, 2, 3, 4, 5, 6] ∧ List.range reg17_9.size = [0, 1] := by refine ⟨?_, ?_, ?_, ?_, ?_, ?_, ?_, ?_, ?_, ?_⟩ <;> kernel_rfl
theorem code17_is : Try.f17.body = some (.seq (.region 0 reg17_0 false) (.seq (.region 1 reg17_1 false) (.seq (.region 2 reg17_2 false) (.seq (.seq (.region 3 reg17_3 false) (.block 0 (.loop (.seq (.seq (.region 4 reg17_4 false) (.cond (.tmp 25 ) (.skip) (.exit 0))) (.seq (.block 1 (.seq (.region 6 reg17_6 false) (.region 7 reg17_7 false))) (.region 5 reg17_5 false)))))) (.seq (.region 8 reg17_8 true) (.seq (.region 9 reg17_9 false) (.ret))))))) := by kernel_rfl
noncomputable def hdNew (sz : Int) (tg : Bool) (kb n m : Nat) (u : Nat → Value) : Frame :=
  (base 17).at { tmps := #[.int .i64 sz, .bool tg, u 2, u 3, .pointer none, .pointer (some ⟨kb, 0, none⟩), .int .i64 (firstN n m), .int .i64 ((m : Int) - 1), u 8, u 9, u 10, u 11, u 12, u 13, u 14, u 15, u 16, u 17, u 18, u 19, u 20, u 21, u 22, u 23, u 24, u 25, u 26, u 27, u 28, u 29, u 30, u 31, u 32, u 33, u 34, u 35, u 36, u 37, u 38, u 39, u 40, u 41, u 42, u 43, u 44, u 45], defers := [] } [.code (.seq (.seq (.region 4 reg17_4 false) (.cond (.tmp 25 ) (.skip) (.exit 0))) (.seq (.block 1 (.seq (.region 6 reg17_6 false) (.region 7 reg17_7 false))) (.region 5 reg17_5 false))), .inLoop (.seq (.seq (.region 4 reg17_4 false) (.cond (.tmp 25 ) (.skip) (.exit 0))) (.seq (.block 1 (.seq (.region 6 reg17_6 false) (.region 7 reg17_7 false))) (.region 5 reg17_5 false))), .inBlock 0, .code (.seq (.region 8 reg17_8 true) (.seq (.region 9 reg17_9 false) (.ret)))]
theorem made2 (n j : Nat) (hj : j < n * 2) : (madeCells #[.int .i64 0, .int .i64 0] (n * 2))[j]? = some (.int .i64 0) := by
  unfold madeCells
  rw [Array.getElem?_map, Array.getElem?_range, if_pos hj]
  have : j % 2 = 0 ∨ j % 2 = 1 := by omega
  rcases this with h | h <;> simp [h]
section
variable {main : Bool} {V : Nat → Option Wait}
theorem new_round (sz : Int) (tg : Bool) (kb nb n m : Nat) (hne : kb ≠ nb) (hm : m + 1 ≤ n) (hn : n ≤ 65536) (u : Nat → Value) (cs : List Frame) (w0 w : World) (I : NewI kb nb n tg w0 w (m + 1)) (hA : ∀ b, Apart V b) (hkb : w0.heap.size ≤ kb) (hnb : w0.heap.size ≤ nb) :
    Walk Try.prog main (DR V) (fun g w' => (∃ u, g = G (hdNew sz tg kb n m u) cs) ∧ NewI kb nb n tg w0 w' m) (G (hdNew sz tg kb n (m + 1) u) cs) w := by
  have hsl : w.cell? ⟨kb, 4, none⟩ = some (.slice (some ⟨nb, 0, none⟩) n n) := (cell_of I.k 4).trans rfl
  obtain ⟨arr, h1, h2⟩ := I.nd
  have c1 := (cell_of h1 _).trans (h2 m (by omega)).1
  have z1 := frozen_of h1 (m * 2)
  have he : (((m + 1 : Nat) : Int) - 1) = (m : Int) := by omega
  have hin : m < n := hm
  have hi0 : (0 : Int) ≤ m := by omega
  have hi1 : decide ((m : Int) < n) = true := by simp; omega
  have hi3 : decide (m < n) = true := by simp; omega
  have hi4 : decide ((0 : Int) ≤ m) = true := by simp
  have hw1 : IntKind.wrap .i64 ((m : Int) - 1) = (m : Int) - 1 := by rw [IntKind.wrap_i64]; omega
  unfold hdNew
  rw [he]
  repeat (first | refine Walk.cx ?_ | (refine Walk.cReg ?_; simp only [z17]) | (refine Walk.oq ?_; try walk_nrm) | (refine Walk.un ?_; walk_nrm))
  refine Walk.callV (x := .tuple #[]) (W := w.setCell ⟨nb, m * 2, none⟩ (.int .i64 (firstN n (m + 1)))) ?_ (ho_of (by conv => lhs; whnf) (by kernel_rfl)) (by rfl) (by decide) rfl Try.func43 (by kernel_rfl) (by rfl) ?_
  · walk_nrm
    exact store_nil nb (m * 2) _ _ w c1 z1 ((hA nb).1 _ rfl)
  walk_nrm
  repeat (first | refine Walk.cx ?_ | (refine Walk.cReg ?_; simp only [z17]) | (refine Walk.oq ?_; try walk_nrm) | (refine Walk.un ?_; walk_nrm))
  refine Walk.ctl rfl (fun w => stepG_inLoop) ?_
  refine .stop fun d => ⟨at_slots ?_, (heap_set_other _ _ _ _ hne).trans I.k, ⟨_, heap_set_self _ _ h1, fun i hi => ?_⟩, fun b hb => (heap_set_other _ _ _ _ (show b ≠ nb by omega)).trans (I.old b hb), (size_set ..).trans I.size⟩
  · have hf : firstN n m = (m : Int) := by unfold firstN; rw [if_neg (by omega)]
    simp only [hdNew, hf]
    rfl
  · have hl := (Array.getElem?_eq_some_iff.1 (h2 m (by omega)).1).1
    by_cases e : i = m
    · subst e
      refine ⟨?_, by rw [Array.getElem?_setIfInBounds_ne (by omega)]; exact (h2 i hi).2⟩
      rw [Array.getElem?_setIfInBounds_self_of_lt hl, if_neg (by omega)]
      unfold firstN nxN
      by_cases e2 : i + 1 = n
      · rw [if_pos e2, if_pos e2]
      · rw [if_neg e2, if_neg e2]; simp
    · refine ⟨?_, by rw [Array.getElem?_setIfInBounds_ne (by omega)]; exact (h2 i hi).2⟩
      rw [Array.getElem?_setIfInBounds_ne (by omega), (h2 i hi).1]
      by_cases e2 : i < m
      · rw [if_pos (by omega), if_pos e2]
      · rw [if_neg (by omega), if_neg e2]
theorem new_end (sz : Int) (tg : Bool) (kb nb n : Nat) (hne : kb ≠ nb) (hn1 : 1 ≤ n) (hn : n ≤ 65536) (u : Nat → Value) (c : Frame) (cs : List Frame) (w0 w : World) (I : NewI kb nb n tg w0 w 0) (hA : ∀ b, Apart V b) (hkb : w0.heap.size ≤ kb) :
    Walk Try.prog main (DR V) (fun g w' => g = G (c.finish (.pointer (some ⟨kb, 0, none⟩))) cs ∧ SkI kb nb n tg (sk0 n) w' ∧ (∀ b, b < w0.heap.size → w'.heap[b]? = w0.heap[b]?) ∧ w'.heap.size = w0.heap.size + 2) (G (hdNew sz tg kb n 0 u) (c :: cs)) w := by
  have c1 : w.cell? ⟨kb, 3, none⟩ = some (.int .i64 0) := (cell_of I.k 3).trans rfl
  have z1 := frozen_of I.k 3
  have he : (((0 : Nat) : Int) - 1) = -1 := by omega
  have hf : firstN n 0 = 0 := by unfold firstN; rw [if_neg (by omega)]; rfl
  unfold hdNew
  rw [he, hf]
  repeat (first | refine Walk.cx ?_ | (refine Walk.cReg ?_; simp only [z17]) | (refine Walk.oq ?_; try walk_nrm) | (refine Walk.un ?_; walk_nrm))
  (refine Walk.drawnL (by kernel_rfl) size17_8 (by kernel_rfl) (by kernel_rfl) (by kernel_rfl) (by decide) ?_; simp only [List.range, List.range.loop]; repeat (first | (refine Cm.oq ?_) | (refine Cm.unw (ho_of (by conv => lhs; whnf) (by kernel_rfl)) (by rfl) ?_; walk_nrm)))
  refine Cm.callV (x := .int .i64 (heldX 0 0)) ?_ (ho_of (by conv => lhs; whnf) (by kernel_rfl)) (by rfl) rfl Try.func44 (by kernel_rfl) (by rfl) ?_
  · intro w' he
    subst he
    walk_nrm
    exact newHeld_w 0 0 _
  walk_nrm
  refine Cm.done ?_
  intro rest hr
  refine Walk.callV (x := .tuple #[]) (W := w.setCell ⟨kb, 3, none⟩ (.int .i64 (heldX 0 0))) ?_ (ho_of (by conv => lhs; whnf) (by kernel_rfl)) (by rfl) (by decide) rfl Try.func43 (by kernel_rfl) (by rfl) ?_
  · walk_nrm
    exact store_nil kb 3 _ _ w c1 z1 ((hA kb).1 _ rfl)
  refine hr _ _ ?_
  walk_nrm
  repeat (first | refine Walk.cx ?_ | (refine Walk.cReg ?_; simp only [z17]) | (refine Walk.oq ?_; try walk_nrm) | (refine Walk.un ?_; walk_nrm))
  refine Walk.on1 rfl rfl Try.func17 rfl (.stop fun d => ⟨rfl, ⟨?_, ?_, okH_zero n, okH_one n hn1, fun i hi => ?_⟩, fun b hb => (heap_set_other _ _ _ _ (show b ≠ kb by omega)).trans (I.old b hb), (size_set ..).trans I.size⟩)
  · refine (heap_set_self _ _ I.k).trans ?_
    simp [sk0]
  · obtain ⟨arr, h1, h2⟩ := I.nd
    exact ⟨arr, (heap_set_other _ _ _ _ (Ne.symm hne)).trans h1, fun i hi => by
      have := h2 i hi
      rw [if_neg (by omega)] at this
      exact this⟩
  · show -1 ≤ nxN n i ∧ nxN n i < n
    unfold nxN
    split <;> omega
def sizeN (sz : Int) : Nat := (min (max sz 1) 65536).toNat
theorem sizeN_le (sz : Int) : 1 ≤ sizeN sz ∧ sizeN sz ≤ 65536 ∧ ((sizeN sz : Nat) : Int) = min (max sz 1) 65536 := by
  unfold sizeN
  omega
theorem new_in (sz : Int) (tg : Bool) (cs : List Frame) (w : World) (hA : ∀ b, Apart V b) :
    Walk Try.prog main (DR V) (fun g w' => (∃ u, g = G (hdNew sz tg (w.heap.size + 1) (sizeN sz) (sizeN sz) u) cs) ∧ NewI (w.heap.size + 1) w.heap.size (sizeN sz) tg w w' (sizeN sz)) (G (Frame.enter Try.prog 17 #[.int .i64 sz, .bool tg] .normal) cs) w := by
  have hmx := @events_max_ints Try.prog
  have hmn := @events_min_ints Try.prog
  have hi1 := Option.some_get (show (Try.prog.info? 95).isSome = true by kernel_rfl)
  obtain ⟨q1, q2, q3⟩ := sizeN_le sz
  rw [enter_at _ Try.func17 code17_is]
  simp only [Try.ntmps17, ez, Nat.reduceAdd, Nat.reduceSub]
  repeat (first | refine Walk.cx ?_ | (refine Walk.cReg ?_; simp only [z17]) | (refine Walk.oq ?_; try walk_nrm) | (refine Walk.un ?_; walk_nrm))
  try rw [← q3]
  clear q3 hmx hmn
  generalize hn : sizeN sz = n at *
  clear hn
  refine Walk.make 68 (.tmp 14) (.tmp 14) (ho_of (by conv => lhs; whnf) (by kernel_rfl)) (by rfl) (by decide) rfl 95 _ (.agg #[.int .i64 0, .int .i64 0]) 2 16 (by kernel_rfl) hi1.symm (by rfl) (by rfl) (by rfl) n (by rfl) (by rfl) (by omega) (by omega) ?_
  walk_nrm
  simp only [Value.cells]
  have s1 : (w.alloc (.cells (madeCells #[.int .i64 0, .int .i64 0] (n * 2)) 95)).heap.size = w.heap.size + 1 := by simp
  have o1 : ∀ b, b < w.heap.size → (w.alloc (.cells (madeCells #[.int .i64 0, .int .i64 0] (n * 2)) 95)).heap[b]? = w.heap[b]? := fun b hb => heap_new_lt _ _ hb
  have d1 := heap_alloc_new w (.cells (madeCells #[.int .i64 0, .int .i64 0] (n * 2)) 95)
  generalize hN : w.heap.size = N at *
  generalize w.alloc (.cells (madeCells #[.int .i64 0, .int .i64 0] (n * 2)) 95) = w1 at *
  repeat (first | (refine Walk.oq ?_; try walk_nrm) | (refine Walk.un ?_; walk_nrm))
  (refine Walk.oa ?_; try walk_nrm)
  have s2 : (w1.alloc (.cells #[.bool tg, .int .i64 0, .bool tg, .int .i64 0, .slice (some ⟨N, 0, none⟩) n n] 70)).heap.size = N + 2 := by simp [s1]
  have o2 : ∀ b, b < N + 1 → (w1.alloc (.cells #[.bool tg, .int .i64 0, .bool tg, .int .i64 0, .slice (some ⟨N, 0, none⟩) n n] 70)).heap[b]? = w1.heap[b]? := fun b hb => heap_new_lt _ _ (by omega)
  have d2 := heap_alloc_new w1 (.cells #[.bool tg, .int .i64 0, .bool tg, .int .i64 0, .slice (some ⟨N, 0, none⟩) n n] 70)
  rw [s1] at d2
  try simp only [s1]
  generalize w1.alloc (.cells #[.bool tg, .int .i64 0, .bool tg, .int .i64 0, .slice (some ⟨N, 0, none⟩) n n] 70) = w2 at *
  have hsl : w2.cell? ⟨N + 1, 4, none⟩ = some (.slice (some ⟨N, 0, none⟩) n n) := (cell_of d2 4).trans rfl
  have hw1 : IntKind.wrap .i64 ((n : Int) - 1) = (n : Int) - 1 := by rw [IntKind.wrap_i64]; omega
  repeat (first | refine Walk.cx ?_ | (refine Walk.cReg ?_; simp only [z17]) | (refine Walk.oq ?_; try walk_nrm) | (refine Walk.un ?_; walk_nrm))
  refine Walk.ctl rfl (fun w => stepG_loop) ?_
  refine .stop fun d => ⟨at_slots ?_, ⟨d2, ⟨_, (o2 N (by omega)).trans d1, fun i hi => ?_⟩, fun b hb => (o2 b (by omega)).trans (o1 b (by omega)), by rw [hN]; exact s2⟩⟩
  · have hf : firstN n n = -1 := by unfold firstN; rw [if_pos rfl]
    simp only [hdNew, hf]
    rfl
  · rw [if_pos hi]
    exact ⟨made2 n _ (by omega), made2 n _ (by omega)⟩
theorem new_w (sz : Int) (tg : Bool) (w : World) (hA : ∀ b, Apart V b) :
    CallW Try.prog main V 17 #[.int .i64 sz, .bool tg] w (fun v w' => v = .pointer (some ⟨w.heap.size + 1, 0, none⟩) ∧ SkI (w.heap.size + 1) w.heap.size (sizeN sz) tg (sk0 (sizeN sz)) w' ∧ (∀ b, b < w.heap.size → w'.heap[b]? = w.heap[b]?) ∧ w'.heap.size = w.heap.size + 2) := by
  intro c cs
  obtain ⟨q1, q2, q3⟩ := sizeN_le sz
  refine (new_in sz tg (c :: cs) w hA).then ?_
  rintro g w1 ⟨⟨u, rfl⟩, I⟩
  generalize sizeN sz = n at *
  have loop : ∀ (m : Nat) (u : Nat → Value) (w1 : World), m ≤ n → NewI (w.heap.size + 1) w.heap.size n tg w w1 m →
      Walk Try.prog main (DR V) (fun g w' => ∃ v, (v = .pointer (some ⟨w.heap.size + 1, 0, none⟩) ∧ SkI (w.heap.size + 1) w.heap.size n tg (sk0 n) w' ∧ (∀ b, b < w.heap.size → w'.heap[b]? = w.heap[b]?) ∧ w'.heap.size = w.heap.size + 2) ∧ g = G (c.finish v) cs) (G (hdNew sz tg (w.heap.size + 1) n m u) (c :: cs)) w1 := by
    intro m
    induction m with
    | zero =>
      intro u w1 _ I
      refine (new_end sz tg _ _ n (by omega) q1 q2 u c cs w w1 I hA (by omega)).mono ?_
      rintro g w' ⟨rfl, h⟩
      exact ⟨_, ⟨rfl, h⟩, rfl⟩
    | succ m ih =>
      intro u w1 hm I
      refine (new_round sz tg _ _ n m (by omega) hm q2 u (c :: cs) w w1 I hA (by omega) (Nat.le_refl _)).then ?_
      rintro g w' ⟨⟨u', rfl⟩, I'⟩
      exact ih u' w' (by omega) I'
  exact loop n u w1 (Nat.le_refl _) I
end
end
section
def maA (nx vl : Value) (a b c d : Int) (tg : Bool) (tl : Value) : Array Value := #[nx, vl, .int .i64 a, .int .i64 b, .int .i64 c, .int .i64 d, .bool tg, tl]
section
variable {nx vl tl : Value} {a b c d : Int} {tg : Bool} {w : World} {m : Nat} {ty : TypeId}
theorem mc0 (h : w.heap[m]? = some (.cells (maA nx vl a b c d tg tl) ty)) : w.cell? ⟨m, 0, none⟩ = some nx := (cell_of h 0).trans rfl
theorem mc1 (h : w.heap[m]? = some (.cells (maA nx vl a b c d tg tl) ty)) : w.cell? ⟨m, 1, none⟩ = some vl := (cell_of h 1).trans rfl
theorem mc2 (h : w.heap[m]? = some (.cells (maA nx vl a b c d tg tl) ty)) : w.cell? ⟨m, 2, none⟩ = some (.int .i64 a) := (cell_of h 2).trans rfl
theorem mc3 (h : w.heap[m]? = some (.cells (maA nx vl a b c d tg tl) ty)) : w.cell? ⟨m, 3, none⟩ = some (.int .i64 b) := (cell_of h 3).trans rfl
theorem mc4 (h : w.heap[m]? = some (.cells (maA nx vl a b c d tg tl) ty)) : w.cell? ⟨m, 4, none⟩ = some (.int .i64 c) := (cell_of h 4).trans rfl
theorem mc5 (h : w.heap[m]? = some (.cells (maA nx vl a b c d tg tl) ty)) : w.cell? ⟨m, 5, none⟩ = some (.int .i64 d) := (cell_of h 5).trans rfl
theorem mc6 (h : w.heap[m]? = some (.cells (maA nx vl a b c d tg tl) ty)) : w.cell? ⟨m, 6, none⟩ = some (.bool tg) := (cell_of h 6).trans rfl
theorem mc7 (h : w.heap[m]? = some (.cells (maA nx vl a b c d tg tl) ty)) : w.cell? ⟨m, 7, none⟩ = some tl := (cell_of h 7).trans rfl
end
structure MaX (S : Nat → Prop) (m nb vb n cn cv : Nat) (tg : Bool) (tl : Value) (s : Sk) (w : World) : Prop where
  blk : w.heap[m]? = some (.cells (maA (.slice (some ⟨nb, 0, none⟩) n cn) (.slice (some ⟨vb, 0, none⟩) n cv) (nodeX s.hd) (tagX s.hd) (nodeX s.fr) (tagX s.fr) tg tl) 87)
  nx : ∃ arr : Array Value, w.heap[nb]? = some (.cells arr 2) ∧ ∀ i, i < n → arr[i]? = some (.int .i64 (s.nx i))
  vl : ∃ arr : Array Value, w.heap[vb]? = some (.cells arr 2) ∧ ∀ i, i < n → arr[i]? = some (.int .i64 (s.vl i))
  hd : OkH n s.hd
  fr : OkH n s.fr
  nxb : ∀ i, i < n → -1 ≤ s.nx i ∧ s.nx i < n
  tag : tg = false → tagX s.hd = 0 ∧ tagX s.fr = 0
  sm : S m
  sn : S nb
  sv : S vb
  ne : m ≠ nb ∧ m ≠ vb ∧ nb ≠ vb
section
variable {S S' : Nat → Prop} {m nb vb n cn cv : Nat} {tg : Bool} {tl : Value} {s : Sk} {w w' : World}
theorem MaX.lt (X : MaX S m nb vb n cn cv tg tl s w) : m < w.heap.size ∧ nb < w.heap.size ∧ vb < w.heap.size := by
  obtain ⟨a1, h1, _⟩ := X.nx
  obtain ⟨a2, h2, _⟩ := X.vl
  exact ⟨(Array.getElem?_eq_some_iff.1 X.blk).1, (Array.getElem?_eq_some_iff.1 h1).1, (Array.getElem?_eq_some_iff.1 h2).1⟩
theorem MaX.same (X : MaX S m nb vb n cn cv tg tl s w) (h : ∀ g, g < w.heap.size → S g → w'.heap[g]? = w.heap[g]?) : MaX S m nb vb n cn cv tg tl s w' := by
  obtain ⟨l1, l2, l3⟩ := X.lt
  obtain ⟨a1, h1, h1'⟩ := X.nx
  obtain ⟨a2, h2, h2'⟩ := X.vl
  exact ⟨(h m l1 X.sm).trans X.blk, ⟨a1, (h nb l2 X.sn).trans h1, h1'⟩, ⟨a2, (h vb l3 X.sv).trans h2, h2'⟩, X.hd, X.fr, X.nxb, X.tag, X.sm, X.sn, X.sv, X.ne⟩
theorem MaX.at (X : MaX S m nb vb n cn cv tg tl s w) (d : Nat) : MaX S m nb vb n cn cv tg tl s (w.at d) := X.same fun _ _ _ => rfl
theorem MaX.mono (X : MaX S m nb vb n cn cv tg tl s w) (h : ∀ g, S g → S' g) : MaX S' m nb vb n cn cv tg tl s w := ⟨X.blk, X.nx, X.vl, X.hd, X.fr, X.nxb, X.tag, h _ X.sm, h _ X.sn, h _ X.sv, X.ne⟩
theorem MaX.chg (X : MaX S m nb vb n cn cv tg tl s w) {S2 : Nat → Prop} (hC : Chg S2 w w') (hS : ∀ g, g < w.heap.size → S g → ¬ S2 g) : MaX S m nb vb n cn cv tg tl s w' := X.same fun g hg h => hC.same g hg (hS g hg h)
end
theorem tag_eq (x : Int) : tagX x = x / 4294967296 := rfl
theorem okH_inj {n : Nat} {x y : Int} (hx : OkH n x) (hy : OkH n y) : (nodeX x = nodeX y ∧ tagX x = tagX y) ↔ x = y := by
  refine ⟨fun ⟨h1, h2⟩ => ?_, fun h => by rw [h]; exact ⟨rfl, rfl⟩⟩
  rw [nodeX_of x hx.lo hx.hi, nodeX_of y hy.lo hy.hi] at h1
  rw [tag_eq, tag_eq] at h2
  omega
theorem tag_held {n : Nat} {x a : Int} (h : OkH n x) (tg : Bool) (ha : -1 ≤ a) (ha2 : a < n) (hn : n ≤ 65536) : tagX (heldX a (turnTag tg x)) = turnTag tg x := by
  obtain ⟨t1, t2⟩ := turnTag_lt tg x h.lo h.hi
  rw [heldX_of a _ ha (by omega) t1 t2, tag_eq]
  omega
theorem tag_turn {n : Nat} {x : Int} (h : OkH n x) : turnTag true x = (tagX x + 1) % 2147483648 ∧ 0 ≤ tagX x ∧ tagX x < 2147483648 := by
  have h1 := h.lo
  have h2 := h.hi
  have hw : IntKind.i64.wrap (tagX x + 1) = tagX x + 1 := by rw [IntKind.wrap_i64]; unfold tagX; omega
  refine ⟨?_, by unfold tagX; omega, by unfold tagX; omega⟩
  unfold turnTag
  rw [if_pos rfl, hw, mask31 _ (by unfold tagX; omega) (by unfold tagX; omega)]
def dR (n : Nat) (o : OpV) (PC : Int) (N : Nat → Int) : SD → Prop
  | .pu1 v => PC = 10 ∧ o.a = v
  | .pu2 v top => PC = 11 ∧ o.a = v ∧ N 0 = nodeX top ∧ N 1 = tagX top ∧ OkH n top ∧ nodeX top ≠ -1
  | .pu3 v top nx => PC = 12 ∧ o.a = v ∧ N 0 = nodeX top ∧ N 1 = tagX top ∧ OkH n top ∧ nodeX top ≠ -1 ∧ N 2 = nx ∧ -1 ≤ nx ∧ nx < n
  | .pu4 v i => PC = 13 ∧ o.a = v ∧ N 4 = i ∧ 0 ≤ i ∧ i < n
  | .pu5 i => PC = 14 ∧ N 4 = i ∧ 0 ≤ i ∧ i < n
  | .pu6 i top => PC = 15 ∧ N 4 = i ∧ 0 ≤ i ∧ i < n ∧ N 0 = nodeX top ∧ N 1 = tagX top ∧ OkH n top
  | .pu7 i top => PC = 16 ∧ N 4 = i ∧ 0 ≤ i ∧ i < n ∧ N 0 = nodeX top ∧ N 1 = tagX top ∧ OkH n top
  | .po1 => PC = 20
  | .po2 top => PC = 21 ∧ N 0 = nodeX top ∧ N 1 = tagX top ∧ OkH n top ∧ nodeX top ≠ -1
  | .po3 top nx => PC = 22 ∧ N 0 = nodeX top ∧ N 1 = tagX top ∧ OkH n top ∧ nodeX top ≠ -1 ∧ N 2 = nx ∧ -1 ≤ nx ∧ nx < n
  | .po4 i => PC = 23 ∧ N 4 = i ∧ 0 ≤ i ∧ i < n
  | .po5 i v => PC = 24 ∧ N 4 = i ∧ 0 ≤ i ∧ i < n ∧ N 3 = v
  | .po6 i v top => PC = 25 ∧ N 4 = i ∧ 0 ≤ i ∧ i < n ∧ N 3 = v ∧ N 0 = nodeX top ∧ N 1 = tagX top ∧ OkH n top
  | .po7 i v top => PC = 26 ∧ N 4 = i ∧ 0 ≤ i ∧ i < n ∧ N 3 = v ∧ N 0 = nodeX top ∧ N 1 = tagX top ∧ OkH n top
  | .pe1 => PC = 30
  | .pe2 top => PC = 31 ∧ N 0 = nodeX top ∧ N 1 = tagX top ∧ OkH n top ∧ nodeX top ≠ -1
  | .pe3 top v => PC = 32 ∧ N 0 = nodeX top ∧ N 1 = tagX top ∧ OkH n top ∧ nodeX top ≠ -1 ∧ N 3 = v
  | .em1 => PC = 40
theorem dR_pos {n : Nat} {o : OpV} {PC : Int} {N : Nat → Int} {d : SD} (h : dR n o PC N d) : 10 ≤ PC ∧ PC ≤ 40 := by
  cases d <;> simp only [dR] at h <;> omega
def TIs (S : Nat → Prop) (n b : Nat) (ops : List OpV) (oa : Option Addr) (oc : Nat) (left : List OpV) (d : Option SD) (ans : List Ans) (e : Bool) (w : World) : Prop := ∃ (k : Nat) (PC : Int) (N : Nat → Int) (aa : Option Addr) (ac : Nat), ThX S b ops oa oc (k : Nat) PC N ans aa ac e w ∧ ans.length = k ∧
  ((d = none ∧ k = ops.length ∧ e = true) ∨ ∃ x o, d = some x ∧ ops[k]? = some o ∧ left = ops.drop (k + 1) ∧ dR n o PC N x ∧ e = false)
theorem TIs.same {S : Nat → Prop} {n b : Nat} {ops : List OpV} {oa : Option Addr} {oc : Nat} {left : List OpV} {d : Option SD} {ans : List Ans} {e : Bool} {w w' : World} (X : TIs S n b ops oa oc left d ans e w) (h : ∀ g, g < w.heap.size → S g → w'.heap[g]? = w.heap[g]?) : TIs S n b ops oa oc left d ans e w' := by
  obtain ⟨k, PC, N, aa, ac, X, h1, h2⟩ := X
  exact ⟨k, PC, N, aa, ac, X.same h, h1, h2⟩
theorem TIs.mono {S S' : Nat → Prop} {n b : Nat} {ops : List OpV} {oa : Option Addr} {oc : Nat} {left : List OpV} {d : Option SD} {ans : List Ans} {e : Bool} {w : World} (X : TIs S n b ops oa oc left d ans e w) (h : ∀ g, S g → S' g) : TIs S' n b ops oa oc left d ans e w := by
  obtain ⟨k, PC, N, aa, ac, X, h1, h2⟩ := X
  exact ⟨k, PC, N, aa, ac, X.mono h, h1, h2⟩
theorem run_kind (a b c d : Int) (w : World) : (Instr.field 45 (.agg #[.int .i64 a, .int .i64 b, .int .i64 c, .int .i64 d]) 0).run Try.prog w = .ok (.int .i64 a) w := by kernel_rfl
theorem ev_kind (a b c d : Int) (w : World) (es : Array Event) : (Instr.field 45 (.agg #[.int .i64 a, .int .i64 b, .int .i64 c, .int .i64 d]) 0).events Try.prog w es = es := by kernel_rfl
theorem run_opA (a b c d : Int) (w : World) : (Instr.field 45 (.agg #[.int .i64 a, .int .i64 b, .int .i64 c, .int .i64 d]) 1).run Try.prog w = .ok (.int .i64 b) w := by kernel_rfl
theorem ev_opA (a b c d : Int) (w : World) (es : Array Event) : (Instr.field 45 (.agg #[.int .i64 a, .int .i64 b, .int .i64 c, .int .i64 d]) 1).events Try.prog w es = es := by kernel_rfl
noncomputable def reg37_0 := rg Try.f37.body [0, 0, 0, 0, 0]
theorem size37_0 : reg37_0.size = 17 := by kernel_rfl
noncomputable def reg37_1 := rg Try.f37.body [0, 0, 0, 1, 0, 0]
noncomputable def reg37_2 := rg Try.f37.body [0, 0, 0, 1, 0, 1, 0, 0]
noncomputable def reg37_3 := rg Try.f37.body [0, 0, 0, 1, 0, 1, 0, 1, 0, 0]
noncomputable def reg37_4 := rg Try.f37.body [0, 0, 0, 1, 0, 1, 1]
noncomputable def reg37_5 := rg Try.f37.body [1]
theorem size37_5 : reg37_5.size = 14 := by kernel_rfl
theorem z37 : List.range reg37_0.size = [0, 1, 2, 3, 4, 5, 6, 7, 8, 9, 10, 11, 12, 13, 14, 15, 16] ∧ List.range reg37_1.size = [0, 1, 2, 3] ∧ List.range reg37_2.size = [0, 1, 2, 3, 4, 5] ∧ List.range reg37_3.size = [0, 1, 2] ∧ List.range reg37_4.size = [0, 1, 2, 3, 4, 5] ∧ List.range reg37_5.size = [0, 1, 2, 3, 4, 5, 6, 7, 8, 9, 10, 11, 12, 13] := by refine ⟨?_, ?_, ?_, ?_, ?_, ?_⟩ <;> kernel_rfl
theorem code37_is : Try.f37.body = some (.seq (.block 0 (.loop (.seq (.seq (.region 0 reg37_0 true) (.cond (.tmp 21 ) (.skip) (.exit 0))) (.block 1 (.seq (.region 1 reg37_1 false) (.seq (.seq (.region 2 reg37_2 false) (.cond (.tmp 30 ) (.seq (.region 3 reg37_3 false) (.exit 1)) (.skip))) (.region 4 reg37_4 false))))))) (.region 5 reg37_5 true)) := by kernel_rfl
noncomputable def hdBg (m b : Nat) (u : Nat → Value) : Frame :=
  (base 37).at { tmps := #[.pointer (some ⟨m, 0, none⟩), .pointer (some ⟨b, 0, none⟩), u 2, u 3, u 4, u 5, u 6, u 7, u 8, u 9, u 10, u 11, u 12, u 13, u 14, u 15, u 16, u 17, u 18, u 19, u 20, u 21, u 22, u 23, u 24, u 25, u 26, u 27, u 28, u 29, u 30, u 31, u 32, u 33, u 34, u 35, u 36, u 37, u 38, u 39, u 40, u 41, u 42, u 43, u 44, u 45, u 46, u 47, u 48, u 49, u 50, u 51], defers := [] } [.code (.seq (.seq (.region 0 reg37_0 true) (.cond (.tmp 21 ) (.skip) (.exit 0))) (.block 1 (.seq (.region 1 reg37_1 false) (.seq (.seq (.region 2 reg37_2 false) (.cond (.tmp 30 ) (.seq (.region 3 reg37_3 false) (.exit 1)) (.skip))) (.region 4 reg37_4 false))))), .inLoop (.seq (.seq (.region 0 reg37_0 true) (.cond (.tmp 21 ) (.skip) (.exit 0))) (.block 1 (.seq (.region 1 reg37_1 false) (.seq (.seq (.region 2 reg37_2 false) (.cond (.tmp 30 ) (.seq (.region 3 reg37_3 false) (.exit 1)) (.skip))) (.region 4 reg37_4 false))))), .inBlock 0, .code (.region 5 reg37_5 true)]
section
variable {main : Bool} {S : Nat → Prop} {b : Nat} {ops : List OpV} {oa : Option Addr} {oc k : Nat} {PC : Int} {N : Nat → Int} {ans : List Ans} {aa : Option Addr} {ac : Nat} {e : Bool}
theorem mbg_in (m b : Nat) (cs : List Frame) (w : World) :
    Walk Try.prog main (DR (fun _ => none)) (fun g w' => (∃ u, g = G (hdBg m b u) cs) ∧ ∃ d, w' = w.at d) (G (Frame.enter Try.prog 37 #[.pointer (some ⟨m, 0, none⟩), .pointer (some ⟨b, 0, none⟩)] .normal) cs) w := by
  rw [enter_at _ Try.func37 code37_is]
  simp only [Try.ntmps37, ez, Nat.reduceAdd, Nat.reduceSub]
  repeat (first | refine Walk.cx ?_ | (refine Walk.cReg ?_; simp only [z37]) | (refine Walk.oq ?_; try walk_nrm) | (refine Walk.un ?_; walk_nrm))
  refine Walk.ctl rfl (fun w => stepG_loop) ?_
  refine .stop fun d => ⟨at_slots ?_, d, rfl⟩
  simp only [hdBg]
  rfl
theorem mbg_bad (m : Nat) (o : OpV) (u : Nat → Value) (cs : List Frame) (w : World) (X : ThX S b ops oa oc (k : Nat) 0 N ans aa ac e w) (hl : ops.length ≤ 65536) (hal : ans.length ≤ 65536) (ho : ops[k]? = some o) (hbad : ¬ (1 ≤ o.k ∧ o.k ≤ 4)) :
    Walk Try.prog main (DR (fun _ => none)) (fun g w' => (∃ u, g = G (hdBg m b u) cs) ∧ (∃ aa' ac', ThX (fun g => S g ∨ w.heap.size ≤ g) b ops oa oc ((k + 1 : Nat) : Int) 0 N (ans ++ [(false, 0)]) aa' ac' e w') ∧ Chg S w w') (G (hdBg m b u) cs) w := by
  have hkl := (List.getElem?_eq_some_iff.1 ho).1
  have c0 := tcO X.blk
  have c1 := tcI X.blk
  have c2 := tcP X.blk
  have hk1 : ((k : Int) < (ops.length : Int)) := by omega
  have hd2 : decide (k < ops.length) = true := by simpa using hkl
  conv => arg 5; unfold hdBg
  repeat (first | refine Walk.cx ?_ | (refine Walk.cReg ?_; simp only [z37]) | (refine Walk.oq ?_; try walk_nrm) | (refine Walk.un ?_; walk_nrm))
  (refine Walk.drawnC (by kernel_rfl) size37_0 (by kernel_rfl) (by kernel_rfl) (by decide) ?_; simp only [List.range, List.range.loop]; repeat (first | (refine Cm.oq ?_) | (refine Cm.unw (ho_of (by conv => lhs; whnf) (by kernel_rfl)) (by rfl) ?_; walk_nrm)))
  refine Cm.done ?_
  repeat (first | refine Walk.cx ?_ | (refine Walk.cReg ?_; simp only [z37]) | (refine Walk.oq ?_; try walk_nrm) | (refine Walk.un ?_; walk_nrm))
  refine Walk.callW (Post := fun v w' => v = opVal o ∧ Chg (fun _ => False) w w') ?_ (ho_of (by conv => lhs; whnf) (by kernel_rfl)) (by rfl) (by decide) rfl Try.func58 (by kernel_rfl) (by rfl) ?_
  · walk_nrm
    exact op_w o w X ho hl
  rintro v w1 ⟨rfl, hC1⟩
  have X1 : ThX S b ops oa oc (k : Nat) 0 N ans aa ac e w1 := X.same fun g hg _ => hC1.same g hg (fun h => h)
  obtain ⟨ok, o1, o2, o3⟩ := o
  simp only [opVal] at *
  have fk1 := run_kind ok o1 o2 o3
  have fk2 := ev_kind ok o1 o2 o3
  have hs1 := hC1.size
  have goal : ∀ (w2 : World), (∃ aa' ac', ThX (fun g => S g ∨ w1.heap.size ≤ g) b ops oa oc ((k + 1 : Nat) : Int) 0 N (ans ++ [(false, 0)]) aa' ac' e w2) ∧ Chg S w1 w2 → (∃ aa' ac', ThX (fun g => S g ∨ w.heap.size ≤ g) b ops oa oc ((k + 1 : Nat) : Int) 0 N (ans ++ [(false, 0)]) aa' ac' e w2) ∧ Chg S w w2 := by
    rintro w2 ⟨⟨aa', ac', X2⟩, hC2⟩
    exact ⟨⟨aa', ac', X2.mono fun g hg => hg.imp id fun h => by omega⟩, Chg.trans (hC1.mono fun _ _ h => h.elim) hC2 fun _ _ h => h⟩
  clear c0 c1 c2 hk1 hd2
  walk_nrm
  by_cases h1 : ok < 1
  · have hd1 : decide (ok < 1) = true := by simpa using h1
    repeat (first | refine Walk.cx ?_ | (refine Walk.cReg ?_; simp only [z37]) | (refine Walk.oq ?_; try walk_nrm) | (refine Walk.un ?_; walk_nrm))
    refine Walk.callW (Post := fun v w' => v = .tuple #[] ∧ (∃ aa' ac', ThX (fun g => S g ∨ w1.heap.size ≤ g) b ops oa oc ((k + 1 : Nat) : Int) 0 N (ans ++ [(false, 0)]) aa' ac' e w') ∧ Chg S w1 w') ?_ (ho_of (by conv => lhs; whnf) (by kernel_rfl)) (by rfl) (by decide) rfl Try.func59 (by kernel_rfl) (by rfl) ?_
    · walk_nrm
      exact end_w (false, 0) w1 X1 (by omega) hal
    rintro v w2 ⟨rfl, hw2⟩
    have hg := goal w2 hw2
    walk_nrm
    repeat (first | refine Walk.cx ?_ | (refine Walk.cReg ?_; simp only [z37]) | (refine Walk.oq ?_; try walk_nrm) | (refine Walk.un ?_; walk_nrm))
    refine Walk.ctl rfl (fun w => stepG_inLoop) ?_
    refine .stop fun d => ⟨at_slots ?_, ?_⟩
    · simp only [hdBg]
      rfl
    · obtain ⟨⟨aa', ac', X2⟩, hC2⟩ := hg
      exact ⟨⟨aa', ac', X2.at d⟩, hC2.at d⟩
  · have h4 : 4 < ok := by omega
    have hd1 : decide (ok < 1) = false := by simpa using h1
    have hd4 : decide (4 < ok) = true := by simpa using h4
    repeat (first | refine Walk.cx ?_ | (refine Walk.cReg ?_; simp only [z37]) | (refine Walk.oq ?_; try walk_nrm) | (refine Walk.un ?_; walk_nrm))
    refine Walk.callW (Post := fun v w' => v = .tuple #[] ∧ (∃ aa' ac', ThX (fun g => S g ∨ w1.heap.size ≤ g) b ops oa oc ((k + 1 : Nat) : Int) 0 N (ans ++ [(false, 0)]) aa' ac' e w') ∧ Chg S w1 w') ?_ (ho_of (by conv => lhs; whnf) (by kernel_rfl)) (by rfl) (by decide) rfl Try.func59 (by kernel_rfl) (by rfl) ?_
    · walk_nrm
      exact end_w (false, 0) w1 X1 (by omega) hal
    rintro v w2 ⟨rfl, hw2⟩
    have hg := goal w2 hw2
    walk_nrm
    repeat (first | refine Walk.cx ?_ | (refine Walk.cReg ?_; simp only [z37]) | (refine Walk.oq ?_; try walk_nrm) | (refine Walk.un ?_; walk_nrm))
    refine Walk.ctl rfl (fun w => stepG_inLoop) ?_
    refine .stop fun d => ⟨at_slots ?_, ?_⟩
    · simp only [hdBg]
      rfl
    · obtain ⟨⟨aa', ac', X2⟩, hC2⟩ := hg
      exact ⟨⟨aa', ac', X2.at d⟩, hC2.at d⟩
theorem mbg_good (m : Nat) (o : OpV) (u : Nat → Value) (cs : List Frame) (w : World) (X : ThX S b ops oa oc (k : Nat) 0 N ans aa ac e w) (hl : ops.length ≤ 65536) (ho : ops[k]? = some o) (h1 : 1 ≤ o.k) (h4 : o.k ≤ 4) :
    Walk Try.prog main (DR (fun _ => none)) (fun g w' => (∃ u, g = G (hdBg m b u) cs) ∧ ThX S b ops oa oc (k : Nat) (10 * o.k) N ans aa ac e w' ∧ Chg S w w') (G (hdBg m b u) cs) w := by
  have hkl := (List.getElem?_eq_some_iff.1 ho).1
  have c0 := tcO X.blk
  have c1 := tcI X.blk
  have c2 := tcP X.blk
  have hk1 : ((k : Int) < (ops.length : Int)) := by omega
  have hd2 : decide (k < ops.length) = true := by simpa using hkl
  conv => arg 5; unfold hdBg
  repeat (first | refine Walk.cx ?_ | (refine Walk.cReg ?_; simp only [z37]) | (refine Walk.oq ?_; try walk_nrm) | (refine Walk.un ?_; walk_nrm))
  (refine Walk.drawnC (by kernel_rfl) size37_0 (by kernel_rfl) (by kernel_rfl) (by decide) ?_; simp only [List.range, List.range.loop]; repeat (first | (refine Cm.oq ?_) | (refine Cm.unw (ho_of (by conv => lhs; whnf) (by kernel_rfl)) (by rfl) ?_; walk_nrm)))
  refine Cm.done ?_
  repeat (first | refine Walk.cx ?_ | (refine Walk.cReg ?_; simp only [z37]) | (refine Walk.oq ?_; try walk_nrm) | (refine Walk.un ?_; walk_nrm))
  refine Walk.callW (Post := fun v w' => v = opVal o ∧ Chg (fun _ => False) w w') ?_ (ho_of (by conv => lhs; whnf) (by kernel_rfl)) (by rfl) (by decide) rfl Try.func58 (by kernel_rfl) (by rfl) ?_
  · walk_nrm
    exact op_w o w X ho hl
  rintro v w1 ⟨rfl, hC1⟩
  have X1 : ThX S b ops oa oc (k : Nat) 0 N ans aa ac e w1 := X.same fun g hg _ => hC1.same g hg (fun h => h)
  obtain ⟨ok, o1, o2, o3⟩ := o
  simp only [opVal] at *
  have fk1 := run_kind ok o1 o2 o3
  have fk2 := ev_kind ok o1 o2 o3
  have hs1 := hC1.size
  clear c0 c1 c2 hk1 hd2
  have hd1 : decide (ok < 1) = false := by simp; omega
  have hd4 : decide (4 < ok) = false := by simp; omega
  have hw1 : IntKind.i64.wrap (10 * ok) = 10 * ok := by rw [IntKind.wrap_i64]; omega
  have k2 := tcP X1.blk
  have z2 := frozen_of X1.blk 2
  walk_nrm
  repeat (first | refine Walk.cx ?_ | (refine Walk.cReg ?_; simp only [z37]) | (refine Walk.oq ?_; try walk_nrm) | (refine Walk.un ?_; walk_nrm))
  (have hfr := fr0 b 2; refine Walk.os hfr k2 ?_; clear hfr; try walk_nrm)
  have X2 : ThX S b ops oa oc (k : Nat) (10 * ok) N ans aa ac e (w1.setCell ⟨b, 2, none⟩ (.int .i64 (10 * ok))) := X1.put (by rw [heap_set_self _ _ X1.blk, thA_PC]) fun g hg _ _ => heap_set_other _ _ _ _ hg
  have hC2 : Chg S w (w1.setCell ⟨b, 2, none⟩ (.int .i64 (10 * ok))) := Chg.trans (hC1.mono fun _ _ h => h.elim) (Chg.set X.sb) fun _ _ h => h
  generalize w1.setCell ⟨b, 2, none⟩ (.int .i64 (10 * ok)) = w2 at *
  repeat (first | refine Walk.cx ?_ | (refine Walk.cReg ?_; simp only [z37]) | (refine Walk.oq ?_; try walk_nrm) | (refine Walk.un ?_; walk_nrm))
  refine Walk.ctl rfl (fun w => stepG_inLoop) ?_
  refine .stop fun d => ⟨at_slots ?_, X2.at d, hC2.at d⟩
  simp only [hdBg]
  rfl
theorem mbg_out (m : Nat) (u : Nat → Value) (c : Frame) (cs : List Frame) (w : World) (X : ThX S b ops oa oc (k : Nat) PC N ans aa ac e w) (h : PC ≠ 0 ∨ k = ops.length) (hk : k ≤ ops.length) :
    Walk Try.prog main (DR (fun _ => none)) (fun g w' => g = G (c.finish (.tuple #[])) cs ∧ ThX S b ops oa oc (k : Nat) PC N ans aa ac (decide (k = ops.length)) w' ∧ Chg S w w') (G (hdBg m b u) (c :: cs)) w := by
  have c0 := tcO X.blk
  have c1 := tcI X.blk
  have c2 := tcP X.blk
  have c13 := tcE X.blk
  have z13 := frozen_of X.blk 13
  have hdec : decide ((ops.length : Int) ≤ (k : Int)) = decide (k = ops.length) := decide_eq_decide.2 (by omega)
  have hdec2 : decide (ops.length ≤ k) = decide (k = ops.length) := decide_eq_decide.2 (by omega)
  have fin : ∀ d, ThX S b ops oa oc (k : Nat) PC N ans aa ac (decide (k = ops.length)) ((w.setCell ⟨b, 13, none⟩ (.bool (decide (k = ops.length)))).at d) ∧ Chg S w ((w.setCell ⟨b, 13, none⟩ (.bool (decide (k = ops.length)))).at d) := fun d => ⟨ThX.at (X.put (by rw [heap_set_self _ _ X.blk, thA_E]) fun g hg _ _ => heap_set_other _ _ _ _ hg) d, Chg.at (Chg.set X.sb) d⟩
  clear X
  unfold hdBg
  by_cases hp : PC = 0
  · have hkn : k = ops.length := h.resolve_left fun h => h hp
    subst hp
    have hd1 : decide (k < ops.length) = false := by simp; omega
    have hd2 : decide ((k : Int) < (ops.length : Int)) = false := by simp; omega
    clear h
    have hee : decide (k = ops.length) = true := decide_eq_true hkn
    rw [hee] at fin hdec hdec2
    simp only [hee]
    clear hee
    repeat (first | refine Walk.cx ?_ | (refine Walk.cReg ?_; simp only [z37]) | (refine Walk.oq ?_; try walk_nrm) | (refine Walk.un ?_; walk_nrm))
    (refine Walk.drawnC (by kernel_rfl) size37_0 (by kernel_rfl) (by kernel_rfl) (by decide) ?_; simp only [List.range, List.range.loop]; repeat (first | (refine Cm.oq ?_) | (refine Cm.unw (ho_of (by conv => lhs; whnf) (by kernel_rfl)) (by rfl) ?_; walk_nrm)))
    refine Cm.done ?_
    repeat (first | refine Walk.cx ?_ | (refine Walk.cReg ?_; simp only [z37]) | (refine Walk.oq ?_; try walk_nrm) | (refine Walk.un ?_; walk_nrm))
    clear hd1 hd2
    (refine Walk.drawnL (by kernel_rfl) size37_5 (by kernel_rfl) (by kernel_rfl) (by kernel_rfl) (by decide) ?_; simp only [List.range, List.range.loop]; repeat (first | (refine Cm.oq ?_) | (refine Cm.unw (ho_of (by conv => lhs; whnf) (by kernel_rfl)) (by rfl) ?_; walk_nrm)))
    try simp only [hdec, hdec2]
    refine Cm.done ?_
    intro rest hr
    (have hfr := fr0 b 13; refine Walk.os hfr c13 ?_; clear hfr; try walk_nrm)
    refine hr _ _ ?_
    clear c0 c1 c2 c13 z13
    generalize w.setCell ⟨b, 13, none⟩ (.bool true) = w1 at *
    try walk_nrm
    repeat (first | refine Walk.cx ?_ | (refine Walk.cReg ?_; simp only [z37]) | (refine Walk.oq ?_; try walk_nrm) | (refine Walk.un ?_; walk_nrm))
    exact Walk.ctl rfl (fun w => stepG_leave rfl rfl Try.func37 (results_none rfl _ _ w) (events_results_none rfl _ _)) (.stop fun d => ⟨rfl, fin d⟩)
  · have hpb : (PC == 0) = false := by simpa using hp
    have hpd : decide (PC = 0) = false := by simpa using hp
    clear h
    generalize decide (k = ops.length) = ee at *
    repeat (first | refine Walk.cx ?_ | (refine Walk.cReg ?_; simp only [z37]) | (refine Walk.oq ?_; try walk_nrm) | (refine Walk.un ?_; walk_nrm))
    (refine Walk.drawnC (by kernel_rfl) size37_0 (by kernel_rfl) (by kernel_rfl) (by decide) ?_; simp only [List.range, List.range.loop]; repeat (first | (refine Cm.oq ?_) | (refine Cm.unw (ho_of (by conv => lhs; whnf) (by kernel_rfl)) (by rfl) ?_; walk_nrm)))
    refine Cm.done ?_
    repeat (first | refine Walk.cx ?_ | (refine Walk.cReg ?_; simp only [z37]) | (refine Walk.oq ?_; try walk_nrm) | (refine Walk.un ?_; walk_nrm))
    (refine Walk.drawnL (by kernel_rfl) size37_5 (by kernel_rfl) (by kernel_rfl) (by kernel_rfl) (by decide) ?_; simp only [List.range, List.range.loop]; repeat (first | (refine Cm.oq ?_) | (refine Cm.unw (ho_of (by conv => lhs; whnf) (by kernel_rfl)) (by rfl) ?_; walk_nrm)))
    try simp only [hdec, hdec2]
    refine Cm.done ?_
    intro rest hr
    (have hfr := fr0 b 13; refine Walk.os hfr c13 ?_; clear hfr; try walk_nrm)
    refine hr _ _ ?_
    clear c0 c1 c2 c13 z13
    generalize w.setCell ⟨b, 13, none⟩ (.bool ee) = w1 at *
    try walk_nrm
    repeat (first | refine Walk.cx ?_ | (refine Walk.cReg ?_; simp only [z37]) | (refine Walk.oq ?_; try walk_nrm) | (refine Walk.un ?_; walk_nrm))
    exact Walk.ctl rfl (fun w => stepG_leave rfl rfl Try.func37 (results_none rfl _ _ w) (events_results_none rfl _ _)) (.stop fun d => ⟨rfl, fin d⟩)
end
end
end Go.Proofs.Ytdmpmoggacjgcaa
