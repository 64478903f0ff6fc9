/- Part 10. -/
import Derived.Test.YtmfkjceeeffamaaJ9
set_option linter.unusedSimpArgs false
set_option linter.unusedVariables false
set_option maxHeartbeats 8000000
set_option maxRecDepth 100000
namespace Go.Proofs.Ytmfkjceeeffamaa
open Go.Conc Go.RowKit Go.Relay
open Go.ConcN (upd upd_ne upd_same)
section
variable {main : Bool} {V : Nat → Option Wait}
section
variable {P : Program} {t e : TypeId} {ti : TypeInfo}
theorem run_sl_of (hu : P.underlying t = some (.slice e)) (hi : P.info? e = some ti) (tb m cap x : Nat) (hx : x ≤ cap) (w : World) (es : Array Event) : (Instr.sliceAt t (.slice (some ⟨tb, 0, none⟩) m cap) none (some (.int .i64 x)) none).run P w = .ok (.slice (some ⟨tb, 0, none⟩) x cap) w ∧
    (Instr.sliceAt t (.slice (some ⟨tb, 0, none⟩) m cap) none (some (.int .i64 x)) none).events P w es = es := by
  have h1 : (x : Int) ≤ cap := by omega
  constructor <;> simp [Instr.sliceAt, Instr.slice, run_underlying hu, Instr.sliceBounds, Instr.sliceBound, asIntOf, sizeOf, typeInfo, hi, h1, hx, Addr.add]
end
theorem hu53 : Try.prog.underlying 111 = some (.slice 126) := by kernel_rfl
theorem first_some (tb m tcap : Nat) (w : World) (hm : m ≤ tcap) : CallV Try.prog main V 70 #[.slice (some ⟨tb, 0, none⟩) m tcap] w (.slice (some ⟨tb, 0, none⟩) (min m 64) tcap) w := by
  refine callW_in Try.func70 rfl fun fr cs => ?_
  simp only [Try.ntmps70, List.size_toArray, List.length_cons, List.length_nil, Nat.reduceAdd, Nat.reduceSub, Array.replicate_succ, Array.replicate_zero, List.push_toArray, List.append_toArray, List.nil_append, List.cons_append]
  have hmn := @events_min_ints Try.prog
  repeat (first | refine Walk.c rfl ?_ | refine Walk.cR ?_ | refine Walk.cRet ?_ | refine Walk.cEnd ?_ | (refine Walk.oq ?_; try walk_nrm) | (refine Walk.un ?_; walk_nrm))
  have hmin : min (m : Int) 64 = ((min m 64 : Nat) : Int) := by omega
  rw [hmin]
  have hxl : min m 64 ≤ tcap := by omega
  generalize min m 64 = x at hxl ⊢
  have hi := Option.some_get (show (Try.prog.info? 126).isSome = true by kernel_rfl)
  have hs := fun w => (run_sl_of hu53 hi.symm tb m tcap x hxl w #[]).1
  have hse := fun w es => (run_sl_of hu53 hi.symm tb m tcap x hxl w es).2
  clear hi
  repeat (first | refine Walk.c rfl ?_ | refine Walk.cR ?_ | refine Walk.cRet ?_ | refine Walk.cEnd ?_ | (refine Walk.oq ?_; try walk_nrm) | (refine Walk.un ?_; walk_nrm))
  exact Walk.ret1 rfl rfl Try.func70 rfl fun d => ⟨by simp, d, rfl⟩
end
section
noncomputable def reg55_0 : Array Oper := match Try.f55.body with | some (.seq (.region _ ops _) _) => ops | _ => #[]
theorem size55_0 : reg55_0.size = 3 := by kernel_rfl
noncomputable def reg55_1 : Array Oper := match Try.f55.body with | some (.seq _ (.seq (.region _ ops _) _)) => ops | _ => #[]
theorem size55_1 : reg55_1.size = 3 := by kernel_rfl
noncomputable def reg55_2 : Array Oper := match Try.f55.body with | some (.seq _ (.seq _ (.seq (.region _ ops _) _))) => ops | _ => #[]
theorem size55_2 : reg55_2.size = 5 := by kernel_rfl
noncomputable def reg55_3 : Array Oper := match Try.f55.body with | some (.seq _ (.seq _ (.seq _ (.seq (.region _ ops _) _)))) => ops | _ => #[]
theorem size55_3 : reg55_3.size = 4 := by kernel_rfl
noncomputable def reg55_4 : Array Oper := match Try.f55.body with | some (.seq _ (.seq _ (.seq _ (.seq _ (.seq (.seq (.region _ ops _) _) _))))) => ops | _ => #[]
theorem size55_4 : reg55_4.size = 3 := by kernel_rfl
noncomputable def reg55_5 : Array Oper := match Try.f55.body with | some (.seq _ (.seq _ (.seq _ (.seq _ (.seq (.seq _ (.block _ (.loop (.seq (.region _ ops _) _)))) _))))) => ops | _ => #[]
theorem size55_5 : reg55_5.size = 1 := by kernel_rfl
noncomputable def reg55_6 : Array Oper := match Try.f55.body with | some (.seq _ (.seq _ (.seq _ (.seq _ (.seq (.seq _ (.block _ (.loop (.seq _ (.seq _ (.seq (.block _ (.seq (.region _ ops _) _)) _)))))) _))))) => ops | _ => #[]
theorem size55_6 : reg55_6.size = 7 := by kernel_rfl
noncomputable def reg55_7 : Array Oper := match Try.f55.body with | some (.seq _ (.seq _ (.seq _ (.seq _ (.seq (.seq _ (.block _ (.loop (.seq _ (.seq _ (.seq (.block _ (.seq _ (.seq (.region _ ops _) _))) _)))))) _))))) => ops | _ => #[]
theorem size55_7 : reg55_7.size = 6 := by kernel_rfl
noncomputable def reg55_8 : Array Oper := match Try.f55.body with | some (.seq _ (.seq _ (.seq _ (.seq _ (.seq (.seq _ (.block _ (.loop (.seq _ (.seq _ (.seq (.block _ (.seq _ (.seq _ (.region _ ops _)))) _)))))) _))))) => ops | _ => #[]
theorem size55_8 : reg55_8.size = 5 := by kernel_rfl
noncomputable def reg55_9 : Array Oper := match Try.f55.body with | some (.seq _ (.seq _ (.seq _ (.seq _ (.seq (.seq _ (.block _ (.loop (.seq _ (.seq _ (.seq _ (.region _ ops _))))))) _))))) => ops | _ => #[]
theorem size55_9 : reg55_9.size = 2 := by kernel_rfl
noncomputable def reg55_10 : Array Oper := match Try.f55.body with | some (.seq _ (.seq _ (.seq _ (.seq _ (.seq _ (.seq (.region _ ops _) _)))))) => ops | _ => #[]
theorem size55_10 : reg55_10.size = 4 := by kernel_rfl
theorem code55_is : Try.f55.body = some (.seq (.region 0 reg55_0 false) (.seq (.region 1 reg55_1 false) (.seq (.region 2 reg55_2 false) (.seq (.region 3 reg55_3 false) (.seq (.seq (.region 4 reg55_4 false) (.block 0 (.loop (.seq (.region 5 reg55_5 false) (.seq (.cond (.tmp 21 ) (.skip) (.exit 0)) (.seq (.block 1 (.seq (.region 6 reg55_6 false) (.seq (.region 7 reg55_7 false) (.region 8 reg55_8 false)))) (.region 9 reg55_9 false))))))) (.seq (.region 10 reg55_10 true) (.ret))))))) := by kernel_rfl
def thrO (N i : Nat) : Value := .func (.func 68) #[] #[.pointer (some ⟨N + 5 + 2 * i, 0, none⟩), .pointer (some ⟨N + 2, 0, none⟩), .pointer (some ⟨N + 4 + 2 * i, 0, none⟩), .pointer (some ⟨N, 0, none⟩)]
structure MkO (N n : Nat) (dv : Value) (oa : Nat → Option Addr) (ln oc : Nat → Nat) (w0 w : World) (i : Nat) : Prop where
  size : w.heap.size = N + 4 + 2 * i
  old : ∀ b, b < N → w.heap[b]? = w0.heap[b]?
  cD : w.heap[N]? = some (.cells #[dv] 79)
  cN : w.heap[N + 1]? = some (.cells (madeCells #[.slice none 0 0] n) 29)
  cA : w.heap[N + 2]? = some (.cells #[.slice (some ⟨N + 1, 0, none⟩) n n] 23)
  cF : ∃ arr : Array Value, w.heap[N + 3]? = some (.cells arr 126) ∧ arr.size = n ∧ ∀ j, j < i → arr[j]? = some (thrO N j)
  cI : ∀ j, j < i → w.heap[N + 4 + 2 * j]? = some (.cells #[.int .i64 (j : Nat)] 3)
  cO : ∀ j, j < i → w.heap[N + 5 + 2 * j]? = some (.cells #[.slice (oa j) (min (ln j) 65536) (oc j)] 37)
theorem MkO.at {N n : Nat} {dv : Value} {oa : Nat → Option Addr} {ln oc : Nat → Nat} {w0 w : World} {i : Nat} (h : MkO N n dv oa ln oc w0 w i) (d : Nat) : MkO N n dv oa ln oc w0 (w.at d) i := ⟨h.size, h.old, h.cD, h.cN, h.cA, h.cF, h.cI, h.cO⟩
section
variable {P : Program} {t e : TypeId} {ti : TypeInfo}
theorem run_slx (hu : P.underlying t = some (.slice e)) (hi : P.info? e = some ti) (a : Option Addr) (m cap x : Nat) (hx : x ≤ cap) (ha : a = none ∧ cap = 0 ∨ ∃ b o, a = some ⟨b, o, none⟩) (w : World) (es : Array Event) : (Instr.sliceAt t (.slice a m cap) none (some (.int .i64 x)) none).run P w = .ok (.slice a x cap) w ∧
    (Instr.sliceAt t (.slice a m cap) none (some (.int .i64 x)) none).events P w es = es := by
  have h1 : (x : Int) ≤ cap := by omega
  rcases ha with ⟨rfl, rfl⟩ | ⟨b, o, rfl⟩
  · have : x = 0 := by omega
    subst this
    constructor <;> simp [Instr.sliceAt, Instr.slice, run_underlying hu, Instr.sliceBounds, Instr.sliceBound, asIntOf, sizeOf, typeInfo, hi]
  · constructor <;> simp [Instr.sliceAt, Instr.slice, run_underlying hu, Instr.sliceBounds, Instr.sliceBound, asIntOf, sizeOf, typeInfo, hi, h1, hx, Addr.add]
end
theorem huOps : Try.prog.underlying 37 = some (.slice 45) := by kernel_rfl
noncomputable def hd46 (dv : Value) (tb toff tc N n j : Nat) (u : Nat → Value) : Frame :=
  (base 55).at { tmps := #[.slice (some ⟨tb, toff, none⟩) n tc, dv, u 2, .pointer (some ⟨N, 0, none⟩), u 4, u 5, .pointer (some ⟨N + 2, 0, none⟩), .slice (some ⟨N + 3, 0, none⟩) n n, u 8, u 9, u 10, u 11, u 12, u 13, u 14, u 15, u 16, u 17, .slice (some ⟨tb, toff, none⟩) n tc, .int .i64 n, .int .i64 j, u 21, u 22, u 23, u 24, u 25, u 26, u 27, u 28, u 29, u 30, u 31, u 32, u 33, u 34, u 35, u 36], defers := [] } [.code (.seq (.region 5 reg55_5 false) (.seq (.cond (.tmp 21 ) (.skip) (.exit 0)) (.seq (.block 1 (.seq (.region 6 reg55_6 false) (.seq (.region 7 reg55_7 false) (.region 8 reg55_8 false)))) (.region 9 reg55_9 false)))), .inLoop (.seq (.region 5 reg55_5 false) (.seq (.cond (.tmp 21 ) (.skip) (.exit 0)) (.seq (.block 1 (.seq (.region 6 reg55_6 false) (.seq (.region 7 reg55_7 false) (.region 8 reg55_8 false)))) (.region 9 reg55_9 false)))), .inBlock 0, .code (.seq (.region 10 reg55_10 true) (.ret))]
section
variable {main : Bool} {V : Nat → Option Wait}
theorem madeCells_get (v : Value) (n i : Nat) (hi : i < n) : (madeCells #[v] n)[i]? = some v := by
  have : (madeCells #[v] n)[i]? = (madeCells #[v] n).toList[i]? := by simp
  rw [this, toList_madeCells_one, List.getElem?_replicate, if_pos hi]
theorem madeCells_size (v : Value) (n : Nat) : (madeCells #[v] n).size = n := by
  rw [← Array.length_toList, toList_madeCells_one, List.length_replicate]
theorem opThreads_in (fdo : FuncId) (first cap : Array Value) (tv : Value) (tb toff tc n : Nat) (hn : n ≤ 64) (cs : List Frame) (w : World) (hA : ∀ b, w.heap.size ≤ b → Apart V b)
    (hp : ∀ w' : World, (∀ b, b < w.heap.size → w'.heap[b]? = w.heap[b]?) → CallV Try.prog main V 67 #[tv] w' (.slice (some ⟨tb, toff, none⟩) n tc) w') (oa : Nat → Option Addr) (ln oc : Nat → Nat) :
    Walk Try.prog main (DR V) (fun g w' => (∃ u, g = G (hd46 (.func (.func fdo) first cap) tb toff tc w.heap.size n 0 u) cs) ∧ MkO w.heap.size n (.func (.func fdo) first cap) oa ln oc w w' 0) (G (Frame.enter Try.prog 55 #[tv, .func (.func fdo) first cap] .normal) cs) w := by
  have hi1 := Option.some_get (show (Try.prog.info? 29).isSome = true by kernel_rfl)
  have hi2 := Option.some_get (show (Try.prog.info? 126).isSome = true by kernel_rfl)
  rw [enter_at _ Try.func55 code55_is]
  simp only [Try.ntmps55, List.size_toArray, List.length_cons, List.length_nil, Nat.reduceAdd, Nat.reduceSub, Array.replicate_succ, Array.replicate_zero, List.push_toArray, List.append_toArray, List.nil_append, List.cons_append]
  repeat (first | refine Walk.c rfl ?_ | refine Walk.cRet ?_ | refine Walk.cEnd ?_ | (refine Walk.cReg ?_; simp only [size55_0, size55_1, size55_2, size55_3, size55_4, size55_5, size55_6, size55_7, size55_8, size55_9, size55_10, List.range, List.range.loop]) | (refine Walk.oq ?_; try walk_nrm) | (refine Walk.un ?_; walk_nrm))
  (refine Walk.oa ?_; try walk_nrm)
  have s1 : (w.alloc (.cells #[.func (.func fdo) first cap] 79)).heap.size = w.heap.size + 1 := by simp
  have o1 : ∀ b, b < w.heap.size → (w.alloc (.cells #[.func (.func fdo) first cap] 79)).heap[b]? = w.heap[b]? := fun b hb => heap_new_lt _ _ hb
  have d1 := heap_alloc_new w (.cells #[.func (.func fdo) first cap] 79)
  generalize hN : w.heap.size = N at *
  generalize w.alloc (.cells #[.func (.func fdo) first cap] 79) = w1 at *
  repeat (first | refine Walk.c rfl ?_ | refine Walk.cRet ?_ | refine Walk.cEnd ?_ | (refine Walk.cReg ?_; simp only [size55_0, size55_1, size55_2, size55_3, size55_4, size55_5, size55_6, size55_7, size55_8, size55_9, size55_10, List.range, List.range.loop]) | (refine Walk.oq ?_; try walk_nrm) | (refine Walk.un ?_; walk_nrm))
  refine Walk.callV (x := .slice (some ⟨tb, toff, none⟩) n tc) (W := w1) ?_ (ho_of (by conv => lhs; whnf) (by kernel_rfl)) (by rfl) (by decide) rfl Try.func67 (by kernel_rfl) (by rfl) ?_
  · walk_nrm
    exact hp w1 o1
  walk_nrm
  repeat (first | refine Walk.c rfl ?_ | refine Walk.cRet ?_ | refine Walk.cEnd ?_ | (refine Walk.cReg ?_; simp only [size55_0, size55_1, size55_2, size55_3, size55_4, size55_5, size55_6, size55_7, size55_8, size55_9, size55_10, List.range, List.range.loop]) | (refine Walk.oq ?_; try walk_nrm) | (refine Walk.un ?_; walk_nrm))
  refine Walk.make 23 (.tmp 13) (.tmp 13) (ho_of (by conv => lhs; whnf) (by kernel_rfl)) (by rfl) (by decide) rfl 29 _ (.slice none 0 0) 1 24 (by kernel_rfl) hi1.symm (by rfl) (by rfl) (by rfl) n (by rfl) (by rfl) (by omega) (by omega) ?_
  walk_nrm
  simp only [Value.cells, Nat.mul_one]
  have s2 : (w1.alloc (.cells (madeCells #[.slice none 0 0] n) 29)).heap.size = N + 2 := by simp [s1]
  have o2 : ∀ b, b < N + 1 → (w1.alloc (.cells (madeCells #[.slice none 0 0] n) 29)).heap[b]? = w1.heap[b]? := fun b hb => heap_new_lt _ _ (by omega)
  have d2 := heap_alloc_new w1 (.cells (madeCells #[.slice none 0 0] n) 29)
  rw [s1] at d2
  try simp only [s1]
  generalize w1.alloc (.cells (madeCells #[.slice none 0 0] n) 29) = w2 at *
  (refine Walk.oa ?_; try walk_nrm)
  have s3 : (w2.alloc (.cells #[.slice none 0 0] 23)).heap.size = N + 3 := by simp [s2]
  have o3 : ∀ b, b < N + 2 → (w2.alloc (.cells #[.slice none 0 0] 23)).heap[b]? = w2.heap[b]? := fun b hb => heap_new_lt _ _ (by omega)
  have d3 := heap_alloc_new w2 (.cells #[.slice none 0 0] 23)
  rw [s2] at d3
  try simp only [s2]
  generalize w2.alloc (.cells #[.slice none 0 0] 23) = w3 at *
  have c3 := (cell_of d3 0).trans rfl
  have z3 := frozen_of d3 0
  have f3 := (hA (N + 2) (by omega)).1 ⟨N + 2, 0, none⟩ rfl
  (refine Walk.os f3 c3 ?_; try walk_nrm)
  have s4 := size_set w3 ⟨N + 2, 0, none⟩ (.slice (some ⟨N + 1, 0, none⟩) n n)
  have o4 : ∀ b, b ≠ N + 2 → (w3.setCell ⟨N + 2, 0, none⟩ (.slice (some ⟨N + 1, 0, none⟩) n n)).heap[b]? = w3.heap[b]? := fun b hb => heap_set_other _ _ _ _ hb
  have d4 : (w3.setCell ⟨N + 2, 0, none⟩ (.slice (some ⟨N + 1, 0, none⟩) n n)).heap[N + 2]? = some (.cells #[.slice (some ⟨N + 1, 0, none⟩) n n] 23) := by
    rw [heap_set_self _ _ d3]
    simp
  rw [s3] at s4
  clear c3 z3 f3
  generalize w3.setCell ⟨N + 2, 0, none⟩ (.slice (some ⟨N + 1, 0, none⟩) n n) = w4 at *
  repeat (first | refine Walk.c rfl ?_ | refine Walk.cRet ?_ | refine Walk.cEnd ?_ | (refine Walk.cReg ?_; simp only [size55_0, size55_1, size55_2, size55_3, size55_4, size55_5, size55_6, size55_7, size55_8, size55_9, size55_10, List.range, List.range.loop]) | (refine Walk.oq ?_; try walk_nrm) | (refine Walk.un ?_; walk_nrm))
  refine Walk.make 111 (.tmp 16) (.tmp 16) (ho_of (by conv => lhs; whnf) (by kernel_rfl)) (by rfl) (by decide) rfl 126 _ .nilFunc 1 8 (by kernel_rfl) hi2.symm (by rfl) (by rfl) (by rfl) n (by rfl) (by rfl) (by omega) (by omega) ?_
  walk_nrm
  simp only [Value.cells, Nat.mul_one]
  have s5 : (w4.alloc (.cells (madeCells #[.nilFunc] n) 126)).heap.size = N + 4 := by simp [s4]
  have o5 : ∀ b, b < N + 3 → (w4.alloc (.cells (madeCells #[.nilFunc] n) 126)).heap[b]? = w4.heap[b]? := fun b hb => heap_new_lt _ _ (by omega)
  have d5 := heap_alloc_new w4 (.cells (madeCells #[.nilFunc] n) 126)
  rw [s4] at d5
  try simp only [s4]
  generalize w4.alloc (.cells (madeCells #[.nilFunc] n) 126) = w5 at *
  repeat (first | refine Walk.c rfl ?_ | refine Walk.cRet ?_ | refine Walk.cEnd ?_ | (refine Walk.cReg ?_; simp only [size55_0, size55_1, size55_2, size55_3, size55_4, size55_5, size55_6, size55_7, size55_8, size55_9, size55_10, List.range, List.range.loop]) | (refine Walk.oq ?_; try walk_nrm) | (refine Walk.un ?_; walk_nrm))
  refine Walk.ctl rfl (fun w => stepG_loop) ?_
  refine .stop fun d => ⟨at_slots ?_, MkO.at ⟨by omega, fun b hb => ?_, ?_, ?_, ?_, ⟨_, d5, madeCells_size _ _, fun j hj => absurd hj (Nat.not_lt_zero _)⟩, fun j hj => absurd hj (Nat.not_lt_zero _), fun j hj => absurd hj (Nat.not_lt_zero _)⟩ d⟩
  · simp only [hd46]
    rfl
  · rw [o5 b (by omega), o4 b (by omega), o3 b (by omega), o2 b (by omega), o1 b hb]
  · rw [o5 N (by omega), o4 N (by omega), o3 N (by omega), o2 N (by omega), d1]
  · rw [o5 _ (by omega), o4 _ (by omega), o3 _ (by omega), d2]
  · rw [o5 _ (by omega), d4]
end
end
section
def nxN (n j : Nat) : Int := if j + 1 = n then -1 else (j : Int) + 1
def firstN (n m : Nat) : Int := if m = n then -1 else (m : Int)
def sk0 (n : Nat) : Sk := ⟨0, heldX 0 0, nxN n, fun _ => 0⟩
theorem okH_zero (n : Nat) : OkH n 0 := by
  have h : nodeX 0 = -1 := by decide
  exact ⟨by omega, by omega, by omega, by omega⟩
theorem okH_one (n : Nat) (hn : 1 ≤ n) : OkH n (heldX 0 0) := by
  have h : heldX 0 0 = 1 := by decide
  have h2 : nodeX 1 = 0 := by decide
  rw [h]
  exact ⟨by omega, by omega, by omega, by omega⟩
structure NewI (kb nb n : Nat) (tg : Bool) (w0 w : World) (m : Nat) : Prop where
  k : w.heap[kb]? = some (.cells #[.bool tg, .int .i64 0, .bool tg, .int .i64 0, .slice (some ⟨nb, 0, none⟩) n n] 70)
  nd : ∃ arr : Array Value, w.heap[nb]? = some (.cells arr 95) ∧ ∀ i, i < n → arr[i * 2]? = some (.int .i64 (if i < m then 0 else nxN n i)) ∧ arr[i * 2 + 1]? = some (.int .i64 0)
  old : ∀ b, b < w0.heap.size → w.heap[b]? = w0.heap[b]?
  size : w.heap.size = w0.heap.size + 2
noncomputable def reg17_0 : Array Oper := match Try.f17.body with | some (.seq (.region _ ops _) _) => ops | _ => #[]
theorem size17_0 : reg17_0.size = 1 := by kernel_rfl
noncomputable def reg17_1 : Array Oper := match Try.f17.body with | some (.seq _ (.seq (.region _ ops _) _)) => ops | _ => #[]
theorem size17_1 : reg17_1.size = 11 := by kernel_rfl
noncomputable def reg17_2 : Array Oper := match Try.f17.body with | some (.seq _ (.seq _ (.seq (.region _ ops _) _))) => ops | _ => #[]
theorem size17_2 : reg17_2.size = 1 := by kernel_rfl
noncomputable def reg17_3 : Array Oper := match Try.f17.body with | some (.seq _ (.seq _ (.seq _ (.seq (.seq (.region _ ops _) _) _)))) => ops | _ => #[]
theorem size17_3 : reg17_3.size = 7 := by kernel_rfl
noncomputable def reg17_4 : Array Oper := match Try.f17.body with | some (.seq _ (.seq _ (.seq _ (.seq (.seq _ (.block _ (.loop (.seq (.seq (.region _ ops _) _) _)))) _)))) => ops | _ => #[]
theorem size17_4 : reg17_4.size = 2 := by kernel_rfl
noncomputable def reg17_6 : Array Oper := match Try.f17.body with | some (.seq _ (.seq _ (.seq _ (.seq (.seq _ (.block _ (.loop (.seq _ (.seq (.block _ (.seq (.region _ ops _) _)) _))))) _)))) => ops | _ => #[]
theorem size17_6 : reg17_6.size = 9 := by kernel_rfl
noncomputable def reg17_7 : Array Oper := match Try.f17.body with | some (.seq _ (.seq _ (.seq _ (.seq (.seq _ (.block _ (.loop (.seq _ (.seq (.block _ (.seq _ (.region _ ops _))) _))))) _)))) => ops | _ => #[]
theorem size17_7 : reg17_7.size = 2 := by kernel_rfl
noncomputable def reg17_5 : Array Oper := match Try.f17.body with | some (.seq _ (.seq _ (.seq _ (.seq (.seq _ (.block _ (.loop (.seq _ (.seq _ (.region _ ops _)))))) _)))) => ops | _ => #[]
theorem size17_5 : reg17_5.size = 3 := by kernel_rfl
noncomputable def reg17_8 : Array Oper := match Try.f17.body with | some (.seq _ (.seq _ (.seq _ (.seq _ (.seq (.region _ ops _) _))))) => ops | _ => #[]
theorem size17_8 : reg17_8.size = 7 := by kernel_rfl
noncomputable def reg17_9 : Array Oper := match Try.f17.body with | some (.seq _ (.seq _ (.seq _ (.seq _ (.seq _ (.seq (.region _ ops _) _)))))) => ops | _ => #[]
theorem size17_9 : reg17_9.size = 2 := by kernel_rfl
theorem code17_is : Try.f17.body = some (.seq (.region 0 reg17_0 false) (.seq (.region 1 reg17_1 false) (.seq (.region 2 reg17_2 false) (.seq (.seq (.region 3 reg17_3 false) (.block 0 (.loop (.seq (.seq (.region 4 reg17_4 false) (.cond (.tmp 25 ) (.skip) (.exit 0))) (.seq (.block 1 (.seq (.region 6 reg17_6 false) (.region 7 reg17_7 false))) (.region 5 reg17_5 false)))))) (.seq (.region 8 reg17_8 true) (.seq (.region 9 reg17_9 false) (.ret))))))) := by kernel_rfl
noncomputable def hdNew (sz : Int) (tg : Bool) (kb n m : Nat) (u : Nat → Value) : Frame :=
  (base 17).at { tmps := #[.int .i64 sz, .bool tg, u 2, u 3, .pointer none, .pointer (some ⟨kb, 0, none⟩), .int .i64 (firstN n m), .int .i64 ((m : Int) - 1), u 8, u 9, u 10, u 11, u 12, u 13, u 14, u 15, u 16, u 17, u 18, u 19, u 20, u 21, u 22, u 23, u 24, u 25, u 26, u 27, u 28, u 29, u 30, u 31, u 32, u 33, u 34, u 35, u 36, u 37, u 38, u 39, u 40, u 41, u 42, u 43, u 44, u 45], defers := [] } [.code (.seq (.seq (.region 4 reg17_4 false) (.cond (.tmp 25 ) (.skip) (.exit 0))) (.seq (.block 1 (.seq (.region 6 reg17_6 false) (.region 7 reg17_7 false))) (.region 5 reg17_5 false))), .inLoop (.seq (.seq (.region 4 reg17_4 false) (.cond (.tmp 25 ) (.skip) (.exit 0))) (.seq (.block 1 (.seq (.region 6 reg17_6 false) (.region 7 reg17_7 false))) (.region 5 reg17_5 false))), .inBlock 0, .code (.seq (.region 8 reg17_8 true) (.seq (.region 9 reg17_9 false) (.ret)))]
theorem made2 (n j : Nat) (hj : j < n * 2) : (madeCells #[.int .i64 0, .int .i64 0] (n * 2))[j]? = some (.int .i64 0) := by
  unfold madeCells
  rw [Array.getElem?_map, Array.getElem?_range, if_pos hj]
  have : j % 2 = 0 ∨ j % 2 = 1 := by omega
  rcases this with h | h <;> simp [h]
section
variable {main : Bool} {V : Nat → Option Wait}
theorem new_round (sz : Int) (tg : Bool) (kb nb n m : Nat) (hne : kb ≠ nb) (hm : m + 1 ≤ n) (hn : n ≤ 65536) (u : Nat → Value) (cs : List Frame) (w0 w : World) (I : NewI kb nb n tg w0 w (m + 1)) (hA : ∀ b, Apart V b) (hkb : w0.heap.size ≤ kb) (hnb : w0.heap.size ≤ nb) :
    Walk Try.prog main (DR V) (fun g w' => (∃ u, g = G (hdNew sz tg kb n m u) cs) ∧ NewI kb nb n tg w0 w' m) (G (hdNew sz tg kb n (m + 1) u) cs) w := by
  have hsl : w.cell? ⟨kb, 4, none⟩ = some (.slice (some ⟨nb, 0, none⟩) n n) := (cell_of I.k 4).trans rfl
  obtain ⟨arr, h1, h2⟩ := I.nd
  have c1 := (cell_of h1 _).trans (h2 m (by omega)).1
  have z1 := frozen_of h1 (m * 2)
  have he : (((m + 1 : Nat) : Int) - 1) = (m : Int) := by omega
  have hin : m < n := hm
  have hi0 : (0 : Int) ≤ m := by omega
  have hi1 : decide ((m : Int) < n) = true := by simp; omega
  have hi3 : decide (m < n) = true := by simp; omega
  have hi4 : decide ((0 : Int) ≤ m) = true := by simp
  have hw1 : IntKind.wrap .i64 ((m : Int) - 1) = (m : Int) - 1 := by rw [IntKind.wrap_i64]; omega
  unfold hdNew
  rw [he]
  repeat (first | refine Walk.c rfl ?_ | refine Walk.cRet ?_ | refine Walk.cEnd ?_ | (refine Walk.cReg ?_; simp only [size17_0, size17_1, size17_2, size17_3, size17_4, size17_6, size17_7, size17_5, size17_8, size17_9, List.range, List.range.loop]) | (refine Walk.oq ?_; try walk_nrm) | (refine Walk.un ?_; walk_nrm))
  refine Walk.callV (x := .tuple #[]) (W := w.setCell ⟨nb, m * 2, none⟩ (.int .i64 (firstN n (m + 1)))) ?_ (ho_of (by conv => lhs; whnf) (by kernel_rfl)) (by rfl) (by decide) rfl Try.func43 (by kernel_rfl) (by rfl) ?_
  · walk_nrm
    exact store_nil nb (m * 2) _ _ w c1 z1 ((hA nb).1 _ rfl)
  walk_nrm
  repeat (first | refine Walk.c rfl ?_ | refine Walk.cRet ?_ | refine Walk.cEnd ?_ | (refine Walk.cReg ?_; simp only [size17_0, size17_1, size17_2, size17_3, size17_4, size17_6, size17_7, size17_5, size17_8, size17_9, List.range, List.range.loop]) | (refine Walk.oq ?_; try walk_nrm) | (refine Walk.un ?_; walk_nrm))
  refine Walk.ctl rfl (fun w => stepG_inLoop) ?_
  refine .stop fun d => ⟨at_slots ?_, (heap_set_other _ _ _ _ hne).trans I.k, ⟨_, heap_set_self _ _ h1, fun i hi => ?_⟩, fun b hb => (heap_set_other _ _ _ _ (show b ≠ nb by omega)).trans (I.old b hb), (size_set ..).trans I.size⟩
  · have hf : firstN n m = (m : Int) := by unfold firstN; rw [if_neg (by omega)]
    simp only [hdNew, hf]
    rfl
  · have hl := (Array.getElem?_eq_some_iff.1 (h2 m (by omega)).1).1
    by_cases e : i = m
    · subst e
      refine ⟨?_, by rw [Array.getElem?_setIfInBounds_ne (by omega)]; exact (h2 i hi).2⟩
      rw [Array.getElem?_setIfInBounds_self_of_lt hl, if_neg (by omega)]
      unfold firstN nxN
      by_cases e2 : i + 1 = n
      · rw [if_pos e2, if_pos e2]
      · rw [if_neg e2, if_neg e2]; simp
    · refine ⟨?_, by rw [Array.getElem?_setIfInBounds_ne (by omega)]; exact (h2 i hi).2⟩
      rw [Array.getElem?_setIfInBounds_ne (by omega), (h2 i hi).1]
      by_cases e2 : i < m
      · rw [if_pos (by omega), if_pos e2]
      · rw [if_neg (by omega), if_neg e2]
theorem new_end (sz : Int) (tg : Bool) (kb nb n : Nat) (hne : kb ≠ nb) (hn1 : 1 ≤ n) (hn : n ≤ 65536) (u : Nat → Value) (c : Frame) (cs : List Frame) (w0 w : World) (I : NewI kb nb n tg w0 w 0) (hA : ∀ b, Apart V b) (hkb : w0.heap.size ≤ kb) :
    Walk Try.prog main (DR V) (fun g w' => g = G (c.finish (.pointer (some ⟨kb, 0, none⟩))) cs ∧ SkI kb nb n tg (sk0 n) w' ∧ (∀ b, b < w0.heap.size → w'.heap[b]? = w0.heap[b]?) ∧ w'.heap.size = w0.heap.size + 2) (G (hdNew sz tg kb n 0 u) (c :: cs)) w := by
  have c1 : w.cell? ⟨kb, 3, none⟩ = some (.int .i64 0) := (cell_of I.k 3).trans rfl
  have z1 := frozen_of I.k 3
  have he : (((0 : Nat) : Int) - 1) = -1 := by omega
  have hf : firstN n 0 = 0 := by unfold firstN; rw [if_neg (by omega)]; rfl
  unfold hdNew
  rw [he, hf]
  repeat (first | refine Walk.c rfl ?_ | refine Walk.cRet ?_ | refine Walk.cEnd ?_ | (refine Walk.cReg ?_; simp only [size17_0, size17_1, size17_2, size17_3, size17_4, size17_6, size17_7, size17_5, size17_8, size17_9, List.range, List.range.loop]) | (refine Walk.oq ?_; try walk_nrm) | (refine Walk.un ?_; walk_nrm))
  (refine Walk.drawnL (by kernel_rfl) size17_8 (by kernel_rfl) (by kernel_rfl) (by kernel_rfl) (by decide) ?_; simp only [List.range, List.range.loop]; repeat (first | (refine Cm.opqA (ho_of (by conv => lhs; whnf) (by kernel_rfl)) (by rfl) (fun dd e he => ?_) ?_; (· (simp [go_sem, *] at he; try (subst he; exact evR_read _ _))); apply Exists.intro; apply And.intro; (· (intro dd K hK; go_simp; exact hK))) | (refine Cm.unw (ho_of (by conv => lhs; whnf) (by kernel_rfl)) (by rfl) ?_; walk_nrm)))
  refine Cm.callV (x := .int .i64 (heldX 0 0)) ?_ (ho_of (by conv => lhs; whnf) (by kernel_rfl)) (by rfl) rfl Try.func44 (by kernel_rfl) (by rfl) ?_
  · intro w' he
    subst he
    walk_nrm
    exact newHeld_w 0 0 _
  walk_nrm
  refine Cm.done ?_
  intro rest hr
  refine Walk.callV (x := .tuple #[]) (W := w.setCell ⟨kb, 3, none⟩ (.int .i64 (heldX 0 0))) ?_ (ho_of (by conv => lhs; whnf) (by kernel_rfl)) (by rfl) (by decide) rfl Try.func43 (by kernel_rfl) (by rfl) ?_
  · walk_nrm
    exact store_nil kb 3 _ _ w c1 z1 ((hA kb).1 _ rfl)
  refine hr _ _ ?_
  walk_nrm
  repeat (first | refine Walk.c rfl ?_ | refine Walk.cRet ?_ | refine Walk.cEnd ?_ | (refine Walk.cReg ?_; simp only [size17_0, size17_1, size17_2, size17_3, size17_4, size17_6, size17_7, size17_5, size17_8, size17_9, List.range, List.range.loop]) | (refine Walk.oq ?_; try walk_nrm) | (refine Walk.un ?_; walk_nrm))
  refine Walk.on1 rfl rfl Try.func17 rfl (.stop fun d => ⟨rfl, ⟨?_, ?_, okH_zero n, okH_one n hn1, fun i hi => ?_⟩, fun b hb => (heap_set_other _ _ _ _ (show b ≠ kb by omega)).trans (I.old b hb), (size_set ..).trans I.size⟩)
  · refine (heap_set_self _ _ I.k).trans ?_
    simp [sk0]
  · obtain ⟨arr, h1, h2⟩ := I.nd
    exact ⟨arr, (heap_set_other _ _ _ _ (Ne.symm hne)).trans h1, fun i hi => by
      have := h2 i hi
      rw [if_neg (by omega)] at this
      exact this⟩
  · show -1 ≤ nxN n i ∧ nxN n i < n
    unfold nxN
    split <;> omega
def sizeN (sz : Int) : Nat := (min (max sz 1) 65536).toNat
theorem sizeN_le (sz : Int) : 1 ≤ sizeN sz ∧ sizeN sz ≤ 65536 ∧ ((sizeN sz : Nat) : Int) = min (max sz 1) 65536 := by
  unfold sizeN
  omega
theorem new_in (sz : Int) (tg : Bool) (cs : List Frame) (w : World) (hA : ∀ b, Apart V b) :
    Walk Try.prog main (DR V) (fun g w' => (∃ u, g = G (hdNew sz tg (w.heap.size + 1) (sizeN sz) (sizeN sz) u) cs) ∧ NewI (w.heap.size + 1) w.heap.size (sizeN sz) tg w w' (sizeN sz)) (G (Frame.enter Try.prog 17 #[.int .i64 sz, .bool tg] .normal) cs) w := by
  have hmx := @events_max_ints Try.prog
  have hmn := @events_min_ints Try.prog
  have hi1 := Option.some_get (show (Try.prog.info? 95).isSome = true by kernel_rfl)
  obtain ⟨q1, q2, q3⟩ := sizeN_le sz
  rw [enter_at _ Try.func17 code17_is]
  simp only [Try.ntmps17, List.size_toArray, List.length_cons, List.length_nil, Nat.reduceAdd, Nat.reduceSub, Array.replicate_succ, Array.replicate_zero, List.push_toArray, List.append_toArray, List.nil_append, List.cons_append]
  repeat (first | refine Walk.c rfl ?_ | refine Walk.cRet ?_ | refine Walk.cEnd ?_ | (refine Walk.cReg ?_; simp only [size17_0, size17_1, size17_2, size17_3, size17_4, size17_6, size17_7, size17_5, size17_8, size17_9, List.range, List.range.loop]) | (refine Walk.oq ?_; try walk_nrm) | (refine Walk.un ?_; walk_nrm))
  try rw [← q3]
  clear q3 hmx hmn
  generalize hn : sizeN sz = n at *
  clear hn
  refine Walk.make 68 (.tmp 14) (.tmp 14) (ho_of (by conv => lhs; whnf) (by kernel_rfl)) (by rfl) (by decide) rfl 95 _ (.agg #[.int .i64 0, .int .i64 0]) 2 16 (by kernel_rfl) hi1.symm (by rfl) (by rfl) (by rfl) n (by rfl) (by rfl) (by omega) (by omega) ?_
  walk_nrm
  simp only [Value.cells]
  have s1 : (w.alloc (.cells (madeCells #[.int .i64 0, .int .i64 0] (n * 2)) 95)).heap.size = w.heap.size + 1 := by simp
  have o1 : ∀ b, b < w.heap.size → (w.alloc (.cells (madeCells #[.int .i64 0, .int .i64 0] (n * 2)) 95)).heap[b]? = w.heap[b]? := fun b hb => heap_new_lt _ _ hb
  have d1 := heap_alloc_new w (.cells (madeCells #[.int .i64 0, .int .i64 0] (n * 2)) 95)
  generalize hN : w.heap.size = N at *
  generalize w.alloc (.cells (madeCells #[.int .i64 0, .int .i64 0] (n * 2)) 95) = w1 at *
  repeat (first | (refine Walk.oq ?_; try walk_nrm) | (refine Walk.un ?_; walk_nrm))
  (refine Walk.oa ?_; try walk_nrm)
  have s2 : (w1.alloc (.cells #[.bool tg, .int .i64 0, .bool tg, .int .i64 0, .slice (some ⟨N, 0, none⟩) n n] 70)).heap.size = N + 2 := by simp [s1]
  have o2 : ∀ b, b < N + 1 → (w1.alloc (.cells #[.bool tg, .int .i64 0, .bool tg, .int .i64 0, .slice (some ⟨N, 0, none⟩) n n] 70)).heap[b]? = w1.heap[b]? := fun b hb => heap_new_lt _ _ (by omega)
  have d2 := heap_alloc_new w1 (.cells #[.bool tg, .int .i64 0, .bool tg, .int .i64 0, .slice (some ⟨N, 0, none⟩) n n] 70)
  rw [s1] at d2
  try simp only [s1]
  generalize w1.alloc (.cells #[.bool tg, .int .i64 0, .bool tg, .int .i64 0, .slice (some ⟨N, 0, none⟩) n n] 70) = w2 at *
  have hsl : w2.cell? ⟨N + 1, 4, none⟩ = some (.slice (some ⟨N, 0, none⟩) n n) := (cell_of d2 4).trans rfl
  have hw1 : IntKind.wrap .i64 ((n : Int) - 1) = (n : Int) - 1 := by rw [IntKind.wrap_i64]; omega
  repeat (first | refine Walk.c rfl ?_ | refine Walk.cRet ?_ | refine Walk.cEnd ?_ | (refine Walk.cReg ?_; simp only [size17_0, size17_1, size17_2, size17_3, size17_4, size17_6, size17_7, size17_5, size17_8, size17_9, List.range, List.range.loop]) | (refine Walk.oq ?_; try walk_nrm) | (refine Walk.un ?_; walk_nrm))
  refine Walk.ctl rfl (fun w => stepG_loop) ?_
  refine .stop fun d => ⟨at_slots ?_, ⟨d2, ⟨_, (o2 N (by omega)).trans d1, fun i hi => ?_⟩, fun b hb => (o2 b (by omega)).trans (o1 b (by omega)), by rw [hN]; exact s2⟩⟩
  · have hf : firstN n n = -1 := by unfold firstN; rw [if_pos rfl]
    simp only [hdNew, hf]
    rfl
  · rw [if_pos hi]
    exact ⟨made2 n _ (by omega), made2 n _ (by omega)⟩
theorem new_w (sz : Int) (tg : Bool) (w : World) (hA : ∀ b, Apart V b) :
    CallW Try.prog main V 17 #[.int .i64 sz, .bool tg] w (fun v w' => v = .pointer (some ⟨w.heap.size + 1, 0, none⟩) ∧ SkI (w.heap.size + 1) w.heap.size (sizeN sz) tg (sk0 (sizeN sz)) w' ∧ (∀ b, b < w.heap.size → w'.heap[b]? = w.heap[b]?) ∧ w'.heap.size = w.heap.size + 2) := by
  intro c cs
  obtain ⟨q1, q2, q3⟩ := sizeN_le sz
  refine (new_in sz tg (c :: cs) w hA).then ?_
  rintro g w1 ⟨⟨u, rfl⟩, I⟩
  generalize sizeN sz = n at *
  have loop : ∀ (m : Nat) (u : Nat → Value) (w1 : World), m ≤ n → NewI (w.heap.size + 1) w.heap.size n tg w w1 m →
      Walk Try.prog main (DR V) (fun g w' => ∃ v, (v = .pointer (some ⟨w.heap.size + 1, 0, none⟩) ∧ SkI (w.heap.size + 1) w.heap.size n tg (sk0 n) w' ∧ (∀ b, b < w.heap.size → w'.heap[b]? = w.heap[b]?) ∧ w'.heap.size = w.heap.size + 2) ∧ g = G (c.finish v) cs) (G (hdNew sz tg (w.heap.size + 1) n m u) (c :: cs)) w1 := by
    intro m
    induction m with
    | zero =>
      intro u w1 _ I
      refine (new_end sz tg _ _ n (by omega) q1 q2 u c cs w w1 I hA (by omega)).mono ?_
      rintro g w' ⟨rfl, h⟩
      exact ⟨_, ⟨rfl, h⟩, rfl⟩
    | succ m ih =>
      intro u w1 hm I
      refine (new_round sz tg _ _ n m (by omega) hm q2 u (c :: cs) w w1 I hA (by omega) (Nat.le_refl _)).then ?_
      rintro g w' ⟨⟨u', rfl⟩, I'⟩
      exact ih u' w' (by omega) I'
  exact loop n u w1 (Nat.le_refl _) I
end
end
section
section
variable {P : Program} {main : Bool} {V : Nat → Option Wait} {Stop : Goroutine → World → Prop} {b : Frame} {a : Act} {cs : List Frame} {w : World} {fn : Func} {todo : List Item} {c : Frame} {t s r q : Tmp}
theorem Walk.on4 (hn : b.kind = .normal) (hd : a.defers = []) (hf : P.funcs[b.fn]? = some fn) (hr : fn.results = #[.tmp t, .tmp s, .tmp r, .tmp q]) (h : Walk P main (DR V) Stop (G (c.finish (.tuple #[a.tmps.getD t undef, a.tmps.getD s undef, a.tmps.getD r undef, a.tmps.getD q undef])) cs) w) : Walk P main (DR V) Stop (G { b.at a todo with mode := .returning } (c :: cs)) w :=
  Walk.ctl rfl (fun w => stepG_leave (v := .tuple #[a.tmps.getD t undef, a.tmps.getD s undef, a.tmps.getD r undef, a.tmps.getD q undef]) hn hd hf (by simp [results, hr]) (by simp [results, hr])) h
end
def headsV (s : Sk) : Value := .tuple #[.int .i64 (nodeX s.hd), .int .i64 (tagX s.hd), .int .i64 (nodeX s.fr), .int .i64 (tagX s.fr)]
def valsX (s : Sk) : Nat → Int → List Int
  | 0, _ => []
  | f + 1, i => if i = -1 then [] else s.vl i.toNat :: valsX s f (s.nx i.toNat)
def intRow (l : List Int) : List Value := l.map (.int .i64)
noncomputable def reg19_0 : Array Oper := match Try.f19.body with | some (.seq (.region _ ops _) _) => ops | _ => #[]
theorem size19_0 : reg19_0.size = 4 := by kernel_rfl
noncomputable def reg19_1 : Array Oper := match Try.f19.body with | some (.seq _ (.seq (.seq (.region _ ops _) _) _)) => ops | _ => #[]
theorem size19_1 : reg19_1.size = 2 := by kernel_rfl
noncomputable def reg19_2 : Array Oper := match Try.f19.body with | some (.seq _ (.seq (.seq _ (.cond _ (.seq (.region _ ops _) _) _)) _)) => ops | _ => #[]
theorem size19_2 : reg19_2.size = 4 := by kernel_rfl
noncomputable def reg19_3 : Array Oper := match Try.f19.body with | some (.seq _ (.seq _ (.seq (.region _ ops _) _))) => ops | _ => #[]
theorem size19_3 : reg19_3.size = 10 := by kernel_rfl
noncomputable def reg19_4 : Array Oper := match Try.f19.body with | some (.seq _ (.seq _ (.seq _ (.seq (.region _ ops _) _)))) => ops | _ => #[]
theorem size19_4 : reg19_4.size = 12 := by kernel_rfl
theorem code19_is : Try.f19.body = some (.seq (.region 0 reg19_0 false) (.seq (.seq (.region 1 reg19_1 false) (.cond (.tmp 9 ) (.seq (.region 2 reg19_2 false) (.ret)) (.skip))) (.seq (.region 3 reg19_3 true) (.seq (.region 4 reg19_4 false) (.ret))))) := by kernel_rfl
noncomputable def reg20_0 : Array Oper := match Try.f20.body with | some (.seq (.region _ ops _) _) => ops | _ => #[]
theorem size20_0 : reg20_0.size = 1 := by kernel_rfl
noncomputable def reg20_1 : Array Oper := match Try.f20.body with | some (.seq _ (.seq (.seq (.region _ ops _) _) _)) => ops | _ => #[]
theorem size20_1 : reg20_1.size = 2 := by kernel_rfl
noncomputable def reg20_2 : Array Oper := match Try.f20.body with | some (.seq _ (.seq (.seq _ (.cond _ (.seq (.region _ ops _) _) _)) _)) => ops | _ => #[]
theorem size20_2 : reg20_2.size = 1 := by kernel_rfl
noncomputable def reg20_3 : Array Oper := match Try.f20.body with | some (.seq _ (.seq _ (.seq (.region _ ops _) _))) => ops | _ => #[]
theorem size20_3 : reg20_3.size = 1 := by kernel_rfl
noncomputable def reg20_4 : Array Oper := match Try.f20.body with | some (.seq _ (.seq _ (.seq _ (.seq (.seq (.region _ ops _) _) _)))) => ops | _ => #[]
theorem size20_4 : reg20_4.size = 6 := by kernel_rfl
noncomputable def reg20_5 : Array Oper := match Try.f20.body with | some (.seq _ (.seq _ (.seq _ (.seq (.seq _ (.block _ (.loop (.seq (.seq (.region _ ops _) _) _)))) _)))) => ops | _ => #[]
theorem size20_5 : reg20_5.size = 12 := by kernel_rfl
noncomputable def reg20_7 : Array Oper := match Try.f20.body with | some (.seq _ (.seq _ (.seq _ (.seq (.seq _ (.block _ (.loop (.seq _ (.seq (.block _ (.region _ ops _)) _))))) _)))) => ops | _ => #[]
theorem size20_7 : reg20_7.size = 12 := by kernel_rfl
noncomputable def reg20_6 : Array Oper := match Try.f20.body with | some (.seq _ (.seq _ (.seq _ (.seq (.seq _ (.block _ (.loop (.seq _ (.seq _ (.region _ ops _)))))) _)))) => ops | _ => #[]
theorem size20_6 : reg20_6.size = 9 := by kernel_rfl
noncomputable def reg20_8 : Array Oper := match Try.f20.body with | some (.seq _ (.seq _ (.seq _ (.seq _ (.seq (.region _ ops _) _))))) => ops | _ => #[]
theorem size20_8 : reg20_8.size = 2 := by kernel_rfl
theorem code20_is : Try.f20.body = some (.seq (.region 0 reg20_0 false) (.seq (.seq (.region 1 reg20_1 false) (.cond (.tmp 6 ) (.seq (.region 2 reg20_2 false) (.ret)) (.skip))) (.seq (.region 3 reg20_3 false) (.seq (.seq (.region 4 reg20_4 false) (.block 0 (.loop (.seq (.seq (.region 5 reg20_5 false) (.cond (.tmp 23 ) (.skip) (.exit 0))) (.seq (.block 1 (.region 7 reg20_7 false)) (.region 6 reg20_6 false)))))) (.seq (.region 8 reg20_8 false) (.ret)))))) := by kernel_rfl
section
variable {main : Bool} {V : Nat → Option Wait} {kb nb n : Nat} {tg : Bool}
theorem heads_w (s : Sk) (w : World) (I : SkI kb nb n tg s w) : CallV Try.prog main V 19 #[.pointer (some ⟨kb, 0, none⟩)] w (headsV s) w := by
  have hp1 := fun w => run_eql_ptr (P := Try.prog) 38 (by kernel_rfl : Try.prog.underlying 38 = some (.pointer 70)) (some ⟨kb, 0, none⟩) w
  have hp2 := fun w es => ev_eql_ptr (P := Try.prog) 38 (by kernel_rfl : Try.prog.underlying 38 = some (.pointer 70)) (some ⟨kb, 0, none⟩) w es
  simp only [Option.isNone_some] at hp1
  have c1 : w.cell? ⟨kb, 0 + 1, none⟩ = some (.int .i64 s.hd) := (cell_of I.k 1).trans rfl
  have c3 : w.cell? ⟨kb, 2 + 1, none⟩ = some (.int .i64 s.fr) := (cell_of I.k 3).trans rfl
  refine callW_in Try.func19 code19_is fun fr cs => ?_
  simp only [Try.ntmps19, List.size_toArray, List.length_cons, List.length_nil, Nat.reduceAdd, Nat.reduceSub, Array.replicate_succ, Array.replicate_zero, List.push_toArray, List.append_toArray, List.nil_append, List.cons_append]
  repeat (first | refine Walk.c rfl ?_ | refine Walk.cRet ?_ | refine Walk.cEnd ?_ | (refine Walk.cReg ?_; simp only [size19_0, size19_1, size19_2, size19_3, size19_4, List.range, List.range.loop]) | (refine Walk.oq ?_; try walk_nrm) | (refine Walk.un ?_; walk_nrm))
  (refine Walk.drawnCW (by kernel_rfl) size19_3 (by kernel_rfl) (by kernel_rfl) (by decide) ?_; simp only [List.range, List.range.loop]; repeat (first | (refine Cm.opqA (ho_of (by conv => lhs; whnf) (by kernel_rfl)) (by rfl) (fun dd e he => ?_) ?_; (· (simp [go_sem, *] at he; try (subst he; exact evR_read _ _))); apply Exists.intro; apply And.intro; (· (intro dd K hK; go_simp; exact hK))) | (refine Cm.unw (ho_of (by conv => lhs; whnf) (by kernel_rfl)) (by rfl) ?_; walk_nrm)))
  refine Cm.callV (x := .int .i64 s.hd) ?_ (ho_of (by conv => lhs; whnf) (by kernel_rfl)) (by rfl) rfl Try.func45 (by kernel_rfl) (by rfl) ?_
  · intro w' he
    subst he
    walk_nrm
    exact hload_nil kb 0 s.hd _ c1
  walk_nrm
  repeat (first | (refine Cm.opqA (ho_of (by conv => lhs; whnf) (by kernel_rfl)) (by rfl) (fun dd e he => ?_) ?_; (· (simp [go_sem, *] at he; try (subst he; exact evR_read _ _))); apply Exists.intro; apply And.intro; (· (intro dd K hK; go_simp; exact hK))) | (refine Cm.unw (ho_of (by conv => lhs; whnf) (by kernel_rfl)) (by rfl) ?_; walk_nrm))
  refine Cm.callV (x := .int .i64 s.fr) ?_ (ho_of (by conv => lhs; whnf) (by kernel_rfl)) (by rfl) rfl Try.func45 (by kernel_rfl) (by rfl) ?_
  · intro w' he
    subst he
    walk_nrm
    exact hload_nil kb 2 s.fr _ c3
  walk_nrm
  repeat (first | (refine Cm.opqA (ho_of (by conv => lhs; whnf) (by kernel_rfl)) (by rfl) (fun dd e he => ?_) ?_; (· (simp [go_sem, *] at he; try (subst he; exact evR_read _ _))); apply Exists.intro; apply And.intro; (· (intro dd K hK; go_simp; exact hK))) | (refine Cm.unw (ho_of (by conv => lhs; whnf) (by kernel_rfl)) (by rfl) ?_; walk_nrm))
  refine Cm.done ?_
  repeat (first | refine Walk.c rfl ?_ | refine Walk.cRet ?_ | refine Walk.cEnd ?_ | (refine Walk.cReg ?_; simp only [size19_0, size19_1, size19_2, size19_3, size19_4, List.range, List.range.loop]) | (refine Walk.oq ?_; try walk_nrm) | (refine Walk.un ?_; walk_nrm))
  refine Walk.callV (x := .int .i64 (nodeX s.hd)) (W := w) ?_ (ho_of (by conv => lhs; whnf) (by kernel_rfl)) (by rfl) (by decide) rfl Try.func46 (by kernel_rfl) (by rfl) ?_
  · walk_nrm
    exact node_w _ w
  walk_nrm
  repeat (first | (refine Walk.oq ?_; try walk_nrm) | (refine Walk.un ?_; walk_nrm))
  refine Walk.callV (x := .int .i64 (tagX s.hd)) (W := w) ?_ (ho_of (by conv => lhs; whnf) (by kernel_rfl)) (by rfl) (by decide) rfl Try.func47 (by kernel_rfl) (by rfl) ?_
  · walk_nrm
    exact tag_w _ w
  walk_nrm
  repeat (first | (refine Walk.oq ?_; try walk_nrm) | (refine Walk.un ?_; walk_nrm))
  refine Walk.callV (x := .int .i64 (nodeX s.fr)) (W := w) ?_ (ho_of (by conv => lhs; whnf) (by kernel_rfl)) (by rfl) (by decide) rfl Try.func46 (by kernel_rfl) (by rfl) ?_
  · walk_nrm
    exact node_w _ w
  walk_nrm
  repeat (first | (refine Walk.oq ?_; try walk_nrm) | (refine Walk.un ?_; walk_nrm))
  refine Walk.callV (x := .int .i64 (tagX s.fr)) (W := w) ?_ (ho_of (by conv => lhs; whnf) (by kernel_rfl)) (by rfl) (by decide) rfl Try.func47 (by kernel_rfl) (by rfl) ?_
  · walk_nrm
    exact tag_w _ w
  walk_nrm
  repeat (first | refine Walk.c rfl ?_ | refine Walk.cRet ?_ | refine Walk.cEnd ?_ | (refine Walk.cReg ?_; simp only [size19_0, size19_1, size19_2, size19_3, size19_4, List.range, List.range.loop]) | (refine Walk.oq ?_; try walk_nrm) | (refine Walk.un ?_; walk_nrm))
  exact Walk.on4 rfl rfl Try.func19 rfl (.stop fun d => ⟨_, ⟨rfl, d, rfl⟩, rfl⟩)
structure VI (w0 w : World) (pre : List Int) (ta : Option Addr) (tc : Nat) : Prop where
  row : w.ownsRow w0.heap.size 2 1 (.slice ta pre.length tc) pre.length (intRow pre)
  old : ∀ b, b < w0.heap.size → w.heap[b]? = w0.heap[b]?
  size : w0.heap.size ≤ w.heap.size
noncomputable def hdVal (kb : Nat) (av : Value) (i : Int) (u : Nat → Value) : Frame :=
  (base 20).at { tmps := #[.pointer (some ⟨kb, 0, none⟩), u 1, u 2, av, .int .i64 i, u 5, u 6, u 7, u 8, u 9, u 10, u 11, u 12, u 13, u 14, u 15, u 16, u 17, u 18, u 19, u 20, u 21, u 22, u 23, u 24, u 25, u 26, u 27, u 28, u 29, u 30, u 31, u 32, u 33, u 34, u 35, u 36, u 37, u 38, u 39, u 40, u 41, u 42, u 43], defers := [] } [.code (.seq (.seq (.region 5 reg20_5 false) (.cond (.tmp 23 ) (.skip) (.exit 0))) (.seq (.block 1 (.region 7 reg20_7 false)) (.region 6 reg20_6 false))), .inLoop (.seq (.seq (.region 5 reg20_5 false) (.cond (.tmp 23 ) (.skip) (.exit 0))) (.seq (.block 1 (.region 7 reg20_7 false)) (.region 6 reg20_6 false))), .inBlock 0, .code (.seq (.region 8 reg20_8 false) (.ret))]
theorem val_end (s : Sk) (i : Int) (pre : List Int) (ta : Option Addr) (tc : Nat) (w0 w : World) (I : SkI kb nb n tg s w) (hp : pre.length ≤ n) (hn : n ≤ 65536) (he : i = -1 ∨ (pre.length = n ∧ (i == -1) = false)) (u : Nat → Value) (c : Frame) (cs : List Frame) :
    Walk Try.prog main (DR V) (fun g w' => g = G (c.finish (.slice ta pre.length tc)) cs ∧ ∃ d, w' = w.at d) (G (hdVal kb (.slice ta pre.length tc) i u) (c :: cs)) w := by
  have hsl := sk_nodes I
  unfold hdVal
  rcases he with rfl | ⟨he, hi⟩
  · repeat (first | refine Walk.c rfl ?_ | refine Walk.cRet ?_ | refine Walk.cEnd ?_ | (refine Walk.cReg ?_; simp only [size20_0, size20_1, size20_2, size20_3, size20_4, size20_5, size20_7, size20_6, size20_8, List.range, List.range.loop]) | (refine Walk.oq ?_; try walk_nrm) | (refine Walk.un ?_; walk_nrm))
    exact Walk.on1 rfl rfl Try.func20 rfl (.stop fun d => ⟨rfl, d, rfl⟩)
  · have hb1 : (i != -1) = true := by unfold bne; rw [hi]; rfl
    have hl1 : decide ((pre.length : Int) < n) = false := by simp; omega
    have hl2 : decide (pre.length < n) = false := by simp; omega
    have hl3 : ¬ pre.length < n := by omega
    repeat (first | refine Walk.c rfl ?_ | refine Walk.cRet ?_ | refine Walk.cEnd ?_ | (refine Walk.cReg ?_; simp only [size20_0, size20_1, size20_2, size20_3, size20_4, size20_5, size20_7, size20_6, size20_8, List.range, List.range.loop]) | (refine Walk.oq ?_; try walk_nrm) | (refine Walk.un ?_; walk_nrm))
    exact Walk.on1 rfl rfl Try.func20 rfl (.stop fun d => ⟨by rw [he]; rfl, d, rfl⟩)
end
end
section
section
variable {main : Bool} {V : Nat → Option Wait} {kb nb n : Nat} {tg : Bool}
theorem SkI.old {s : Sk} {w0 w : World} (I : SkI kb nb n tg s w0) (h : ∀ b, b < w0.heap.size → w.heap[b]? = w0.heap[b]?) : SkI kb nb n tg s w :=
  (skLa kb nb n tg).stable I fun b hb => h b ((skLa kb nb n tg).lt I hb)
theorem val_round (hne : kb ≠ nb) (s : Sk) (j : Nat) (pre : List Int) (ta : Option Addr) (tc : Nat) (w0 w : World) (I0 : SkI kb nb n tg s w0) (hp : pre.length < n) (hn : n ≤ 65536) (hj : j < n) (H : VI w0 w pre ta tc) (hA : ∀ b, Apart V b) (u : Nat → Value) (cs : List Frame) :
    Walk Try.prog main (DR V) (fun g w' => ∃ ta' tc', (∃ u, g = G (hdVal kb (.slice ta' (pre ++ [s.vl j]).length tc') (s.nx j) u) cs) ∧ VI w0 w' (pre ++ [s.vl j]) ta' tc') (G (hdVal kb (.slice ta pre.length tc) (j : Nat) u) cs) w := by
  have hi2 := Option.some_get (show (Try.prog.info? 2).isSome = true by kernel_rfl)
  have I : SkI kb nb n tg s w := I0.old H.old
  have hsl := sk_nodes I
  obtain ⟨arr, h1, h2⟩ := I.nd
  have cn := (cell_of h1 _).trans (h2 j hj).1
  have cv := (cell_of h1 _).trans (h2 j hj).2
  have hb0 : ((j : Int) == -1) = false := by simp
  have hb1 : ((j : Int) != -1) = true := by unfold bne; rw [hb0]; rfl
  have hl1 : decide ((pre.length : Int) < n) = true := by simp; omega
  have hl2 : decide (pre.length < n) = true := by simp; omega
  have hi0 : (0 : Int) ≤ j := by omega
  have hi1 : decide ((j : Int) < n) = true := by simp; omega
  have hi3 : decide (j < n) = true := by simp; omega
  unfold hdVal
  repeat (first | refine Walk.c rfl ?_ | refine Walk.cRet ?_ | refine Walk.cEnd ?_ | (refine Walk.cReg ?_; simp only [size20_0, size20_1, size20_2, size20_3, size20_4, size20_5, size20_7, size20_6, size20_8, List.range, List.range.loop]) | (refine Walk.oq ?_; try walk_nrm) | (refine Walk.un ?_; walk_nrm))
  refine Walk.callV (x := .int .i64 (s.vl j)) (W := w) ?_ (ho_of (by conv => lhs; whnf) (by kernel_rfl)) (by rfl) (by decide) rfl Try.func48 (by kernel_rfl) (by rfl) ?_
  · walk_nrm
    exact value_nil nb _ _ w cv
  walk_nrm
  repeat (first | (refine Walk.oq ?_; try walk_nrm) | (refine Walk.un ?_; walk_nrm))
  (refine Walk.oa ?_; try walk_nrm)
  have hs1 : (w.alloc (.cells #[.int .i64 (s.vl j)] 2)).heap.size = w.heap.size + 1 := by simp
  have o1 : ∀ b, b < w.heap.size → (w.alloc (.cells #[.int .i64 (s.vl j)] 2)).heap[b]? = w.heap[b]? := fun b hb => heap_new_lt _ _ hb
  have d1 := heap_alloc_new w (.cells #[.int .i64 (s.vl j)] 2)
  have hrow : (w.alloc (.cells #[.int .i64 (s.vl j)] 2)).ownsRow w0.heap.size 2 1 (.slice ta pre.length tc) pre.length (intRow pre) := row_same H.row fun b hb => o1 b (H.row.lt b hb).2
  have hnews : ∀ (q : Nat) (x : Value), ([.int .i64 (s.vl j)] : List Value)[q]? = some x → (w.alloc (.cells #[.int .i64 (s.vl j)] 2)).cell? ((⟨w.heap.size, 0, none⟩ : Addr).add q) = some x := fun q x hx => by
    rw [add_none, Nat.zero_add]
    refine (cell_of d1 q).trans ?_
    simpa using hx
  have hHs := H.size
  refine Walk.append (.tmp 32) (.tmp 41) 25 (ho_of (by conv => lhs; whnf) (by kernel_rfl)) (by rfl) (by decide) rfl w0.heap.size 2 _ (.int .i64 0) 1 8 (by kernel_rfl) hi2.symm (by rfl) (by rfl) (by rfl) (by rfl) (by decide) (.slice ta pre.length tc) pre.length (intRow pre) rfl hrow ⟨w.heap.size, 0, none⟩ 1 1 [.int .i64 (s.vl j)] rfl (by rfl) hnews (by simp [Value.oneCell']) (by decide) (by simp [maxLen]; omega) (by omega) (by omega) (fun b _ => hA b) (fun g gcap w3 hown3 hgr hat hlt => ?_)
  have hold : ∀ b, b < w0.heap.size → w3.heap[b]? = w0.heap[b]? := fun b hb => (hgr.block b (by omega) (fun he => by have := (H.row.lt b he.symm).1; omega)).trans ((o1 b (by omega)).trans (H.old b hb))
  have hs3 := hgr.size
  have hsz : w0.heap.size ≤ w3.heap.size := by omega
  clear hrow hnews o1 d1
  have I3 : SkI kb nb n tg s w3 := I0.old hold
  have hsl3 := sk_nodes I3
  obtain ⟨arr3, g1, g2⟩ := I3.nd
  have cn3 := (cell_of g1 _).trans (g2 j hj).1
  clear hsl cn cv h1 h2 I
  generalize w.alloc (.cells #[.int .i64 (s.vl j)] 2) = w1 at *
  walk_nrm
  repeat (first | refine Walk.c rfl ?_ | refine Walk.cRet ?_ | refine Walk.cEnd ?_ | (refine Walk.cReg ?_; simp only [size20_0, size20_1, size20_2, size20_3, size20_4, size20_5, size20_7, size20_6, size20_8, List.range, List.range.loop]) | (refine Walk.oq ?_; try walk_nrm) | (refine Walk.un ?_; walk_nrm))
  refine Walk.callV (x := .int .i64 (s.nx j)) (W := w3) ?_ (ho_of (by conv => lhs; whnf) (by kernel_rfl)) (by rfl) (by decide) rfl Try.func48 (by kernel_rfl) (by rfl) ?_
  · walk_nrm
    exact value_nil nb _ _ w3 cn3
  walk_nrm
  repeat (first | refine Walk.c rfl ?_ | refine Walk.cRet ?_ | refine Walk.cEnd ?_ | (refine Walk.cReg ?_; simp only [size20_0, size20_1, size20_2, size20_3, size20_4, size20_5, size20_7, size20_6, size20_8, List.range, List.range.loop]) | (refine Walk.oq ?_; try walk_nrm) | (refine Walk.un ?_; walk_nrm))
  refine Walk.ctl rfl (fun w => stepG_inLoop) ?_
  refine .stop fun d => ⟨some ⟨g, 0, none⟩, gcap, at_slots ?_, ?_, hold, hsz⟩
  · rw [List.length_append, List.length_singleton]
    simp only [hdVal]
    rfl
  · have : intRow (pre ++ [s.vl j]) = intRow pre ++ [.int .i64 (s.vl j)] := by simp [intRow]
    rw [this, List.length_append, List.length_singleton]
    exact hown3
def ValOut (w0 : World) (l : List Int) (v : Value) (w' : World) : Prop := ∃ ta tc, v = .slice ta l.length tc ∧ VI w0 w' l ta tc
theorem val_loop (hne : kb ≠ nb) (s : Sk) (w0 : World) (I0 : SkI kb nb n tg s w0) (hn : n ≤ 65536) (hA : ∀ b, Apart V b) (c : Frame) (cs : List Frame) :
    ∀ (r : Nat) (i : Int) (pre : List Int) (ta : Option Addr) (tc : Nat) (u : Nat → Value) (w : World), pre.length + r = n → -1 ≤ i → i < n → VI w0 w pre ta tc →
      Walk Try.prog main (DR V) (fun g w' => ∃ v, ValOut w0 (pre ++ valsX s r i) v w' ∧ g = G (c.finish v) cs) (G (hdVal kb (.slice ta pre.length tc) i u) (c :: cs)) w := by
  intro r
  induction r with
  | zero =>
    intro i pre ta tc u w hr h1 h2 H
    refine (val_end s i pre ta tc w0 w (I0.old H.old) (by omega) hn ?_ u c cs).mono ?_
    · by_cases e : i = -1
      · exact .inl e
      · exact .inr ⟨by omega, by simp [e]⟩
    · rintro g w' ⟨rfl, d, rfl⟩
      refine ⟨_, ⟨ta, tc, ?_, ?_⟩, rfl⟩
      · simp [valsX]
      · simp only [valsX, List.append_nil]
        exact ⟨H.row, H.old, H.size⟩
  | succ r ih =>
    intro i pre ta tc u w hr h1 h2 H
    by_cases e : i = -1
    · refine (val_end s i pre ta tc w0 w (I0.old H.old) (by omega) hn (.inl e) u c cs).mono ?_
      rintro g w' ⟨rfl, d, rfl⟩
      refine ⟨_, ⟨ta, tc, ?_, ?_⟩, rfl⟩
      · simp [valsX, e]
      · simp only [valsX, e, if_true, List.append_nil]
        exact ⟨H.row, H.old, H.size⟩
    · obtain ⟨j, rfl⟩ : ∃ j : Nat, i = j := ⟨i.toNat, by omega⟩
      have hj : j < n := by omega
      refine (val_round hne s j pre ta tc w0 w I0 (by omega) hn hj H hA u (c :: cs)).then ?_
      rintro g w' ⟨ta', tc', ⟨u', rfl⟩, H'⟩
      obtain ⟨x1, x2⟩ := I0.nx j hj
      refine (ih (s.nx j) (pre ++ [s.vl j]) ta' tc' u' w' (by simp; omega) x1 x2 H').mono ?_
      rintro g w' ⟨v, hv, rfl⟩
      refine ⟨v, ?_, rfl⟩
      have : pre ++ valsX s (r + 1) (j : Int) = pre ++ [s.vl j] ++ valsX s r (s.nx j) := by
        simp [valsX, e]
      rw [this]
      exact hv
theorem values_w (hne : kb ≠ nb) (s : Sk) (w : World) (I : SkI kb nb n tg s w) (hn : n ≤ 65536) (hA : ∀ b, Apart V b) : CallW Try.prog main V 20 #[.pointer (some ⟨kb, 0, none⟩)] w (ValOut w (valsX s n (nodeX s.hd))) := by
  intro c cs
  have hp1 := fun w => run_eql_ptr (P := Try.prog) 38 (by kernel_rfl : Try.prog.underlying 38 = some (.pointer 70)) (some ⟨kb, 0, none⟩) w
  have hp2 := fun w es => ev_eql_ptr (P := Try.prog) 38 (by kernel_rfl : Try.prog.underlying 38 = some (.pointer 70)) (some ⟨kb, 0, none⟩) w es
  simp only [Option.isNone_some] at hp1
  have c1 : w.cell? ⟨kb, 0 + 1, none⟩ = some (.int .i64 s.hd) := (cell_of I.k 1).trans rfl
  have key := fun u => val_loop (main := main) hne s w I hn hA c cs n (nodeX s.hd) [] none 0 u w (by simp) I.hd.nlo I.hd.nhi ⟨⟨rfl, .inl ⟨rfl, rfl⟩⟩, fun _ _ => rfl, Nat.le_refl _⟩
  simp only [List.nil_append, List.length_nil] at key
  rw [enter_at _ Try.func20 code20_is]
  simp only [Try.ntmps20, List.size_toArray, List.length_cons, List.length_nil, Nat.reduceAdd, Nat.reduceSub, Array.replicate_succ, Array.replicate_zero, List.push_toArray, List.append_toArray, List.nil_append, List.cons_append]
  repeat (first | refine Walk.c rfl ?_ | refine Walk.cRet ?_ | refine Walk.cEnd ?_ | (refine Walk.cReg ?_; simp only [size20_0, size20_1, size20_2, size20_3, size20_4, size20_5, size20_7, size20_6, size20_8, List.range, List.range.loop]) | (refine Walk.oq ?_; try walk_nrm) | (refine Walk.un ?_; walk_nrm))
  refine Walk.callV (x := .int .i64 s.hd) (W := w) ?_ (ho_of (by conv => lhs; whnf) (by kernel_rfl)) (by rfl) (by decide) rfl Try.func45 (by kernel_rfl) (by rfl) ?_
  · walk_nrm
    exact hload_nil kb 0 s.hd w c1
  walk_nrm
  repeat (first | (refine Walk.oq ?_; try walk_nrm) | (refine Walk.un ?_; walk_nrm))
  refine Walk.callV (x := .int .i64 (nodeX s.hd)) (W := w) ?_ (ho_of (by conv => lhs; whnf) (by kernel_rfl)) (by rfl) (by decide) rfl Try.func46 (by kernel_rfl) (by rfl) ?_
  · walk_nrm
    exact node_w _ w
  walk_nrm
  repeat (first | refine Walk.c rfl ?_ | refine Walk.cRet ?_ | refine Walk.cEnd ?_ | (refine Walk.cReg ?_; simp only [size20_0, size20_1, size20_2, size20_3, size20_4, size20_5, size20_7, size20_6, size20_8, List.range, List.range.loop]) | (refine Walk.oq ?_; try walk_nrm) | (refine Walk.un ?_; walk_nrm))
  refine Walk.ctl rfl (fun w => stepG_loop) ?_
  refine slots_walk (F := fun u => G (hdVal kb (.slice none 0 0) (nodeX s.hd) u) (c :: cs)) key ?_
  simp only [hdVal]
  rfl
end
end
section
noncomputable def reg34_0 : Array Oper := match Try.f34.body with | some (.seq (.region _ ops _) _) => ops | _ => #[]
theorem size34_0 : reg34_0.size = 1 := by kernel_rfl
noncomputable def reg34_1 : Array Oper := match Try.f34.body with | some (.seq _ (.seq (.region _ ops _) _)) => ops | _ => #[]
theorem size34_1 : reg34_1.size = 11 := by kernel_rfl
noncomputable def reg34_2 : Array Oper := match Try.f34.body with | some (.seq _ (.seq _ (.seq (.region _ ops _) _))) => ops | _ => #[]
theorem size34_2 : reg34_2.size = 9 := by kernel_rfl
theorem code34_is : Try.f34.body = some (.seq (.region 0 reg34_0 false) (.seq (.region 1 reg34_1 false) (.seq (.region 2 reg34_2 false) (.ret)))) := by kernel_rfl
theorem VI.cells {w0 w : World} {l : List Int} {ta : Option Addr} {tc : Nat} (H : VI w0 w l ta tc) (hl : l ≠ []) : ∃ g, ta = some ⟨g, 0, none⟩ ∧ w0.heap.size ≤ g ∧ ∀ (j : Nat) (x : Value), (intRow l)[j]? = some x → w.cell? ⟨g, j, none⟩ = some x := by
  rcases H.row.2 with ⟨_, e⟩ | ⟨g, cap, cur, e, hb, hh, hc, _, hs, ht⟩
  · exact absurd (List.length_eq_zero_iff.1 e) hl
  · injection e with e1 _ _
    refine ⟨g, e1, hb, fun j x hx => ?_⟩
    refine (cell_of hh j).trans ?_
    rw [← ht, List.getElem?_take] at hx
    split at hx
    · simpa using hx
    · cases hx
section
variable {main : Bool} {V : Nat → Option Wait} {kb nb n : Nat} {tg : Bool}
def stateX (n : Nat) (s : Sk) : List Int := [nodeX s.hd, tagX s.hd, nodeX s.fr, tagX s.fr] ++ valsX s n (nodeX s.hd)
theorem state_w (hne : kb ≠ nb) (s : Sk) (w : World) (I : SkI kb nb n tg s w) (hn : n ≤ 65536) (hA : ∀ b, Apart V b) (hl : valsX s n (nodeX s.hd) ≠ []) (hlen : (valsX s n (nodeX s.hd)).length ≤ 65536) : CallW Try.prog main V 34 #[.pointer (some ⟨kb, 0, none⟩)] w (ValOut w (stateX n s)) := by
  intro c cs
  have hi2 := Option.some_get (show (Try.prog.info? 2).isSome = true by kernel_rfl)
  rw [enter_at _ Try.func34 code34_is]
  simp only [Try.ntmps34, List.size_toArray, List.length_cons, List.length_nil, Nat.reduceAdd, Nat.reduceSub, Array.replicate_succ, Array.replicate_zero, List.push_toArray, List.append_toArray, List.nil_append, List.cons_append]
  repeat (first | refine Walk.c rfl ?_ | refine Walk.cRet ?_ | refine Walk.cEnd ?_ | (refine Walk.cReg ?_; simp only [size34_0, size34_1, size34_2, List.range, List.range.loop]) | (refine Walk.oq ?_; try walk_nrm) | (refine Walk.un ?_; walk_nrm))
  refine Walk.callV (x := headsV s) (W := w) ?_ (ho_of (by conv => lhs; whnf) (by kernel_rfl)) (by rfl) (by decide) rfl Try.func19 (by kernel_rfl) (by rfl) ?_
  · walk_nrm
    exact heads_w s w I
  walk_nrm
  simp only [headsV]
  repeat (first | refine Walk.c rfl ?_ | refine Walk.cRet ?_ | refine Walk.cEnd ?_ | (refine Walk.cReg ?_; simp only [size34_0, size34_1, size34_2, List.range, List.range.loop]) | (refine Walk.oq ?_; try walk_nrm) | (refine Walk.un ?_; walk_nrm))
  (refine Walk.oa ?_; try walk_nrm)
  generalize hl4 : ([nodeX s.hd, tagX s.hd, nodeX s.fr, tagX s.fr] : List Int) = l4
  have hs1 : (w.alloc (.cells #[.int .i64 (nodeX s.hd), .int .i64 (tagX s.hd), .int .i64 (nodeX s.fr), .int .i64 (tagX s.fr)] 2)).heap.size = w.heap.size + 1 := by simp
  have o1 : ∀ b, b < w.heap.size → (w.alloc (.cells #[.int .i64 (nodeX s.hd), .int .i64 (tagX s.hd), .int .i64 (nodeX s.fr), .int .i64 (tagX s.fr)] 2)).heap[b]? = w.heap[b]? := fun b hb => heap_new_lt _ _ hb
  have d1 := heap_alloc_new w (.cells #[.int .i64 (nodeX s.hd), .int .i64 (tagX s.hd), .int .i64 (nodeX s.fr), .int .i64 (tagX s.fr)] 2)
  generalize w.alloc (.cells #[.int .i64 (nodeX s.hd), .int .i64 (tagX s.hd), .int .i64 (nodeX s.fr), .int .i64 (tagX s.fr)] 2) = w1 at *
  have I1 : SkI kb nb n tg s w1 := I.old o1
  repeat (first | (refine Walk.oq ?_; try walk_nrm) | (refine Walk.un ?_; walk_nrm))
  refine Walk.callW (Post := ValOut w1 (valsX s n (nodeX s.hd))) ?_ (ho_of (by conv => lhs; whnf) (by kernel_rfl)) (by rfl) (by decide) rfl Try.func20 (by kernel_rfl) (by rfl) ?_
  · walk_nrm
    exact values_w hne s w1 I1 hn hA
  rintro v w2 ⟨ta, tc, rfl, H⟩
  obtain ⟨g, rfl, hg, hcells⟩ := H.cells hl
  generalize hvl : valsX s n (nodeX s.hd) = vl at *
  have d2 : w2.heap[w.heap.size]? = some (.cells #[.int .i64 (nodeX s.hd), .int .i64 (tagX s.hd), .int .i64 (nodeX s.fr), .int .i64 (tagX s.fr)] 2) := (H.old _ (by omega)).trans d1
  have hsz2 := H.size
  have hrow : w2.ownsRow w.heap.size 2 1 (.slice (some ⟨w.heap.size, 0, none⟩) 4 4) 4 (intRow [nodeX s.hd, tagX s.hd, nodeX s.fr, tagX s.fr]) := ⟨rfl, .inr ⟨w.heap.size, 4, _, rfl, Nat.le_refl _, d2, Nat.le_refl _, by simp [maxLen], rfl, rfl⟩⟩
  have hnews : ∀ (j : Nat) (x : Value), (intRow vl)[j]? = some x → w2.cell? ((⟨g, 0, none⟩ : Addr).add j) = some x := fun j x hx => by
    rw [add_none, Nat.zero_add]
    exact hcells j x hx
  have hvp : 0 < vl.length := List.length_pos_iff.2 hl
  walk_nrm
  refine Walk.append (.tmp 18) (.tmp 20) 25 (ho_of (by conv => lhs; whnf) (by kernel_rfl)) (by rfl) (by decide) rfl w.heap.size 2 _ (.int .i64 0) 1 8 (by kernel_rfl) hi2.symm (by rfl) (by rfl) (by rfl) (by rfl) (by decide) (.slice (some ⟨w.heap.size, 0, none⟩) 4 4) 4 (intRow [nodeX s.hd, tagX s.hd, nodeX s.fr, tagX s.fr]) rfl hrow ⟨g, 0, none⟩ vl.length tc (intRow vl) rfl (by simp [intRow]) hnews (by intro u hu; simp only [intRow, List.mem_map] at hu; obtain ⟨x, _, rfl⟩ := hu; rfl) hvp (by simp [maxLen]; omega) (by omega) (by omega) (fun b _ => hA b) (fun g' gcap w3 hown3 hgr hat hlt => ?_)
  have hold : ∀ b, b < w.heap.size → w3.heap[b]? = w.heap[b]? := fun b hb => (hgr.block b (by omega) (fun he => by simp only [Value.ownBlock, Option.some.injEq] at he; omega)).trans ((H.old b (by omega)).trans (o1 b hb))
  have hs3 := hgr.size
  walk_nrm
  repeat (first | refine Walk.c rfl ?_ | refine Walk.cRet ?_ | refine Walk.cEnd ?_ | (refine Walk.cReg ?_; simp only [size34_0, size34_1, size34_2, List.range, List.range.loop]) | (refine Walk.oq ?_; try walk_nrm) | (refine Walk.un ?_; walk_nrm))
  refine Walk.on1 rfl rfl Try.func34 rfl (.stop fun d => ⟨_, ⟨some ⟨g', 0, none⟩, gcap, ?_, ⟨?_, hold, ?_⟩⟩, rfl⟩)
  · simp only [stateX, hvl, List.length_append, List.length_cons, List.length_nil]
    rfl
  · have he : intRow (stateX n s) = intRow [nodeX s.hd, tagX s.hd, nodeX s.fr, tagX s.fr] ++ intRow vl := by simp [intRow, stateX, hvl]
    have hle : (stateX n s).length = 4 + vl.length := by simp [stateX, hvl]; omega
    rw [he, hle]
    exact hown3
  · show w.heap.size ≤ w3.heap.size
    omega
end
end
section
section
variable {L : La} {K : Lb L} {e : K.E} {b : Frame} {k : List Item} {l : List Frame} {ops : Array Oper} {a : Act}
theorem LW.drawnS {id m : Nat} {o : Oper} {f : FuncId} {fn : Func} {args : Array Operand} {ats : Array TypeId} {Q : Value → K.E → Prop} (hm : Try.prog.follows .mixedOrders = true) (hsz : ops.size = m + 2) (hlow : lowW ops = true) (hc : calmB ops m = true) (hl : lastB ops m = true) (hw1 : waitsB ops (m + 1) m = true) (hk : b.kind ≠ .early)
    (ho : ops[m]? = some o) (hop : o.op = .call { callee := .value (.func f), args, argTypes := ats }) (hg : o.guard = none) (hf : Try.prog.funcs[f]? = some fn) (hname : (fn.name == "runtime.NumGoroutine") = false) (hb : fn.body.isNone = false) (hpl : ∀ f ∈ l, Plain f)
    (h : Cm Try.prog K.main (K.V e) ops (· = K.w e) (fun a => (∀ rest, Plain (b.at a (.inRegion ops (m :: rest) :: k))) ∧ SCall K f (args.map a.eval) e Q ∧ ∃ fin : Value → Act,
      (∀ v e' rest, Q v e' → LW K e' (G (b.at (fin v) (.inRegion ops rest :: k)) (l ++ K.bot e')) → LW K e' (G (b.at (a.put o.dst v) (.inRegion ops ((m + 1) :: rest) :: k)) (l ++ K.bot e'))) ∧
      ∀ v e', Q v e' → LW K e' (G (b.at (fin v) (.inRegion ops [] :: k)) (l ++ K.bot e'))) (List.range m) a) :
    LW K e (G (b.at a (.code (.region id ops true) :: k)) (l ++ K.bot e)) := by
  rw [List.range_eq_range'] at h
  obtain ⟨P, hP⟩ : ∃ P : Act → Prop, P = fun a => (∀ rest, Plain (b.at a (.inRegion ops (m :: rest) :: k))) ∧ SCall K f (args.map a.eval) e Q ∧ ∃ fin : Value → Act,
      (∀ v e' rest, Q v e' → LW K e' (G (b.at (fin v) (.inRegion ops rest :: k)) (l ++ K.bot e')) → LW K e' (G (b.at (a.put o.dst v) (.inRegion ops ((m + 1) :: rest) :: k)) (l ++ K.bot e'))) ∧
      ∀ v e', Q v e' → LW K e' (G (b.at (fin v) (.inRegion ops [] :: k)) (l ++ K.bot e')) := ⟨_, rfl⟩
  rw [← hP] at h
  have h0 : Cm Try.prog K.main (K.V e) ops (· = K.w e) P (List.range' 0 m) (puts ops (fun _ => undef) (fun j => decide (j < 0)) a) := by
    have : puts ops (fun _ => undef) (fun j => decide (j < 0)) a = a := putsL_none _ a fun j _ => decide_eq_false (Nat.not_lt_zero j)
    rw [this]; exact h
  obtain ⟨vals, _, hcond, hend⟩ := cm_vals (Z := (· = K.w e)) (ops := ops) (m := m) (w := K.w e) rfl (by omega) m 0 (fun _ => undef) a (by omega) h0
  rw [hP] at hend
  obtain ⟨hpa, hcall, fin, h1, h2⟩ := hend
  have hm1 : ∀ f : Nat → Bool, Closed ops f → f (m + 1) = true → f m = true := fun f hC hf1 => by
    have hlt : m + 1 < ops.size := by omega
    unfold waitsB at hw1
    rw [Array.getElem?_eq_getElem hlt] at hw1
    simp only [Option.any_some] at hw1
    obtain ⟨x, hx, hb'⟩ := Array.any_eq_true.1 hw1
    simp only [Bool.and_eq_true, decide_eq_true_eq] at hb'
    exact hb'.1 ▸ hC _ _ (Array.getElem?_eq_getElem hlt) hf1 _ (Array.getElem_mem hx) hb'.2
  refine Walk.drawnE (E := K.E × World) (V := fun x => K.V x.1) (Stop := fun x => K.Stop x.1) (cs := fun x => l ++ K.bot x.1) (w := fun x => x.2)
    (Inv := fun f x y => (f m = false ∧ f (m + 1) = false ∧ x = puts ops vals f a ∧ y.1 = e ∧ ∃ d, y.2 = (K.w e).at d) ∨
      (f m = true ∧ f (m + 1) = false ∧ (∀ j, j < m → f j = true) ∧ ∃ v, Q v y.1 ∧ x = (puts ops vals (fun j => decide (j < m)) a).put o.dst v ∧ ∃ d, y.2 = (K.w y.1).at d) ∨
      (f m = true ∧ f (m + 1) = true ∧ (∀ j, j < m → f j = true) ∧ ∃ v, Q v y.1 ∧ x = fin v ∧ ∃ d, y.2 = (K.w y.1).at d)) (e, K.w e) hm hlow (.inl ⟨rfl, rfl, (puts_zero vals a).symm, rfl, (K.w e).drawn, rfl⟩) ?_ ?_
  · rintro f' i oi x ⟨e', w'⟩ hI hC hfi hoi hd rest hr
    dsimp only at hI hr ⊢
    have hi : i < m + 2 := by have := (Array.getElem?_eq_some_iff.1 hoi).1; omega
    rcases hI with ⟨f1, f2, rfl, rfl, d, rfl⟩ | ⟨f1, f2, f3, v, hq, rfl, d, rfl⟩ | ⟨f1, f2, f3, _⟩
    · refine Walk.back ?_ d
      by_cases e1 : i = m
      · subst e1
        rw [ho] at hoi
        cases hoi
        have hall := last_all hl hC ho hd
        have hpe : puts ops vals f' a = puts ops vals (fun j => decide (j < i)) a := puts_congr (fun j hj => ⟨by
          by_cases hji : j < i
          · rw [hall (i - j) j (by omega) (by omega)]; exact (decide_eq_true hji).symm
          · by_cases hji2 : j = i
            · rw [hji2, hfi]; simp
            · have : j = i + 1 := by omega
              rw [this, f2]; simp, fun _ => rfl⟩) a
        rw [hpe]
        refine LW.callS (Q := Q) hcall ho ?_ hk hop hf hname hb (hpa _) hpl fun v e1 hq => ?_
        · unfold Region.wanted; rw [hg]
        · exact hr _ (e1, K.w e1) (.inr (.inl ⟨upd_same _ _ _, by rw [upd_ne _ _ (by omega)]; exact f2, fun j hj => by rw [upd_ne _ _ (by omega)]; exact hall (i - j) j (by omega) (by omega), v, hq, rfl, (K.w e1).drawn, rfl⟩))
      · have hi1 : i ≠ m + 1 := fun h => by
          subst h
          have : f' m = true := waits_at hw1 hoi hd
          rw [f1] at this; cases this
        have him : i < m := by omega
        refine Walk.calmOp (Z := (· = K.w _)) rfl hc hk him hoi hd (hcond i oi (Nat.zero_le _) him hoi) ?_
        rw [← puts_upd hc him vals hfi hoi a]
        exact hr _ (_, (K.w _).at (K.w _).drawn) (.inl ⟨by rw [upd_ne _ _ (by omega)]; exact f1, by rw [upd_ne _ _ (by omega)]; exact f2, rfl, rfl, (K.w _).drawn, rfl⟩)
    · refine Walk.back ?_ d
      have hi1 : i = m + 1 := by
        refine Classical.byContradiction fun hne => ?_
        by_cases e1 : i = m
        · rw [e1, f1] at hfi; cases hfi
        · rw [f3 i (by omega)] at hfi; cases hfi
      subst hi1
      refine h1 v e' rest hq ?_
      exact hr _ (e', K.w e') (.inr (.inr ⟨by rw [upd_ne _ _ (by omega)]; exact f1, upd_same _ _ _, fun j hj => by rw [upd_ne _ _ (by omega)]; exact f3 j hj, v, hq, rfl, (K.w e').drawn, rfl⟩))
    · exfalso
      by_cases e1 : i = m
      · rw [e1, f1] at hfi; cases hfi
      · by_cases e2 : i = m + 1
        · rw [e2, f2] at hfi; cases hfi
        · rw [f3 i (by omega)] at hfi; cases hfi
  · rintro f' x ⟨e', w'⟩ hI hall
    dsimp only at hI ⊢
    rcases hI with ⟨f1, _⟩ | ⟨_, f2, _⟩ | ⟨_, _, _, v, hq, rfl, d, rfl⟩
    · rw [hall m (by omega)] at f1; cases f1
    · rw [hall (m + 1) (by omega)] at f2; cases f2
    · exact Walk.back (h2 v e' hq) d
end
end
section
section
variable {kb nb n : Nat} {tg : Bool} {sv : Value}
def Turned (K : Lg (skLa kb nb n tg) sv) (W : Wd (skLa kb nb n tg)) (e : K.E) (d : SD) (top x : Int) (v : Value) (e' : K.E) : Prop :=
  ∃ s, (W.get s = top ∧ v = .bool true ∧ Wrote K e d s (W.put s x) e') ∨ (W.get s ≠ top ∧ v = .bool false ∧ Wrote K e d s s e')
theorem hturn_s (K : Lg (skLa kb nb n tg) sv) (H : Hd kb nb n tg) (e : K.E) (d : SD) (top nx : Int) (hok : OkH n top) (hn1 : -1 ≤ nx) (hn2 : nx < n) (hn : n ≤ 65536) (ht : K.tgt e = (K.s e, .inr d)) :
    SCall K.toLb 65 #[H.p, sv, .int .i64 top, .int .i64 nx] e (Turned K H.W e d top (heldX nx (turnTag tg top))) := by
  intro fr l hp hl hk
  have htag := H.tag _ _ (K.inv e)
  have hh := word_cas K H.W e d top (heldX nx (turnTag tg top)) (H.okw _ (hok.turn tg hn1 hn2 hn).1) ht
  unfold Wd.p at hh
  rw [H.hb, H.hq] at hh
  unfold Hd.p
  unfold LW
  rw [enter_at _ Try.func65 code65_is]
  simp only [Try.ntmps65, List.size_toArray, List.length_cons, List.length_nil, Nat.reduceAdd, Nat.reduceSub, Array.replicate_succ, Array.replicate_zero, List.push_toArray, List.append_toArray, List.nil_append, List.cons_append]
  repeat (first | refine Walk.c rfl ?_ | refine Walk.cRet ?_ | refine Walk.cEnd ?_ | (refine Walk.cReg ?_; simp only [size65_0, size65_1, size65_2, size65_3, size65_4, List.range, List.range.loop]) | (refine Walk.oq ?_; try walk_nrm) | (refine Walk.un ?_; walk_nrm))
  cases tg with
  | true =>
    simp only [turnTag, if_true] at hh hk
    repeat (first | refine Walk.c rfl ?_ | refine Walk.cRet ?_ | refine Walk.cEnd ?_ | (refine Walk.cReg ?_; simp only [size65_0, size65_1, size65_2, size65_3, size65_4, List.range, List.range.loop]) | (refine Walk.oq ?_; try walk_nrm) | (refine Walk.un ?_; walk_nrm))
    refine Walk.callV (x := .int .i64 (tagX top)) (W := K.w e) ?_ (ho_of (by conv => lhs; whnf) (by kernel_rfl)) (by rfl) (by decide) rfl Try.func47 (by kernel_rfl) (by rfl) ?_
    · walk_nrm
      exact tag_w top _
    walk_nrm
    repeat (first | refine Walk.c rfl ?_ | refine Walk.cRet ?_ | refine Walk.cEnd ?_ | (refine Walk.cReg ?_; simp only [size65_0, size65_1, size65_2, size65_3, size65_4, List.range, List.range.loop]) | (refine Walk.oq ?_; try walk_nrm) | (refine Walk.un ?_; walk_nrm))
    generalize hgT : bits BinOp.and IntKind.i64 (IntKind.i64.wrap (tagX top + 1)) 2147483647 = T at *
    (refine LW.drawnS (K := K.toLb) (l := fr :: l) (m := 8) (f := 81) (Q := Turned K H.W e d top (heldX nx T)) (by kernel_rfl) size65_4 (by kernel_rfl) (by kernel_rfl) (by kernel_rfl) (by kernel_rfl) (by decide) (ho_of (by conv => lhs; whnf) (by kernel_rfl)) rfl rfl Try.func81 (by kernel_rfl) (by rfl) (plain_cons hp hl) ?_; simp only [List.range, List.range.loop]; repeat (first | (refine Cm.opqA (ho_of (by conv => lhs; whnf) (by kernel_rfl)) (by rfl) (fun dd e he => ?_) ?_; (· (simp [go_sem, *] at he; try (subst he; exact evR_read _ _))); apply Exists.intro; apply And.intro; (· (intro dd K hK; go_simp; exact hK))) | (refine Cm.unw (ho_of (by conv => lhs; whnf) (by kernel_rfl)) (by rfl) ?_; walk_nrm)))
    refine Cm.callV (x := .int .i64 (heldX nx T)) ?_ (ho_of (by conv => lhs; whnf) (by kernel_rfl)) (by rfl) rfl Try.func44 (by kernel_rfl) (by rfl) ?_
    · intro w' he
      subst he
      walk_nrm
      exact newHeld_w nx T _
    walk_nrm
    refine Cm.done ⟨fun rest => ⟨rfl, rfl, _, Try.func65⟩, ?_, ?finA, ?hA1, ?hA2⟩
    · walk_nrm
      exact hh
    case hA1 =>
      intro v e' rest hq hr
      unfold LW at hr ⊢
      walk_nrm
      (refine Walk.oq ?_; try walk_nrm)
      exact hr
    case hA2 =>
      intro v e' hq
      unfold LW
      repeat (first | refine Walk.c rfl ?_ | refine Walk.cRet ?_ | refine Walk.cEnd ?_ | (refine Walk.cReg ?_; simp only [size65_0, size65_1, size65_2, size65_3, size65_4, List.range, List.range.loop]) | (refine Walk.oq ?_; try walk_nrm) | (refine Walk.un ?_; walk_nrm))
      exact Walk.on1 rfl rfl Try.func65 rfl (hk _ e' hq)
  | false =>
    simp only [turnTag, Bool.false_eq_true, if_false] at hh hk
    repeat (first | refine Walk.c rfl ?_ | refine Walk.cRet ?_ | refine Walk.cEnd ?_ | (refine Walk.cReg ?_; simp only [size65_0, size65_1, size65_2, size65_3, size65_4, List.range, List.range.loop]) | (refine Walk.oq ?_; try walk_nrm) | (refine Walk.un ?_; walk_nrm))
    (refine LW.drawnS (K := K.toLb) (l := fr :: l) (m := 8) (f := 81) (Q := Turned K H.W e d top (heldX nx 0)) (by kernel_rfl) size65_4 (by kernel_rfl) (by kernel_rfl) (by kernel_rfl) (by kernel_rfl) (by decide) (ho_of (by conv => lhs; whnf) (by kernel_rfl)) rfl rfl Try.func81 (by kernel_rfl) (by rfl) (plain_cons hp hl) ?_; simp only [List.range, List.range.loop]; repeat (first | (refine Cm.opqA (ho_of (by conv => lhs; whnf) (by kernel_rfl)) (by rfl) (fun dd e he => ?_) ?_; (· (simp [go_sem, *] at he; try (subst he; exact evR_read _ _))); apply Exists.intro; apply And.intro; (· (intro dd K hK; go_simp; exact hK))) | (refine Cm.unw (ho_of (by conv => lhs; whnf) (by kernel_rfl)) (by rfl) ?_; walk_nrm)))
    refine Cm.callV (x := .int .i64 (heldX nx 0)) ?_ (ho_of (by conv => lhs; whnf) (by kernel_rfl)) (by rfl) rfl Try.func44 (by kernel_rfl) (by rfl) ?_
    · intro w' he
      subst he
      walk_nrm
      exact newHeld_w nx 0 _
    walk_nrm
    refine Cm.done ⟨fun rest => ⟨rfl, rfl, _, Try.func65⟩, ?_, ?finB, ?hB1, ?hB2⟩
    · walk_nrm
      exact hh
    case hB1 =>
      intro v e' rest hq hr
      unfold LW at hr ⊢
      walk_nrm
      (refine Walk.oq ?_; try walk_nrm)
      exact hr
    case hB2 =>
      intro v e' hq
      unfold LW
      repeat (first | refine Walk.c rfl ?_ | refine Walk.cRet ?_ | refine Walk.cEnd ?_ | (refine Walk.cReg ?_; simp only [size65_0, size65_1, size65_2, size65_3, size65_4, List.range, List.range.loop]) | (refine Walk.oq ?_; try walk_nrm) | (refine Walk.un ?_; walk_nrm))
      exact Walk.on1 rfl rfl Try.func65 rfl (hk _ e' hq)
end
end
end Go.Proofs.Ytmfkjceeeffamaa
