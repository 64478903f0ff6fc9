/- Part 3. -/
import Derived.Test.YtnnakajldnaldaaZ1
import Derived.Test.YtnnakajldnaldaaZ2
set_option linter.unusedSimpArgs false
set_option linter.unusedVariables false
set_option maxHeartbeats 8000000
set_option maxRecDepth 100000
namespace Go.Proofs.Ytnnakajldnaldaa
open Go.Conc Go.RowKit Go.Relay
open Go.ConcN (upd upd_ne upd_same)
theorem spEnter_any (m : Nat) (s s' : Sp) (o : OpV) : spEnter m s o = (s, (spEnter m s' o).2) := by
  unfold spEnter
  split
  · rfl
  split
  · rfl
  split
  · rfl
  split
  · rfl
  split <;> rfl
theorem call_v {cb rb m : Nat} {ra : Option Addr} {rc : Nat} {sv : Value} (K : Lg (spLa cb rb m ra rc) sv) (S : Sp) (o : OpV) (e : K.E) (he : K.tgt e = (K.s e, (spEnter m S o).2)) : SCall K.toLb 18 #[.pointer (some ⟨cb, 0, none⟩), sv, opVal o] e (fun v e' => ∃ x, v = ansVal x ∧ K.tgt e' = (K.s e', .inl x)) :=
  (call_s K e o.k o.a o.b o.c (he.trans (spEnter_any m (K.s e) S o).symm)).mono fun v e' ⟨x, h1, h2⟩ => ⟨x, h2, h1⟩
theorem facts_more {dsts : List Nat} {vals : List Value} {f : Nat → Bool} {u : Nat → Value} (F : Facts dsts vals f u) {i : Nat} (hd : dsts[i]? = none) : Facts dsts vals (upd f i true) u := by
  intro j d v hf hj hv
  by_cases e : j = i
  · rw [e, hd] at hj; cases hj
  · rw [upd_ne _ _ e] at hf
    exact F j d v hf hj hv
theorem facts_vals {dsts : List Nat} {vals vals' : List Value} {f : Nat → Bool} {u : Nat → Value} (F : Facts dsts vals f u) (h : ∀ j v, f j = true → vals'[j]? = some v → vals[j]? = some v) : Facts dsts vals' f u := fun j d v hf hd hv => F j d v hf hd (h j v hf hv)
section
def Nl (w : World) (x : Value) (v : Value) (w' : World) : Prop := v = x ∧ w.heap.size ≤ w'.heap.size ∧ ∀ b, b < w.heap.size → w'.heap[b]? = w.heap[b]?
def NlR (w : World) (v : Value) (w' : World) : Prop := (∃ B, v = .slice (some ⟨B, 0, none⟩) 0 0) ∧ w.heap.size ≤ w'.heap.size ∧ ∀ b, b < w.heap.size → w'.heap[b]? = w.heap[b]?
section
variable {main : Bool} {V : Nat → Option Wait}
theorem stripes_n (w : World) : CallV Try.prog main V 17 #[.pointer none] w (.int .i64 0) w := by
  have hp1 := fun w => run_eql_ptr (P := Try.prog) 35 undCtr none w
  have hp2 := fun w es => ev_eql_ptr (P := Try.prog) 35 undCtr none w es
  simp only [Option.isNone_none] at hp1
  refine callW_in Try.func17 code17_is fun fr cs => ?_
  simp only [Try.ntmps17, List.size_toArray, List.length_cons, List.length_nil, Nat.reduceAdd, Nat.reduceSub, Array.replicate_succ, Array.replicate_zero, List.push_toArray, List.append_toArray, List.nil_append, List.cons_append]
  repeat (first | refine Walk.c rfl ?_ | refine Walk.cRet ?_ | refine Walk.cEnd ?_ | (refine Walk.cReg ?_; simp only [size17_0, size17_1, size17_2, size17_3, List.range, List.range.loop]) | (refine Walk.oq ?_; try walk_nrm) | (refine Walk.un ?_; walk_nrm))
  exact Walk.ret1 rfl rfl Try.func17 rfl fun d => ⟨rfl, d, rfl⟩
theorem at_n (a : Int) (w : World) : CallV Try.prog main V 41 #[.pointer none, .int .i64 a] w (.pointer none) w := by
  have k1 := stripes_n (main := main) (V := V) w
  refine callW_in Try.func41 code41_is fun fr cs => ?_
  simp only [Try.ntmps41, List.size_toArray, List.length_cons, List.length_nil, Nat.reduceAdd, Nat.reduceSub, Array.replicate_succ, Array.replicate_zero, List.push_toArray, List.append_toArray, List.nil_append, List.cons_append]
  repeat (first | refine Walk.c rfl ?_ | refine Walk.cRet ?_ | refine Walk.cEnd ?_ | (refine Walk.cReg ?_; simp only [size41_0, size41_1, size41_2, size41_3, size41_4, size41_5, size41_6, size41_7, List.range, List.range.loop]) | (refine Walk.oq ?_; try walk_nrm) | (refine Walk.un ?_; walk_nrm))
  refine Walk.callV (x := .int .i64 0) (W := w) ?_ (ho_of (by conv => lhs; whnf) (by kernel_rfl)) (by rfl) (by decide) rfl Try.func17 (by kernel_rfl) (by rfl) ?_
  · walk_nrm
    exact k1
  walk_nrm
  repeat (first | refine Walk.c rfl ?_ | refine Walk.cRet ?_ | refine Walk.cEnd ?_ | (refine Walk.cReg ?_; simp only [size41_0, size41_1, size41_2, size41_3, size41_4, size41_5, size41_6, size41_7, List.range, List.range.loop]) | (refine Walk.oq ?_; try walk_nrm) | (refine Walk.un ?_; walk_nrm))
  exact Walk.ret1 rfl rfl Try.func41 rfl fun d => ⟨rfl, d, rfl⟩
theorem wadd_n (sv : Value) (x : Int) (w : World) : CallV Try.prog main V 42 #[.pointer none, sv, .int .i64 x] w (.int .i64 0) w := by
  have hp1 := fun w => run_eql_ptr (P := Try.prog) 89 undWord none w
  have hp2 := fun w es => ev_eql_ptr (P := Try.prog) 89 undWord none w es
  simp only [Option.isNone_none] at hp1
  refine callW_in Try.func42 code42_is fun fr cs => ?_
  simp only [Try.ntmps42, List.size_toArray, List.length_cons, List.length_nil, Nat.reduceAdd, Nat.reduceSub, Array.replicate_succ, Array.replicate_zero, List.push_toArray, List.append_toArray, List.nil_append, List.cons_append]
  repeat (first | refine Walk.c rfl ?_ | refine Walk.cRet ?_ | refine Walk.cEnd ?_ | (refine Walk.cReg ?_; simp only [size42_0, size42_1, size42_2, size42_3, size42_4, List.range, List.range.loop]) | (refine Walk.oq ?_; try walk_nrm) | (refine Walk.un ?_; walk_nrm))
  exact Walk.ret1 rfl rfl Try.func42 rfl fun d => ⟨rfl, d, rfl⟩
theorem add_n (sv : Value) (a x : Int) (w : World) : CallV Try.prog main V 26 #[.pointer none, sv, .int .i64 a, .int .i64 x] w (.int .i64 0) w := by
  have k1 := at_n (main := main) (V := V) a w
  have k2 := wadd_n (main := main) (V := V) sv x w
  refine callW_in Try.func26 code26_is fun fr cs => ?_
  simp only [Try.ntmps26, List.size_toArray, List.length_cons, List.length_nil, Nat.reduceAdd, Nat.reduceSub, Array.replicate_succ, Array.replicate_zero, List.push_toArray, List.append_toArray, List.nil_append, List.cons_append]
  repeat (first | refine Walk.c rfl ?_ | refine Walk.cRet ?_ | refine Walk.cEnd ?_ | (refine Walk.cReg ?_; simp only [size26_0, size26_1, List.range, List.range.loop]) | (refine Walk.oq ?_; try walk_nrm) | (refine Walk.un ?_; walk_nrm))
  refine Walk.callV (x := .pointer none) (W := w) ?_ (ho_of (by conv => lhs; whnf) (by kernel_rfl)) (by rfl) (by decide) rfl Try.func41 (by kernel_rfl) (by rfl) ?_
  · walk_nrm
    exact k1
  walk_nrm
  repeat (first | refine Walk.c rfl ?_ | refine Walk.cRet ?_ | refine Walk.cEnd ?_ | (refine Walk.cReg ?_; simp only [size26_0, size26_1, List.range, List.range.loop]) | (refine Walk.oq ?_; try walk_nrm) | (refine Walk.un ?_; walk_nrm))
  refine Walk.callV (x := .int .i64 0) (W := w) ?_ (ho_of (by conv => lhs; whnf) (by kernel_rfl)) (by rfl) (by decide) rfl Try.func42 (by kernel_rfl) (by rfl) ?_
  · walk_nrm
    exact k2
  walk_nrm
  repeat (first | refine Walk.c rfl ?_ | refine Walk.cRet ?_ | refine Walk.cEnd ?_ | (refine Walk.cReg ?_; simp only [size26_0, size26_1, List.range, List.range.loop]) | (refine Walk.oq ?_; try walk_nrm) | (refine Walk.un ?_; walk_nrm))
  exact Walk.ret1 rfl rfl Try.func26 rfl fun d => ⟨rfl, d, rfl⟩
theorem each_n (fm : FuncId) (caps : Array Value) (w : World) : CallW Try.prog main V 43 #[.pointer none, .func (.func fm) #[] caps] w (NlR w) := by
  intro c cs
  have k1 := stripes_n (main := main) (V := V) w
  rw [enter_at _ Try.func43 code43_is]
  simp only [Try.ntmps43, List.size_toArray, List.length_cons, List.length_nil, Nat.reduceAdd, Nat.reduceSub, Array.replicate_succ, Array.replicate_zero, List.push_toArray, List.append_toArray, List.nil_append, List.cons_append]
  repeat (first | refine Walk.c rfl ?_ | refine Walk.cRet ?_ | refine Walk.cEnd ?_ | (refine Walk.cReg ?_; simp only [size43_0, size43_1, size43_2, size43_3, size43_4, size43_5, size43_6, size43_7, List.range, List.range.loop]) | (refine Walk.oq ?_; try walk_nrm) | (refine Walk.un ?_; walk_nrm))
  refine Walk.callV (x := .int .i64 0) (W := w) ?_ (ho_of (by conv => lhs; whnf) (by kernel_rfl)) (by rfl) (by decide) rfl Try.func17 (by kernel_rfl) (by rfl) ?_
  · walk_nrm
    exact k1
  walk_nrm
  obtain ⟨ti, hi1, hz, hsz, hby⟩ := info2
  refine Walk.make 22 (.tmp 8) (.tmp 8) (ho_of (by conv => lhs; whnf) (by kernel_rfl)) (by rfl) (by decide) rfl 2 _ (.int .i64 0) 1 8 (by kernel_rfl) hi1 hz hsz hby 0 (by rfl) (by rfl) (by omega) (by omega) ?_
  walk_nrm
  simp only [Value.cells]
  have o1 : ∀ b, b < w.heap.size → (w.alloc (.cells (madeCells #[.int .i64 0] (0 * 1)) 2)).heap[b]? = w.heap[b]? := fun b hb => heap_new_lt _ _ hb
  have s1 : (w.alloc (.cells (madeCells #[.int .i64 0] (0 * 1)) 2)).heap.size = w.heap.size + 1 := by simp
  generalize hR : w.heap.size = R at *
  generalize w.alloc (.cells (madeCells #[.int .i64 0] (0 * 1)) 2) = w1 at *
  clear hi1 hz hsz hby
  repeat (first | refine Walk.c rfl ?_ | refine Walk.cRet ?_ | refine Walk.cEnd ?_ | (refine Walk.cReg ?_; simp only [size43_0, size43_1, size43_2, size43_3, size43_4, size43_5, size43_6, size43_7, List.range, List.range.loop]) | (refine Walk.oq ?_; try walk_nrm) | (refine Walk.un ?_; walk_nrm))
  refine Walk.ctl rfl (fun w => stepG_loop) ?_
  repeat (first | refine Walk.c rfl ?_ | refine Walk.cRet ?_ | refine Walk.cEnd ?_ | (refine Walk.cReg ?_; simp only [size43_0, size43_1, size43_2, size43_3, size43_4, size43_5, size43_6, size43_7, List.range, List.range.loop]) | (refine Walk.oq ?_; try walk_nrm) | (refine Walk.un ?_; walk_nrm))
  exact Walk.on1 rfl rfl Try.func43 rfl (.stop fun d => ⟨_, ⟨⟨R, rfl⟩, (by show w.heap.size ≤ w1.heap.size; omega), fun b hb => o1 b (by omega)⟩, rfl⟩)
theorem loadAll_n (w : World) : CallW Try.prog main V 36 #[.pointer none, .nilIface] w (NlR w) := by
  intro c cs
  rw [enter_at _ Try.func36 code36_is]
  simp only [Try.ntmps36, List.size_toArray, List.length_cons, List.length_nil, Nat.reduceAdd, Nat.reduceSub, Array.replicate_succ, Array.replicate_zero, List.push_toArray, List.append_toArray, List.nil_append, List.cons_append]
  repeat (first | refine Walk.c rfl ?_ | refine Walk.cRet ?_ | refine Walk.cEnd ?_ | (refine Walk.cReg ?_; simp only [size36_0, size36_1, List.range, List.range.loop]) | (refine Walk.oq ?_; try walk_nrm) | (refine Walk.un ?_; walk_nrm))
  (refine Walk.oa ?_; try walk_nrm)
  have o1 : ∀ b, b < w.heap.size → (w.alloc (.cells #[.nilIface] 84)).heap[b]? = w.heap[b]? := fun b hb => heap_new_lt _ _ hb
  have s1 : (w.alloc (.cells #[.nilIface] 84)).heap.size = w.heap.size + 1 := by simp
  generalize hR : w.heap.size = R at *
  generalize w.alloc (.cells #[.nilIface] 84) = w1 at *
  repeat (first | refine Walk.c rfl ?_ | refine Walk.cRet ?_ | refine Walk.cEnd ?_ | (refine Walk.cReg ?_; simp only [size36_0, size36_1, List.range, List.range.loop]) | (refine Walk.oq ?_; try walk_nrm) | (refine Walk.un ?_; walk_nrm))
  refine Walk.callW (Post := NlR w1) ?_ (ho_of (by conv => lhs; whnf) (by kernel_rfl)) (by rfl) (by decide) rfl Try.func43 (by kernel_rfl) (by rfl) ?_
  · walk_nrm
    exact (each_n _ _ w1)
  rintro v w2 ⟨⟨B, rfl⟩, z2, o2⟩
  walk_nrm
  repeat (first | refine Walk.c rfl ?_ | refine Walk.cRet ?_ | refine Walk.cEnd ?_ | (refine Walk.cReg ?_; simp only [size36_0, size36_1, List.range, List.range.loop]) | (refine Walk.oq ?_; try walk_nrm) | (refine Walk.un ?_; walk_nrm))
  exact Walk.on1 rfl rfl Try.func36 rfl (.stop fun d => ⟨_, ⟨⟨B, rfl⟩, (by show w.heap.size ≤ w2.heap.size; omega), fun b hb => (o2 b (by omega)).trans (o1 b (by omega))⟩, rfl⟩)
theorem take_n (w : World) : CallW Try.prog main V 28 #[.pointer none, .nilIface] w (Nl w (.int .i64 0)) := by
  intro c cs
  rw [enter_at _ Try.func28 code28_is]
  simp only [Try.ntmps28, List.size_toArray, List.length_cons, List.length_nil, Nat.reduceAdd, Nat.reduceSub, Array.replicate_succ, Array.replicate_zero, List.push_toArray, List.append_toArray, List.nil_append, List.cons_append]
  repeat (first | refine Walk.c rfl ?_ | refine Walk.cRet ?_ | refine Walk.cEnd ?_ | (refine Walk.cReg ?_; simp only [size28_0, size28_1, List.range, List.range.loop]) | (refine Walk.oq ?_; try walk_nrm) | (refine Walk.un ?_; walk_nrm))
  (refine Walk.oa ?_; try walk_nrm)
  have o1 : ∀ b, b < w.heap.size → (w.alloc (.cells #[.nilIface] 84)).heap[b]? = w.heap[b]? := fun b hb => heap_new_lt _ _ hb
  have s1 : (w.alloc (.cells #[.nilIface] 84)).heap.size = w.heap.size + 1 := by simp
  generalize hR : w.heap.size = R at *
  generalize w.alloc (.cells #[.nilIface] 84) = w1 at *
  repeat (first | refine Walk.c rfl ?_ | refine Walk.cRet ?_ | refine Walk.cEnd ?_ | (refine Walk.cReg ?_; simp only [size28_0, size28_1, List.range, List.range.loop]) | (refine Walk.oq ?_; try walk_nrm) | (refine Walk.un ?_; walk_nrm))
  refine Walk.callW (Post := NlR w1) ?_ (ho_of (by conv => lhs; whnf) (by kernel_rfl)) (by rfl) (by decide) rfl Try.func43 (by kernel_rfl) (by rfl) ?_
  · walk_nrm
    exact (each_n _ _ w1)
  rintro v w2 ⟨⟨B, rfl⟩, z2, o2⟩
  walk_nrm
  repeat (first | refine Walk.c rfl ?_ | refine Walk.cRet ?_ | refine Walk.cEnd ?_ | (refine Walk.cReg ?_; simp only [size28_0, size28_1, List.range, List.range.loop]) | (refine Walk.oq ?_; try walk_nrm) | (refine Walk.un ?_; walk_nrm))
  have hs : CallV Try.prog main V 40 #[.slice (some ⟨B, 0, none⟩) 0 0] w2 (.int .i64 0) w2 := (sum_w (main := main) (V := V) B 0 0 [] rfl (by omega) w2 (fun j x h => by simp at h))
  refine Walk.callV (x := .int .i64 0) (W := w2) ?_ (ho_of (by conv => lhs; whnf) (by kernel_rfl)) (by rfl) (by decide) rfl Try.func40 (by kernel_rfl) (by rfl) ?_
  · walk_nrm
    exact hs
  walk_nrm
  repeat (first | refine Walk.c rfl ?_ | refine Walk.cRet ?_ | refine Walk.cEnd ?_ | (refine Walk.cReg ?_; simp only [size28_0, size28_1, List.range, List.range.loop]) | (refine Walk.oq ?_; try walk_nrm) | (refine Walk.un ?_; walk_nrm))
  exact Walk.on1 rfl rfl Try.func28 rfl (.stop fun d => ⟨_, ⟨rfl, (by show w.heap.size ≤ w2.heap.size; omega), fun b hb => (o2 b (by omega)).trans (o1 b (by omega))⟩, rfl⟩)
theorem sum_n (w : World) : CallW Try.prog main V 27 #[.pointer none, .nilIface] w (Nl w (.int .i64 0)) := by
  intro c cs
  rw [enter_at _ Try.func27 code27_is]
  simp only [Try.ntmps27, List.size_toArray, List.length_cons, List.length_nil, Nat.reduceAdd, Nat.reduceSub, Array.replicate_succ, Array.replicate_zero, List.push_toArray, List.append_toArray, List.nil_append, List.cons_append]
  repeat (first | refine Walk.c rfl ?_ | refine Walk.cRet ?_ | refine Walk.cEnd ?_ | (refine Walk.cReg ?_; simp only [size27_0, size27_1, List.range, List.range.loop]) | (refine Walk.oq ?_; try walk_nrm) | (refine Walk.un ?_; walk_nrm))
  refine Walk.callW (Post := NlR w) ?_ (ho_of (by conv => lhs; whnf) (by kernel_rfl)) (by rfl) (by decide) rfl Try.func36 (by kernel_rfl) (by rfl) ?_
  · walk_nrm
    exact (loadAll_n w)
  rintro v w2 ⟨⟨B, rfl⟩, z2, o2⟩
  walk_nrm
  have hs : CallV Try.prog main V 40 #[.slice (some ⟨B, 0, none⟩) 0 0] w2 (.int .i64 0) w2 := (sum_w (main := main) (V := V) B 0 0 [] rfl (by omega) w2 (fun j x h => by simp at h))
  refine Walk.callV (x := .int .i64 0) (W := w2) ?_ (ho_of (by conv => lhs; whnf) (by kernel_rfl)) (by rfl) (by decide) rfl Try.func40 (by kernel_rfl) (by rfl) ?_
  · walk_nrm
    exact hs
  walk_nrm
  repeat (first | refine Walk.c rfl ?_ | refine Walk.cRet ?_ | refine Walk.cEnd ?_ | (refine Walk.cReg ?_; simp only [size27_0, size27_1, List.range, List.range.loop]) | (refine Walk.oq ?_; try walk_nrm) | (refine Walk.un ?_; walk_nrm))
  exact Walk.on1 rfl rfl Try.func27 rfl (.stop fun d => ⟨_, ⟨rfl, z2, o2⟩, rfl⟩)
theorem total_n (w : World) : CallW Try.prog main V 22 #[.pointer none] w (Nl w (.int .i64 0)) := by
  intro c cs
  rw [enter_at _ Try.func22 code22_is]
  simp only [Try.ntmps22, List.size_toArray, List.length_cons, List.length_nil, Nat.reduceAdd, Nat.reduceSub, Array.replicate_succ, Array.replicate_zero, List.push_toArray, List.append_toArray, List.nil_append, List.cons_append]
  repeat (first | refine Walk.c rfl ?_ | refine Walk.cRet ?_ | refine Walk.cEnd ?_ | (refine Walk.cReg ?_; simp only [size22_0, size22_1, List.range, List.range.loop]) | (refine Walk.oq ?_; try walk_nrm) | (refine Walk.un ?_; walk_nrm))
  refine Walk.callW (Post := Nl w (.int .i64 0)) ?_ (ho_of (by conv => lhs; whnf) (by kernel_rfl)) (by rfl) (by decide) rfl Try.func27 (by kernel_rfl) (by rfl) ?_
  · walk_nrm
    exact (sum_n w)
  rintro v w2 ⟨rfl, z2, o2⟩
  walk_nrm
  repeat (first | refine Walk.c rfl ?_ | refine Walk.cRet ?_ | refine Walk.cEnd ?_ | (refine Walk.cReg ?_; simp only [size22_0, size22_1, List.range, List.range.loop]) | (refine Walk.oq ?_; try walk_nrm) | (refine Walk.un ?_; walk_nrm))
  exact Walk.on1 rfl rfl Try.func22 rfl (.stop fun d => ⟨_, ⟨rfl, z2, o2⟩, rfl⟩)
theorem all_n (w : World) : CallW Try.prog main V 21 #[.pointer none] w (NlR w) := by
  intro c cs
  rw [enter_at _ Try.func21 code21_is]
  simp only [Try.ntmps21, List.size_toArray, List.length_cons, List.length_nil, Nat.reduceAdd, Nat.reduceSub, Array.replicate_succ, Array.replicate_zero, List.push_toArray, List.append_toArray, List.nil_append, List.cons_append]
  repeat (first | refine Walk.c rfl ?_ | refine Walk.cRet ?_ | refine Walk.cEnd ?_ | (refine Walk.cReg ?_; simp only [size21_0, size21_1, List.range, List.range.loop]) | (refine Walk.oq ?_; try walk_nrm) | (refine Walk.un ?_; walk_nrm))
  refine Walk.callW (Post := NlR w) ?_ (ho_of (by conv => lhs; whnf) (by kernel_rfl)) (by rfl) (by decide) rfl Try.func36 (by kernel_rfl) (by rfl) ?_
  · walk_nrm
    exact (loadAll_n w)
  rintro v w2 ⟨⟨B, rfl⟩, z2, o2⟩
  walk_nrm
  repeat (first | refine Walk.c rfl ?_ | refine Walk.cRet ?_ | refine Walk.cEnd ?_ | (refine Walk.cReg ?_; simp only [size21_0, size21_1, List.range, List.range.loop]) | (refine Walk.oq ?_; try walk_nrm) | (refine Walk.un ?_; walk_nrm))
  exact Walk.on1 rfl rfl Try.func21 rfl (.stop fun d => ⟨_, ⟨⟨B, rfl⟩, z2, o2⟩, rfl⟩)
theorem move_n (sv : Value) (a b x : Int) (w : World) : CallV Try.prog main V 35 #[.pointer none, sv, .int .i64 a, .int .i64 b, .int .i64 x] w (.tuple #[]) w := by
  have k1 := add_n (main := main) (V := V) sv a (IntKind.i64.wrap (-x)) w
  have k2 := add_n (main := main) (V := V) sv b x w
  refine callW_in Try.func35 code35_is fun fr cs => ?_
  simp only [Try.ntmps35, List.size_toArray, List.length_cons, List.length_nil, Nat.reduceAdd, Nat.reduceSub, Array.replicate_succ, Array.replicate_zero, List.push_toArray, List.append_toArray, List.nil_append, List.cons_append]
  repeat (first | refine Walk.c rfl ?_ | refine Walk.cRet ?_ | refine Walk.cEnd ?_ | (refine Walk.cReg ?_; simp only [size35_0, size35_1, List.range, List.range.loop]) | (refine Walk.oq ?_; try walk_nrm) | (refine Walk.un ?_; walk_nrm))
  refine Walk.callV (x := .int .i64 0) (W := w) ?_ (ho_of (by conv => lhs; whnf) (by kernel_rfl)) (by rfl) (by decide) rfl Try.func26 (by kernel_rfl) (by rfl) ?_
  · walk_nrm
    exact k1
  walk_nrm
  repeat (first | refine Walk.c rfl ?_ | refine Walk.cRet ?_ | refine Walk.cEnd ?_ | (refine Walk.cReg ?_; simp only [size35_0, size35_1, List.range, List.range.loop]) | (refine Walk.oq ?_; try walk_nrm) | (refine Walk.un ?_; walk_nrm))
  refine Walk.callV (x := .int .i64 0) (W := w) ?_ (ho_of (by conv => lhs; whnf) (by kernel_rfl)) (by rfl) (by decide) rfl Try.func26 (by kernel_rfl) (by rfl) ?_
  · walk_nrm
    exact k2
  walk_nrm
  repeat (first | refine Walk.c rfl ?_ | refine Walk.cRet ?_ | refine Walk.cEnd ?_ | (refine Walk.cReg ?_; simp only [size35_0, size35_1, List.range, List.range.loop]) | (refine Walk.oq ?_; try walk_nrm) | (refine Walk.un ?_; walk_nrm))
  exact Walk.ret0 rfl rfl Try.func35 rfl fun d => ⟨rfl, d, rfl⟩
theorem even_n (sv : Value) (w : World) : CallV Try.prog main V 25 #[.pointer none, sv] w (.tuple #[.int .i64 0, .bool false]) w := by
  have hp1 := fun w => run_eql_ptr (P := Try.prog) 35 undCtr none w
  have hp2 := fun w es => ev_eql_ptr (P := Try.prog) 35 undCtr none w es
  simp only [Option.isNone_none] at hp1
  refine callW_in Try.func25 code25_is fun fr cs => ?_
  simp only [Try.ntmps25, List.size_toArray, List.length_cons, List.length_nil, Nat.reduceAdd, Nat.reduceSub, Array.replicate_succ, Array.replicate_zero, List.push_toArray, List.append_toArray, List.nil_append, List.cons_append]
  repeat (first | refine Walk.c rfl ?_ | refine Walk.cRet ?_ | refine Walk.cEnd ?_ | (refine Walk.cReg ?_; simp only [size25_0, size25_1, size25_2, size25_3, size25_4, size25_5, size25_6, size25_7, size25_8, size25_9, size25_10, List.range, List.range.loop]) | (refine Walk.oq ?_; try walk_nrm) | (refine Walk.un ?_; walk_nrm))
  exact Walk.on2 rfl rfl Try.func25 rfl (.stop fun d => ⟨_, ⟨rfl, d, rfl⟩, rfl⟩)
end
end
end Go.Proofs.Ytnnakajldnaldaa
