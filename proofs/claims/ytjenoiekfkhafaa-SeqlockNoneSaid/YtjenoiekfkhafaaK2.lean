/- Part 2. -/
import Derived.Test.YtjenoiekfkhafaaK1
set_option linter.unusedSimpArgs false
set_option linter.unusedVariables false
set_option maxHeartbeats 8000000
set_option maxRecDepth 100000
namespace Go.Proofs.Ytjenoiekfkhafaa
open Go.Conc Go.RowKit Go.Relay
open Go.ConcN (upd upd_ne upd_same)
section
section
variable {lb k : Nat}
def sqOne (k : Nat) (s : Sq) (o : OpV) : Sq × Ans :=
  if o.k = 1 then (sqDone k s false (sqVal o), ⟨true, 0, []⟩) else if o.k = 2 then (sqDone k s true (sqVal o), ⟨true, 0, []⟩) else if o.k = 3 then (s, ⟨true, 0, wdL k s⟩) else if o.k = 4 then (s, ⟨true, 0, wdL k s⟩) else if o.k = 5 then (s, ⟨decide (o.a < s.v), s.v, []⟩) else (s, aNo)
theorem run_q (s : Sq) : ∀ (r i : Nat) (l : List Int), i + r = k → runN (sqLa lb k) (r + 1) (s, .inr (.q i l)) = some (s, ⟨true, 0, l ++ (List.range' i (r + 1)).map s.w⟩)
  | 0, i, l, h => by
    have h : i = k := h
    subst h
    have e : sqAct i s (.q i l) = (s, .inl ⟨true, 0, l ++ [s.w i]⟩) := by
      show (s, if i = i then _ else _) = _
      rw [if_pos rfl]
    refine (congrArg (runN (sqLa lb i) 0) e).trans ?_
    rfl
  | r + 1, i, l, h => by
    have e : sqAct k s (.q i l) = (s, .inr (.q (i + 1) (l ++ [s.w i]))) := by
      show (s, if i = k then _ else _) = _
      rw [if_neg (by omega)]
    refine (congrArg (runN (sqLa lb k) (r + 1)) e).trans ?_
    refine (run_q s r (i + 1) (l ++ [s.w i]) (by omega)).trans ?_
    rw [show List.range' i (r + 1 + 1) = i :: List.range' (i + 1) (r + 1) from List.range'_succ ..]
    simp
    rfl
theorem enter_eq (s : Sq) (th : Int) (o : OpV) : sqEnter s th o = (s, (sqEnter s th o).2) := by
  unfold sqEnter
  repeat' split
  all_goals rfl
theorem run_one (s : Sq) (hs : ¬ sqOdd s.v) (th : Int) (o : OpV) : runN (sqLa lb k) (k + 4) (sqEnter s th o) = some (sqOne k s o) := by
  unfold sqEnter sqOne
  by_cases h1 : o.k = 1
  · rw [if_pos h1, if_pos h1]; exact run_change s hs false _ _
  rw [if_neg h1, if_neg h1]
  by_cases h2 : o.k = 2
  · rw [if_pos h2, if_pos h2]; exact run_change s hs true _ _
  rw [if_neg h2, if_neg h2]
  by_cases h3 : o.k = 3
  · rw [if_pos h3, if_pos h3]; exact runN_mono (k + 3) _ _ (run_read s hs _) 1
  rw [if_neg h3, if_neg h3]
  by_cases h4 : o.k = 4
  · rw [if_pos h4, if_pos h4]
    have e : wdL k s = (List.range' 0 (k + 1)).map s.w := by rw [← List.range_eq_range']; rfl
    rw [e]
    exact runN_mono (k + 1) _ _ (run_q s k 0 [] (Nat.zero_add k)) 3
  rw [if_neg h4, if_neg h4]
  by_cases h5 : o.k = 5
  · rw [if_pos h5, if_pos h5]
    have h := runN_mono (L := sqLa lb k) 1 (s, .inr (.n1 o.a)) (s, ⟨decide (o.a < s.v), s.v, []⟩) rfl (k + 3)
    rw [show 1 + (k + 3) = k + 4 from by omega] at h
    exact h
  rw [if_neg h5, if_neg h5]
  exact runN_inl (sqLa lb k) (k + 4) s aNo
theorem sqOdd_iff (v : Int) : sqOdd v ↔ v % 2 ≠ 0 := by
  unfold sqOdd
  constructor
  · intro h e
    exact h (Int.tmod_eq_zero_of_dvd (Int.dvd_of_emod_eq_zero e))
  · intro h e
    exact h (Int.emod_eq_zero_of_dvd (Int.dvd_of_tmod_eq_zero e))
theorem one_even (s : Sq) (hs : ¬ sqOdd s.v) (o : OpV) : ¬ sqOdd (sqOne k s o).1.v := by
  have h2 : ∀ ad xs, ¬ sqOdd (sqDone k s ad xs).v := fun ad xs => by
    show ¬ sqOdd (IntKind.i64.wrap (s.v + 2))
    rw [sqOdd_iff] at hs ⊢
    rw [IntKind.wrap_i64]
    omega
  unfold sqOne
  repeat' split
  all_goals first | exact h2 _ _ | exact hs
theorem one_len (s : Sq) (o : OpV) : (sqOne k s o).2.l.length ≤ k + 1 := by
  unfold sqOne
  repeat' split
  all_goals simp [wdL, aNo]
def LsN (base : Nat) (sl : Value) (ls : List Int) (w : World) : Prop := (sl = .slice none 0 0 ∧ ls = []) ∨ ∃ B, sl = .slice (some ⟨B, 0, none⟩) ls.length ls.length ∧ base ≤ B ∧ NumB w B ls
theorem LsN.same {base : Nat} {sl : Value} {ls : List Int} {w w' : World} (h : LsN base sl ls w) (hb : ∀ b, base ≤ b → b < w.heap.size → w'.heap[b]? = w.heap[b]?) : LsN base sl ls w' := by
  rcases h with h | ⟨B, h1, h2, h3⟩
  · exact .inl h
  · exact .inr ⟨B, h1, h2, h3.same (hb B h2 h3.lt)⟩
theorem LsN.lsR {base : Nat} {sl : Value} {ls : List Int} {w : World} (h : LsN base sl ls w) : LsR sl ls w := by
  rcases h with ⟨rfl, rfl⟩ | ⟨B, rfl, _, h3⟩
  · exact ⟨none, 0, rfl, Nat.le_refl _, fun _ => rfl, fun j z hj => (by simp at hj)⟩
  · exact h3.lsR
variable {main : Bool} {V : Nat → Option Wait} {s : Sq} {w : World}
theorem lcall_w (hA : ∀ b, Apart V b) (I : SqI lb k s w) (hs : ¬ sqOdd s.v) (n : Nat) (hn1 : n ≤ k + 1) (hn2 : k + 1 ≤ n) (ok oa ob oc : Int) :
    CallP main V 19 #[.pointer (some ⟨lb, 0, none⟩), .nilIface, .agg #[.int .i64 ok, .int .i64 oa, .int .i64 ob, .int .i64 oc], .int .i64 n] w (fun v w' => ∃ sl, v = ansV (sqOne k s ⟨ok, oa, ob, oc⟩).2 sl ∧ LsN w.heap.size sl (sqOne k s ⟨ok, oa, ob, oc⟩).2.l w' ∧ Solo lb k (sqOne k s ⟨ok, oa, ob, oc⟩).1 w w') := by
  refine (CallP.lone (L := sqLa lb k) (Rel := fun v x w' P => ∃ sl, v = ansV x sl ∧ ((sl = .slice none 0 0 ∧ x.l = []) ∨ ∃ B, sl = .slice (some ⟨B, 0, none⟩) x.l.length x.l.length ∧ P B ∧ NumB w' B x.l)) (k + 4) () s _ (fun _ _ _ _ _ h => h) hA I ((congrArg (runN (sqLa lb k) (k + 4)) (enter_eq s 0 ⟨ok, oa, ob, oc⟩)).symm.trans (run_one s hs 0 ⟨ok, oa, ob, oc⟩)) (fun K e hw ht => (call_s K e 0 n hn1 hn2 ok oa ob oc ?_).mono fun v e' ⟨a, sl, h1, h2, h3, h4⟩ => ⟨a, ⟨sl, h2, h3⟩, h1⟩)).mono ?_
  · rw [ht]
    unfold sqEnter
    repeat' split
    all_goals rfl
  · rintro v w' ⟨y, ⟨sl, rfl, h⟩, hL⟩
    refine ⟨sl, rfl, ?_, Solo.of hL⟩
    rcases h with h | ⟨B, h1, h2, h3⟩
    · exact .inl h
    · exact .inr ⟨B, h1, h2.1.1, h3⟩
end
end
section
def Nl (w : World) (x : Value) (v : Value) (w' : World) : Prop := v = x ∧ w.heap.size ≤ w'.heap.size ∧ ∀ b, b < w.heap.size → w'.heap[b]? = w.heap[b]?
def NlR (w : World) (v : Value) (w' : World) : Prop := (∃ B, v = .slice (some ⟨B, 0, none⟩) 0 0) ∧ w.heap.size ≤ w'.heap.size ∧ ∀ b, b < w.heap.size → w'.heap[b]? = w.heap[b]?
section
variable {main : Bool} {V : Nat → Option Wait}
theorem len_n (w : World) : CallV Try.prog main V 17 #[.pointer none] w (.int .i64 0) w := by
  have hp1 := fun w => run_eql_ptr (P := Try.prog) 35 undLock none w
  have hp2 := fun w es => ev_eql_ptr (P := Try.prog) 35 undLock none w es
  simp only [Option.isNone_none] at hp1
  refine callW_in Try.func17 code17_is fun fr cs => ?_
  simp only [Try.ntmps17, List.size_toArray, List.length_cons, List.length_nil, Nat.reduceAdd, Nat.reduceSub, Array.replicate_succ, Array.replicate_zero, List.push_toArray, List.append_toArray, List.nil_append, List.cons_append]
  repeat (first | refine Walk.c rfl ?_ | refine Walk.cRet ?_ | refine Walk.cEnd ?_ | (refine Walk.cReg ?_; simp only [size17_0, size17_1, size17_2, size17_3, List.range, List.range.loop]) | (refine Walk.oq ?_; try walk_nrm) | (refine Walk.un ?_; walk_nrm))
  exact Walk.ret1 rfl rfl Try.func17 rfl fun d => ⟨rfl, d, rfl⟩
theorem read_n (sv : Value) (a : Int) (w : World) : CallV Try.prog main V 25 #[.pointer none, sv, .int .i64 a] w (.tuple #[.slice none 0 0, .bool false]) w := by
  have hp1 := fun w => run_eql_ptr (P := Try.prog) 35 undLock none w
  have hp2 := fun w es => ev_eql_ptr (P := Try.prog) 35 undLock none w es
  simp only [Option.isNone_none] at hp1
  refine callW_in Try.func25 code25_is fun fr cs => ?_
  simp only [Try.ntmps25, List.size_toArray, List.length_cons, List.length_nil, Nat.reduceAdd, Nat.reduceSub, Array.replicate_succ, Array.replicate_zero, List.push_toArray, List.append_toArray, List.nil_append, List.cons_append]
  repeat (first | refine Walk.c rfl ?_ | refine Walk.cRet ?_ | refine Walk.cEnd ?_ | (refine Walk.cReg ?_; simp only [size25_0, size25_1, size25_2, size25_3, size25_4, size25_5, size25_6, size25_7, size25_8, size25_9, size25_10, size25_11, List.range, List.range.loop]) | (refine Walk.oq ?_; try walk_nrm) | (refine Walk.un ?_; walk_nrm))
  exact Walk.on2 rfl rfl Try.func25 rfl (.stop fun d => ⟨_, ⟨rfl, d, rfl⟩, rfl⟩)
theorem newer_n (sv : Value) (a : Int) (w : World) : CallV Try.prog main V 30 #[.pointer none, sv, .int .i64 a] w (.tuple #[.int .i64 0, .bool false]) w := by
  have hp1 := fun w => run_eql_ptr (P := Try.prog) 35 undLock none w
  have hp2 := fun w es => ev_eql_ptr (P := Try.prog) 35 undLock none w es
  simp only [Option.isNone_none] at hp1
  refine callW_in Try.func30 code30_is fun fr cs => ?_
  simp only [Try.ntmps30, List.size_toArray, List.length_cons, List.length_nil, Nat.reduceAdd, Nat.reduceSub, Array.replicate_succ, Array.replicate_zero, List.push_toArray, List.append_toArray, List.nil_append, List.cons_append]
  repeat (first | refine Walk.c rfl ?_ | refine Walk.cRet ?_ | refine Walk.cEnd ?_ | (refine Walk.cReg ?_; simp only [size30_0, size30_1, size30_2, size30_3, size30_4, List.range, List.range.loop]) | (refine Walk.oq ?_; try walk_nrm) | (refine Walk.un ?_; walk_nrm))
  exact Walk.on2 rfl rfl Try.func30 rfl (.stop fun d => ⟨_, ⟨rfl, d, rfl⟩, rfl⟩)
theorem change_n (sv : Value) (a : Int) (sl fv : Value) (w : World) : CallV Try.prog main V 41 #[.pointer none, sv, .int .i64 a, sl, fv] w (.bool false) w := by
  have hp1 := fun w => run_eql_ptr (P := Try.prog) 35 undLock none w
  have hp2 := fun w es => ev_eql_ptr (P := Try.prog) 35 undLock none w es
  simp only [Option.isNone_none] at hp1
  refine callW_in Try.func41 code41_is fun fr cs => ?_
  simp only [Try.ntmps41, List.size_toArray, List.length_cons, List.length_nil, Nat.reduceAdd, Nat.reduceSub, Array.replicate_succ, Array.replicate_zero, List.push_toArray, List.append_toArray, List.nil_append, List.cons_append]
  repeat (first | refine Walk.c rfl ?_ | refine Walk.cRet ?_ | refine Walk.cEnd ?_ | (refine Walk.cReg ?_; simp only [size41_0, size41_1, size41_2, size41_3, size41_4, size41_5, size41_6, size41_7, size41_8, size41_9, size41_10, size41_11, size41_12, size41_13, size41_14, size41_15, size41_16, List.range, List.range.loop]) | (refine Walk.oq ?_; try walk_nrm) | (refine Walk.un ?_; walk_nrm))
  exact Walk.ret1 rfl rfl Try.func41 rfl fun d => ⟨rfl, d, rfl⟩
theorem write_n (a : Int) (sl : Value) (w : World) : CallW Try.prog main V 23 #[.pointer none, .nilIface, .int .i64 a, sl] w (Nl w (.bool false)) := by
  intro c cs
  rw [enter_at _ Try.func23 code23_is]
  simp only [Try.ntmps23, List.size_toArray, List.length_cons, List.length_nil, Nat.reduceAdd, Nat.reduceSub, Array.replicate_succ, Array.replicate_zero, List.push_toArray, List.append_toArray, List.nil_append, List.cons_append]
  repeat (first | refine Walk.c rfl ?_ | refine Walk.cRet ?_ | refine Walk.cEnd ?_ | (refine Walk.cReg ?_; simp only [size23_0, size23_1, List.range, List.range.loop]) | (refine Walk.oq ?_; try walk_nrm) | (refine Walk.un ?_; walk_nrm))
  (refine Walk.oa ?_; try walk_nrm)
  have o1 : ∀ b, b < w.heap.size → (w.alloc (.cells #[.nilIface] 90)).heap[b]? = w.heap[b]? := fun b hb => heap_new_lt _ _ hb
  have s1 : (w.alloc (.cells #[.nilIface] 90)).heap.size = w.heap.size + 1 := by simp
  have c1 := heap_alloc_new w (.cells #[.nilIface] 90)
  have d1 := (cell_of c1 0).trans rfl
  generalize hR : w.heap.size = R at *
  generalize w.alloc (.cells #[.nilIface] 90) = w1 at *
  repeat (first | refine Walk.c rfl ?_ | refine Walk.cRet ?_ | refine Walk.cEnd ?_ | (refine Walk.cReg ?_; simp only [size23_0, size23_1, List.range, List.range.loop]) | (refine Walk.oq ?_; try walk_nrm) | (refine Walk.un ?_; walk_nrm))
  refine Walk.callV (x := .bool false) (W := w1) ?_ (ho_of (by conv => lhs; whnf) (by kernel_rfl)) (by rfl) (by decide) rfl Try.func41 (by kernel_rfl) (by rfl) ?_
  · walk_nrm
    exact change_n .nilIface a sl _ w1
  walk_nrm
  repeat (first | refine Walk.c rfl ?_ | refine Walk.cRet ?_ | refine Walk.cEnd ?_ | (refine Walk.cReg ?_; simp only [size23_0, size23_1, List.range, List.range.loop]) | (refine Walk.oq ?_; try walk_nrm) | (refine Walk.un ?_; walk_nrm))
  exact Walk.on1 rfl rfl Try.func23 rfl (.stop fun d => ⟨_, ⟨rfl, (by show w.heap.size ≤ w1.heap.size; omega), fun b hb => o1 b (by omega)⟩, rfl⟩)
theorem add_n (a : Int) (sl : Value) (w : World) : CallW Try.prog main V 24 #[.pointer none, .nilIface, .int .i64 a, sl] w (Nl w (.bool false)) := by
  intro c cs
  rw [enter_at _ Try.func24 code24_is]
  simp only [Try.ntmps24, List.size_toArray, List.length_cons, List.length_nil, Nat.reduceAdd, Nat.reduceSub, Array.replicate_succ, Array.replicate_zero, List.push_toArray, List.append_toArray, List.nil_append, List.cons_append]
  repeat (first | refine Walk.c rfl ?_ | refine Walk.cRet ?_ | refine Walk.cEnd ?_ | (refine Walk.cReg ?_; simp only [size24_0, size24_1, List.range, List.range.loop]) | (refine Walk.oq ?_; try walk_nrm) | (refine Walk.un ?_; walk_nrm))
  (refine Walk.oa ?_; try walk_nrm)
  have o1 : ∀ b, b < w.heap.size → (w.alloc (.cells #[.nilIface] 90)).heap[b]? = w.heap[b]? := fun b hb => heap_new_lt _ _ hb
  have s1 : (w.alloc (.cells #[.nilIface] 90)).heap.size = w.heap.size + 1 := by simp
  have c1 := heap_alloc_new w (.cells #[.nilIface] 90)
  have d1 := (cell_of c1 0).trans rfl
  generalize hR : w.heap.size = R at *
  generalize w.alloc (.cells #[.nilIface] 90) = w1 at *
  repeat (first | refine Walk.c rfl ?_ | refine Walk.cRet ?_ | refine Walk.cEnd ?_ | (refine Walk.cReg ?_; simp only [size24_0, size24_1, List.range, List.range.loop]) | (refine Walk.oq ?_; try walk_nrm) | (refine Walk.un ?_; walk_nrm))
  refine Walk.callV (x := .bool false) (W := w1) ?_ (ho_of (by conv => lhs; whnf) (by kernel_rfl)) (by rfl) (by decide) rfl Try.func41 (by kernel_rfl) (by rfl) ?_
  · walk_nrm
    exact change_n .nilIface a sl _ w1
  walk_nrm
  repeat (first | refine Walk.c rfl ?_ | refine Walk.cRet ?_ | refine Walk.cEnd ?_ | (refine Walk.cReg ?_; simp only [size24_0, size24_1, List.range, List.range.loop]) | (refine Walk.oq ?_; try walk_nrm) | (refine Walk.un ?_; walk_nrm))
  exact Walk.on1 rfl rfl Try.func24 rfl (.stop fun d => ⟨_, ⟨rfl, (by show w.heap.size ≤ w1.heap.size; omega), fun b hb => o1 b (by omega)⟩, rfl⟩)
theorem raw_n (w : World) : CallW Try.prog main V 31 #[.pointer none, .nilIface] w (NlR w) := by
  intro c cs
  have k1 := len_n (main := main) (V := V) w
  have hi1 := Option.some_get (show (Try.prog.info? 2).isSome = true by kernel_rfl)
  rw [enter_at _ Try.func31 code31_is]
  simp only [Try.ntmps31, List.size_toArray, List.length_cons, List.length_nil, Nat.reduceAdd, Nat.reduceSub, Array.replicate_succ, Array.replicate_zero, List.push_toArray, List.append_toArray, List.nil_append, List.cons_append]
  repeat (first | refine Walk.c rfl ?_ | refine Walk.cRet ?_ | refine Walk.cEnd ?_ | (refine Walk.cReg ?_; simp only [size31_0, size31_1, size31_2, size31_3, size31_4, size31_5, size31_6, size31_7, List.range, List.range.loop]) | (refine Walk.oq ?_; try walk_nrm) | (refine Walk.un ?_; walk_nrm))
  refine Walk.callV (x := .int .i64 0) (W := w) ?_ (ho_of (by conv => lhs; whnf) (by kernel_rfl)) (by rfl) (by decide) rfl Try.func17 (by kernel_rfl) (by rfl) ?_
  · walk_nrm
    exact k1
  walk_nrm
  repeat (first | refine Walk.c rfl ?_ | refine Walk.cRet ?_ | refine Walk.cEnd ?_ | (refine Walk.cReg ?_; simp only [size31_0, size31_1, size31_2, size31_3, size31_4, size31_5, size31_6, size31_7, List.range, List.range.loop]) | (refine Walk.oq ?_; try walk_nrm) | (refine Walk.un ?_; walk_nrm))
  refine Walk.make 22 (.tmp 8) (.tmp 8) (ho_of (by conv => lhs; whnf) (by kernel_rfl)) (by rfl) (by decide) rfl 2 _ (.int .i64 0) 1 8 (by kernel_rfl) hi1.symm (by rfl) (by rfl) (by rfl) 0 (by rfl) (by rfl) (by omega) (by omega) ?_
  walk_nrm
  generalize hob : Obj.cells _ _ = ob
  have o1 : ∀ b, b < w.heap.size → (w.alloc ob).heap[b]? = w.heap[b]? := fun b hb => heap_new_lt _ _ hb
  have s1 : (w.alloc ob).heap.size = w.heap.size + 1 := by simp
  clear hob k1
  generalize hR : w.heap.size = R at *
  generalize w.alloc ob = w1 at *
  repeat (first | refine Walk.c rfl ?_ | refine Walk.cRet ?_ | refine Walk.cEnd ?_ | (refine Walk.cReg ?_; simp only [size31_0, size31_1, size31_2, size31_3, size31_4, size31_5, size31_6, size31_7, List.range, List.range.loop]) | (refine Walk.oq ?_; try walk_nrm) | (refine Walk.un ?_; walk_nrm))
  refine Walk.ctl rfl (fun w => stepG_loop) ?_
  repeat (first | refine Walk.c rfl ?_ | refine Walk.cRet ?_ | refine Walk.cEnd ?_ | (refine Walk.cReg ?_; simp only [size31_0, size31_1, size31_2, size31_3, size31_4, size31_5, size31_6, size31_7, List.range, List.range.loop]) | (refine Walk.oq ?_; try walk_nrm) | (refine Walk.un ?_; walk_nrm))
  exact Walk.on1 rfl rfl Try.func31 rfl (.stop fun d => ⟨_, ⟨⟨R, rfl⟩, (by show w.heap.size ≤ w1.heap.size; omega), fun b hb => o1 b (by omega)⟩, rfl⟩)
theorem values_n (w : World) : CallW Try.prog main V 22 #[.pointer none] w (NlR w) := by
  intro c cs
  rw [enter_at _ Try.func22 code22_is]
  simp only [Try.ntmps22, List.size_toArray, List.length_cons, List.length_nil, Nat.reduceAdd, Nat.reduceSub, Array.replicate_succ, Array.replicate_zero, List.push_toArray, List.append_toArray, List.nil_append, List.cons_append]
  repeat (first | refine Walk.c rfl ?_ | refine Walk.cRet ?_ | refine Walk.cEnd ?_ | (refine Walk.cReg ?_; simp only [size22_0, size22_1, List.range, List.range.loop]) | (refine Walk.oq ?_; try walk_nrm) | (refine Walk.un ?_; walk_nrm))
  refine Walk.callW (Post := NlR w) ?_ (ho_of (by conv => lhs; whnf) (by kernel_rfl)) (by rfl) (by decide) rfl Try.func31 (by kernel_rfl) (by rfl) ?_
  · walk_nrm
    exact (raw_n w)
  rintro v w2 ⟨⟨B, rfl⟩, z2, o2⟩
  walk_nrm
  repeat (first | refine Walk.c rfl ?_ | refine Walk.cRet ?_ | refine Walk.cEnd ?_ | (refine Walk.cReg ?_; simp only [size22_0, size22_1, List.range, List.range.loop]) | (refine Walk.oq ?_; try walk_nrm) | (refine Walk.un ?_; walk_nrm))
  exact Walk.on1 rfl rfl Try.func22 rfl (.stop fun d => ⟨_, ⟨⟨B, rfl⟩, z2, o2⟩, rfl⟩)
theorem version_n (w : World) : CallV Try.prog main V 18 #[.pointer none] w (.int .i64 0) w := by
  have k1 := newer_n (main := main) (V := V) .nilIface 0 w
  refine callW_in Try.func18 code18_is fun fr cs => ?_
  simp only [Try.ntmps18, List.size_toArray, List.length_cons, List.length_nil, Nat.reduceAdd, Nat.reduceSub, Array.replicate_succ, Array.replicate_zero, List.push_toArray, List.append_toArray, List.nil_append, List.cons_append]
  repeat (first | refine Walk.c rfl ?_ | refine Walk.cRet ?_ | refine Walk.cEnd ?_ | (refine Walk.cReg ?_; simp only [size18_0, size18_1, size18_2, List.range, List.range.loop]) | (refine Walk.oq ?_; try walk_nrm) | (refine Walk.un ?_; walk_nrm))
  refine Walk.callV (x := .tuple #[.int .i64 0, .bool false]) (W := w) ?_ (ho_of (by conv => lhs; whnf) (by kernel_rfl)) (by rfl) (by decide) rfl Try.func30 (by kernel_rfl) (by rfl) ?_
  · walk_nrm
    exact k1
  walk_nrm
  repeat (first | refine Walk.c rfl ?_ | refine Walk.cRet ?_ | refine Walk.cEnd ?_ | (refine Walk.cReg ?_; simp only [size18_0, size18_1, size18_2, List.range, List.range.loop]) | (refine Walk.oq ?_; try walk_nrm) | (refine Walk.un ?_; walk_nrm))
  exact Walk.ret1 rfl rfl Try.func18 rfl fun d => ⟨rfl, d, rfl⟩
end
end
section
theorem facts_more {dsts : List Nat} {vals : List Value} {f : Nat → Bool} {u : Nat → Value} (F : Facts dsts vals f u) {i : Nat} (hd : dsts[i]? = none) : Facts dsts vals (upd f i true) u := by
  intro j d v hf hj hv
  by_cases e : j = i
  · rw [e, hd] at hj; cases hj
  · rw [upd_ne _ _ e] at hf
    exact F j d v hf hj hv
theorem facts_vals {dsts : List Nat} {vals vals' : List Value} {f : Nat → Bool} {u : Nat → Value} (F : Facts dsts vals f u) (h : ∀ j v, f j = true → vals'[j]? = some v → vals[j]? = some v) : Facts dsts vals' f u := fun j d v hf hj hv => F j d v hf hj (h j v hf hv)
theorem one1 (b : Bool) : (Value.bool b).oneCell' = true := rfl
theorem one2 (n : Int) : (Value.int .i64 n).oneCell' = true := rfl
def ansO (a : Ans) (sl : Value) : Obj := .cells #[.bool a.ok, .int .i64 a.n, sl] 44
theorem LsN.low {base base' : Nat} {sl : Value} {ls : List Int} {w : World} (h : LsN base sl ls w) (hb : base' ≤ base) : LsN base' sl ls w := by
  rcases h with h | ⟨B, h1, h2, h3⟩
  · exact .inl h
  · exact .inr ⟨B, h1, Nat.le_trans hb h2, h3⟩
theorem LsN.past {base A : Nat} {sl : Value} {ls : List Int} {w w' : World} {arr : Array Value} (h : LsN base sl ls w) (hA : w.heap[A]? = some (.cells arr 44)) (hO : ∀ b, b ≠ A → w'.heap[b]? = w.heap[b]?) : LsN base sl ls w' := by
  rcases h with h | ⟨B, h1, h2, h3⟩
  · exact .inl h
  · refine .inr ⟨B, h1, h2, h3.same (hO B fun e => ?_)⟩
    subst e
    unfold NumB at h3
    rw [hA] at h3
    simp at h3
noncomputable def reg10_0 : Array Oper := match Try.f10.body with | some (.seq (.region _ ops _) _) => ops | _ => #[]
theorem size10_0 : reg10_0.size = 1 := by kernel_rfl
noncomputable def reg10_1 : Array Oper := match Try.f10.body with | some (.seq _ (.seq (.seq (.region _ ops _) _) _)) => ops | _ => #[]
theorem size10_1 : reg10_1.size = 2 := by kernel_rfl
noncomputable def reg10_2 : Array Oper := match Try.f10.body with | some (.seq _ (.seq (.seq _ (.cond _ (.seq (.region _ ops _) _) _)) _)) => ops | _ => #[]
theorem size10_2 : reg10_2.size = 1 := by kernel_rfl
noncomputable def reg10_3 : Array Oper := match Try.f10.body with | some (.seq _ (.seq _ (.seq (.region _ ops _) _))) => ops | _ => #[]
theorem size10_3 : reg10_3.size = 1 := by kernel_rfl
noncomputable def reg10_4 : Array Oper := match Try.f10.body with | some (.seq _ (.seq _ (.seq _ (.seq (.region _ ops _) _)))) => ops | _ => #[]
theorem size10_4 : reg10_4.size = 5 := by kernel_rfl
noncomputable def reg10_5 : Array Oper := match Try.f10.body with | some (.seq _ (.seq _ (.seq _ (.seq _ (.seq (.seq (.region _ ops _) _) _))))) => ops | _ => #[]
theorem size10_5 : reg10_5.size = 1 := by kernel_rfl
noncomputable def reg10_6 : Array Oper := match Try.f10.body with | some (.seq _ (.seq _ (.seq _ (.seq _ (.seq (.seq _ (.block _ (.loop (.seq (.seq (.region _ ops _) _) _)))) _))))) => ops | _ => #[]
theorem size10_6 : reg10_6.size = 4 := by kernel_rfl
noncomputable def reg10_8 : Array Oper := match Try.f10.body with | some (.seq _ (.seq _ (.seq _ (.seq _ (.seq (.seq _ (.block _ (.loop (.seq _ (.seq (.block _ (.seq (.region _ ops _) _)) _))))) _))))) => ops | _ => #[]
theorem size10_8 : reg10_8.size = 7 := by kernel_rfl
noncomputable def reg10_9 : Array Oper := match Try.f10.body with | some (.seq _ (.seq _ (.seq _ (.seq _ (.seq (.seq _ (.block _ (.loop (.seq _ (.seq (.block _ (.seq _ (.seq (.region _ ops _) _))) _))))) _))))) => ops | _ => #[]
theorem size10_9 : reg10_9.size = 7 := by kernel_rfl
noncomputable def reg10_10 : Array Oper := match Try.f10.body with | some (.seq _ (.seq _ (.seq _ (.seq _ (.seq (.seq _ (.block _ (.loop (.seq _ (.seq (.block _ (.seq _ (.seq _ (.seq (.seq (.region _ ops _) _) _)))) _))))) _))))) => ops | _ => #[]
theorem size10_10 : reg10_10.size = 45 := by kernel_rfl
noncomputable def reg10_11 : Array Oper := match Try.f10.body with | some (.seq _ (.seq _ (.seq _ (.seq _ (.seq (.seq _ (.block _ (.loop (.seq _ (.seq (.block _ (.seq _ (.seq _ (.seq (.seq _ (.cond _ (.seq (.region _ ops _) _) _)) _)))) _))))) _))))) => ops | _ => #[]
theorem size10_11 : reg10_11.size = 1 := by kernel_rfl
noncomputable def reg10_12 : Array Oper := match Try.f10.body with | some (.seq _ (.seq _ (.seq _ (.seq _ (.seq (.seq _ (.block _ (.loop (.seq _ (.seq (.block _ (.seq _ (.seq _ (.seq _ (.seq (.region _ ops _) _))))) _))))) _))))) => ops | _ => #[]
theorem size10_12 : reg10_12.size = 16 := by kernel_rfl
noncomputable def reg10_13 : Array Oper := match Try.f10.body with | some (.seq _ (.seq _ (.seq _ (.seq _ (.seq (.seq _ (.block _ (.loop (.seq _ (.seq (.block _ (.seq _ (.seq _ (.seq _ (.seq _ (.seq (.region _ ops _) _)))))) _))))) _))))) => ops | _ => #[]
theorem size10_13 : reg10_13.size = 26 := by kernel_rfl
noncomputable def reg10_14 : Array Oper := match Try.f10.body with | some (.seq _ (.seq _ (.seq _ (.seq _ (.seq (.seq _ (.block _ (.loop (.seq _ (.seq (.block _ (.seq _ (.seq _ (.seq _ (.seq _ (.seq _ (.cond _ (.seq (.region _ ops _) _) _))))))) _))))) _))))) => ops | _ => #[]
theorem size10_14 : reg10_14.size = 1 := by kernel_rfl
noncomputable def reg10_7 : Array Oper := match Try.f10.body with | some (.seq _ (.seq _ (.seq _ (.seq _ (.seq (.seq _ (.block _ (.loop (.seq _ (.seq _ (.region _ ops _)))))) _))))) => ops | _ => #[]
theorem size10_7 : reg10_7.size = 3 := by kernel_rfl
noncomputable def reg10_15 : Array Oper := match Try.f10.body with | some (.seq _ (.seq _ (.seq _ (.seq _ (.seq _ (.seq (.region _ ops _) _)))))) => ops | _ => #[]
theorem size10_15 : reg10_15.size = 1 := by kernel_rfl
theorem code10_is : Try.f10.body = some (.seq (.region 0 reg10_0 false) (.seq (.seq (.region 1 reg10_1 false) (.cond (.tmp 14 ) (.seq (.region 2 reg10_2 false) (.ret)) (.skip))) (.seq (.region 3 reg10_3 false) (.seq (.region 4 reg10_4 false) (.seq (.seq (.region 5 reg10_5 false) (.block 0 (.loop (.seq (.seq (.region 6 reg10_6 false) (.cond (.tmp 21 ) (.skip) (.exit 0))) (.seq (.block 1 (.seq (.region 8 reg10_8 false) (.seq (.region 9 reg10_9 false) (.seq (.seq (.region 10 reg10_10 false) (.cond (.tmp 78 ) (.seq (.region 11 reg10_11 false) (.ret)) (.skip))) (.seq (.region 12 reg10_12 true) (.seq (.region 13 reg10_13 false) (.cond (.tmp 116 ) (.seq (.region 14 reg10_14 false) (.ret)) (.skip)))))))) (.region 7 reg10_7 false)))))) (.seq (.region 15 reg10_15 false) (.ret))))))) := by kernel_rfl
noncomputable def tmN (tb toff n0 tc zb lb i : Nat) (u : Nat → Value) : Array Value := #[.slice (some ⟨tb, toff, none⟩) n0 tc, u 1, .bool false, .pointer none, .pointer (some ⟨zb, 0, none⟩), .pointer (some ⟨lb, 0, none⟩), .int .i64 i, u 7, u 8, u 9, u 10, u 11, u 12, u 13, u 14, u 15, u 16, u 17, u 18, u 19, u 20, u 21, u 22, u 23, u 24, u 25, u 26, u 27, u 28, u 29, u 30, u 31, u 32, u 33, u 34, u 35, u 36, u 37, u 38, u 39, u 40, u 41, u 42, u 43, u 44, u 45, u 46, u 47, u 48, u 49, u 50, u 51, u 52, u 53, u 54, u 55, u 56, u 57, u 58, u 59, u 60, u 61, u 62, u 63, u 64, u 65, u 66, u 67, u 68, u 69, u 70, u 71, u 72, u 73, u 74, u 75, u 76, u 77, u 78, u 79, u 80, u 81, u 82, u 83, u 84, u 85, u 86, u 87, u 88, u 89, u 90, u 91, u 92, u 93, u 94, u 95, u 96, u 97, u 98, u 99, u 100, u 101, u 102, u 103, u 104, u 105, u 106, u 107, u 108, u 109, u 110, u 111, u 112, u 113, u 114, u 115, u 116]
def dsN : List Nat := [79, 80, 81, 82, 83, 84, 85, 86, 87, 88, 89, 90, 11, 12]
def vsN (tb toff n0 tc zb lb i : Nat) (o : OpV) (a : Ans) (A B : Nat) (sk sl : Value) : List Value := [.pointer (some ⟨zb, 0, none⟩), .slice (some ⟨tb, toff, none⟩) n0 tc, .int .i64 i, .pointer (some ⟨tb, toff + i * 4, none⟩), opVal o, ansV a sk, .pointer (some ⟨lb, 0, none⟩), .slice (some ⟨tb, toff, none⟩) n0 tc, .int .i64 i, .pointer (some ⟨tb, toff + i * 4, none⟩), opVal o, ansV a sl, .pointer (some ⟨A, 0, none⟩), .pointer (some ⟨B, 0, none⟩)]
def OffN (zb lb b : Nat) : Prop := b ≠ zb ∧ b ≠ lb
structure AloN (zb lb : Nat) (S S' : Sq) (a : Ans) (W : World) (f : Nat → Bool) (A B : Nat) (sk sl : Value) (w : World) : Prop where
  ik : SqI zb 0 (if f 5 then S' else S) w
  il : SqI lb 0 (if f 11 then S' else S) w
  lk : f 5 = true → LsN W.heap.size sk a.l w
  ll : f 11 = true → LsN W.heap.size sl a.l w
  a1 : f 12 = true → W.heap.size ≤ A ∧ w.heap[A]? = some (if f 14 then (ansO a sk) else (.cells #[.bool false, .int .i64 0, .slice none 0 0] 44))
  b1 : f 13 = true → W.heap.size ≤ B ∧ w.heap[B]? = some (if f 15 then (ansO a sl) else (.cells #[.bool false, .int .i64 0, .slice none 0 0] 44))
  ne : f 12 = true → f 13 = true → A ≠ B
  old : ∀ b, b < W.heap.size → OffN zb lb b → w.heap[b]? = W.heap[b]?
  size : W.heap.size ≤ w.heap.size
section
variable {zb lb : Nat} {S S' : Sq} {a : Ans} {W : World} {f : Nat → Bool} {A B : Nat} {sk sl : Value} {w : World}
theorem AloN.at (h : AloN zb lb S S' a W f A B sk sl w) (d : Nat) : AloN zb lb S S' a W f A B sk sl (w.at d) := ⟨h.ik.old rfl, h.il.old rfl, fun e => (h.lk e).same fun _ _ _ => rfl, fun e => (h.ll e).same fun _ _ _ => rfl, h.a1, h.b1, h.ne, h.old, h.size⟩
theorem AloN.quiet (h : AloN zb lb S S' a W f A B sk sl w) {i : Nat} (h5 : i ≠ 5) (h11 : i ≠ 11) (h12 : i ≠ 12) (h13 : i ≠ 13) (h14 : i ≠ 14) (h15 : i ≠ 15) : AloN zb lb S S' a W (upd f i true) A B sk sl w := by
  refine ⟨?_, ?_, ?_, ?_, ?_, ?_, ?_, h.old, h.size⟩
  · rw [upd_ne _ _ (Ne.symm h5)]; exact h.ik
  · rw [upd_ne _ _ (Ne.symm h11)]; exact h.il
  · rw [upd_ne _ _ (Ne.symm h5)]; exact h.lk
  · rw [upd_ne _ _ (Ne.symm h11)]; exact h.ll
  · rw [upd_ne _ _ (Ne.symm h12), upd_ne _ _ (Ne.symm h14)]; exact h.a1
  · rw [upd_ne _ _ (Ne.symm h13), upd_ne _ _ (Ne.symm h15)]; exact h.b1
  · rw [upd_ne _ _ (Ne.symm h12), upd_ne _ _ (Ne.symm h13)]; exact h.ne
theorem lcall1 {lb : Nat} {S : Sq} {w : World} (main : Bool) (I : SqI lb 0 S w) (hs : ¬ sqOdd S.v) (o : OpV) :
    CallP main (fun _ => none) 19 #[.pointer (some ⟨lb, 0, none⟩), .nilIface, .agg #[.int .i64 o.k, .int .i64 o.a, .int .i64 o.b, .int .i64 o.c], .int .i64 1] w (fun v w' => ∃ sl, v = ansV (sqOne 0 S o).2 sl ∧ LsN w.heap.size sl (sqOne 0 S o).2.l w' ∧ Solo lb 0 (sqOne 0 S o).1 w w') :=
  lcall_w ap0 I hs 1 (by decide) (by decide) o.k o.a o.b o.c
theorem none_do {main : Bool} (tb toff n0 tc i : Nat) (o : OpV) (hi : i < n0) (hn0 : n0 ≤ 17592186044416) (W : World) (hs : ¬ sqOdd S.v)
    (hk : SqI zb 0 S W) (hl : SqI lb 0 S W) (T : zb ≠ lb) (ht : OffN zb lb tb)
    (o0 : W.cell? ⟨tb, toff + i * 4, none⟩ = some (.int .i64 o.k)) (o1 : W.cell? ⟨tb, toff + i * 4 + 1, none⟩ = some (.int .i64 o.a)) (o2 : W.cell? ⟨tb, toff + i * 4 + 2, none⟩ = some (.int .i64 o.b)) (o3 : W.cell? ⟨tb, toff + i * 4 + 3, none⟩ = some (.int .i64 o.c))
    (k : List Item) (cs : List Frame) (u0 : Nat → Value) {Stop : Goroutine → World → Prop}
    (hend : ∀ (u : Nat → Value) (A B : Nat) (sk sl : Value) (w : World), u 11 = .pointer (some ⟨A, 0, none⟩) → u 12 = .pointer (some ⟨B, 0, none⟩) → AloN zb lb S (sqOne 0 S o).1 (sqOne 0 S o).2 W (fun _ => true) A B sk sl w → Walk Try.prog main (DR (fun _ => none)) Stop (G ((base 10).at ⟨tmN tb toff n0 tc zb lb i u, []⟩ (.inRegion reg10_12 [] :: k)) cs) w) :
    Walk Try.prog main (DR (fun _ => none)) Stop (G ((base 10).at ⟨tmN tb toff n0 tc zb lb i u0, []⟩ (.code (.region 12 reg10_12 true) :: k)) cs) W := by
  obtain ⟨fsO, huO⟩ := structT 47 (by kernel_rfl)
  have hcK := fun w (I : SqI zb 0 S w) => lcall1 main I hs o
  have hcL := fun w (I : SqI lb 0 S w) => lcall1 main I hs o
  generalize hX : sqOne 0 S o = X at *
  obtain ⟨S', a⟩ := X
  dsimp only at hend hcK hcL
  clear hX
  have l1 : zb < W.heap.size := hk.lt
  have l3 : lb < W.heap.size := hl.lt
  refine Walk.drawnJ (Inv := fun f ac' w => ∃ u A B sk sl, ac' = ⟨tmN tb toff n0 tc zb lb i u, []⟩ ∧ Facts dsN (vsN tb toff n0 tc zb lb i o a A B sk sl) f u ∧ AloN zb lb S S' a W f A B sk sl w) (by kernel_rfl) (by kernel_rfl) (fun d => ⟨u0, 0, 0, undef, undef, rfl, Facts.none _ _ _, AloN.at ⟨hk, hl, fun h => (by cases h), fun h => (by cases h), fun h => (by cases h), fun h => (by cases h), fun h => (by cases h), fun _ _ _ => rfl, Nat.le_refl _⟩ d⟩) ?_ ?_
  · rintro f j op act w ⟨u, A, B, sk, sl, rfl, F0, Q⟩ hC hfj ho hdeps rest hr
    have hj : j < 16 := by have := (Array.getElem?_eq_some_iff.1 ho).1; rw [size10_12] at this; exact this
    have hcell : ∀ {y : Nat} {v : Value}, W.cell? ⟨tb, y, none⟩ = some v → w.cell? ⟨tb, y, none⟩ = some v := fun {y v} h => (World.cell?_of_block (a := ⟨tb, y, none⟩) (Q.old tb (cell_lt' h) ht)).trans h
    have hC' := hC
    have hQs := Q.size
    match j, hj with
    | 0, _ =>
      clear hdeps hC hC' hcK hcL hend
      simp only [tmN] at hr ⊢
      (refine Walk.oq ?_; try walk_nrm)
      refine hr _ _ ⟨upd u 79 (.pointer (some ⟨zb, 0, none⟩)), A, B, sk, sl, ?_, F0.set (by decide) rfl rfl, Q.quiet (by decide) (by decide) (by decide) (by decide) (by decide) (by decide)⟩
      simp [tmN, upd]
    | 1, _ =>
      clear hdeps hC hC' hcK hcL hend
      simp only [tmN] at hr ⊢
      (refine Walk.oq ?_; try walk_nrm)
      refine hr _ _ ⟨upd u 80 (.slice (some ⟨tb, toff, none⟩) n0 tc), A, B, sk, sl, ?_, F0.set (by decide) rfl rfl, Q.quiet (by decide) (by decide) (by decide) (by decide) (by decide) (by decide)⟩
      simp [tmN, upd]
    | 2, _ =>
      clear hdeps hC hC' hcK hcL hend
      simp only [tmN] at hr ⊢
      (refine Walk.oq ?_; try walk_nrm)
      refine hr _ _ ⟨upd u 81 (.int .i64 i), A, B, sk, sl, ?_, F0.set (by decide) rfl rfl, Q.quiet (by decide) (by decide) (by decide) (by decide) (by decide) (by decide)⟩
      simp [tmN, upd]
    | 3, _ =>
      have hd := deps_of (l := [1, 2]) (by kernel_rfl) ho hdeps
      have e80 := F0 1 80 _ (hd 1 (by simp)) rfl rfl
      have e81 := F0 2 81 _ (hd 2 (by simp)) rfl rfl
      have hi0 : (0 : Int) ≤ i := by omega
      have hi3 : decide (i < n0) = true := by simp; omega
      have hi1 : decide ((i : Int) < n0) = true := by simp; omega
      have hi4 : (i : Int) < n0 := by omega
      clear hdeps hC hC' hcK hcL hend
      simp only [tmN] at hr ⊢
      simp only [e80, e81]
      (refine Walk.oq ?_; try walk_nrm)
      refine hr _ _ ⟨upd u 82 (.pointer (some ⟨tb, toff + i * 4, none⟩)), A, B, sk, sl, ?_, F0.set (by decide) rfl rfl, Q.quiet (by decide) (by decide) (by decide) (by decide) (by decide) (by decide)⟩
      simp [tmN, upd, e80, e81]
    | 4, _ =>
      have hd := deps_of (l := [3]) (by kernel_rfl) ho hdeps
      have e82 := F0 3 82 _ (hd 3 (by simp)) rfl rfl
      have hcs : ∀ (y : Nat) (v : Value), ([.int .i64 o.k, .int .i64 o.a, .int .i64 o.b, .int .i64 o.c] : List Value)[y]? = some v → w.cell? ⟨tb, toff + i * 4 + y, none⟩ = some v := fun y v hv => by
        match y, hv with
        | 0, hv => cases hv; exact hcell o0
        | 1, hv => cases hv; exact hcell o1
        | 2, hv => cases hv; exact hcell o2
        | 3, hv => cases hv; exact hcell o3
      clear hdeps hC hC' hcK hcL hend
      simp only [tmN] at hr ⊢
      simp only [e82]
      refine Walk.loadS 47 (.tmp 82) (ho_of (by conv => lhs; whnf) (by kernel_rfl)) (by rfl) (by decide) rfl tb (toff + i * 4) [.int .i64 o.k, .int .i64 o.a, .int .i64 o.b, .int .i64 o.c] (.struct fsO) rfl hcs huO rfl (by kernel_rfl) ?_
      walk_nrm
      refine hr _ _ ⟨upd u 83 (opVal o), A, B, sk, sl, ?_, F0.set (by decide) rfl rfl, Q.quiet (by decide) (by decide) (by decide) (by decide) (by decide) (by decide)⟩
      simp [tmN, upd, opVal, e82]
    | 5, _ =>
      have hd := deps_of (l := [0, 4]) (by kernel_rfl) ho hdeps
      have e79 := F0 0 79 _ (hd 0 (by simp)) rfl rfl
      have e83 := F0 4 83 _ (hd 4 (by simp)) rfl rfl
      have ik := Q.ik
      rw [hfj] at ik
      simp only [Bool.false_eq_true, if_false] at ik
      have hc := hcK w ik
      clear hdeps hC hend
      simp only [tmN] at hr ⊢
      simp only [e79, e83, opVal]
      refine Walk.callP (Post := fun v w' => ∃ sl, v = ansV a sl ∧ LsN w.heap.size sl a.l w' ∧ Solo zb 0 S' w w') ?_ (ho_of (by conv => lhs; whnf) (by kernel_rfl)) (by rfl) (by decide) rfl Try.func19 (by kernel_rfl) (by rfl) ⟨rfl, rfl, _, Try.func10⟩ ?_
      · walk_nrm
        exact hc
      rintro v w1 ⟨sk', rfl, hLs, hCn⟩
      have hCo := hCn.old
      have hCs := hCn.size
      clear hc
      walk_nrm
      refine hr _ _ ⟨upd u 84 (ansV a sk'), A, B, sk', sl, ?_, Facts.set (facts_vals F0 fun j v hf hv => ?_) (by decide) rfl rfl, ⟨?_, ?_, fun h => ?_, fun h => ?_, fun h => ?_, fun h => ?_, fun h h2 => ?_, fun b hb hOf => ?_, by omega⟩⟩
      · simp [tmN, upd, ansV, opVal, e79, e83]
      · exact match j, hf, hv with
          | 0, _, hv => hv
          | 1, _, hv => hv
          | 2, _, hv => hv
          | 3, _, hv => hv
          | 4, _, hv => hv
          | 5, hf, hv => by rw [hfj] at hf; cases hf
          | 6, _, hv => hv
          | 7, _, hv => hv
          | 8, _, hv => hv
          | 9, _, hv => hv
          | 10, _, hv => hv
          | 11, _, hv => hv
          | 12, _, hv => hv
          | 13, _, hv => hv
          | j + 14, _, hv => hv
      · rw [upd_same, if_pos rfl]; exact hCn.I
      · rw [upd_ne _ _ (by decide)]
        exact Q.il.old (hCo lb (by omega) (by omega))
      · exact hLs.low hQs
      · rw [upd_ne _ _ (by decide)] at h
        exact (Q.ll h).same fun b h1 h2 => hCo b h2 (by omega)
      · rw [upd_ne _ _ (by decide)] at h
        rw [upd_ne _ _ (by decide)]
        obtain ⟨z1, z2⟩ := Q.a1 h
        have h14 : f 14 = false := by
          cases h : f 14 with
          | false => rfl
          | true =>
            have := hC'.deps (i := 14) (l := [5, 11]) h (by kernel_rfl) 5 (by simp)
            rw [hfj] at this
            cases this
        rw [h14] at z2 ⊢
        exact ⟨z1, (hCo A (Array.getElem?_eq_some_iff.1 z2).1 (by omega)).trans z2⟩
      · rw [upd_ne _ _ (by decide)] at h
        rw [upd_ne _ _ (by decide)]
        obtain ⟨z1, z2⟩ := Q.b1 h
        have h15 : f 15 = false := by
          cases h : f 15 with
          | false => rfl
          | true =>
            have := hC'.deps (i := 15) (l := [5, 11]) h (by kernel_rfl) 5 (by simp)
            rw [hfj] at this
            cases this
        rw [h15] at z2 ⊢
        exact ⟨z1, (hCo B (Array.getElem?_eq_some_iff.1 z2).1 (by omega)).trans z2⟩
      · rw [upd_ne _ _ (by decide)] at h h2
        exact Q.ne h h2
      · exact (hCo b (by omega) hOf.1).trans (Q.old b hb hOf)
    | 6, _ =>
      clear hdeps hC hC' hcK hcL hend
      simp only [tmN] at hr ⊢
      (refine Walk.oq ?_; try walk_nrm)
      refine hr _ _ ⟨upd u 85 (.pointer (some ⟨lb, 0, none⟩)), A, B, sk, sl, ?_, F0.set (by decide) rfl rfl, Q.quiet (by decide) (by decide) (by decide) (by decide) (by decide) (by decide)⟩
      simp [tmN, upd]
    | 7, _ =>
      clear hdeps hC hC' hcK hcL hend
      simp only [tmN] at hr ⊢
      (refine Walk.oq ?_; try walk_nrm)
      refine hr _ _ ⟨upd u 86 (.slice (some ⟨tb, toff, none⟩) n0 tc), A, B, sk, sl, ?_, F0.set (by decide) rfl rfl, Q.quiet (by decide) (by decide) (by decide) (by decide) (by decide) (by decide)⟩
      simp [tmN, upd]
    | 8, _ =>
      clear hdeps hC hC' hcK hcL hend
      simp only [tmN] at hr ⊢
      (refine Walk.oq ?_; try walk_nrm)
      refine hr _ _ ⟨upd u 87 (.int .i64 i), A, B, sk, sl, ?_, F0.set (by decide) rfl rfl, Q.quiet (by decide) (by decide) (by decide) (by decide) (by decide) (by decide)⟩
      simp [tmN, upd]
    | 9, _ =>
      have hd := deps_of (l := [7, 8]) (by kernel_rfl) ho hdeps
      have e86 := F0 7 86 _ (hd 7 (by simp)) rfl rfl
      have e87 := F0 8 87 _ (hd 8 (by simp)) rfl rfl
      have hi0 : (0 : Int) ≤ i := by omega
      have hi3 : decide (i < n0) = true := by simp; omega
      have hi1 : decide ((i : Int) < n0) = true := by simp; omega
      have hi4 : (i : Int) < n0 := by omega
      clear hdeps hC hC' hcK hcL hend
      simp only [tmN] at hr ⊢
      simp only [e86, e87]
      (refine Walk.oq ?_; try walk_nrm)
      refine hr _ _ ⟨upd u 88 (.pointer (some ⟨tb, toff + i * 4, none⟩)), A, B, sk, sl, ?_, F0.set (by decide) rfl rfl, Q.quiet (by decide) (by decide) (by decide) (by decide) (by decide) (by decide)⟩
      simp [tmN, upd, e86, e87]
    | 10, _ =>
      have hd := deps_of (l := [9]) (by kernel_rfl) ho hdeps
      have e88 := F0 9 88 _ (hd 9 (by simp)) rfl rfl
      have hcs : ∀ (y : Nat) (v : Value), ([.int .i64 o.k, .int .i64 o.a, .int .i64 o.b, .int .i64 o.c] : List Value)[y]? = some v → w.cell? ⟨tb, toff + i * 4 + y, none⟩ = some v := fun y v hv => by
        match y, hv with
        | 0, hv => cases hv; exact hcell o0
        | 1, hv => cases hv; exact hcell o1
        | 2, hv => cases hv; exact hcell o2
        | 3, hv => cases hv; exact hcell o3
      clear hdeps hC hC' hcK hcL hend
      simp only [tmN] at hr ⊢
      simp only [e88]
      refine Walk.loadS 47 (.tmp 88) (ho_of (by conv => lhs; whnf) (by kernel_rfl)) (by rfl) (by decide) rfl tb (toff + i * 4) [.int .i64 o.k, .int .i64 o.a, .int .i64 o.b, .int .i64 o.c] (.struct fsO) rfl hcs huO rfl (by kernel_rfl) ?_
      walk_nrm
      refine hr _ _ ⟨upd u 89 (opVal o), A, B, sk, sl, ?_, F0.set (by decide) rfl rfl, Q.quiet (by decide) (by decide) (by decide) (by decide) (by decide) (by decide)⟩
      simp [tmN, upd, opVal, e88]
    | 11, _ =>
      have hd := deps_of (l := [6, 10, 5]) (by kernel_rfl) ho hdeps
      have e85 := F0 6 85 _ (hd 6 (by simp)) rfl rfl
      have e89 := F0 10 89 _ (hd 10 (by simp)) rfl rfl
      have ik := Q.il
      rw [hfj] at ik
      simp only [Bool.false_eq_true, if_false] at ik
      have hc := hcL w ik
      clear hdeps hC hend
      simp only [tmN] at hr ⊢
      simp only [e85, e89, opVal]
      refine Walk.callP (Post := fun v w' => ∃ sl, v = ansV a sl ∧ LsN w.heap.size sl a.l w' ∧ Solo lb 0 S' w w') ?_ (ho_of (by conv => lhs; whnf) (by kernel_rfl)) (by rfl) (by decide) rfl Try.func19 (by kernel_rfl) (by rfl) ⟨rfl, rfl, _, Try.func10⟩ ?_
      · walk_nrm
        exact hc
      rintro v w1 ⟨sl', rfl, hLs, hCn⟩
      have hCo := hCn.old
      have hCs := hCn.size
      clear hc
      walk_nrm
      refine hr _ _ ⟨upd u 90 (ansV a sl'), A, B, sk, sl', ?_, Facts.set (facts_vals F0 fun j v hf hv => ?_) (by decide) rfl rfl, ⟨?_, ?_, fun h => ?_, fun h => ?_, fun h => ?_, fun h => ?_, fun h h2 => ?_, fun b hb hOf => ?_, by omega⟩⟩
      · simp [tmN, upd, ansV, opVal, e85, e89]
      · exact match j, hf, hv with
          | 0, _, hv => hv
          | 1, _, hv => hv
          | 2, _, hv => hv
          | 3, _, hv => hv
          | 4, _, hv => hv
          | 5, _, hv => hv
          | 6, _, hv => hv
          | 7, _, hv => hv
          | 8, _, hv => hv
          | 9, _, hv => hv
          | 10, _, hv => hv
          | 11, hf, hv => by rw [hfj] at hf; cases hf
          | 12, _, hv => hv
          | 13, _, hv => hv
          | j + 14, _, hv => hv
      · rw [upd_ne _ _ (by decide)]
        exact Q.ik.old (hCo zb (by omega) (by omega))
      · rw [upd_same, if_pos rfl]; exact hCn.I
      · rw [upd_ne _ _ (by decide)] at h
        exact (Q.lk h).same fun b h1 h2 => hCo b h2 (by omega)
      · exact hLs.low hQs
      · rw [upd_ne _ _ (by decide)] at h
        rw [upd_ne _ _ (by decide)]
        obtain ⟨z1, z2⟩ := Q.a1 h
        have h14 : f 14 = false := by
          cases h : f 14 with
          | false => rfl
          | true =>
            have := hC'.deps (i := 14) (l := [5, 11]) h (by kernel_rfl) 11 (by simp)
            rw [hfj] at this
            cases this
        rw [h14] at z2 ⊢
        exact ⟨z1, (hCo A (Array.getElem?_eq_some_iff.1 z2).1 (by omega)).trans z2⟩
      · rw [upd_ne _ _ (by decide)] at h
        rw [upd_ne _ _ (by decide)]
        obtain ⟨z1, z2⟩ := Q.b1 h
        have h15 : f 15 = false := by
          cases h : f 15 with
          | false => rfl
          | true =>
            have := hC'.deps (i := 15) (l := [5, 11]) h (by kernel_rfl) 11 (by simp)
            rw [hfj] at this
            cases this
        rw [h15] at z2 ⊢
        exact ⟨z1, (hCo B (Array.getElem?_eq_some_iff.1 z2).1 (by omega)).trans z2⟩
      · rw [upd_ne _ _ (by decide)] at h h2
        exact Q.ne h h2
      · exact (hCo b (by omega) hOf.2).trans (Q.old b hb hOf)
    | 12, _ =>
      clear hdeps hC hcK hcL hend
      have hN := heap_alloc_new w (.cells #[.bool false, .int .i64 0, .slice none 0 0] 44)
      have hO : ∀ b, b < w.heap.size → (w.alloc (.cells #[.bool false, .int .i64 0, .slice none 0 0] 44)).heap[b]? = w.heap[b]? := fun b hb => heap_new_lt _ _ hb
      have hZ : (w.alloc (.cells #[.bool false, .int .i64 0, .slice none 0 0] 44)).heap.size = w.heap.size + 1 := by simp
      have h1x : f 14 = false := by
        cases h : f 14 with
        | false => rfl
        | true =>
          have := hC'.deps (i := 14) (l := [12]) h (by kernel_rfl) 12 (by simp)
          rw [hfj] at this
          cases this
      simp only [tmN] at hr ⊢
      (refine Walk.oa ?_; try walk_nrm)
      refine hr _ _ ⟨upd u 11 (.pointer (some ⟨w.heap.size, 0, none⟩)), w.heap.size, B, sk, sl, ?_, Facts.set (facts_vals F0 fun j v hf hv => ?_) (by decide) rfl rfl, ⟨?_, ?_, fun h => ?_, fun h => ?_, fun h => ?_, fun h => ?_, fun h h2 => ?_, fun b hb hOf => (hO b (by omega)).trans (Q.old b hb hOf), by omega⟩⟩
      · simp [tmN, upd]
      · exact match j, hf, hv with
          | 0, _, hv => hv
          | 1, _, hv => hv
          | 2, _, hv => hv
          | 3, _, hv => hv
          | 4, _, hv => hv
          | 5, _, hv => hv
          | 6, _, hv => hv
          | 7, _, hv => hv
          | 8, _, hv => hv
          | 9, _, hv => hv
          | 10, _, hv => hv
          | 11, _, hv => hv
          | 12, hf, hv => by rw [hfj] at hf; cases hf
          | 13, _, hv => hv
          | j + 14, _, hv => hv
      · rw [upd_ne _ _ (by decide)]; exact Q.ik.old (hO zb (by omega))
      · rw [upd_ne _ _ (by decide)]; exact Q.il.old (hO lb (by omega))
      · rw [upd_ne _ _ (by decide)] at h; exact (Q.lk h).same fun b _ h2 => hO b h2
      · rw [upd_ne _ _ (by decide)] at h; exact (Q.ll h).same fun b _ h2 => hO b h2
      · rw [upd_ne _ _ (by decide), h1x]
        exact ⟨hQs, hN⟩
      · rw [upd_ne _ _ (by decide)] at h
        rw [upd_ne _ _ (by decide)]
        obtain ⟨z1, z2⟩ := Q.b1 h
        exact ⟨z1, (hO _ (Array.getElem?_eq_some_iff.1 z2).1).trans z2⟩
      · rw [upd_ne _ _ (by decide)] at h2
        have := (Array.getElem?_eq_some_iff.1 (Q.b1 h2).2).1
        omega
    | 13, _ =>
      clear hdeps hC hcK hcL hend
      have hN := heap_alloc_new w (.cells #[.bool false, .int .i64 0, .slice none 0 0] 44)
      have hO : ∀ b, b < w.heap.size → (w.alloc (.cells #[.bool false, .int .i64 0, .slice none 0 0] 44)).heap[b]? = w.heap[b]? := fun b hb => heap_new_lt _ _ hb
      have hZ : (w.alloc (.cells #[.bool false, .int .i64 0, .slice none 0 0] 44)).heap.size = w.heap.size + 1 := by simp
      have h1x : f 15 = false := by
        cases h : f 15 with
        | false => rfl
        | true =>
          have := hC'.deps (i := 15) (l := [13]) h (by kernel_rfl) 13 (by simp)
          rw [hfj] at this
          cases this
      simp only [tmN] at hr ⊢
      (refine Walk.oa ?_; try walk_nrm)
      refine hr _ _ ⟨upd u 12 (.pointer (some ⟨w.heap.size, 0, none⟩)), A, w.heap.size, sk, sl, ?_, Facts.set (facts_vals F0 fun j v hf hv => ?_) (by decide) rfl rfl, ⟨?_, ?_, fun h => ?_, fun h => ?_, fun h => ?_, fun h => ?_, fun h h2 => ?_, fun b hb hOf => (hO b (by omega)).trans (Q.old b hb hOf), by omega⟩⟩
      · simp [tmN, upd]
      · exact match j, hf, hv with
          | 0, _, hv => hv
          | 1, _, hv => hv
          | 2, _, hv => hv
          | 3, _, hv => hv
          | 4, _, hv => hv
          | 5, _, hv => hv
          | 6, _, hv => hv
          | 7, _, hv => hv
          | 8, _, hv => hv
          | 9, _, hv => hv
          | 10, _, hv => hv
          | 11, _, hv => hv
          | 12, _, hv => hv
          | 13, hf, hv => by rw [hfj] at hf; cases hf
          | j + 14, _, hv => hv
      · rw [upd_ne _ _ (by decide)]; exact Q.ik.old (hO zb (by omega))
      · rw [upd_ne _ _ (by decide)]; exact Q.il.old (hO lb (by omega))
      · rw [upd_ne _ _ (by decide)] at h; exact (Q.lk h).same fun b _ h2 => hO b h2
      · rw [upd_ne _ _ (by decide)] at h; exact (Q.ll h).same fun b _ h2 => hO b h2
      · rw [upd_ne _ _ (by decide)] at h
        rw [upd_ne _ _ (by decide)]
        obtain ⟨z1, z2⟩ := Q.a1 h
        exact ⟨z1, (hO _ (Array.getElem?_eq_some_iff.1 z2).1).trans z2⟩
      · rw [upd_ne _ _ (by decide), h1x]
        exact ⟨hQs, hN⟩
      · rw [upd_ne _ _ (by decide)] at h
        have := (Array.getElem?_eq_some_iff.1 (Q.a1 h).2).1
        omega
    | 14, _ =>
      have hd := deps_of (l := [12, 5, 11]) (by kernel_rfl) ho hdeps
      have e11 := F0 12 11 _ (hd 12 (by simp)) rfl rfl
      have e84 := F0 5 84 _ (hd 5 (by simp)) rfl rfl
      have hz := Q.a1 (hd 12 (by simp))
      rw [hfj] at hz
      simp only [Bool.false_eq_true, if_false] at hz
      obtain ⟨z1, z2⟩ := hz
      have hO : ∀ b, b ≠ A → (w.setRow A #[.bool a.ok, .int .i64 a.n, sk]).heap[b]? = w.heap[b]? := fun b hb => setRow_other _ _ hb
      have hN := setRow_self (cells := #[.bool a.ok, .int .i64 a.n, sk]) z2
      have hZ : (w.setRow A #[.bool a.ok, .int .i64 a.n, sk]).heap.size = w.heap.size := setRow_size _ _ _
      have hone : (sk).oneCell' = true := by
        rcases Q.lk (hd 5 (by simp)) with ⟨h, _⟩ | ⟨_, h, _⟩ <;> rw [h] <;> rfl
      clear hdeps hC hC' hcK hcL hend
      simp only [tmN] at hr ⊢
      simp only [e11, e84, ansV]
      refine Walk.storeS 44 (.tmp 11) (.tmp 84) (ho_of (by conv => lhs; whnf) (by kernel_rfl)) (by rfl) (by decide) rfl A #[.bool a.ok, .int .i64 a.n, sk] _ 44 rfl rfl z2 (by kernel_rfl) (by rfl) (by simp [one1, one2, hone]) (ap0 _) ?_
      walk_nrm
      refine hr _ _ ⟨u, A, B, sk, sl, ?_, facts_more F0 rfl, ⟨?_, ?_, fun h => ?_, fun h => ?_, fun h => ?_, fun h => ?_, fun h h2 => ?_, fun b hb hOf => (hO b (by omega)).trans (Q.old b hb hOf), by omega⟩⟩
      · simp [tmN, e11, e84, ansV]
      · rw [upd_ne _ _ (by decide)]; exact Q.ik.old (hO zb (by omega))
      · rw [upd_ne _ _ (by decide)]; exact Q.il.old (hO lb (by omega))
      · rw [upd_ne _ _ (by decide)] at h; exact (Q.lk h).past z2 hO
      · rw [upd_ne _ _ (by decide)] at h; exact (Q.ll h).past z2 hO
      · rw [upd_same, if_pos rfl]
        exact ⟨z1, hN⟩
      · rw [upd_ne _ _ (by decide)] at h
        rw [upd_ne _ _ (by decide)]
        obtain ⟨y1, y2⟩ := Q.b1 h
        exact ⟨y1, (hO _ (Ne.symm (Q.ne (hd 12 (by simp)) h))).trans y2⟩
      · rw [upd_ne _ _ (by decide)] at h h2
        exact Q.ne h h2
    | 15, _ =>
      have hd := deps_of (l := [13, 11, 14]) (by kernel_rfl) ho hdeps
      have e12 := F0 13 12 _ (hd 13 (by simp)) rfl rfl
      have e90 := F0 11 90 _ (hd 11 (by simp)) rfl rfl
      have hz := Q.b1 (hd 13 (by simp))
      rw [hfj] at hz
      simp only [Bool.false_eq_true, if_false] at hz
      obtain ⟨z1, z2⟩ := hz
      have hO : ∀ b, b ≠ B → (w.setRow B #[.bool a.ok, .int .i64 a.n, sl]).heap[b]? = w.heap[b]? := fun b hb => setRow_other _ _ hb
      have hN := setRow_self (cells := #[.bool a.ok, .int .i64 a.n, sl]) z2
      have hZ : (w.setRow B #[.bool a.ok, .int .i64 a.n, sl]).heap.size = w.heap.size := setRow_size _ _ _
      have hone : (sl).oneCell' = true := by
        rcases Q.ll (hd 11 (by simp)) with ⟨h, _⟩ | ⟨_, h, _⟩ <;> rw [h] <;> rfl
      have h14 : f 12 = true := hC'.deps (i := 14) (l := [12]) (hd 14 (by simp)) (by kernel_rfl) 12 (by simp)
      clear hdeps hC hC' hcK hcL hend
      simp only [tmN] at hr ⊢
      simp only [e12, e90, ansV]
      refine Walk.storeS 44 (.tmp 12) (.tmp 90) (ho_of (by conv => lhs; whnf) (by kernel_rfl)) (by rfl) (by decide) rfl B #[.bool a.ok, .int .i64 a.n, sl] _ 44 rfl rfl z2 (by kernel_rfl) (by rfl) (by simp [one1, one2, hone]) (ap0 _) ?_
      walk_nrm
      refine hr _ _ ⟨u, A, B, sk, sl, ?_, facts_more F0 rfl, ⟨?_, ?_, fun h => ?_, fun h => ?_, fun h => ?_, fun h => ?_, fun h h2 => ?_, fun b hb hOf => (hO b (by omega)).trans (Q.old b hb hOf), by omega⟩⟩
      · simp [tmN, e12, e90, ansV]
      · rw [upd_ne _ _ (by decide)]; exact Q.ik.old (hO zb (by omega))
      · rw [upd_ne _ _ (by decide)]; exact Q.il.old (hO lb (by omega))
      · rw [upd_ne _ _ (by decide)] at h; exact (Q.lk h).past z2 hO
      · rw [upd_ne _ _ (by decide)] at h; exact (Q.ll h).past z2 hO
      · rw [upd_ne _ _ (by decide)] at h
        rw [upd_ne _ _ (by decide)]
        obtain ⟨y1, y2⟩ := Q.a1 h
        exact ⟨y1, (hO _ (Q.ne h (hd 13 (by simp)))).trans y2⟩
      · rw [upd_same, if_pos rfl]
        exact ⟨z1, hN⟩
      · rw [upd_ne _ _ (by decide)] at h h2
        exact Q.ne h h2
  · rintro f act w ⟨u, A, B, sk, sl, rfl, F0, Q⟩ hall
    refine hend u A B sk sl w (F0 12 11 _ (hall 12 (by rw [size10_12]; decide)) rfl rfl) (F0 13 12 _ (hall 13 (by rw [size10_12]; decide)) rfl rfl) ?_
    have g : ∀ j, j < 16 → f j = true := fun j hj => hall j (by rw [size10_12]; exact hj)
    obtain ⟨q1, q2, q2k, q2l, q4, q5, q6, q7, q8⟩ := Q
    rw [g 5 (by decide)] at q1
    rw [g 11 (by decide)] at q2
    rw [g 14 (by decide)] at q4
    rw [g 15 (by decide)] at q5
    exact ⟨q1, q2, fun _ => q2k (g 5 (by decide)), fun _ => q2l (g 11 (by decide)), fun _ => q4 (g 12 (by decide)), fun _ => q5 (g 13 (by decide)), fun _ _ => q6 (g 12 (by decide)) (g 13 (by decide)), q7, q8⟩
end
end
section
def Kp (w w' : World) : Prop := w.heap.size ≤ w'.heap.size ∧ ∀ b, b < w.heap.size → w'.heap[b]? = w.heap[b]?
theorem Kp.trans {w w1 w2 : World} (h : Kp w w1) (k : Kp w1 w2) : Kp w w2 := ⟨Nat.le_trans h.1 k.1, fun b hb => (k.2 b (Nat.lt_of_lt_of_le hb h.1)).trans (h.2 b hb)⟩
theorem act_slots {A : Array Value} {T : (Nat → Value) → Array Value} (h : A = T (fun k => A.getD k undef)) : ∃ u, (⟨A, []⟩ : Act) = ⟨T u, []⟩ := ⟨_, congrArg (fun x => (⟨x, []⟩ : Act)) h⟩
noncomputable def hdNon (ov : Value) (zb lb i : Nat) (u : Nat → Value) : Frame :=
  (base 10).at { tmps := #[ov, u 1, .bool false, .pointer none, .pointer (some ⟨zb, 0, none⟩), .pointer (some ⟨lb, 0, none⟩), .int .i64 i, u 7, u 8, u 9, u 10, u 11, u 12, u 13, u 14, u 15, u 16, u 17, u 18, u 19, u 20, u 21, u 22, u 23, u 24, u 25, u 26, u 27, u 28, u 29, u 30, u 31, u 32, u 33, u 34, u 35, u 36, u 37, u 38, u 39, u 40, u 41, u 42, u 43, u 44, u 45, u 46, u 47, u 48, u 49, u 50, u 51, u 52, u 53, u 54, u 55, u 56, u 57, u 58, u 59, u 60, u 61, u 62, u 63, u 64, u 65, u 66, u 67, u 68, u 69, u 70, u 71, u 72, u 73, u 74, u 75, u 76, u 77, u 78, u 79, u 80, u 81, u 82, u 83, u 84, u 85, u 86, u 87, u 88, u 89, u 90, u 91, u 92, u 93, u 94, u 95, u 96, u 97, u 98, u 99, u 100, u 101, u 102, u 103, u 104, u 105, u 106, u 107, u 108, u 109, u 110, u 111, u 112, u 113, u 114, u 115, u 116], defers := [] } [.code (.seq (.seq (.region 6 reg10_6 false) (.cond (.tmp 21 ) (.skip) (.exit 0))) (.seq (.block 1 (.seq (.region 8 reg10_8 false) (.seq (.region 9 reg10_9 false) (.seq (.seq (.region 10 reg10_10 false) (.cond (.tmp 78 ) (.seq (.region 11 reg10_11 false) (.ret)) (.skip))) (.seq (.region 12 reg10_12 true) (.seq (.region 13 reg10_13 false) (.cond (.tmp 116 ) (.seq (.region 14 reg10_14 false) (.ret)) (.skip)))))))) (.region 7 reg10_7 false))), .inLoop (.seq (.seq (.region 6 reg10_6 false) (.cond (.tmp 21 ) (.skip) (.exit 0))) (.seq (.block 1 (.seq (.region 8 reg10_8 false) (.seq (.region 9 reg10_9 false) (.seq (.seq (.region 10 reg10_10 false) (.cond (.tmp 78 ) (.seq (.region 11 reg10_11 false) (.ret)) (.skip))) (.seq (.region 12 reg10_12 true) (.seq (.region 13 reg10_13 false) (.cond (.tmp 116 ) (.seq (.region 14 reg10_14 false) (.ret)) (.skip)))))))) (.region 7 reg10_7 false))), .inBlock 0, .code (.seq (.region 15 reg10_15 false) (.ret))]
structure NonI (zb lb : Nat) (S : Sq) (W w : World) : Prop where
  ik : SqI zb 0 S w
  il : SqI lb 0 S w
  old : ∀ b, b < W.heap.size → OffN zb lb b → w.heap[b]? = W.heap[b]?
  size : W.heap.size ≤ w.heap.size
theorem oneA_at {w : World} {X : Nat} {a : Ans} {sl : Value} (h : w.heap[X]? = some (ansO a sl)) (hl : LsR sl a.l w) (hn : a.l.length ≤ 1048576) : AnsA (some ⟨X, 0, none⟩) [a] w := fun i x hx => by
  obtain ⟨la, lc, rfl, _, _, hc⟩ := hl
  unfold ansO at h
  match i, hx with
  | 0, hx => cases hx; exact ⟨X, 0, la, lc, rfl, (cell_of h _).trans rfl, (cell_of h _).trans rfl, (cell_of h _).trans rfl, hc, hn⟩
section
variable {zb lb : Nat} {main : Bool}
theorem NonI.at {S : Sq} {W w : World} (h : NonI zb lb S W w) (d : Nat) : NonI zb lb S W (w.at d) := ⟨h.ik.old rfl, h.il.old rfl, h.old, h.size⟩
theorem NonI.kp {S : Sq} {W w w' : World} (h : NonI zb lb S W w) (k : Kp w w') : NonI zb lb S W w' := by
  have hs := h.size
  exact ⟨h.ik.old (k.2 zb h.ik.lt), h.il.old (k.2 lb h.il.lt), fun b hb hO => (k.2 b (by omega)).trans (h.old b hb hO), Nat.le_trans h.size k.1⟩
theorem NonI.calmK {S : Sq} {W w w' : World} (T : zb ≠ lb) (h : NonI zb lb S W w) (k : Calm zb 0 S w w') : NonI zb lb S W w' := by
  have hs := h.size
  exact ⟨k.I, h.il.old (k.old lb h.il.lt (Ne.symm T)), fun b hb hO => (k.old b (by omega) hO.1).trans (h.old b hb hO), Nat.le_trans h.size k.size⟩
theorem NonI.calmL {S : Sq} {W w w' : World} (T : zb ≠ lb) (h : NonI zb lb S W w) (k : Calm lb 0 S w w') : NonI zb lb S W w' := by
  have hs := h.size
  exact ⟨h.ik.old (k.old zb h.ik.lt T), k.I, fun b hb hO => (k.old b (by omega) hO.2).trans (h.old b hb hO), Nat.le_trans h.size k.size⟩
theorem none_do_at {tb toff n0 tc i : Nat} {W : World} {R : Nat → Nat → Value → Value → World → Prop} {Stop : Goroutine → World → Prop} {k : List Item} {cs : List Frame} {act : Act}
    (h : ∀ (k : List Item) (cs : List Frame) (u0 : Nat → Value) {Stop : Goroutine → World → Prop}, (∀ (u : Nat → Value) (A B : Nat) (sk sl : Value) (w : World), u 11 = .pointer (some ⟨A, 0, none⟩) → u 12 = .pointer (some ⟨B, 0, none⟩) → R A B sk sl w → Walk Try.prog main (DR (fun _ => none)) Stop (G ((base 10).at ⟨tmN tb toff n0 tc zb lb i u, []⟩ (.inRegion reg10_12 [] :: k)) cs) w) → Walk Try.prog main (DR (fun _ => none)) Stop (G ((base 10).at ⟨tmN tb toff n0 tc zb lb i u0, []⟩ (.code (.region 12 reg10_12 true) :: k)) cs) W)
    (he : ∃ u, act = ⟨tmN tb toff n0 tc zb lb i u, []⟩)
    (hend : ∀ (u : Nat → Value) (A B : Nat) (sk sl : Value) (w : World), u 11 = .pointer (some ⟨A, 0, none⟩) → u 12 = .pointer (some ⟨B, 0, none⟩) → R A B sk sl w → Walk Try.prog main (DR (fun _ => none)) Stop (G ((base 10).at ⟨tmN tb toff n0 tc zb lb i u, []⟩ (.inRegion reg10_12 [] :: k)) cs) w) :
    Walk Try.prog main (DR (fun _ => none)) Stop (G ((base 10).at act (.code (.region 12 reg10_12 true) :: k)) cs) W := by
  obtain ⟨u, rfl⟩ := he
  exact h k cs u hend
theorem none_round (tb toff n0 tc i : Nat) (S : Sq) (hs : ¬ sqOdd S.v) (o : OpV) (hi : i < n0) (hn0 : n0 ≤ 17592186044416) (W0 W : World) (I : NonI zb lb S W0 W) (T : zb ≠ lb) (ht : OffN zb lb tb)
    (o0 : W.cell? ⟨tb, toff + i * 4, none⟩ = some (.int .i64 o.k)) (o1 : W.cell? ⟨tb, toff + i * 4 + 1, none⟩ = some (.int .i64 o.a)) (o2 : W.cell? ⟨tb, toff + i * 4 + 2, none⟩ = some (.int .i64 o.b)) (o3 : W.cell? ⟨tb, toff + i * 4 + 3, none⟩ = some (.int .i64 o.c)) (cs : List Frame) (u : Nat → Value) :
    Walk Try.prog main (DR (fun _ => none)) (fun g w => (∃ u, g = G (hdNon (.slice (some ⟨tb, toff, none⟩) n0 tc) zb lb (i + 1) u) cs) ∧ NonI zb lb (sqOne 0 S o).1 W0 w) (G (hdNon (.slice (some ⟨tb, toff, none⟩) n0 tc) zb lb i u) cs) W := by
  have hi0 : (0 : Int) ≤ i := by omega
  have hi1 : decide ((i : Int) < n0) = true := by simp; omega
  have hi3 : decide (i < n0) = true := by simp; omega
  have hi4 : (i : Int) < n0 := by omega
  have hw1 : IntKind.wrap .i64 ((i : Int) + 1) = (i : Int) + 1 := by rw [IntKind.wrap_i64]; omega
  have hcc : ((i + 1 : Nat) : Int) = (i : Int) + 1 := by simp
  obtain ⟨fsA, huA⟩ := structT 44 (by kernel_rfl)
  have hln : (sqOne 0 S o).2.l.length ≤ 1048576 := by have := one_len (k := 0) S o; omega
  have tlt := cell_lt' o0
  conv => arg 5; unfold hdNon
  repeat (first | refine Walk.c rfl ?_ | refine Walk.cRet ?_ | refine Walk.cEnd ?_ | (refine Walk.cReg ?_; simp only [size10_0, size10_1, size10_2, size10_3, size10_4, size10_5, size10_6, size10_8, size10_9, size10_10, size10_11, size10_12, size10_13, size10_14, size10_7, size10_15, List.range, List.range.loop]) | (refine Walk.oq ?_; try walk_nrm) | (refine Walk.un ?_; walk_nrm))
  refine Walk.callV (x := .tuple #[.slice none 0 0, .bool false]) (W := W) ?_ (ho_of (by conv => lhs; whnf) (by kernel_rfl)) (by rfl) (by decide) rfl Try.func25 (by kernel_rfl) (by rfl) ?_
  · walk_nrm
    exact read_n .nilIface 3 W
  walk_nrm
  repeat (first | refine Walk.c rfl ?_ | refine Walk.cRet ?_ | refine Walk.cEnd ?_ | (refine Walk.cReg ?_; simp only [size10_0, size10_1, size10_2, size10_3, size10_4, size10_5, size10_6, size10_8, size10_9, size10_10, size10_11, size10_12, size10_13, size10_14, size10_7, size10_15, List.range, List.range.loop]) | (refine Walk.oq ?_; try walk_nrm) | (refine Walk.un ?_; walk_nrm))
  refine Walk.callV (x := .tuple #[.int .i64 0, .bool false]) (W := W) ?_ (ho_of (by conv => lhs; whnf) (by kernel_rfl)) (by rfl) (by decide) rfl Try.func30 (by kernel_rfl) (by rfl) ?_
  · walk_nrm
    exact newer_n .nilIface (-5) W
  walk_nrm
  repeat (first | refine Walk.c rfl ?_ | refine Walk.cRet ?_ | refine Walk.cEnd ?_ | (refine Walk.cReg ?_; simp only [size10_0, size10_1, size10_2, size10_3, size10_4, size10_5, size10_6, size10_8, size10_9, size10_10, size10_11, size10_12, size10_13, size10_14, size10_7, size10_15, List.range, List.range.loop]) | (refine Walk.oq ?_; try walk_nrm) | (refine Walk.un ?_; walk_nrm))
  (refine Walk.oa ?_; try walk_nrm)
  have s1 : (W.alloc (.cells #[.int .i64 1] 2)).heap.size = W.heap.size + 1 := by simp
  have o1 : ∀ b, b < W.heap.size → (W.alloc (.cells #[.int .i64 1] 2)).heap[b]? = W.heap[b]? := fun b hb => heap_new_lt _ _ hb
  have k1 : Kp W (W.alloc (.cells #[.int .i64 1] 2)) := ⟨by omega, o1⟩
  clear s1 o1
  generalize W.alloc (.cells #[.int .i64 1] 2) = w1 at *
  generalize W.heap.size = Z1
  repeat (first | refine Walk.c rfl ?_ | refine Walk.cRet ?_ | refine Walk.cEnd ?_ | (refine Walk.cReg ?_; simp only [size10_0, size10_1, size10_2, size10_3, size10_4, size10_5, size10_6, size10_8, size10_9, size10_10, size10_11, size10_12, size10_13, size10_14, size10_7, size10_15, List.range, List.range.loop]) | (refine Walk.oq ?_; try walk_nrm) | (refine Walk.un ?_; walk_nrm))
  refine Walk.callW (Post := Nl w1 (.bool false)) ?_ (ho_of (by conv => lhs; whnf) (by kernel_rfl)) (by rfl) (by decide) rfl Try.func23 (by kernel_rfl) (by rfl) ?_
  · walk_nrm
    exact write_n 2 _ w1
  rintro v2 w2 ⟨rfl, k2⟩
  walk_nrm
  repeat (first | refine Walk.c rfl ?_ | refine Walk.cRet ?_ | refine Walk.cEnd ?_ | (refine Walk.cReg ?_; simp only [size10_0, size10_1, size10_2, size10_3, size10_4, size10_5, size10_6, size10_8, size10_9, size10_10, size10_11, size10_12, size10_13, size10_14, size10_7, size10_15, List.range, List.range.loop]) | (refine Walk.oq ?_; try walk_nrm) | (refine Walk.un ?_; walk_nrm))
  (refine Walk.oa ?_; try walk_nrm)
  have s3 : (w2.alloc (.cells #[.int .i64 1] 2)).heap.size = w2.heap.size + 1 := by simp
  have o3 : ∀ b, b < w2.heap.size → (w2.alloc (.cells #[.int .i64 1] 2)).heap[b]? = w2.heap[b]? := fun b hb => heap_new_lt _ _ hb
  have k3 : Kp w2 (w2.alloc (.cells #[.int .i64 1] 2)) := ⟨by omega, o3⟩
  clear s3 o3
  generalize w2.alloc (.cells #[.int .i64 1] 2) = w3 at *
  generalize w2.heap.size = Z3
  repeat (first | refine Walk.c rfl ?_ | refine Walk.cRet ?_ | refine Walk.cEnd ?_ | (refine Walk.cReg ?_; simp only [size10_0, size10_1, size10_2, size10_3, size10_4, size10_5, size10_6, size10_8, size10_9, size10_10, size10_11, size10_12, size10_13, size10_14, size10_7, size10_15, List.range, List.range.loop]) | (refine Walk.oq ?_; try walk_nrm) | (refine Walk.un ?_; walk_nrm))
  refine Walk.callW (Post := Nl w3 (.bool false)) ?_ (ho_of (by conv => lhs; whnf) (by kernel_rfl)) (by rfl) (by decide) rfl Try.func24 (by kernel_rfl) (by rfl) ?_
  · walk_nrm
    exact add_n 2 _ w3
  rintro v4 w4 ⟨rfl, k4⟩
  walk_nrm
  repeat (first | refine Walk.c rfl ?_ | refine Walk.cRet ?_ | refine Walk.cEnd ?_ | (refine Walk.cReg ?_; simp only [size10_0, size10_1, size10_2, size10_3, size10_4, size10_5, size10_6, size10_8, size10_9, size10_10, size10_11, size10_12, size10_13, size10_14, size10_7, size10_15, List.range, List.range.loop]) | (refine Walk.oq ?_; try walk_nrm) | (refine Walk.un ?_; walk_nrm))
  refine Walk.callW (Post := NlR w4) ?_ (ho_of (by conv => lhs; whnf) (by kernel_rfl)) (by rfl) (by decide) rfl Try.func31 (by kernel_rfl) (by rfl) ?_
  · walk_nrm
    exact raw_n w4
  rintro v5 w5 ⟨⟨B5, rfl⟩, k5⟩
  walk_nrm
  repeat (first | refine Walk.c rfl ?_ | refine Walk.cRet ?_ | refine Walk.cEnd ?_ | (refine Walk.cReg ?_; simp only [size10_0, size10_1, size10_2, size10_3, size10_4, size10_5, size10_6, size10_8, size10_9, size10_10, size10_11, size10_12, size10_13, size10_14, size10_7, size10_15, List.range, List.range.loop]) | (refine Walk.oq ?_; try walk_nrm) | (refine Walk.un ?_; walk_nrm))
  refine Walk.callV (x := .int .i64 0) (W := w5) ?_ (ho_of (by conv => lhs; whnf) (by kernel_rfl)) (by rfl) (by decide) rfl Try.func17 (by kernel_rfl) (by rfl) ?_
  · walk_nrm
    exact len_n w5
  walk_nrm
  repeat (first | refine Walk.c rfl ?_ | refine Walk.cRet ?_ | refine Walk.cEnd ?_ | (refine Walk.cReg ?_; simp only [size10_0, size10_1, size10_2, size10_3, size10_4, size10_5, size10_6, size10_8, size10_9, size10_10, size10_11, size10_12, size10_13, size10_14, size10_7, size10_15, List.range, List.range.loop]) | (refine Walk.oq ?_; try walk_nrm) | (refine Walk.un ?_; walk_nrm))
  refine Walk.callW (Post := NlR w5) ?_ (ho_of (by conv => lhs; whnf) (by kernel_rfl)) (by rfl) (by decide) rfl Try.func22 (by kernel_rfl) (by rfl) ?_
  · walk_nrm
    exact values_n w5
  rintro v6 w6 ⟨⟨B6, rfl⟩, k6⟩
  walk_nrm
  repeat (first | refine Walk.c rfl ?_ | refine Walk.cRet ?_ | refine Walk.cEnd ?_ | (refine Walk.cReg ?_; simp only [size10_0, size10_1, size10_2, size10_3, size10_4, size10_5, size10_6, size10_8, size10_9, size10_10, size10_11, size10_12, size10_13, size10_14, size10_7, size10_15, List.range, List.range.loop]) | (refine Walk.oq ?_; try walk_nrm) | (refine Walk.un ?_; walk_nrm))
  refine Walk.callV (x := .int .i64 0) (W := w6) ?_ (ho_of (by conv => lhs; whnf) (by kernel_rfl)) (by rfl) (by decide) rfl Try.func18 (by kernel_rfl) (by rfl) ?_
  · walk_nrm
    exact version_n w6
  walk_nrm
  have kp : Kp W w6 := (((((Kp.trans k1 (⟨k2.1, k2.2⟩ : Kp w1 w2)).trans k3).trans (⟨k4.1, k4.2⟩ : Kp w3 w4)).trans (⟨k5.1, k5.2⟩ : Kp w4 w5))).trans (⟨k6.1, k6.2⟩ : Kp w5 w6)
  have hup : ∀ {y : Nat} {v : Value}, W.cell? ⟨tb, y, none⟩ = some v → w6.cell? ⟨tb, y, none⟩ = some v := fun {y v} h => (World.cell?_of_block (a := ⟨tb, y, none⟩) (kp.2 tb tlt)).trans h
  have I6 := I.kp kp
  have hdo := none_do (main := main) tb toff n0 tc i o hi hn0 w6 hs I6.ik I6.il T ht (hup o0) (hup o1) (hup o2) (hup o3)
  have hW := I6.old
  have hS := I6.size
  have l1 := I6.ik.lt
  have l3 := I6.il.lt
  clear I I6 k1 k2 k3 k4 k5 k6 kp hup o0 o1 o2 o3
  generalize hX : sqOne 0 S o = X at *
  obtain ⟨S', a⟩ := X
  dsimp only at hdo hln ⊢
  clear hX
  repeat (first | refine Walk.c rfl ?_ | refine Walk.cRet ?_ | refine Walk.cEnd ?_ | (refine Walk.cReg ?_; simp only [size10_0, size10_1, size10_2, size10_3, size10_4, size10_5, size10_6, size10_8, size10_9, size10_10, size10_11, size10_12, size10_13, size10_14, size10_7, size10_15, List.range, List.range.loop]) | (refine Walk.oq ?_; try walk_nrm) | (refine Walk.un ?_; walk_nrm))
  refine none_do_at (R := fun A B sk sl w => AloN zb lb S S' a w6 (fun _ => true) A B sk sl w) hdo ?eq fun u A B sk sl w h9 h10 AQ => ?main
  case eq => exact act_slots (by simp only [tmN]; rfl)
  case main =>
    clear hdo
    have qa := (AQ.a1 rfl)
    have qb := (AQ.b1 rfl)
    have qk := (AQ.lk rfl)
    have ql := (AQ.ll rfl)
    have r1 := AQ.ik
    have r2 := AQ.il
    have r4 := AQ.old
    have r5 := AQ.size
    simp only [if_true] at r1 r2 qa qb
    have lA := (Array.getElem?_eq_some_iff.1 qa.2).1
    have lB := (Array.getElem?_eq_some_iff.1 qb.2).1
    have N0 : NonI zb lb S' w6 w := ⟨r1, r2, r4, r5⟩
    clear AQ r1 r2 r4 r5
    obtain ⟨la, lc, rfl, _⟩ := id qk.lsR
    obtain ⟨ma, mc, rfl, _⟩ := id ql.lsR
    simp only [tmN, h9, h10]
    repeat (first | refine Walk.c rfl ?_ | refine Walk.cRet ?_ | refine Walk.cEnd ?_ | (refine Walk.cReg ?_; simp only [size10_0, size10_1, size10_2, size10_3, size10_4, size10_5, size10_6, size10_8, size10_9, size10_10, size10_11, size10_12, size10_13, size10_14, size10_7, size10_15, List.range, List.range.loop]) | (refine Walk.oq ?_; try walk_nrm) | (refine Walk.un ?_; walk_nrm))
    refine Walk.loadS 44 (.tmp 11) (ho_of (by conv => lhs; whnf) (by kernel_rfl)) (by rfl) (by decide) rfl A 0 [.bool a.ok, .int .i64 a.n, .slice la a.l.length lc] (.struct fsA) rfl (fun j v hj => ?_) huA rfl (by kernel_rfl) ?_
    · have qa2 := qa.2
      unfold ansO at qa2
      rw [Nat.zero_add, cell_of qa2]
      simpa using hj
    walk_nrm
    have d1 := heap_alloc_new w (ansO a (.slice la a.l.length lc))
    have o1 : ∀ b, b < w.heap.size → (w.alloc (ansO a (.slice la a.l.length lc))).heap[b]? = w.heap[b]? := fun b hb => heap_new_lt _ _ hb
    have s1 : (w.alloc (ansO a (.slice la a.l.length lc))).heap.size = w.heap.size + 1 := by simp
    (refine Walk.oa ?_; try walk_nrm)
    change Walk Try.prog main (DR (fun _ => none)) _ _ (w.alloc (ansO a (.slice la a.l.length lc)))
    have qb1 := (o1 B lB).trans qb.2
    have qk1 := qk.same fun b _ hb => o1 b hb
    have ql1 := ql.same fun b _ hb => o1 b hb
    have N1 := N0.kp (⟨by omega, o1⟩ : Kp w (w.alloc (ansO a (.slice la a.l.length lc))))
    clear qk ql N0 o1 qa qb lA lB
    generalize hZ : w.heap.size = Z at *
    generalize w.alloc (ansO a (.slice la a.l.length lc)) = x1 at *
    repeat (first | (refine Walk.oq ?_; try walk_nrm) | (refine Walk.un ?_; walk_nrm))
    refine Walk.loadS 44 (.tmp 12) (ho_of (by conv => lhs; whnf) (by kernel_rfl)) (by rfl) (by decide) rfl B 0 [.bool a.ok, .int .i64 a.n, .slice ma a.l.length mc] (.struct fsA) rfl (fun j v hj => ?_) huA rfl (by kernel_rfl) ?_
    · have qa2 := qb1
      unfold ansO at qa2
      rw [Nat.zero_add, cell_of qa2]
      simpa using hj
    walk_nrm
    have d2 : (x1.alloc (ansO a (.slice ma a.l.length mc))).heap[Z + 1]? = some (ansO a (.slice ma a.l.length mc)) := s1 ▸ heap_alloc_new x1 (ansO a (.slice ma a.l.length mc))
    have o2 : ∀ b, b < Z + 1 → (x1.alloc (ansO a (.slice ma a.l.length mc))).heap[b]? = x1.heap[b]? := fun b hb => heap_new_lt _ _ (by omega)
    have s2 : (x1.alloc (ansO a (.slice ma a.l.length mc))).heap.size = Z + 2 := by simp [s1]
    (refine Walk.oa ?_; try walk_nrm)
    change Walk Try.prog main (DR (fun _ => none)) _ _ (x1.alloc (ansO a (.slice ma a.l.length mc)))
    try simp only [s1]
    have qk2 := qk1.same fun b _ hb => o2 b (by omega)
    have ql2 := ql1.same fun b _ hb => o2 b (by omega)
    have J2 := N1.kp (⟨by omega, fun b hb => o2 b (by omega)⟩ : Kp x1 (x1.alloc (ansO a (.slice ma a.l.length mc))))
    generalize x1.alloc (ansO a (.slice ma a.l.length mc)) = x2 at *
    have d1' := (o2 Z (by omega)).trans d1
    have hsa := sa_w (main := main) (V := fun _ => none) (some ⟨Z, 0, none⟩) (some ⟨Z + 1, 0, none⟩) [a] 1 1 (by show 1 ≤ 17592186044416; decide) x2 (oneA_at d1' qk2.lsR hln) (oneA_at d2 ql2.lsR hln)
    clear d1 s1 qb1 d2 o2 d1' qk1 ql1 qk2 ql2 N1
    repeat (first | (refine Walk.oq ?_; try walk_nrm) | (refine Walk.un ?_; walk_nrm))
    refine Walk.callV (x := .bool true) (W := x2) ?_ (ho_of (by conv => lhs; whnf) (by kernel_rfl)) (by rfl) (by decide) rfl Try.func20 (by kernel_rfl) (by rfl) ?_
    · walk_nrm
      exact hsa
    walk_nrm
    have hst : CallV Try.prog main (fun _ => none) 17 #[.pointer (some ⟨zb, 0, none⟩)] x2 (.int .i64 1) x2 := len_w x2 J2.ik
    clear hsa
    repeat (first | refine Walk.c rfl ?_ | refine Walk.cRet ?_ | refine Walk.cEnd ?_ | (refine Walk.cReg ?_; simp only [size10_0, size10_1, size10_2, size10_3, size10_4, size10_5, size10_6, size10_8, size10_9, size10_10, size10_11, size10_12, size10_13, size10_14, size10_7, size10_15, List.range, List.range.loop]) | (refine Walk.oq ?_; try walk_nrm) | (refine Walk.un ?_; walk_nrm))
    refine Walk.callV (x := .int .i64 1) (W := x2) ?_ (ho_of (by conv => lhs; whnf) (by kernel_rfl)) (by rfl) (by decide) rfl Try.func17 (by kernel_rfl) (by rfl) ?_
    · walk_nrm
      exact hst
    walk_nrm
    have hv := version_w (main := main) (V := fun _ => none) ap0 x2 J2.ik
    clear hst
    repeat (first | refine Walk.c rfl ?_ | refine Walk.cRet ?_ | refine Walk.cEnd ?_ | (refine Walk.cReg ?_; simp only [size10_0, size10_1, size10_2, size10_3, size10_4, size10_5, size10_6, size10_8, size10_9, size10_10, size10_11, size10_12, size10_13, size10_14, size10_7, size10_15, List.range, List.range.loop]) | (refine Walk.oq ?_; try walk_nrm) | (refine Walk.un ?_; walk_nrm))
    refine Walk.callW (Post := fun v w' => v = .int .i64 S'.v ∧ Calm zb 0 S' x2 w') ?_ (ho_of (by conv => lhs; whnf) (by kernel_rfl)) (by rfl) (by decide) rfl Try.func18 (by kernel_rfl) (by rfl) ?_
    · walk_nrm
      exact hv
    rintro v7 x3 ⟨rfl, c3⟩
    walk_nrm
    have J3 := J2.calmK T c3
    have hv2 := version_w (main := main) (V := fun _ => none) ap0 x3 J3.il
    clear hv J2 c3
    repeat (first | refine Walk.c rfl ?_ | refine Walk.cRet ?_ | refine Walk.cEnd ?_ | (refine Walk.cReg ?_; simp only [size10_0, size10_1, size10_2, size10_3, size10_4, size10_5, size10_6, size10_8, size10_9, size10_10, size10_11, size10_12, size10_13, size10_14, size10_7, size10_15, List.range, List.range.loop]) | (refine Walk.oq ?_; try walk_nrm) | (refine Walk.un ?_; walk_nrm))
    refine Walk.callW (Post := fun v w' => v = .int .i64 S'.v ∧ Calm lb 0 S' x3 w') ?_ (ho_of (by conv => lhs; whnf) (by kernel_rfl)) (by rfl) (by decide) rfl Try.func18 (by kernel_rfl) (by rfl) ?_
    · walk_nrm
      exact hv2
    rintro v8 x4 ⟨rfl, c4⟩
    walk_nrm
    have J4 := J3.calmL T c4
    have hl := lvalues_w (main := main) (V := fun _ => none) ap0 x4 J4.ik
    have hvv : (S'.v != S'.v) = false := by simp
    clear hv2 J3 c4
    repeat (first | refine Walk.c rfl ?_ | refine Walk.cRet ?_ | refine Walk.cEnd ?_ | (refine Walk.cReg ?_; simp only [size10_0, size10_1, size10_2, size10_3, size10_4, size10_5, size10_6, size10_8, size10_9, size10_10, size10_11, size10_12, size10_13, size10_14, size10_7, size10_15, List.range, List.range.loop]) | (refine Walk.oq ?_; try walk_nrm) | (refine Walk.un ?_; walk_nrm))
    refine Walk.callW (Post := ValsOut zb 0 S' x4) ?_ (ho_of (by conv => lhs; whnf) (by kernel_rfl)) (by rfl) (by decide) rfl Try.func22 (by kernel_rfl) (by rfl) ?_
    · walk_nrm
      exact hl
    rintro v9 x5 ⟨B9, rfl, hN9, hB9, c5⟩
    walk_nrm
    have J5 := J4.calmK T c5
    have hl2 := lvalues_w (main := main) (V := fun _ => none) ap0 x5 J5.il
    have z4 := J4.il.lt
    clear hl J4 c5
    repeat (first | refine Walk.c rfl ?_ | refine Walk.cRet ?_ | refine Walk.cEnd ?_ | (refine Walk.cReg ?_; simp only [size10_0, size10_1, size10_2, size10_3, size10_4, size10_5, size10_6, size10_8, size10_9, size10_10, size10_11, size10_12, size10_13, size10_14, size10_7, size10_15, List.range, List.range.loop]) | (refine Walk.oq ?_; try walk_nrm) | (refine Walk.un ?_; walk_nrm))
    refine Walk.callW (Post := ValsOut lb 0 S' x5) ?_ (ho_of (by conv => lhs; whnf) (by kernel_rfl)) (by rfl) (by decide) rfl Try.func22 (by kernel_rfl) (by rfl) ?_
    · walk_nrm
      exact hl2
    rintro v10 x6 ⟨B10, rfl, hN10, hB10, c6⟩
    walk_nrm
    have J6 := J5.calmL T c6
    have hN9' := hN9.same (w' := x6) (c6.old B9 hN9.lt (by omega))
    have hsl : (wdL 0 S').length = 1 := by simp [wdL]
    have hsn := sn_w (main := main) (V := fun _ => none) (some ⟨B9, 0, none⟩) (some ⟨B10, 0, none⟩) (wdL 0 S') 1 1 (by omega) x6 (fun i x hx => ⟨B9, 0, rfl, by rw [Nat.zero_add]; exact hN9'.cell hx⟩) (fun i x hx => ⟨B10, 0, rfl, by rw [Nat.zero_add]; exact hN10.cell hx⟩)
    rw [hsl] at hsn
    clear hN9 hN9' hN10 hl2 c6 J5
    repeat (first | refine Walk.c rfl ?_ | refine Walk.cRet ?_ | refine Walk.cEnd ?_ | (refine Walk.cReg ?_; simp only [size10_0, size10_1, size10_2, size10_3, size10_4, size10_5, size10_6, size10_8, size10_9, size10_10, size10_11, size10_12, size10_13, size10_14, size10_7, size10_15, List.range, List.range.loop]) | (refine Walk.oq ?_; try walk_nrm) | (refine Walk.un ?_; walk_nrm))
    refine Walk.callV (x := .bool true) (W := x6) ?_ (ho_of (by conv => lhs; whnf) (by kernel_rfl)) (by rfl) (by decide) rfl Try.func21 (by kernel_rfl) (by rfl) ?_
    · walk_nrm
      exact hsn
    walk_nrm
    repeat (first | refine Walk.c rfl ?_ | refine Walk.cRet ?_ | refine Walk.cEnd ?_ | (refine Walk.cReg ?_; simp only [size10_0, size10_1, size10_2, size10_3, size10_4, size10_5, size10_6, size10_8, size10_9, size10_10, size10_11, size10_12, size10_13, size10_14, size10_7, size10_15, List.range, List.range.loop]) | (refine Walk.oq ?_; try walk_nrm) | (refine Walk.un ?_; walk_nrm))
    refine Walk.ctl rfl (fun w => stepG_inLoop) ?_
    refine .stop fun d => ⟨at_slots ?_, J6.at d |> fun h => ⟨h.ik, h.il, fun b hb hOf => (h.old b (by omega) hOf).trans (hW b hb hOf), by have := h.size; omega⟩⟩
    simp only [hdNon, hcc]
    rfl
theorem none_end (ov : Value) (oa : Option Addr) (n0 tc : Nat) (hov : ov = .slice oa n0 tc) (W : World) (u : Nat → Value) :
    Walk Try.prog main (DR (fun _ => none)) (fun g w => Closing 10 2 (.bool true) g ∧ ∃ d, w = W.at d) (G (hdNon ov zb lb n0 u) []) W := by
  subst hov
  have hj1 : decide ((n0 : Int) < n0) = false := by simp
  have hj3 : decide (n0 < n0) = false := by simp
  conv => arg 5; unfold hdNon
  repeat (first | refine Walk.c rfl ?_ | refine Walk.cRet ?_ | refine Walk.cEnd ?_ | (refine Walk.cReg ?_; simp only [size10_0, size10_1, size10_2, size10_3, size10_4, size10_5, size10_6, size10_8, size10_9, size10_10, size10_11, size10_12, size10_13, size10_14, size10_7, size10_15, List.range, List.range.loop]) | (refine Walk.oq ?_; try walk_nrm) | (refine Walk.un ?_; walk_nrm))
  exact .stop fun d => ⟨⟨_, rfl, rfl, rfl, rfl, rfl, rfl⟩, d, rfl⟩
end
end
end Go.Proofs.Ytjenoiekfkhafaa
