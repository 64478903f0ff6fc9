/- Part 16. -/
import Derived.Test.YtjenoiekfkhafaaJ15
set_option linter.unusedVariables false
set_option linter.unusedSimpArgs false
set_option maxHeartbeats 8000000
set_option maxRecDepth 100000
namespace Go.Proofs.Ytjenoiekfkhafaa
open Go.Conc Go.RowKit Go.Relay
open Go.ConcN (upd upd_ne upd_same)
section
section
variable {main : Bool} {V : Nat → Option Wait} {lb k : Nat} {s : Sq}
structure ValI (w0 : World) (X N n : Nat) (o : OpV) (j : Nat) (w : World) : Prop where
  op : w.heap[X]? = some (.cells #[.int .i64 o.k, .int .i64 o.a, .int .i64 o.b, .int .i64 o.c] 47)
  num : NumB w N (padL ((List.range j).map (sqVal o)) n)
  old : ∀ b, b < w0.heap.size → w.heap[b]? = w0.heap[b]?
  lo : w0.heap.size ≤ X ∧ X < N ∧ N < w.heap.size ∧ w0.heap.size ≤ N
theorem ValI.at {w0 : World} {X N n : Nat} {o : OpV} {j : Nat} {w : World} (h : ValI w0 X N n o j w) (d : Nat) : ValI w0 X N n o j (w.at d) := ⟨h.op, h.num, h.old, h.lo⟩
theorem val_in (o : OpV) (w : World) (I : SqI lb k s w) (hA : ∀ b, w.heap.size ≤ b → Apart V b) (cs : List Frame) :
    Walk Try.prog main (DR V) (fun g w' => (∃ u, g = G (hdVal lb w.heap.size (w.heap.size + 1) (k + 1) 0 u) cs) ∧ ValI w w.heap.size (w.heap.size + 1) (k + 1) o 0 w') (G (Frame.enter Try.prog 51 #[.pointer (some ⟨lb, 0, none⟩), opVal o] .normal) cs) w := by
  have hk := I.pos
  have hi1 := Option.some_get (show (Try.prog.info? 2).isSome = true by kernel_rfl)
  have hlen : ∀ w' : World, w'.heap[lb]? = w.heap[lb]? → CallV Try.prog main V 17 #[.pointer (some ⟨lb, 0, none⟩)] w' (.int .i64 ((k + 1 : Nat) : Int)) w' := fun w' h => by
    have := len_w (main := main) (V := V) w' (I.old h)
    have hcc : ((k : Int) + 1) = ((k + 1 : Nat) : Int) := by simp
    rwa [hcc] at this
  have hlt := I.lt
  have hn17 : k + 1 ≤ 16 := by omega
  have hn0 : 0 < k + 1 := by omega
  clear I hk
  generalize k + 1 = n at *
  obtain ⟨ok, oa, ob, oc⟩ := o
  simp only [opVal]
  rw [enter_at _ Try.func51 code51_is]
  simp only [Try.ntmps51, List.size_toArray, List.length_cons, List.length_nil, Nat.reduceAdd, Nat.reduceSub, Array.replicate_succ, Array.replicate_zero, List.push_toArray, List.append_toArray, List.nil_append, List.cons_append]
  repeat (first | refine Walk.c rfl ?_ | refine Walk.cRet ?_ | refine Walk.cEnd ?_ | (refine Walk.cReg ?_; simp only [size51_0, size51_1, size51_2, size51_3, size51_4, size51_5, size51_6, size51_7, List.range, List.range.loop]) | (refine Walk.oq ?_; try walk_nrm) | (refine Walk.un ?_; walk_nrm))
  (refine Walk.oa ?_; try walk_nrm)
  have s0 : (w.alloc (.cells #[.int .i64 ok, .int .i64 oa, .int .i64 ob, .int .i64 oc] 47)).heap.size = w.heap.size + 1 := by simp
  have o0 : ∀ b, b < w.heap.size → (w.alloc (.cells #[.int .i64 ok, .int .i64 oa, .int .i64 ob, .int .i64 oc] 47)).heap[b]? = w.heap[b]? := fun b hb => heap_new_lt _ _ hb
  have d0 := heap_alloc_new w (.cells #[.int .i64 ok, .int .i64 oa, .int .i64 ob, .int .i64 oc] 47)
  generalize hX : w.heap.size = X at *
  generalize w.alloc (.cells #[.int .i64 ok, .int .i64 oa, .int .i64 ob, .int .i64 oc] 47) = w1 at *
  repeat (first | refine Walk.c rfl ?_ | refine Walk.cRet ?_ | refine Walk.cEnd ?_ | (refine Walk.cReg ?_; simp only [size51_0, size51_1, size51_2, size51_3, size51_4, size51_5, size51_6, size51_7, List.range, List.range.loop]) | (refine Walk.oq ?_; try walk_nrm) | (refine Walk.un ?_; walk_nrm))
  refine Walk.callV (x := .int .i64 (n : Int)) (W := w1) ?_ (ho_of (by conv => lhs; whnf) (by kernel_rfl)) (by rfl) (by decide) rfl Try.func17 (by kernel_rfl) (by rfl) ?_
  · walk_nrm
    exact hlen w1 (o0 lb (by omega))
  walk_nrm
  repeat (first | refine Walk.c rfl ?_ | refine Walk.cRet ?_ | refine Walk.cEnd ?_ | (refine Walk.cReg ?_; simp only [size51_0, size51_1, size51_2, size51_3, size51_4, size51_5, size51_6, size51_7, List.range, List.range.loop]) | (refine Walk.oq ?_; try walk_nrm) | (refine Walk.un ?_; walk_nrm))
  refine Walk.make 22 (.tmp 8) (.tmp 8) (ho_of (by conv => lhs; whnf) (by kernel_rfl)) (by rfl) (by decide) rfl 2 _ (.int .i64 0) 1 8 (by kernel_rfl) hi1.symm (by rfl) (by rfl) (by rfl) n (by rfl) (by rfl) (by omega) (by omega) ?_
  walk_nrm
  simp only [Value.cells, Nat.mul_one, made_zero]
  have s1 : (w1.alloc (.cells ((List.replicate n (0 : Int)).map fun z => Value.int .i64 z).toArray 2)).heap.size = X + 2 := by simp; omega
  have o1 : ∀ b, b < X + 1 → (w1.alloc (.cells ((List.replicate n (0 : Int)).map fun z => Value.int .i64 z).toArray 2)).heap[b]? = w1.heap[b]? := fun b hb => heap_new_lt _ _ (by omega)
  have d1 := heap_alloc_new w1 (.cells ((List.replicate n (0 : Int)).map fun z => Value.int .i64 z).toArray 2)
  rw [s0] at d1
  try simp only [s0]
  generalize w1.alloc (.cells ((List.replicate n (0 : Int)).map fun z => Value.int .i64 z).toArray 2) = w2 at *
  repeat (first | refine Walk.c rfl ?_ | refine Walk.cRet ?_ | refine Walk.cEnd ?_ | (refine Walk.cReg ?_; simp only [size51_0, size51_1, size51_2, size51_3, size51_4, size51_5, size51_6, size51_7, List.range, List.range.loop]) | (refine Walk.oq ?_; try walk_nrm) | (refine Walk.un ?_; walk_nrm))
  refine Walk.ctl rfl (fun w => stepG_loop) ?_
  refine .stop fun d => ⟨at_slots ?_, ValI.at (o := ⟨ok, oa, ob, oc⟩) (j := 0) (n := n) (N := X + 1) (X := X) ⟨(o1 X (by omega)).trans d0, (show NumB w2 (X + 1) (padL ((List.range 0).map (sqVal ⟨ok, oa, ob, oc⟩)) n) from d1), fun b hb => (o1 b (by omega)).trans (o0 b (by omega)), by omega, by omega, by omega, by omega⟩ d⟩
  simp only [hdVal]
  rfl
theorem val_go (o : OpV) (X N n j : Nat) (hn17 : n ≤ 16) (hj : j < n) (u : Nat → Value) (cs : List Frame) (w0 w : World) (M : ValI w0 X N n o j w) (hA : ∀ b, w0.heap.size ≤ b → Apart V b) :
    Walk Try.prog main (DR V) (fun g w' => (∃ u, g = G (hdVal lb X N n (j + 1) u) cs) ∧ ValI w0 X N n o (j + 1) w') (G (hdVal lb X N n j u) cs) w := by
  obtain ⟨hop, hnum, hold, hlo⟩ := M
  have hap := hA N hlo.2.2.2
  have c2 := (cell_of hop 2).trans rfl
  have c3 := (cell_of hop 3).trans rfl
  have hl : ((List.range j).map (sqVal o)).length = j := by simp
  have c5 := hnum.cell (j := j) (z := 0) (by
    unfold padL
    rw [List.getElem?_append_right (by omega), hl, Nat.sub_self, List.getElem?_replicate, if_pos (by omega)])
  have z5 := hnum.frozen j
  have f5 := hap.1 ⟨N, j, none⟩ rfl
  have hi0 : (0 : Int) ≤ j := by omega
  have hi1 : decide ((j : Int) < n) = true := by simp; omega
  have hi2 : decide (n ≤ j) = false := by simp; omega
  have hi3 : decide (j < n) = true := by simp; omega
  have hw1 : IntKind.wrap .i64 ((j : Int) + 1) = (j : Int) + 1 := by rw [IntKind.wrap_i64]; omega
  have hw2 : IntKind.wrap .i64 (j : Int) = (j : Int) := by rw [IntKind.wrap_i64]; omega
  have hv : sqVal o j = IntKind.i64.wrap (o.b + IntKind.i64.wrap ((j : Int) * o.c)) := rfl
  have hset := hnum.set j (sqVal o j)
  have hs6 := size_set w ⟨N, j, none⟩ (.int .i64 (sqVal o j))
  have o6 : ∀ b, b ≠ N → (w.setCell ⟨N, j, none⟩ (.int .i64 (sqVal o j))).heap[b]? = w.heap[b]? := fun b hb => heap_set_other _ _ _ _ hb
  have hpd := padL_set (l := (List.range j).map (sqVal o)) (n := n) (by omega) (sqVal o j)
  rw [hl, ← range_snoc] at hpd
  rw [hpd] at hset
  rw [hv] at hset hs6 o6
  clear hv hpd hnum
  unfold hdVal
  repeat (first | refine Walk.c rfl ?_ | refine Walk.cRet ?_ | refine Walk.cEnd ?_ | (refine Walk.cReg ?_; simp only [size51_0, size51_1, size51_2, size51_3, size51_4, size51_5, size51_6, size51_7, List.range, List.range.loop]) | (refine Walk.oq ?_; try walk_nrm) | (refine Walk.un ?_; walk_nrm))
  (refine Walk.os f5 c5 ?_; try walk_nrm)
  generalize w.setCell ⟨N, j, none⟩ (.int .i64 (IntKind.i64.wrap (o.b + IntKind.i64.wrap ((j : Int) * o.c)))) = w6 at *
  repeat (first | refine Walk.c rfl ?_ | refine Walk.cRet ?_ | refine Walk.cEnd ?_ | (refine Walk.cReg ?_; simp only [size51_0, size51_1, size51_2, size51_3, size51_4, size51_5, size51_6, size51_7, List.range, List.range.loop]) | (refine Walk.oq ?_; try walk_nrm) | (refine Walk.un ?_; walk_nrm))
  refine Walk.ctl rfl (fun w => stepG_inLoop) ?_
  refine .stop fun d => ⟨at_slots ?_, ValI.at ⟨(o6 X (by omega)).trans hop, hset, fun b hb => (o6 b (by omega)).trans (hold b hb), by omega, by omega, by omega, by omega⟩ d⟩
  have hc : ((j + 1 : Nat) : Int) = (j : Int) + 1 := by simp
  simp only [hdVal, hc]
  rfl
theorem val_end (X N n : Nat) (u : Nat → Value) (c : Frame) (cs : List Frame) (w : World) :
    Walk Try.prog main (DR V) (fun g w' => g = G (c.finish (.slice (some ⟨N, 0, none⟩) n n)) cs ∧ ∃ d, w' = w.at d) (G (hdVal lb X N n n u) (c :: cs)) w := by
  unfold hdVal
  repeat (first | refine Walk.c rfl ?_ | refine Walk.cRet ?_ | refine Walk.cEnd ?_ | (refine Walk.cReg ?_; simp only [size51_0, size51_1, size51_2, size51_3, size51_4, size51_5, size51_6, size51_7, List.range, List.range.loop]) | (refine Walk.oq ?_; try walk_nrm) | (refine Walk.un ?_; walk_nrm))
  exact Walk.on1 rfl rfl Try.func51 rfl (.stop fun d => ⟨rfl, d, rfl⟩)
theorem values_w (o : OpV) (w : World) (I : SqI lb k s w) (hA : ∀ b, w.heap.size ≤ b → Apart V b) : CallW Try.prog main V 51 #[.pointer (some ⟨lb, 0, none⟩), opVal o] w (NewNum ((List.range (k + 1)).map (sqVal o)) w) := by
  intro c cs
  have hk := I.pos
  refine (val_in o w I hA (c :: cs)).then ?_
  rintro g w1 ⟨⟨u, rfl⟩, M⟩
  have loop : ∀ (r i : Nat) (u : Nat → Value) (w1 : World), i + r = k + 1 → ValI w w.heap.size (w.heap.size + 1) (k + 1) o i w1 →
      Walk Try.prog main (DR V) (fun g w' => ∃ v, NewNum ((List.range (k + 1)).map (sqVal o)) w v w' ∧ g = G (c.finish v) cs) (G (hdVal lb w.heap.size (w.heap.size + 1) (k + 1) i u) (c :: cs)) w1 := by
    intro r
    induction r with
    | zero =>
      intro i u w1 hi M
      obtain rfl : i = k + 1 := hi
      refine (val_end _ _ _ u c cs w1).mono ?_
      rintro g w' ⟨rfl, d, rfl⟩
      refine ⟨_, ⟨w.heap.size + 1, ?_, by omega, M.lo.2.2.1, ?_, M.old, by have := M.lo; show w.heap.size ≤ w1.heap.size; omega⟩, rfl⟩
      · simp
      · have := M.num
        rw [padL_full (by simp)] at this
        exact this
    | succ r ih =>
      intro i u w1 hi M
      refine (val_go o _ _ (k + 1) i (by omega) (by omega) u (c :: cs) w w1 M hA).then ?_
      rintro g w' ⟨⟨u', rfl⟩, M'⟩
      exact ih (i + 1) u' w' (by omega) M'
  exact loop (k + 1) 0 u w1 (by omega) M
end
end
section
noncomputable def reg30_0 : Array Oper := match Try.f30.body with | some (.seq (.region _ ops _) _) => ops | _ => #[]
theorem size30_0 : reg30_0.size = 2 := by kernel_rfl
noncomputable def reg30_1 : Array Oper := match Try.f30.body with | some (.seq _ (.seq (.seq (.region _ ops _) _) _)) => ops | _ => #[]
theorem size30_1 : reg30_1.size = 2 := by kernel_rfl
noncomputable def reg30_2 : Array Oper := match Try.f30.body with | some (.seq _ (.seq (.seq _ (.cond _ (.seq (.region _ ops _) _) _)) _)) => ops | _ => #[]
theorem size30_2 : reg30_2.size = 2 := by kernel_rfl
noncomputable def reg30_3 : Array Oper := match Try.f30.body with | some (.seq _ (.seq _ (.seq (.region _ ops _) _))) => ops | _ => #[]
theorem size30_3 : reg30_3.size = 6 := by kernel_rfl
noncomputable def reg30_4 : Array Oper := match Try.f30.body with | some (.seq _ (.seq _ (.seq _ (.seq (.region _ ops _) _)))) => ops | _ => #[]
theorem size30_4 : reg30_4.size = 6 := by kernel_rfl
theorem code30_is : Try.f30.body = some (.seq (.region 0 reg30_0 false) (.seq (.seq (.region 1 reg30_1 false) (.cond (.tmp 10 ) (.seq (.region 2 reg30_2 false) (.ret)) (.skip))) (.seq (.region 3 reg30_3 false) (.seq (.region 4 reg30_4 false) (.ret))))) := by kernel_rfl
noncomputable def reg31_0 : Array Oper := match Try.f31.body with | some (.seq (.region _ ops _) _) => ops | _ => #[]
theorem size31_0 : reg31_0.size = 1 := by kernel_rfl
noncomputable def reg31_1 : Array Oper := match Try.f31.body with | some (.seq _ (.seq (.region _ ops _) _)) => ops | _ => #[]
theorem size31_1 : reg31_1.size = 4 := by kernel_rfl
noncomputable def reg31_2 : Array Oper := match Try.f31.body with | some (.seq _ (.seq _ (.seq (.seq (.region _ ops _) _) _))) => ops | _ => #[]
theorem size31_2 : reg31_2.size = 3 := by kernel_rfl
noncomputable def reg31_3 : Array Oper := match Try.f31.body with | some (.seq _ (.seq _ (.seq (.seq _ (.block _ (.loop (.seq (.region _ ops _) _)))) _))) => ops | _ => #[]
theorem size31_3 : reg31_3.size = 1 := by kernel_rfl
noncomputable def reg31_4 : Array Oper := match Try.f31.body with | some (.seq _ (.seq _ (.seq (.seq _ (.block _ (.loop (.seq _ (.seq _ (.seq (.block _ (.seq (.region _ ops _) _)) _)))))) _))) => ops | _ => #[]
theorem size31_4 : reg31_4.size = 2 := by kernel_rfl
noncomputable def reg31_5 : Array Oper := match Try.f31.body with | some (.seq _ (.seq _ (.seq (.seq _ (.block _ (.loop (.seq _ (.seq _ (.seq (.block _ (.seq _ (.region _ ops _))) _)))))) _))) => ops | _ => #[]
theorem size31_5 : reg31_5.size = 11 := by kernel_rfl
noncomputable def reg31_6 : Array Oper := match Try.f31.body with | some (.seq _ (.seq _ (.seq (.seq _ (.block _ (.loop (.seq _ (.seq _ (.seq _ (.region _ ops _))))))) _))) => ops | _ => #[]
theorem size31_6 : reg31_6.size = 2 := by kernel_rfl
noncomputable def reg31_7 : Array Oper := match Try.f31.body with | some (.seq _ (.seq _ (.seq _ (.seq (.region _ ops _) _)))) => ops | _ => #[]
theorem size31_7 : reg31_7.size = 2 := by kernel_rfl
theorem code31_is : Try.f31.body = some (.seq (.region 0 reg31_0 false) (.seq (.region 1 reg31_1 false) (.seq (.seq (.region 2 reg31_2 false) (.block 0 (.loop (.seq (.region 3 reg31_3 false) (.seq (.cond (.tmp 13 ) (.skip) (.exit 0)) (.seq (.block 1 (.seq (.region 4 reg31_4 false) (.region 5 reg31_5 false))) (.region 6 reg31_6 false))))))) (.seq (.region 7 reg31_7 false) (.ret))))) := by kernel_rfl
noncomputable def hdRaw (lb : Nat) (sv : Value) (N n j : Nat) (u : Nat → Value) : Frame :=
  (base 31).at { tmps := #[.pointer (some ⟨lb, 0, none⟩), sv, u 2, u 3, u 4, .slice (some ⟨N, 0, none⟩) n n, u 6, u 7, u 8, u 9, u 10, .int .i64 n, .int .i64 j, u 13, u 14, u 15, u 16, u 17, u 18, u 19, u 20, u 21, u 22, u 23, u 24, u 25, u 26], defers := [] } [.code (.seq (.region 3 reg31_3 false) (.seq (.cond (.tmp 13 ) (.skip) (.exit 0)) (.seq (.block 1 (.seq (.region 4 reg31_4 false) (.region 5 reg31_5 false))) (.region 6 reg31_6 false)))), .inLoop (.seq (.region 3 reg31_3 false) (.seq (.cond (.tmp 13 ) (.skip) (.exit 0)) (.seq (.block 1 (.seq (.region 4 reg31_4 false) (.region 5 reg31_5 false))) (.region 6 reg31_6 false)))), .inBlock 0, .code (.seq (.region 7 reg31_7 false) (.ret))]
section
variable {lb k : Nat} {sv : Value}
theorem load_ver (K : Lg (sqLa lb k) sv) (e : K.E) (d : QD) (ht : K.tgt e = (K.s e, .inr d)) : SCall K.toLb 46 #[.pointer (some ⟨lb, 0, none⟩), sv] e (fun v e' => Aft K.toLb e d e' ∧ v = .int .i64 ((K.s e' : Sq).v)) := word_load K verW e d trivial ht
theorem load_word (K : Lg (sqLa lb k) sv) (i : Nat) (hi : i ≤ k) (e : K.E) (d : QD) (ht : K.tgt e = (K.s e, .inr d)) : SCall K.toLb 46 #[.pointer (some ⟨lb, 1 + i, none⟩), sv] e (fun v e' => Aft K.toLb e d e' ∧ v = .int .i64 ((K.s e' : Sq).w i)) := word_load K (worW i hi) e d trivial ht
def NewerOut (K : Lg (sqLa lb k) sv) (v : Value) (e' : K.E) : Prop := ∃ b x, v = .tuple #[.int .i64 x, .bool b] ∧ K.tgt e' = (K.s e', .inl ⟨b, x, []⟩)
theorem newer_s (K : Lg (sqLa lb k) sv) (e : K.E) (a : Int) (ht : K.tgt e = (K.s e, .inr (.n1 a))) : SCall K.toLb 30 #[.pointer (some ⟨lb, 0, none⟩), sv, .int .i64 a] e (NewerOut K) := by
  intro fr l hp hl hk
  have w1 := load_ver K e (.n1 a) ht
  have hp1 := fun w => run_eql_ptr (P := Try.prog) 35 undLock (some ⟨lb, 0, none⟩) w
  have hp2 := fun w es => ev_eql_ptr (P := Try.prog) 35 undLock (some ⟨lb, 0, none⟩) w es
  simp only [Option.isNone_some] at hp1
  unfold LW
  rw [enter_at _ Try.func30 code30_is]
  simp only [Try.ntmps30, List.size_toArray, List.length_cons, List.length_nil, Nat.reduceAdd, Nat.reduceSub, Array.replicate_succ, Array.replicate_zero, List.push_toArray, List.append_toArray, List.nil_append, List.cons_append]
  repeat (first | refine Walk.c rfl ?_ | refine Walk.cRet ?_ | refine Walk.cEnd ?_ | (refine Walk.cReg ?_; simp only [size30_0, size30_1, size30_2, size30_3, size30_4, List.range, List.range.loop]) | (refine Walk.oq ?_; try walk_nrm) | (refine Walk.un ?_; walk_nrm))
  refine LW.callS (K := K.toLb) (e := e) (l := fr :: l) (f := 46) (Q := fun v e' => Aft K.toLb e (.n1 a) e' ∧ v = .int .i64 ((K.s e' : Sq).v)) ?_ (ho_of (by conv => lhs; whnf) (by kernel_rfl)) (by rfl) (by decide) rfl Try.func46 (by kernel_rfl) (by rfl) ⟨rfl, rfl, _, Try.func30⟩ (plain_cons hp hl) ?_
  · walk_nrm
    exact w1
  rintro v e1 ⟨ha, rfl⟩
  have hkk := hk (.tuple #[.int .i64 ((K.s e1 : Sq).v), .bool (decide (a < (K.s e1 : Sq).v))]) e1 ⟨_, _, rfl, ha.tgt⟩
  generalize (K.s e1 : Sq).v = x at *
  unfold LW at hkk ⊢
  walk_nrm
  repeat (first | refine Walk.c rfl ?_ | refine Walk.cRet ?_ | refine Walk.cEnd ?_ | (refine Walk.cReg ?_; simp only [size30_0, size30_1, size30_2, size30_3, size30_4, List.range, List.range.loop]) | (refine Walk.oq ?_; try walk_nrm) | (refine Walk.un ?_; walk_nrm))
  exact Walk.on2 rfl rfl Try.func30 rfl hkk
def RawOut (K : Lg (sqLa lb k) sv) (D : Nat → List Int → Ans ⊕ QD) (v : Value) (e' : K.E) : Prop := ∃ B l, v = .slice (some ⟨B, 0, none⟩) (k + 1) (k + 1) ∧ l.length = k + 1 ∧ K.mine e' B ∧ NumB (K.w e') B l ∧ K.tgt e' = (K.s e', D (k + 1) l)
theorem raw_round (K : Lg (sqLa lb k) sv) (D : Nat → List Int → Ans ⊕ QD) (dd : Nat → List Int → QD) (hD : ∀ i l, i ≤ k → D i l = .inr (dd i l)) (hact : ∀ s i l, i ≤ k → sqAct k s (dd i l) = (s, D (i + 1) (l ++ [s.w i])))
    (B : Nat) (fr : Frame) (l : List Frame) (hp : Plain fr) (hl : ∀ f ∈ l, Plain f) (ls : List Int) (hj : ls.length < k + 1) (e : K.E) (u : Nat → Value) (hB : K.mine e B) (hT : NumB (K.w e) B (padL ls (k + 1))) (ht : K.tgt e = (K.s e, D ls.length ls))
    (ih : ∀ (e' : K.E) (u' : Nat → Value) (x : Int), K.mine e' B → NumB (K.w e') B (padL (ls ++ [x]) (k + 1)) → K.tgt e' = (K.s e', D (ls.length + 1) (ls ++ [x])) → LW K.toLb e' (G (hdRaw lb sv B (k + 1) (ls.length + 1) u') (fr :: (l ++ K.bot e')))) :
    LW K.toLb e (G (hdRaw lb sv B (k + 1) ls.length u) (fr :: (l ++ K.bot e))) := by
  have hk15 := (K.inv e).pos
  have w1 := load_word K ls.length (by omega) e (dd ls.length ls) (by rw [ht, hD _ _ (by omega)]; rfl)
  have hact' := fun s => hact s ls.length ls (by omega)
  have hset := fun (w : World) (h : NumB w B (padL ls (k + 1))) (x : Int) => (padL_set hj x) ▸ h.set ls.length x
  have hcl := fun (w : World) (h : NumB w B (padL ls (k + 1))) => h.cell (j := ls.length) (z := 0) (by
    unfold padL
    rw [List.getElem?_append_right (Nat.le_refl _), Nat.sub_self, List.getElem?_replicate, if_pos (by omega)])
  clear hD hact
  have hn17 : k + 1 ≤ 16 := by omega
  have h17 : ((17 : Nat) : Int) = 17 := rfl
  generalize hjj : ls.length = j at *
  have hj0 : (0 : Int) ≤ j := by omega
  have hj1 : decide ((j : Int) < ((k + 1 : Nat) : Int)) = true := by simp; omega
  have hj3 : decide (j < k + 1) = true := by simp; omega
  have hj4 : (j : Int) < ((k + 1 : Nat) : Int) := by omega
  have hj5 : (j : Int) < 16 := by omega
  have hj6 : j < 16 := by omega
  have hw1 : IntKind.wrap .i64 ((j : Int) + 1) = ((j + 1 : Nat) : Int) := by rw [IntKind.wrap_i64]; omega
  have hx1 := fun w => (ix_word lb j hj6 w #[]).1
  have hx2 := fun w es => (ix_word lb j hj6 w es).2
  clear hk15 hjj
  generalize k + 1 = n at *
  unfold LW hdRaw
  repeat (first | refine Walk.c rfl ?_ | refine Walk.cRet ?_ | refine Walk.cEnd ?_ | (refine Walk.cReg ?_; simp only [size31_0, size31_1, size31_2, size31_3, size31_4, size31_5, size31_6, size31_7, List.range, List.range.loop]) | (refine Walk.oq ?_; try walk_nrm) | (refine Walk.un ?_; walk_nrm))
  refine LW.callS (K := K.toLb) (e := e) (l := fr :: l) (f := 46) (Q := fun v e' => Aft K.toLb e (dd j ls) e' ∧ v = .int .i64 ((K.s e' : Sq).w j)) ?_ (ho_of (by conv => lhs; whnf) (by kernel_rfl)) (by rfl) (by decide) rfl Try.func46 (by kernel_rfl) (by rfl) ⟨rfl, rfl, _, Try.func31⟩ (plain_cons hp hl) ?_
  · walk_nrm
    exact w1
  rintro v e1 ⟨ha, rfl⟩
  have ht1 : K.tgt e1 = (K.s e1, D (j + 1) (ls ++ [(K.s e1 : Sq).w j])) := ha.tgt.trans (hact' _)
  obtain ⟨hm1, hb1⟩ := ha.mine B hB
  have hT1 := hT.same hb1
  have hcy := hcl _ hT1
  have hfz := hT1.frozen j
  have hap := (K.mineA e1 _ hm1).1.1 ⟨B, j, none⟩ rfl
  have hT2 := hset _ hT1 ((K.s e1 : Sq).w j)
  generalize (K.s e1 : Sq).w j = x at *
  obtain ⟨e2, m2⟩ := K.own e1 (w' := (K.w e1).setCell ⟨B, j, none⟩ (.int .i64 x)) (by simp) (fun b _ hbm => heap_set_other _ _ _ _ (fun he : b = B => hbm (by rw [he]; exact hm1)))
  have hm2 : K.mine e2 B := (m2.mine B).2 (.inl hm1)
  have ht2 : K.tgt e2 = (K.s e2, D (j + 1) (ls ++ [x])) := by rw [m2.tgt, m2.s]; exact ht1
  rw [← m2.w] at hT2
  have hih := fun u => ih e2 u x hm2 hT2 ht2
  clear ih w1 hset hcl hact' hT hT1 hT2
  unfold LW
  walk_nrm
  repeat (first | refine Walk.c rfl ?_ | refine Walk.cRet ?_ | refine Walk.cEnd ?_ | (refine Walk.cReg ?_; simp only [size31_0, size31_1, size31_2, size31_3, size31_4, size31_5, size31_6, size31_7, List.range, List.range.loop]) | (refine Walk.oq ?_; try walk_nrm) | (refine Walk.un ?_; walk_nrm))
  (refine Walk.os hap hcy ?_; try walk_nrm)
  refine LW.to (l := fr :: l) m2 ?_
  unfold LW at hih ⊢
  repeat (first | refine Walk.c rfl ?_ | refine Walk.cRet ?_ | refine Walk.cEnd ?_ | (refine Walk.cReg ?_; simp only [size31_0, size31_1, size31_2, size31_3, size31_4, size31_5, size31_6, size31_7, List.range, List.range.loop]) | (refine Walk.oq ?_; try walk_nrm) | (refine Walk.un ?_; walk_nrm))
  refine Walk.ctl rfl (fun w => stepG_inLoop) ?_
  refine slots_walk (F := fun u => G (hdRaw lb sv B n (j + 1) u) (fr :: (l ++ K.bot e2))) hih ?_
  simp only [hdRaw]
  rfl
theorem raw_end (K : Lg (sqLa lb k) sv) (D : Nat → List Int → Ans ⊕ QD) (B : Nat) (fr : Frame) (l : List Frame) (hk : ∀ x e', RawOut K D x e' → LW K.toLb e' (G (fr.finish x) (l ++ K.bot e'))) (ls : List Int) (hj : ls.length = k + 1) (e : K.E) (u : Nat → Value) (hB : K.mine e B) (hT : NumB (K.w e) B (padL ls (k + 1))) (ht : K.tgt e = (K.s e, D (k + 1) ls)) :
    LW K.toLb e (G (hdRaw lb sv B (k + 1) (k + 1) u) (fr :: (l ++ K.bot e))) := by
  rw [padL_full hj] at hT
  have hkk := hk (.slice (some ⟨B, 0, none⟩) (k + 1) (k + 1)) e ⟨B, ls, rfl, hj, hB, hT, ht⟩
  clear hk hT ht hj
  generalize k + 1 = n at *
  have hj3 : decide (n < n) = false := by simp
  unfold LW hdRaw
  unfold LW at hkk
  repeat (first | refine Walk.c rfl ?_ | refine Walk.cRet ?_ | refine Walk.cEnd ?_ | (refine Walk.cReg ?_; simp only [size31_0, size31_1, size31_2, size31_3, size31_4, size31_5, size31_6, size31_7, List.range, List.range.loop]) | (refine Walk.oq ?_; try walk_nrm) | (refine Walk.un ?_; walk_nrm))
  exact Walk.on1 rfl rfl Try.func31 rfl hkk
theorem raw_loop (K : Lg (sqLa lb k) sv) (D : Nat → List Int → Ans ⊕ QD) (dd : Nat → List Int → QD) (hD : ∀ i l, i ≤ k → D i l = .inr (dd i l)) (hact : ∀ s i l, i ≤ k → sqAct k s (dd i l) = (s, D (i + 1) (l ++ [s.w i])))
    (B : Nat) (fr : Frame) (l : List Frame) (hp : Plain fr) (hl : ∀ f ∈ l, Plain f) (hk : ∀ x e', RawOut K D x e' → LW K.toLb e' (G (fr.finish x) (l ++ K.bot e'))) :
    ∀ (r : Nat) (ls : List Int) (e : K.E) (u : Nat → Value), ls.length + r = k + 1 → K.mine e B → NumB (K.w e) B (padL ls (k + 1)) → K.tgt e = (K.s e, D ls.length ls) → LW K.toLb e (G (hdRaw lb sv B (k + 1) ls.length u) (fr :: (l ++ K.bot e))) := by
  intro r
  induction r with
  | zero =>
    intro ls e u hj hB hT ht
    have hj' : ls.length = k + 1 := by simpa using hj
    rw [hj'] at ht ⊢
    exact raw_end K D B fr l hk ls hj' e u hB hT ht
  | succ r ih =>
    intro ls e u hj hB hT ht
    refine raw_round K D dd hD hact B fr l hp hl ls (by omega) e u hB hT ht fun e' u' x hB' hT' ht' => ?_
    have hlen : (ls ++ [x]).length = ls.length + 1 := by simp
    have := ih (ls ++ [x]) e' u' (by omega) hB' hT'
    rw [hlen] at this
    exact this ht'
theorem raw_s (K : Lg (sqLa lb k) sv) (D : Nat → List Int → Ans ⊕ QD) (dd : Nat → List Int → QD) (hD : ∀ i l, i ≤ k → D i l = .inr (dd i l)) (hact : ∀ s i l, i ≤ k → sqAct k s (dd i l) = (s, D (i + 1) (l ++ [s.w i])))
    (e : K.E) (ht : K.tgt e = (K.s e, D 0 [])) : SCall K.toLb 31 #[.pointer (some ⟨lb, 0, none⟩), sv] e (RawOut K D) := by
  intro fr l hp hl hk
  have hk15 := (K.inv e).pos
  have hi1 := Option.some_get (show (Try.prog.info? 2).isSome = true by kernel_rfl)
  have h1 := len_w (main := K.main) (V := K.V e) (K.w e) (K.inv e)
  have hcc : ((k : Int) + 1) = ((k + 1 : Nat) : Int) := by simp
  rw [hcc] at h1
  have hlp := fun B e' u hB hT ht' => raw_loop K D dd hD hact B fr l hp hl hk (k + 1) [] e' u (by simp) hB hT ht'
  simp only [List.length_nil] at hlp
  clear hk hcc hD hact
  have hn17 : k + 1 ≤ 16 := by omega
  have hn0 : 0 < k + 1 := by omega
  clear hk15
  generalize k + 1 = n at *
  unfold LW
  rw [enter_at _ Try.func31 code31_is]
  simp only [Try.ntmps31, List.size_toArray, List.length_cons, List.length_nil, Nat.reduceAdd, Nat.reduceSub, Array.replicate_succ, Array.replicate_zero, List.push_toArray, List.append_toArray, List.nil_append, List.cons_append]
  repeat (first | refine Walk.c rfl ?_ | refine Walk.cRet ?_ | refine Walk.cEnd ?_ | (refine Walk.cReg ?_; simp only [size31_0, size31_1, size31_2, size31_3, size31_4, size31_5, size31_6, size31_7, List.range, List.range.loop]) | (refine Walk.oq ?_; try walk_nrm) | (refine Walk.un ?_; walk_nrm))
  refine Walk.callV (x := .int .i64 (n : Int)) (W := K.w e) ?_ (ho_of (by conv => lhs; whnf) (by kernel_rfl)) (by rfl) (by decide) rfl Try.func17 (by kernel_rfl) (by rfl) ?_
  · walk_nrm
    exact h1
  walk_nrm
  repeat (first | refine Walk.c rfl ?_ | refine Walk.cRet ?_ | refine Walk.cEnd ?_ | (refine Walk.cReg ?_; simp only [size31_0, size31_1, size31_2, size31_3, size31_4, size31_5, size31_6, size31_7, List.range, List.range.loop]) | (refine Walk.oq ?_; try walk_nrm) | (refine Walk.un ?_; walk_nrm))
  refine Walk.make 22 (.tmp 8) (.tmp 8) (ho_of (by conv => lhs; whnf) (by kernel_rfl)) (by rfl) (by decide) rfl 2 _ (.int .i64 0) 1 8 (by kernel_rfl) hi1.symm (by rfl) (by rfl) (by rfl) n (by rfl) (by rfl) (by omega) (by omega) ?_
  walk_nrm
  simp only [Value.cells, Nat.mul_one, made_zero]
  have c1 := heap_alloc_new (K.w e) (.cells ((List.replicate n (0 : Int)).map fun z => Value.int .i64 z).toArray 2)
  have s1 : ((K.w e).alloc (.cells ((List.replicate n (0 : Int)).map fun z => Value.int .i64 z).toArray 2)).heap.size = (K.w e).heap.size + 1 := by simp
  obtain ⟨e1, m1⟩ := K.grow e (w' := (K.w e).alloc (.cells ((List.replicate n (0 : Int)).map fun z => Value.int .i64 z).toArray 2)) (by omega) (fun b hb' => heap_new_lt _ _ hb')
  generalize hR : (K.w e).heap.size = R at *
  generalize (K.w e).alloc (.cells ((List.replicate n (0 : Int)).map fun z => Value.int .i64 z).toArray 2) = w1 at *
  have hmR : K.mine e1 R := m1.new (by omega) (by omega)
  have ht1 : K.tgt e1 = (K.s e1, D 0 []) := by rw [m1.tgt, m1.s]; exact ht
  have hT1 : NumB (K.w e1) R (padL [] n) := by
    rw [m1.w]
    exact c1
  have hh := fun u => hlp R e1 u hmR hT1 ht1
  unfold LW at hh
  refine LW.to (l := fr :: l) m1 ?_
  unfold LW
  clear hi1 c1
  repeat (first | refine Walk.c rfl ?_ | refine Walk.cRet ?_ | refine Walk.cEnd ?_ | (refine Walk.cReg ?_; simp only [size31_0, size31_1, size31_2, size31_3, size31_4, size31_5, size31_6, size31_7, List.range, List.range.loop]) | (refine Walk.oq ?_; try walk_nrm) | (refine Walk.un ?_; walk_nrm))
  refine Walk.ctl rfl (fun w => stepG_loop) ?_
  refine slots_walk (F := fun u => G (hdRaw lb sv R n 0 u) (fr :: (l ++ K.bot e1))) hh ?_
  simp only [hdRaw]
  rfl
end
end
section
noncomputable def reg25_0 : Array Oper := match Try.f25.body with | some (.seq (.region _ ops _) _) => ops | _ => #[]
theorem size25_0 : reg25_0.size = 2 := by kernel_rfl
noncomputable def reg25_1 : Array Oper := match Try.f25.body with | some (.seq _ (.seq (.seq (.region _ ops _) _) _)) => ops | _ => #[]
theorem size25_1 : reg25_1.size = 2 := by kernel_rfl
noncomputable def reg25_2 : Array Oper := match Try.f25.body with | some (.seq _ (.seq (.seq _ (.cond _ (.seq (.region _ ops _) _) _)) _)) => ops | _ => #[]
theorem size25_2 : reg25_2.size = 2 := by kernel_rfl
noncomputable def reg25_3 : Array Oper := match Try.f25.body with | some (.seq _ (.seq _ (.seq (.seq (.region _ ops _) _) _))) => ops | _ => #[]
theorem size25_3 : reg25_3.size = 3 := by kernel_rfl
noncomputable def reg25_4 : Array Oper := match Try.f25.body with | some (.seq _ (.seq _ (.seq (.seq _ (.block _ (.loop (.seq (.region _ ops _) _)))) _))) => ops | _ => #[]
theorem size25_4 : reg25_4.size = 1 := by kernel_rfl
noncomputable def reg25_5 : Array Oper := match Try.f25.body with | some (.seq _ (.seq _ (.seq (.seq _ (.block _ (.loop (.seq _ (.seq _ (.seq (.block _ (.seq (.region _ ops _) _)) _)))))) _))) => ops | _ => #[]
theorem size25_5 : reg25_5.size = 6 := by kernel_rfl
noncomputable def reg25_6 : Array Oper := match Try.f25.body with | some (.seq _ (.seq _ (.seq (.seq _ (.block _ (.loop (.seq _ (.seq _ (.seq (.block _ (.seq _ (.seq (.seq (.region _ ops _) _) _))) _)))))) _))) => ops | _ => #[]
theorem size25_6 : reg25_6.size = 2 := by kernel_rfl
noncomputable def reg25_7 : Array Oper := match Try.f25.body with | some (.seq _ (.seq _ (.seq (.seq _ (.block _ (.loop (.seq _ (.seq _ (.seq (.block _ (.seq _ (.seq _ (.seq (.region _ ops _) _)))) _)))))) _))) => ops | _ => #[]
theorem size25_7 : reg25_7.size = 4 := by kernel_rfl
noncomputable def reg25_8 : Array Oper := match Try.f25.body with | some (.seq _ (.seq _ (.seq (.seq _ (.block _ (.loop (.seq _ (.seq _ (.seq (.block _ (.seq _ (.seq _ (.seq _ (.seq (.region _ ops _) _))))) _)))))) _))) => ops | _ => #[]
theorem size25_8 : reg25_8.size = 7 := by kernel_rfl
noncomputable def reg25_9 : Array Oper := match Try.f25.body with | some (.seq _ (.seq _ (.seq (.seq _ (.block _ (.loop (.seq _ (.seq _ (.seq (.block _ (.seq _ (.seq _ (.seq _ (.seq _ (.cond _ (.seq (.region _ ops _) _) _)))))) _)))))) _))) => ops | _ => #[]
theorem size25_9 : reg25_9.size = 3 := by kernel_rfl
noncomputable def reg25_10 : Array Oper := match Try.f25.body with | some (.seq _ (.seq _ (.seq (.seq _ (.block _ (.loop (.seq _ (.seq _ (.seq _ (.region _ ops _))))))) _))) => ops | _ => #[]
theorem size25_10 : reg25_10.size = 2 := by kernel_rfl
noncomputable def reg25_11 : Array Oper := match Try.f25.body with | some (.seq _ (.seq _ (.seq _ (.seq (.region _ ops _) _)))) => ops | _ => #[]
theorem size25_11 : reg25_11.size = 2 := by kernel_rfl
theorem code25_is : Try.f25.body = some (.seq (.region 0 reg25_0 false) (.seq (.seq (.region 1 reg25_1 false) (.cond (.tmp 11 ) (.seq (.region 2 reg25_2 false) (.ret)) (.skip))) (.seq (.seq (.region 3 reg25_3 false) (.block 0 (.loop (.seq (.region 4 reg25_4 false) (.seq (.cond (.tmp 15 ) (.skip) (.exit 0)) (.seq (.block 1 (.seq (.region 5 reg25_5 false) (.seq (.seq (.region 6 reg25_6 false) (.cond (.tmp 22 ) (.exit 1) (.skip))) (.seq (.region 7 reg25_7 false) (.seq (.region 8 reg25_8 false) (.cond (.tmp 32 ) (.seq (.region 9 reg25_9 false) (.ret)) (.skip))))))) (.region 10 reg25_10 false))))))) (.seq (.region 11 reg25_11 false) (.ret))))) := by kernel_rfl
noncomputable def hdRd (lb : Nat) (sv : Value) (T j : Nat) (u : Nat → Value) : Frame :=
  (base 25).at { tmps := #[.pointer (some ⟨lb, 0, none⟩), sv, u 2, u 3, u 4, u 5, u 6, u 7, u 8, u 9, u 10, u 11, u 12, .int .i64 T, .int .i64 j, u 15, u 16, u 17, u 18, u 19, u 20, u 21, u 22, u 23, u 24, u 25, u 26, u 27, u 28, u 29, u 30, u 31, u 32, u 33, u 34], defers := [] } [.code (.seq (.region 4 reg25_4 false) (.seq (.cond (.tmp 15 ) (.skip) (.exit 0)) (.seq (.block 1 (.seq (.region 5 reg25_5 false) (.seq (.seq (.region 6 reg25_6 false) (.cond (.tmp 22 ) (.exit 1) (.skip))) (.seq (.region 7 reg25_7 false) (.seq (.region 8 reg25_8 false) (.cond (.tmp 32 ) (.seq (.region 9 reg25_9 false) (.ret)) (.skip))))))) (.region 10 reg25_10 false)))), .inLoop (.seq (.region 4 reg25_4 false) (.seq (.cond (.tmp 15 ) (.skip) (.exit 0)) (.seq (.block 1 (.seq (.region 5 reg25_5 false) (.seq (.seq (.region 6 reg25_6 false) (.cond (.tmp 22 ) (.exit 1) (.skip))) (.seq (.region 7 reg25_7 false) (.seq (.region 8 reg25_8 false) (.cond (.tmp 32 ) (.seq (.region 9 reg25_9 false) (.ret)) (.skip))))))) (.region 10 reg25_10 false)))), .inBlock 0, .code (.seq (.region 11 reg25_11 false) (.ret))]
def trAt (T j : Nat) (d : Nat → QD) : Ans ⊕ QD := if j < T then .inr (d (T - j)) else .inl aNo
theorem fail_tr {T j : Nat} (h : j < T) (d : Nat → QD) : sqFail (T - j) d = trAt T (j + 1) d := by
  unfold sqFail trAt
  by_cases h1 : T - j ≤ 1
  · rw [if_pos h1, if_neg (by omega)]
  · rw [if_neg h1, if_pos (by omega)]
    congr 2
section
variable {lb k : Nat} {sv : Value}
def ListOK {L : La} {sv : Value} (K : Lg L sv) (e : K.E) (sl : Value) (ls : List Int) : Prop := (sl = .slice none 0 0 ∧ ls = []) ∨ ∃ B, sl = .slice (some ⟨B, 0, none⟩) ls.length ls.length ∧ K.mine e B ∧ NumB (K.w e) B ls
theorem ListOK.lsR {L : La} {sv : Value} {K : Lg L sv} {e : K.E} {sl : Value} {ls : List Int} (h : ListOK K e sl ls) : LsR sl ls (K.w e) := by
  rcases h with ⟨rfl, rfl⟩ | ⟨B, rfl, hm, hN⟩
  · exact LsR.nil _
  · exact hN.lsR
def ReadOut (K : Lg (sqLa lb k) sv) (v : Value) (e' : K.E) : Prop := ∃ sl b ls, v = .tuple #[sl, .bool b] ∧ ListOK K e' sl ls ∧ ls.length ≤ 16 ∧ K.tgt e' = (K.s e', .inl ⟨b, 0, ls⟩)
def dRaw (k t : Nat) (v : Int) (i : Nat) (l : List Int) : Ans ⊕ QD := .inr (if i = k + 1 then .r3 t v l else .r2 t v i l)
theorem read_round (K : Lg (sqLa lb k) sv) (T j : Nat) (hT : T ≤ 1024) (hj : j < T) (fr : Frame) (l : List Frame) (hp : Plain fr) (hl : ∀ f ∈ l, Plain f) (hk : ∀ x e', ReadOut K x e' → LW K.toLb e' (G (fr.finish x) (l ++ K.bot e'))) (e : K.E) (u : Nat → Value) (ht : K.tgt e = (K.s e, trAt T j .r1))
    (ih : ∀ (e' : K.E) (u' : Nat → Value), K.tgt e' = (K.s e', trAt T (j + 1) .r1) → LW K.toLb e' (G (hdRd lb sv T (j + 1) u') (fr :: (l ++ K.bot e')))) :
    LW K.toLb e (G (hdRd lb sv T j u) (fr :: (l ++ K.bot e))) := by
  have hk15 := (K.inv e).pos
  have ht0 : K.tgt e = (K.s e, .inr (.r1 (T - j))) := by rw [ht]; unfold trAt; rw [if_pos hj]; rfl
  have w1 := load_ver K e (.r1 (T - j)) ht0
  have hf := fail_tr hj QD.r1
  generalize hTj : T - j = t at *
  have hj1 : decide ((j : Int) < T) = true := by simp; omega
  have hj3 : decide (j < T) = true := by simp; omega
  have hw1 : IntKind.wrap .i64 ((j : Int) + 1) = ((j + 1 : Nat) : Int) := by rw [IntKind.wrap_i64]; omega
  clear hk15 hTj
  unfold LW hdRd
  repeat (first | refine Walk.c rfl ?_ | refine Walk.cRet ?_ | refine Walk.cEnd ?_ | (refine Walk.cReg ?_; simp only [size25_0, size25_1, size25_2, size25_3, size25_4, size25_5, size25_6, size25_7, size25_8, size25_9, size25_10, size25_11, List.range, List.range.loop]) | (refine Walk.oq ?_; try walk_nrm) | (refine Walk.un ?_; walk_nrm))
  refine LW.callS (K := K.toLb) (e := e) (l := fr :: l) (f := 46) (Q := fun v e' => Aft K.toLb e (.r1 t) e' ∧ v = .int .i64 ((K.s e' : Sq).v)) ?_ (ho_of (by conv => lhs; whnf) (by kernel_rfl)) (by rfl) (by decide) rfl Try.func46 (by kernel_rfl) (by rfl) ⟨rfl, rfl, _, Try.func25⟩ (plain_cons hp hl) ?_
  · walk_nrm
    exact w1
  rintro v e1 ⟨ha, rfl⟩
  have ht1 : K.tgt e1 = (K.s e1, if sqOdd (K.s e1 : Sq).v then sqFail t .r1 else .inr (.r2 t (K.s e1 : Sq).v 0 [])) := ha.tgt
  rw [hf] at ht1
  generalize (K.s e1 : Sq).v = x at *
  have hod := odd_w (main := K.main) (V := K.V e1) x (K.w e1)
  unfold LW
  walk_nrm
  repeat (first | refine Walk.c rfl ?_ | refine Walk.cRet ?_ | refine Walk.cEnd ?_ | (refine Walk.cReg ?_; simp only [size25_0, size25_1, size25_2, size25_3, size25_4, size25_5, size25_6, size25_7, size25_8, size25_9, size25_10, size25_11, List.range, List.range.loop]) | (refine Walk.oq ?_; try walk_nrm) | (refine Walk.un ?_; walk_nrm))
  refine Walk.callV (x := .bool (decide (sqOdd x))) (W := K.w e1) ?_ (ho_of (by conv => lhs; whnf) (by kernel_rfl)) (by rfl) (by decide) rfl Try.func47 (by kernel_rfl) (by rfl) ?_
  · walk_nrm
    exact hod
  walk_nrm
  clear hod w1
  by_cases ho : sqOdd x
  · rw [if_pos ho] at ht1
    have hih := fun u => ih e1 u ht1
    clear ih hk
    simp only [ho, decide_true]
    unfold LW at hih
    repeat (first | refine Walk.c rfl ?_ | refine Walk.cRet ?_ | refine Walk.cEnd ?_ | (refine Walk.cReg ?_; simp only [size25_0, size25_1, size25_2, size25_3, size25_4, size25_5, size25_6, size25_7, size25_8, size25_9, size25_10, size25_11, List.range, List.range.loop]) | (refine Walk.oq ?_; try walk_nrm) | (refine Walk.un ?_; walk_nrm))
    refine Walk.ctl rfl (fun w => stepG_inLoop) ?_
    refine slots_walk (F := fun u => G (hdRd lb sv T (j + 1) u) (fr :: (l ++ K.bot e1))) hih ?_
    simp only [hdRd]
    rfl
  · rw [if_neg ho] at ht1
    have hraw := raw_s K (dRaw k t x) (fun i l => if i = k + 1 then .r3 t x l else .r2 t x i l) (fun _ _ _ => rfl) (fun s i l hi => by
      show sqAct k s (if i = k + 1 then _ else _) = _
      rw [if_neg (by omega)]
      show (s, Sum.inr (if i = k then _ else _)) = (s, dRaw k t x (i + 1) _)
      unfold dRaw
      by_cases e : i = k
      · rw [if_pos e, if_pos (by omega)]
      · rw [if_neg e, if_neg (by omega)]) e1 (ht1.trans (by unfold dRaw; rw [if_neg (by omega)]))
    simp only [ho, decide_false]
    repeat (first | refine Walk.c rfl ?_ | refine Walk.cRet ?_ | refine Walk.cEnd ?_ | (refine Walk.cReg ?_; simp only [size25_0, size25_1, size25_2, size25_3, size25_4, size25_5, size25_6, size25_7, size25_8, size25_9, size25_10, size25_11, List.range, List.range.loop]) | (refine Walk.oq ?_; try walk_nrm) | (refine Walk.un ?_; walk_nrm))
    refine LW.callS (K := K.toLb) (e := e1) (l := fr :: l) (f := 31) (Q := RawOut K (dRaw k t x)) ?_ (ho_of (by conv => lhs; whnf) (by kernel_rfl)) (by rfl) (by decide) rfl Try.func31 (by kernel_rfl) (by rfl) ⟨rfl, rfl, _, Try.func25⟩ (plain_cons hp hl) ?_
    · walk_nrm
      exact hraw
    rintro v e2 ⟨B, ls, rfl, hlen, hmB, hNB, ht2⟩
    have ht3 : K.tgt e2 = (K.s e2, .inr (.r3 t x ls)) := ht2.trans (by unfold dRaw; rw [if_pos rfl]; rfl)
    have w2 := load_ver K e2 (.r3 t x ls) ht3
    have hk16 : k + 1 ≤ 16 := by have := (K.inv e2).pos; omega
    clear hraw ht1 ht2 ht3
    unfold LW
    walk_nrm
    repeat (first | refine Walk.c rfl ?_ | refine Walk.cRet ?_ | refine Walk.cEnd ?_ | (refine Walk.cReg ?_; simp only [size25_0, size25_1, size25_2, size25_3, size25_4, size25_5, size25_6, size25_7, size25_8, size25_9, size25_10, size25_11, List.range, List.range.loop]) | (refine Walk.oq ?_; try walk_nrm) | (refine Walk.un ?_; walk_nrm))
    refine LW.callS (K := K.toLb) (e := e2) (l := fr :: l) (f := 46) (Q := fun v e' => Aft K.toLb e2 (.r3 t x ls) e' ∧ v = .int .i64 ((K.s e' : Sq).v)) ?_ (ho_of (by conv => lhs; whnf) (by kernel_rfl)) (by rfl) (by decide) rfl Try.func46 (by kernel_rfl) (by rfl) ⟨rfl, rfl, _, Try.func25⟩ (plain_cons hp hl) ?_
    · walk_nrm
      exact w2
    rintro v e3 ⟨ha3, rfl⟩
    have ht4 : K.tgt e3 = (K.s e3, if (K.s e3 : Sq).v = x then .inl ⟨true, 0, ls⟩ else sqFail t .r1) := ha3.tgt
    rw [hf] at ht4
    have hN3 : NumB (K.w e3) B ls := hNB.same (ha3.mine B hmB).2
    generalize (K.s e3 : Sq).v = y at *
    clear w2
    by_cases he : y = x
    · rw [if_pos he] at ht4
      have hb1 : (y == x) = true := by simp [he]
      have hkk := hk (.tuple #[.slice (some ⟨B, 0, none⟩) (k + 1) (k + 1), .bool true]) e3 ⟨_, _, ls, rfl, .inr ⟨B, by rw [hlen], (ha3.mine B hmB).1, hN3⟩, by omega, ht4⟩
      clear ih hk hf
      unfold LW at hkk ⊢
      walk_nrm
      repeat (first | refine Walk.c rfl ?_ | refine Walk.cRet ?_ | refine Walk.cEnd ?_ | (refine Walk.cReg ?_; simp only [size25_0, size25_1, size25_2, size25_3, size25_4, size25_5, size25_6, size25_7, size25_8, size25_9, size25_10, size25_11, List.range, List.range.loop]) | (refine Walk.oq ?_; try walk_nrm) | (refine Walk.un ?_; walk_nrm))
      exact Walk.on2 rfl rfl Try.func25 rfl hkk
    · rw [if_neg he] at ht4
      have hb1 : (y == x) = false := by simp [he]
      have hih := fun u => ih e3 u ht4
      clear ih hk hf
      unfold LW at hih ⊢
      walk_nrm
      repeat (first | refine Walk.c rfl ?_ | refine Walk.cRet ?_ | refine Walk.cEnd ?_ | (refine Walk.cReg ?_; simp only [size25_0, size25_1, size25_2, size25_3, size25_4, size25_5, size25_6, size25_7, size25_8, size25_9, size25_10, size25_11, List.range, List.range.loop]) | (refine Walk.oq ?_; try walk_nrm) | (refine Walk.un ?_; walk_nrm))
      refine Walk.ctl rfl (fun w => stepG_inLoop) ?_
      refine slots_walk (F := fun u => G (hdRd lb sv T (j + 1) u) (fr :: (l ++ K.bot e3))) hih ?_
      simp only [hdRd]
      rfl
theorem read_end (K : Lg (sqLa lb k) sv) (T : Nat) (hT : T ≤ 1024) (fr : Frame) (l : List Frame) (hk : ∀ x e', ReadOut K x e' → LW K.toLb e' (G (fr.finish x) (l ++ K.bot e'))) (e : K.E) (u : Nat → Value) (ht : K.tgt e = (K.s e, trAt T T .r1)) :
    LW K.toLb e (G (hdRd lb sv T T u) (fr :: (l ++ K.bot e))) := by
  have ht0 : K.tgt e = (K.s e, .inl aNo) := by rw [ht]; unfold trAt; rw [if_neg (by omega)]; rfl
  have hkk := hk (.tuple #[.slice none 0 0, .bool false]) e ⟨_, _, [], rfl, .inl ⟨rfl, rfl⟩, by simp, ht0⟩
  have hj3 : decide (T < T) = false := by simp
  unfold LW hdRd
  unfold LW at hkk
  repeat (first | refine Walk.c rfl ?_ | refine Walk.cRet ?_ | refine Walk.cEnd ?_ | (refine Walk.cReg ?_; simp only [size25_0, size25_1, size25_2, size25_3, size25_4, size25_5, size25_6, size25_7, size25_8, size25_9, size25_10, size25_11, List.range, List.range.loop]) | (refine Walk.oq ?_; try walk_nrm) | (refine Walk.un ?_; walk_nrm))
  exact Walk.on2 rfl rfl Try.func25 rfl hkk
theorem read_loop (K : Lg (sqLa lb k) sv) (T : Nat) (hT : T ≤ 1024) (fr : Frame) (l : List Frame) (hp : Plain fr) (hl : ∀ f ∈ l, Plain f) (hk : ∀ x e', ReadOut K x e' → LW K.toLb e' (G (fr.finish x) (l ++ K.bot e'))) :
    ∀ (r j : Nat) (e : K.E) (u : Nat → Value), j + r = T → K.tgt e = (K.s e, trAt T j .r1) → LW K.toLb e (G (hdRd lb sv T j u) (fr :: (l ++ K.bot e))) := by
  intro r
  induction r with
  | zero =>
    intro j e u hj ht
    obtain rfl : j = T := hj
    exact read_end K j hT fr l hk e u ht
  | succ r ih =>
    intro j e u hj ht
    exact read_round K T j hT (by omega) fr l hp hl hk e u ht fun e' u' ht' => ih (j + 1) e' u' (by omega) ht'
theorem read_s (K : Lg (sqLa lb k) sv) (e : K.E) (a : Int) (ht : K.tgt e = (K.s e, .inr (.r1 (sqTr a)))) : SCall K.toLb 25 #[.pointer (some ⟨lb, 0, none⟩), sv, .int .i64 a] e (ReadOut K) := by
  intro fr l hp hl hk
  have hT := sqTr_le a
  have hlp := fun u => read_loop K (sqTr a) hT.2 fr l hp hl hk (sqTr a) 0 e u (by omega) (by rw [ht]; unfold trAt; rw [if_pos (by omega)]; rfl)
  have hwi := within_w (main := K.main) (V := K.V e) a (K.w e)
  generalize sqTr a = T at *
  have hp1 := fun w => run_eql_ptr (P := Try.prog) 35 undLock (some ⟨lb, 0, none⟩) w
  have hp2 := fun w es => ev_eql_ptr (P := Try.prog) 35 undLock (some ⟨lb, 0, none⟩) w es
  simp only [Option.isNone_some] at hp1
  unfold LW at hlp ⊢
  rw [enter_at _ Try.func25 code25_is]
  simp only [Try.ntmps25, List.size_toArray, List.length_cons, List.length_nil, Nat.reduceAdd, Nat.reduceSub, Array.replicate_succ, Array.replicate_zero, List.push_toArray, List.append_toArray, List.nil_append, List.cons_append]
  repeat (first | refine Walk.c rfl ?_ | refine Walk.cRet ?_ | refine Walk.cEnd ?_ | (refine Walk.cReg ?_; simp only [size25_0, size25_1, size25_2, size25_3, size25_4, size25_5, size25_6, size25_7, size25_8, size25_9, size25_10, size25_11, List.range, List.range.loop]) | (refine Walk.oq ?_; try walk_nrm) | (refine Walk.un ?_; walk_nrm))
  refine Walk.callV (x := .int .i64 (T : Int)) (W := K.w e) ?_ (ho_of (by conv => lhs; whnf) (by kernel_rfl)) (by rfl) (by decide) rfl Try.func45 (by kernel_rfl) (by rfl) ?_
  · walk_nrm
    exact hwi
  walk_nrm
  clear hwi
  repeat (first | refine Walk.c rfl ?_ | refine Walk.cRet ?_ | refine Walk.cEnd ?_ | (refine Walk.cReg ?_; simp only [size25_0, size25_1, size25_2, size25_3, size25_4, size25_5, size25_6, size25_7, size25_8, size25_9, size25_10, size25_11, List.range, List.range.loop]) | (refine Walk.oq ?_; try walk_nrm) | (refine Walk.un ?_; walk_nrm))
  refine Walk.ctl rfl (fun w => stepG_loop) ?_
  refine slots_walk (F := fun u => G (hdRd lb sv T 0 u) (fr :: (l ++ K.bot e))) hlp ?_
  simp only [hdRd]
  rfl
end
end
end Go.Proofs.Ytjenoiekfkhafaa
