/- Part 22. -/
import Derived.Test.YtgfajibjedfkdaaJ21
set_option linter.unusedSimpArgs false
set_option linter.unusedVariables false
set_option maxHeartbeats 8000000
set_option maxRecDepth 100000
namespace Go.Proofs.Ytgfajibjedfkdaa
open Go.Conc Go.RowKit Go.Relay
open Go.ConcN (upd upd_ne upd_same)
section
def CallP (main : Bool) (V : Nat → Option Wait) (f : FuncId) (args : Array Value) (w : World) (Post : Value → World → Prop) : Prop :=
  ∀ (c : Frame) (cs : List Frame), Plain c → Walk Try.prog main (DR V) (fun g w' => ∃ v, Post v w' ∧ g = G (c.finish v) cs) (G (Frame.enter Try.prog f args .normal) (c :: cs)) w
section
variable {main : Bool} {V : Nat → Option Wait} {Stop : Goroutine → World → Prop} {w : World} {b : Frame} {a : Act} {k : List Item} {cs : List Frame} {ops : Array Oper} {i : Nat} {rest : List Nat} {o : Oper}
theorem CallP.mono {f : FuncId} {args : Array Value} {Post Post' : Value → World → Prop} (h : CallP main V f args w Post) (hP : ∀ v w', Post v w' → Post' v w') : CallP main V f args w Post' :=
  fun c cs hp => (h c cs hp).mono fun g w' ⟨v, hv, e⟩ => ⟨v, hP v w' hv, e⟩
end
end
structure Closing (f : FuncId) (t : Tmp) (v : Value) (g : Goroutine) : Prop where
  all : ∃ fr, g = G fr [] ∧ fr.mode = .returning ∧ fr.kind = .normal ∧ fr.defers = [] ∧ fr.fn = f ∧ fr.tmps.getD t undef = v
section
noncomputable def reg5_0 : Array Oper := match Try.f5.body with | some (.seq (.region _ ops _) _) => ops | _ => #[]
theorem size5_0 : reg5_0.size = 1 := by kernel_rfl
noncomputable def reg5_1 : Array Oper := match Try.f5.body with | some (.seq _ (.seq (.seq (.region _ ops _) _) _)) => ops | _ => #[]
theorem size5_1 : reg5_1.size = 2 := by kernel_rfl
noncomputable def reg5_2 : Array Oper := match Try.f5.body with | some (.seq _ (.seq (.seq _ (.cond _ (.seq (.region _ ops _) _) _)) _)) => ops | _ => #[]
theorem size5_2 : reg5_2.size = 1 := by kernel_rfl
noncomputable def reg5_3 : Array Oper := match Try.f5.body with | some (.seq _ (.seq _ (.seq (.region _ ops _) _))) => ops | _ => #[]
theorem size5_3 : reg5_3.size = 3 := by kernel_rfl
noncomputable def reg5_4 : Array Oper := match Try.f5.body with | some (.seq _ (.seq _ (.seq _ (.seq (.region _ ops _) _)))) => ops | _ => #[]
theorem size5_4 : reg5_4.size = 1 := by kernel_rfl
noncomputable def reg5_5 : Array Oper := match Try.f5.body with | some (.seq _ (.seq _ (.seq _ (.seq _ (.seq (.seq (.region _ ops _) _) _))))) => ops | _ => #[]
theorem size5_5 : reg5_5.size = 6 := by kernel_rfl
noncomputable def reg5_6 : Array Oper := match Try.f5.body with | some (.seq _ (.seq _ (.seq _ (.seq _ (.seq (.seq _ (.cond _ (.region _ ops _) _)) _))))) => ops | _ => #[]
theorem size5_6 : reg5_6.size = 1 := by kernel_rfl
noncomputable def reg5_7 : Array Oper := match Try.f5.body with | some (.seq _ (.seq _ (.seq _ (.seq _ (.seq _ (.seq (.region _ ops _) _)))))) => ops | _ => #[]
theorem size5_7 : reg5_7.size = 1 := by kernel_rfl
noncomputable def reg5_8 : Array Oper := match Try.f5.body with | some (.seq _ (.seq _ (.seq _ (.seq _ (.seq _ (.seq _ (.seq (.region _ ops _) _))))))) => ops | _ => #[]
theorem size5_8 : reg5_8.size = 3 := by kernel_rfl
noncomputable def reg5_9 : Array Oper := match Try.f5.body with | some (.seq _ (.seq _ (.seq _ (.seq _ (.seq _ (.seq _ (.seq _ (.seq (.region _ ops _) _)))))))) => ops | _ => #[]
theorem size5_9 : reg5_9.size = 12 := by kernel_rfl
noncomputable def reg5_10 : Array Oper := match Try.f5.body with | some (.seq _ (.seq _ (.seq _ (.seq _ (.seq _ (.seq _ (.seq _ (.seq _ (.seq (.region _ ops _) _))))))))) => ops | _ => #[]
theorem size5_10 : reg5_10.size = 12 := by kernel_rfl
noncomputable def reg5_11 : Array Oper := match Try.f5.body with | some (.seq _ (.seq _ (.seq _ (.seq _ (.seq _ (.seq _ (.seq _ (.seq _ (.seq _ (.seq (.seq (.region _ ops _) _) _)))))))))) => ops | _ => #[]
theorem size5_11 : reg5_11.size = 55 := by kernel_rfl
noncomputable def reg5_12 : Array Oper := match Try.f5.body with | some (.seq _ (.seq _ (.seq _ (.seq _ (.seq _ (.seq _ (.seq _ (.seq _ (.seq _ (.seq (.seq _ (.cond _ (.seq (.region _ ops _) _) _)) _)))))))))) => ops | _ => #[]
theorem size5_12 : reg5_12.size = 1 := by kernel_rfl
noncomputable def reg5_13 : Array Oper := match Try.f5.body with | some (.seq _ (.seq _ (.seq _ (.seq _ (.seq _ (.seq _ (.seq _ (.seq _ (.seq _ (.seq _ (.seq (.region _ ops _) _))))))))))) => ops | _ => #[]
theorem size5_13 : reg5_13.size = 31 := by kernel_rfl
theorem code5_is : Try.f5.body = some (.seq (.region 0 reg5_0 false) (.seq (.seq (.region 1 reg5_1 false) (.cond (.tmp 16 ) (.seq (.region 2 reg5_2 false) (.ret)) (.skip))) (.seq (.region 3 reg5_3 false) (.seq (.region 4 reg5_4 false) (.seq (.seq (.region 5 reg5_5 false) (.cond (.tmp 24 ) (.region 6 reg5_6 false) (.skip))) (.seq (.region 7 reg5_7 false) (.seq (.region 8 reg5_8 false) (.seq (.region 9 reg5_9 false) (.seq (.region 10 reg5_10 false) (.seq (.seq (.region 11 reg5_11 false) (.cond (.tmp 101 ) (.seq (.region 12 reg5_12 false) (.ret)) (.skip))) (.seq (.region 13 reg5_13 false) (.ret)))))))))))) := by kernel_rfl
section
variable {main : Bool} {V : Nat → Option Wait}
theorem nil_alerted (sv : Value) (w : World) : CallV Try.prog main V 16 #[.pointer none, sv] w (.bool false) w := by
  have hp1 := fun w => run_eql_ptr (P := Try.prog) 33 undBarr none w
  have hp2 := fun w es => ev_eql_ptr (P := Try.prog) 33 undBarr none w es
  simp only [Option.isNone_none] at hp1
  refine callW_in Try.func16 code16_is fun fr cs => ?_
  simp only [Try.ntmps16, List.size_toArray, List.length_cons, List.length_nil, Nat.reduceAdd, Nat.reduceSub, Array.replicate_succ, Array.replicate_zero, List.push_toArray, List.append_toArray, List.nil_append, List.cons_append]
  repeat (first | refine Walk.c rfl ?_ | refine Walk.cRet ?_ | refine Walk.cEnd ?_ | (refine Walk.cReg ?_; simp only [size16_0, size16_1, size16_2, size16_3, List.range, List.range.loop]) | (refine Walk.oq ?_; try walk_nrm) | (refine Walk.un ?_; walk_nrm))
  exact Walk.ret1 rfl rfl Try.func16 rfl fun d => ⟨rfl, d, rfl⟩
theorem nil_alert (sv : Value) (w : World) : CallV Try.prog main V 17 #[.pointer none, sv] w (.bool false) w := by
  have hp1 := fun w => run_eql_ptr (P := Try.prog) 33 undBarr none w
  have hp2 := fun w es => ev_eql_ptr (P := Try.prog) 33 undBarr none w es
  simp only [Option.isNone_none] at hp1
  refine callW_in Try.func17 code17_is fun fr cs => ?_
  simp only [Try.ntmps17, List.size_toArray, List.length_cons, List.length_nil, Nat.reduceAdd, Nat.reduceSub, Array.replicate_succ, Array.replicate_zero, List.push_toArray, List.append_toArray, List.nil_append, List.cons_append]
  repeat (first | refine Walk.c rfl ?_ | refine Walk.cRet ?_ | refine Walk.cEnd ?_ | (refine Walk.cReg ?_; simp only [size17_0, size17_1, size17_2, size17_3, List.range, List.range.loop]) | (refine Walk.oq ?_; try walk_nrm) | (refine Walk.un ?_; walk_nrm))
  exact Walk.ret1 rfl rfl Try.func17 rfl fun d => ⟨rfl, d, rfl⟩
theorem nil_clear (sv : Value) (w : World) : CallV Try.prog main V 18 #[.pointer none, sv] w (.bool false) w := by
  have hp1 := fun w => run_eql_ptr (P := Try.prog) 33 undBarr none w
  have hp2 := fun w es => ev_eql_ptr (P := Try.prog) 33 undBarr none w es
  simp only [Option.isNone_none] at hp1
  refine callW_in Try.func18 code18_is fun fr cs => ?_
  simp only [Try.ntmps18, List.size_toArray, List.length_cons, List.length_nil, Nat.reduceAdd, Nat.reduceSub, Array.replicate_succ, Array.replicate_zero, List.push_toArray, List.append_toArray, List.nil_append, List.cons_append]
  repeat (first | refine Walk.c rfl ?_ | refine Walk.cRet ?_ | refine Walk.cEnd ?_ | (refine Walk.cReg ?_; simp only [size18_0, size18_1, size18_2, size18_3, List.range, List.range.loop]) | (refine Walk.oq ?_; try walk_nrm) | (refine Walk.un ?_; walk_nrm))
  exact Walk.ret1 rfl rfl Try.func18 rfl fun d => ⟨rfl, d, rfl⟩
def nX (base : World) (P bb : Nat) : RX := ⟨base, P, 0, fun _ => 0, fun _ => none, fun _ => [], fun _ => 0, bb, 0, none, 0⟩
theorem nX_ri {base w : World} {P bb : Nat} (hP : w.heap[P]? = some (.cells #[.int .i64 0] 37)) (hB : w.heap[bb]? = some (.cells #[.slice none 0 0, .int .u32 0] 54)) (h1 : base.heap.size ≤ P) (h2 : base.heap.size ≤ bb)
    (ho : ∀ b, b < base.heap.size → w.heap[b]? = base.heap[b]?) (hs : base.heap.size ≤ w.heap.size) : RI (nX base P bb) wS0 w :=
  ⟨hP, fun i hi => absurd hi (Nat.not_lt_zero _), fun i hi => absurd hi (Nat.not_lt_zero _), fun i j hi => absurd hi (Nat.not_lt_zero _), hB, fun h => absurd h (Nat.lt_irrefl 0), Nat.le_refl _, ho, ⟨h1, h2, fun i hi => absurd hi (Nat.not_lt_zero _)⟩, hs⟩
theorem bn_a (q tries way : Int) (hw : way < 1) (hA : ∀ b, Apart V b) (W : World) :
    Walk Try.prog main (DR V) (fun g w' => Closing 5 6 (.bool true) g ∧ ∀ b, b < W.heap.size → w'.heap[b]? = W.heap[b]?) (G (Frame.enter Try.prog 5 #[.int .i64 q, .int .i64 tries, .int .i64 way] .normal) []) W := by
  have r3 := run_ifaceS
  have r4 := ev_ifaceS
  have g1 : decide (way < 1) = true := decide_eq_true hw
  have hwt := waits_w (main := main) (V := V) hA W
  rw [enter_at _ Try.func5 code5_is]
  simp only [Try.ntmps5, List.size_toArray, List.length_cons, List.length_nil, Nat.reduceAdd, Nat.reduceSub, Array.replicate_succ, Array.replicate_zero, List.push_toArray, List.append_toArray, List.nil_append, List.cons_append]
  repeat (first | refine Walk.c rfl ?_ | refine Walk.cRet ?_ | refine Walk.cEnd ?_ | (refine Walk.cReg ?_; simp only [size5_0, size5_1, size5_2, size5_3, size5_4, size5_5, size5_6, size5_7, size5_8, size5_9, size5_10, size5_11, size5_12, size5_13, List.range, List.range.loop]) | (refine Walk.oq ?_; try walk_nrm) | (refine Walk.un ?_; walk_nrm))
  refine Walk.callW (Post := fun v w' => v = .bool true ∧ (∀ b, b < W.heap.size → w'.heap[b]? = W.heap[b]?) ∧ W.heap.size ≤ w'.heap.size) ?_ (ho_of (by conv => lhs; whnf) (by kernel_rfl)) (by rfl) (by decide) rfl Try.func12 (by kernel_rfl) (by rfl) ?_
  · try walk_nrm
    exact hwt
  rintro v w0 ⟨rfl, O0, Z0⟩
  clear hwt
  walk_nrm
  repeat (first | refine Walk.c rfl ?_ | refine Walk.cRet ?_ | refine Walk.cEnd ?_ | (refine Walk.cReg ?_; simp only [size5_0, size5_1, size5_2, size5_3, size5_4, size5_5, size5_6, size5_7, size5_8, size5_9, size5_10, size5_11, size5_12, size5_13, List.range, List.range.loop]) | (refine Walk.oq ?_; try walk_nrm) | (refine Walk.un ?_; walk_nrm))
  (refine Walk.oa ?_; try walk_nrm)
  have s1 : (w0.alloc (.cells #[.int .i64 0] 37)).heap.size = w0.heap.size + 1 := by simp
  have o1 : ∀ b, b < w0.heap.size → (w0.alloc (.cells #[.int .i64 0] 37)).heap[b]? = w0.heap[b]? := fun b hb => heap_new_lt _ _ hb
  have d1 := heap_alloc_new w0 (.cells #[.int .i64 0] 37)
  obtain ⟨P, hP⟩ : ∃ P, w0.heap.size = P := ⟨_, rfl⟩
  rw [hP] at s1 o1 d1 Z0 ⊢
  generalize w0.alloc (.cells #[.int .i64 0] 37) = w1 at *
  repeat (first | refine Walk.c rfl ?_ | refine Walk.cRet ?_ | refine Walk.cEnd ?_ | (refine Walk.cReg ?_; simp only [size5_0, size5_1, size5_2, size5_3, size5_4, size5_5, size5_6, size5_7, size5_8, size5_9, size5_10, size5_11, size5_12, size5_13, List.range, List.range.loop]) | (refine Walk.oq ?_; try walk_nrm) | (refine Walk.un ?_; walk_nrm))
  (refine Walk.oa ?_; try walk_nrm)
  have s2 : (w1.alloc (.cells #[.slice none 0 0, .int .u32 0] 54)).heap.size = P + 2 := by simp [s1]
  have o2 : ∀ b, b < P + 1 → (w1.alloc (.cells #[.slice none 0 0, .int .u32 0] 54)).heap[b]? = w1.heap[b]? := fun b hb => heap_new_lt _ _ (by omega)
  have d2 : (w1.alloc (.cells #[.slice none 0 0, .int .u32 0] 54)).heap[P + 1]? = some (.cells #[.slice none 0 0, .int .u32 0] 54) := s1 ▸ heap_alloc_new w1 (.cells #[.slice none 0 0, .int .u32 0] 54)
  try rw [s1]
  change Walk Try.prog main _ _ _ (w1.alloc (.cells #[.slice none 0 0, .int .u32 0] 54))
  generalize w1.alloc (.cells #[.slice none 0 0, .int .u32 0] 54) = w2 at *
  have I : RI (nX W P (P + 1)) wS0 w2 := nX_ri ((o2 P (by omega)).trans d1) d2 Z0 (by omega) (fun b hb => (o2 b (by omega)).trans ((o1 b (by omega)).trans (O0 b hb))) (by omega)
  have k0 : w2.cell? ⟨P, 0, none⟩ = some (.int .i64 0) := (cell_of I.cnt 0).trans rfl
  have kb : w2.cell? ⟨P + 1, 0, none⟩ = some (.slice none 0 0) := (cell_of d2 0).trans rfl
  have hn0 := none15_nil (main := main) (V := V) w2
  have hn1 := none15_yes (main := main) (V := V) (P + 1) none 0 w2 kb
  clear s1 o1 d1 s2 o2 d2 O0 Z0 kb hP
  have c1 := wait_kind (main := main) (V := V) (sv := cntV P) (.pointer none) q tries way (.inl hw) w2
  have c2 := wait_kind (main := main) (V := V) (sv := cntV P) (.pointer (some ⟨P + 1, 0, none⟩)) q tries way (.inl hw) w2
  clear hw
  have c3 := limit_none (main := main) (V := V) (sv := cntV P) (.pointer none) w2 hn0
  have c4 := limit_none (main := main) (V := V) (sv := cntV P) (.pointer (some ⟨P + 1, 0, none⟩)) w2 hn1
  have c5 := nil_alert (main := main) (V := V) (cntV P) w2
  have c6 := nil_clear (main := main) (V := V) (cntV P) w2
  have c7 := nil_alerted (main := main) (V := V) (cntV P) w2
  clear hn0 hn1
  unfold cntV at c1 c2 c3 c4 c5 c6 c7
  repeat (first | refine Walk.c rfl ?_ | refine Walk.cRet ?_ | refine Walk.cEnd ?_ | (refine Walk.cReg ?_; simp only [size5_0, size5_1, size5_2, size5_3, size5_4, size5_5, size5_6, size5_7, size5_8, size5_9, size5_10, size5_11, size5_12, size5_13, List.range, List.range.loop]) | (refine Walk.oq ?_; try walk_nrm) | (refine Walk.un ?_; walk_nrm))
  refine Walk.callV (x := .tuple #[.int .i64 0, .int .i64 2]) (W := w2) ?_ (ho_of (by conv => lhs; whnf) (by kernel_rfl)) (by rfl) (by decide) rfl Try.func14 (by kernel_rfl) (by rfl) ?_
  · try walk_nrm
    exact c1
  clear c1
  walk_nrm
  repeat (first | refine Walk.c rfl ?_ | refine Walk.cRet ?_ | refine Walk.cEnd ?_ | (refine Walk.cReg ?_; simp only [size5_0, size5_1, size5_2, size5_3, size5_4, size5_5, size5_6, size5_7, size5_8, size5_9, size5_10, size5_11, size5_12, size5_13, List.range, List.range.loop]) | (refine Walk.oq ?_; try walk_nrm) | (refine Walk.un ?_; walk_nrm))
  refine Walk.callV (x := .tuple #[.int .i64 0, .int .i64 2]) (W := w2) ?_ (ho_of (by conv => lhs; whnf) (by kernel_rfl)) (by rfl) (by decide) rfl Try.func14 (by kernel_rfl) (by rfl) ?_
  · try walk_nrm
    exact c2
  clear c2
  walk_nrm
  repeat (first | refine Walk.c rfl ?_ | refine Walk.cRet ?_ | refine Walk.cEnd ?_ | (refine Walk.cReg ?_; simp only [size5_0, size5_1, size5_2, size5_3, size5_4, size5_5, size5_6, size5_7, size5_8, size5_9, size5_10, size5_11, size5_12, size5_13, List.range, List.range.loop]) | (refine Walk.oq ?_; try walk_nrm) | (refine Walk.un ?_; walk_nrm))
  refine Walk.callV (x := .int .i64 (-1)) (W := w2) ?_ (ho_of (by conv => lhs; whnf) (by kernel_rfl)) (by rfl) (by decide) rfl Try.func15 (by kernel_rfl) (by rfl) ?_
  · try walk_nrm
    exact c3
  clear c3
  walk_nrm
  repeat (first | refine Walk.c rfl ?_ | refine Walk.cRet ?_ | refine Walk.cEnd ?_ | (refine Walk.cReg ?_; simp only [size5_0, size5_1, size5_2, size5_3, size5_4, size5_5, size5_6, size5_7, size5_8, size5_9, size5_10, size5_11, size5_12, size5_13, List.range, List.range.loop]) | (refine Walk.oq ?_; try walk_nrm) | (refine Walk.un ?_; walk_nrm))
  refine Walk.callV (x := .int .i64 (-1)) (W := w2) ?_ (ho_of (by conv => lhs; whnf) (by kernel_rfl)) (by rfl) (by decide) rfl Try.func15 (by kernel_rfl) (by rfl) ?_
  · try walk_nrm
    exact c4
  clear c4
  walk_nrm
  repeat (first | refine Walk.c rfl ?_ | refine Walk.cRet ?_ | refine Walk.cEnd ?_ | (refine Walk.cReg ?_; simp only [size5_0, size5_1, size5_2, size5_3, size5_4, size5_5, size5_6, size5_7, size5_8, size5_9, size5_10, size5_11, size5_12, size5_13, List.range, List.range.loop]) | (refine Walk.oq ?_; try walk_nrm) | (refine Walk.un ?_; walk_nrm))
  refine Walk.callV (x := .bool false) (W := w2) ?_ (ho_of (by conv => lhs; whnf) (by kernel_rfl)) (by rfl) (by decide) rfl Try.func17 (by kernel_rfl) (by rfl) ?_
  · try walk_nrm
    exact c5
  clear c5
  walk_nrm
  repeat (first | refine Walk.c rfl ?_ | refine Walk.cRet ?_ | refine Walk.cEnd ?_ | (refine Walk.cReg ?_; simp only [size5_0, size5_1, size5_2, size5_3, size5_4, size5_5, size5_6, size5_7, size5_8, size5_9, size5_10, size5_11, size5_12, size5_13, List.range, List.range.loop]) | (refine Walk.oq ?_; try walk_nrm) | (refine Walk.un ?_; walk_nrm))
  refine Walk.callV (x := .bool false) (W := w2) ?_ (ho_of (by conv => lhs; whnf) (by kernel_rfl)) (by rfl) (by decide) rfl Try.func18 (by kernel_rfl) (by rfl) ?_
  · try walk_nrm
    exact c6
  clear c6
  walk_nrm
  repeat (first | refine Walk.c rfl ?_ | refine Walk.cRet ?_ | refine Walk.cEnd ?_ | (refine Walk.cReg ?_; simp only [size5_0, size5_1, size5_2, size5_3, size5_4, size5_5, size5_6, size5_7, size5_8, size5_9, size5_10, size5_11, size5_12, size5_13, List.range, List.range.loop]) | (refine Walk.oq ?_; try walk_nrm) | (refine Walk.un ?_; walk_nrm))
  refine Walk.callV (x := .bool false) (W := w2) ?_ (ho_of (by conv => lhs; whnf) (by kernel_rfl)) (by rfl) (by decide) rfl Try.func16 (by kernel_rfl) (by rfl) ?_
  · try walk_nrm
    exact c7
  clear c7
  walk_nrm
  have hc0 : CallW Try.prog main V 16 #[.pointer (some ⟨P + 1, 0, none⟩), .iface 35 (.pointer (some ⟨P, 0, none⟩))] w2 (fun v w' => v = .bool false ∧ RI (nX W P (P + 1)) (wS0.tick 1 : Rs) w') := alerted15 (X := nX W P (P + 1)) (dl := 1) hA I (by decide) (.inl ⟨rfl, rfl⟩)
  clear I
  repeat (first | refine Walk.c rfl ?_ | refine Walk.cRet ?_ | refine Walk.cEnd ?_ | (refine Walk.cReg ?_; simp only [size5_0, size5_1, size5_2, size5_3, size5_4, size5_5, size5_6, size5_7, size5_8, size5_9, size5_10, size5_11, size5_12, size5_13, List.range, List.range.loop]) | (refine Walk.oq ?_; try walk_nrm) | (refine Walk.un ?_; walk_nrm))
  refine Walk.callW (Post := fun v w' => v = .bool false ∧ RI (nX W P (P + 1)) (wS0.tick 1 : Rs) w') ?_ (ho_of (by conv => lhs; whnf) (by kernel_rfl)) (by rfl) (by decide) rfl Try.func16 (by kernel_rfl) (by rfl) ?_
  · try walk_nrm
    exact hc0
  rintro v y0 ⟨rfl, J0⟩
  clear hc0
  walk_nrm
  have hc1 : CallW Try.prog main V 17 #[.pointer (some ⟨P + 1, 0, none⟩), .iface 35 (.pointer (some ⟨P, 0, none⟩))] y0 (fun v w' => v = .bool true ∧ RI (nX W P (P + 1)) (⟨2, fun _ => 0, true⟩ : Rs) w') := alert15 (X := nX W P (P + 1)) (dl := 1) hA J0 (by decide) (.inl ⟨rfl, rfl⟩)
  clear J0
  repeat (first | refine Walk.c rfl ?_ | refine Walk.cRet ?_ | refine Walk.cEnd ?_ | (refine Walk.cReg ?_; simp only [size5_0, size5_1, size5_2, size5_3, size5_4, size5_5, size5_6, size5_7, size5_8, size5_9, size5_10, size5_11, size5_12, size5_13, List.range, List.range.loop]) | (refine Walk.oq ?_; try walk_nrm) | (refine Walk.un ?_; walk_nrm))
  refine Walk.callW (Post := fun v w' => v = .bool true ∧ RI (nX W P (P + 1)) (⟨2, fun _ => 0, true⟩ : Rs) w') ?_ (ho_of (by conv => lhs; whnf) (by kernel_rfl)) (by rfl) (by decide) rfl Try.func17 (by kernel_rfl) (by rfl) ?_
  · try walk_nrm
    exact hc1
  rintro v y1 ⟨rfl, J1⟩
  clear hc1
  walk_nrm
  have hc2 : CallW Try.prog main V 16 #[.pointer (some ⟨P + 1, 0, none⟩), .iface 35 (.pointer (some ⟨P, 0, none⟩))] y1 (fun v w' => v = .bool true ∧ RI (nX W P (P + 1)) (⟨3, fun _ => 0, true⟩ : Rs) w') := alerted15 (X := nX W P (P + 1)) (dl := 1) hA J1 (by decide) (.inl ⟨rfl, rfl⟩)
  clear J1
  repeat (first | refine Walk.c rfl ?_ | refine Walk.cRet ?_ | refine Walk.cEnd ?_ | (refine Walk.cReg ?_; simp only [size5_0, size5_1, size5_2, size5_3, size5_4, size5_5, size5_6, size5_7, size5_8, size5_9, size5_10, size5_11, size5_12, size5_13, List.range, List.range.loop]) | (refine Walk.oq ?_; try walk_nrm) | (refine Walk.un ?_; walk_nrm))
  refine Walk.callW (Post := fun v w' => v = .bool true ∧ RI (nX W P (P + 1)) (⟨3, fun _ => 0, true⟩ : Rs) w') ?_ (ho_of (by conv => lhs; whnf) (by kernel_rfl)) (by rfl) (by decide) rfl Try.func16 (by kernel_rfl) (by rfl) ?_
  · try walk_nrm
    exact hc2
  rintro v y2 ⟨rfl, J2⟩
  clear hc2
  walk_nrm
  have hc3 : CallW Try.prog main V 18 #[.pointer (some ⟨P + 1, 0, none⟩), .iface 35 (.pointer (some ⟨P, 0, none⟩))] y2 (fun v w' => v = .bool true ∧ RI (nX W P (P + 1)) (⟨4, fun _ => 0, false⟩ : Rs) w') := clear15 (X := nX W P (P + 1)) (dl := 1) hA J2 (by decide) (.inl ⟨rfl, rfl⟩)
  clear J2
  repeat (first | refine Walk.c rfl ?_ | refine Walk.cRet ?_ | refine Walk.cEnd ?_ | (refine Walk.cReg ?_; simp only [size5_0, size5_1, size5_2, size5_3, size5_4, size5_5, size5_6, size5_7, size5_8, size5_9, size5_10, size5_11, size5_12, size5_13, List.range, List.range.loop]) | (refine Walk.oq ?_; try walk_nrm) | (refine Walk.un ?_; walk_nrm))
  refine Walk.callW (Post := fun v w' => v = .bool true ∧ RI (nX W P (P + 1)) (⟨4, fun _ => 0, false⟩ : Rs) w') ?_ (ho_of (by conv => lhs; whnf) (by kernel_rfl)) (by rfl) (by decide) rfl Try.func18 (by kernel_rfl) (by rfl) ?_
  · try walk_nrm
    exact hc3
  rintro v y3 ⟨rfl, J3⟩
  clear hc3
  walk_nrm
  have k4 : y3.cell? ⟨P, 0, none⟩ = some (.int .i64 4) := (cell_of J3.cnt 0).trans rfl
  have hold := J3.old
  clear J3 k0 r3 r4
  repeat (first | refine Walk.c rfl ?_ | refine Walk.cRet ?_ | refine Walk.cEnd ?_ | (refine Walk.cReg ?_; simp only [size5_0, size5_1, size5_2, size5_3, size5_4, size5_5, size5_6, size5_7, size5_8, size5_9, size5_10, size5_11, size5_12, size5_13, List.range, List.range.loop]) | (refine Walk.oq ?_; try walk_nrm) | (refine Walk.un ?_; walk_nrm))
  exact .stop fun d => ⟨⟨_, rfl, rfl, rfl, rfl, rfl, rfl⟩, hold⟩
theorem bn_b (q tries way : Int) (hw : 3 < way) (hA : ∀ b, Apart V b) (W : World) :
    Walk Try.prog main (DR V) (fun g w' => Closing 5 6 (.bool true) g ∧ ∀ b, b < W.heap.size → w'.heap[b]? = W.heap[b]?) (G (Frame.enter Try.prog 5 #[.int .i64 q, .int .i64 tries, .int .i64 way] .normal) []) W := by
  have r3 := run_ifaceS
  have r4 := ev_ifaceS
  have g1 : decide (way < 1) = false := decide_eq_false (by omega)
  have g3 : decide (3 < way) = true := decide_eq_true hw
  have hwt := waits_w (main := main) (V := V) hA W
  rw [enter_at _ Try.func5 code5_is]
  simp only [Try.ntmps5, List.size_toArray, List.length_cons, List.length_nil, Nat.reduceAdd, Nat.reduceSub, Array.replicate_succ, Array.replicate_zero, List.push_toArray, List.append_toArray, List.nil_append, List.cons_append]
  repeat (first | refine Walk.c rfl ?_ | refine Walk.cRet ?_ | refine Walk.cEnd ?_ | (refine Walk.cReg ?_; simp only [size5_0, size5_1, size5_2, size5_3, size5_4, size5_5, size5_6, size5_7, size5_8, size5_9, size5_10, size5_11, size5_12, size5_13, List.range, List.range.loop]) | (refine Walk.oq ?_; try walk_nrm) | (refine Walk.un ?_; walk_nrm))
  refine Walk.callW (Post := fun v w' => v = .bool true ∧ (∀ b, b < W.heap.size → w'.heap[b]? = W.heap[b]?) ∧ W.heap.size ≤ w'.heap.size) ?_ (ho_of (by conv => lhs; whnf) (by kernel_rfl)) (by rfl) (by decide) rfl Try.func12 (by kernel_rfl) (by rfl) ?_
  · try walk_nrm
    exact hwt
  rintro v w0 ⟨rfl, O0, Z0⟩
  clear hwt
  walk_nrm
  repeat (first | refine Walk.c rfl ?_ | refine Walk.cRet ?_ | refine Walk.cEnd ?_ | (refine Walk.cReg ?_; simp only [size5_0, size5_1, size5_2, size5_3, size5_4, size5_5, size5_6, size5_7, size5_8, size5_9, size5_10, size5_11, size5_12, size5_13, List.range, List.range.loop]) | (refine Walk.oq ?_; try walk_nrm) | (refine Walk.un ?_; walk_nrm))
  (refine Walk.oa ?_; try walk_nrm)
  have s1 : (w0.alloc (.cells #[.int .i64 0] 37)).heap.size = w0.heap.size + 1 := by simp
  have o1 : ∀ b, b < w0.heap.size → (w0.alloc (.cells #[.int .i64 0] 37)).heap[b]? = w0.heap[b]? := fun b hb => heap_new_lt _ _ hb
  have d1 := heap_alloc_new w0 (.cells #[.int .i64 0] 37)
  obtain ⟨P, hP⟩ : ∃ P, w0.heap.size = P := ⟨_, rfl⟩
  rw [hP] at s1 o1 d1 Z0 ⊢
  generalize w0.alloc (.cells #[.int .i64 0] 37) = w1 at *
  repeat (first | refine Walk.c rfl ?_ | refine Walk.cRet ?_ | refine Walk.cEnd ?_ | (refine Walk.cReg ?_; simp only [size5_0, size5_1, size5_2, size5_3, size5_4, size5_5, size5_6, size5_7, size5_8, size5_9, size5_10, size5_11, size5_12, size5_13, List.range, List.range.loop]) | (refine Walk.oq ?_; try walk_nrm) | (refine Walk.un ?_; walk_nrm))
  (refine Walk.oa ?_; try walk_nrm)
  have s2 : (w1.alloc (.cells #[.slice none 0 0, .int .u32 0] 54)).heap.size = P + 2 := by simp [s1]
  have o2 : ∀ b, b < P + 1 → (w1.alloc (.cells #[.slice none 0 0, .int .u32 0] 54)).heap[b]? = w1.heap[b]? := fun b hb => heap_new_lt _ _ (by omega)
  have d2 : (w1.alloc (.cells #[.slice none 0 0, .int .u32 0] 54)).heap[P + 1]? = some (.cells #[.slice none 0 0, .int .u32 0] 54) := s1 ▸ heap_alloc_new w1 (.cells #[.slice none 0 0, .int .u32 0] 54)
  try rw [s1]
  change Walk Try.prog main _ _ _ (w1.alloc (.cells #[.slice none 0 0, .int .u32 0] 54))
  generalize w1.alloc (.cells #[.slice none 0 0, .int .u32 0] 54) = w2 at *
  have I : RI (nX W P (P + 1)) wS0 w2 := nX_ri ((o2 P (by omega)).trans d1) d2 Z0 (by omega) (fun b hb => (o2 b (by omega)).trans ((o1 b (by omega)).trans (O0 b hb))) (by omega)
  have k0 : w2.cell? ⟨P, 0, none⟩ = some (.int .i64 0) := (cell_of I.cnt 0).trans rfl
  have kb : w2.cell? ⟨P + 1, 0, none⟩ = some (.slice none 0 0) := (cell_of d2 0).trans rfl
  have hn0 := none15_nil (main := main) (V := V) w2
  have hn1 := none15_yes (main := main) (V := V) (P + 1) none 0 w2 kb
  clear s1 o1 d1 s2 o2 d2 O0 Z0 kb hP
  have c1 := wait_kind (main := main) (V := V) (sv := cntV P) (.pointer none) q tries way (.inr hw) w2
  have c2 := wait_kind (main := main) (V := V) (sv := cntV P) (.pointer (some ⟨P + 1, 0, none⟩)) q tries way (.inr hw) w2
  clear hw
  have c3 := limit_none (main := main) (V := V) (sv := cntV P) (.pointer none) w2 hn0
  have c4 := limit_none (main := main) (V := V) (sv := cntV P) (.pointer (some ⟨P + 1, 0, none⟩)) w2 hn1
  have c5 := nil_alert (main := main) (V := V) (cntV P) w2
  have c6 := nil_clear (main := main) (V := V) (cntV P) w2
  have c7 := nil_alerted (main := main) (V := V) (cntV P) w2
  clear hn0 hn1
  unfold cntV at c1 c2 c3 c4 c5 c6 c7
  repeat (first | refine Walk.c rfl ?_ | refine Walk.cRet ?_ | refine Walk.cEnd ?_ | (refine Walk.cReg ?_; simp only [size5_0, size5_1, size5_2, size5_3, size5_4, size5_5, size5_6, size5_7, size5_8, size5_9, size5_10, size5_11, size5_12, size5_13, List.range, List.range.loop]) | (refine Walk.oq ?_; try walk_nrm) | (refine Walk.un ?_; walk_nrm))
  refine Walk.callV (x := .tuple #[.int .i64 0, .int .i64 2]) (W := w2) ?_ (ho_of (by conv => lhs; whnf) (by kernel_rfl)) (by rfl) (by decide) rfl Try.func14 (by kernel_rfl) (by rfl) ?_
  · try walk_nrm
    exact c1
  clear c1
  walk_nrm
  repeat (first | refine Walk.c rfl ?_ | refine Walk.cRet ?_ | refine Walk.cEnd ?_ | (refine Walk.cReg ?_; simp only [size5_0, size5_1, size5_2, size5_3, size5_4, size5_5, size5_6, size5_7, size5_8, size5_9, size5_10, size5_11, size5_12, size5_13, List.range, List.range.loop]) | (refine Walk.oq ?_; try walk_nrm) | (refine Walk.un ?_; walk_nrm))
  refine Walk.callV (x := .tuple #[.int .i64 0, .int .i64 2]) (W := w2) ?_ (ho_of (by conv => lhs; whnf) (by kernel_rfl)) (by rfl) (by decide) rfl Try.func14 (by kernel_rfl) (by rfl) ?_
  · try walk_nrm
    exact c2
  clear c2
  walk_nrm
  repeat (first | refine Walk.c rfl ?_ | refine Walk.cRet ?_ | refine Walk.cEnd ?_ | (refine Walk.cReg ?_; simp only [size5_0, size5_1, size5_2, size5_3, size5_4, size5_5, size5_6, size5_7, size5_8, size5_9, size5_10, size5_11, size5_12, size5_13, List.range, List.range.loop]) | (refine Walk.oq ?_; try walk_nrm) | (refine Walk.un ?_; walk_nrm))
  refine Walk.callV (x := .int .i64 (-1)) (W := w2) ?_ (ho_of (by conv => lhs; whnf) (by kernel_rfl)) (by rfl) (by decide) rfl Try.func15 (by kernel_rfl) (by rfl) ?_
  · try walk_nrm
    exact c3
  clear c3
  walk_nrm
  repeat (first | refine Walk.c rfl ?_ | refine Walk.cRet ?_ | refine Walk.cEnd ?_ | (refine Walk.cReg ?_; simp only [size5_0, size5_1, size5_2, size5_3, size5_4, size5_5, size5_6, size5_7, size5_8, size5_9, size5_10, size5_11, size5_12, size5_13, List.range, List.range.loop]) | (refine Walk.oq ?_; try walk_nrm) | (refine Walk.un ?_; walk_nrm))
  refine Walk.callV (x := .int .i64 (-1)) (W := w2) ?_ (ho_of (by conv => lhs; whnf) (by kernel_rfl)) (by rfl) (by decide) rfl Try.func15 (by kernel_rfl) (by rfl) ?_
  · try walk_nrm
    exact c4
  clear c4
  walk_nrm
  repeat (first | refine Walk.c rfl ?_ | refine Walk.cRet ?_ | refine Walk.cEnd ?_ | (refine Walk.cReg ?_; simp only [size5_0, size5_1, size5_2, size5_3, size5_4, size5_5, size5_6, size5_7, size5_8, size5_9, size5_10, size5_11, size5_12, size5_13, List.range, List.range.loop]) | (refine Walk.oq ?_; try walk_nrm) | (refine Walk.un ?_; walk_nrm))
  refine Walk.callV (x := .bool false) (W := w2) ?_ (ho_of (by conv => lhs; whnf) (by kernel_rfl)) (by rfl) (by decide) rfl Try.func17 (by kernel_rfl) (by rfl) ?_
  · try walk_nrm
    exact c5
  clear c5
  walk_nrm
  repeat (first | refine Walk.c rfl ?_ | refine Walk.cRet ?_ | refine Walk.cEnd ?_ | (refine Walk.cReg ?_; simp only [size5_0, size5_1, size5_2, size5_3, size5_4, size5_5, size5_6, size5_7, size5_8, size5_9, size5_10, size5_11, size5_12, size5_13, List.range, List.range.loop]) | (refine Walk.oq ?_; try walk_nrm) | (refine Walk.un ?_; walk_nrm))
  refine Walk.callV (x := .bool false) (W := w2) ?_ (ho_of (by conv => lhs; whnf) (by kernel_rfl)) (by rfl) (by decide) rfl Try.func18 (by kernel_rfl) (by rfl) ?_
  · try walk_nrm
    exact c6
  clear c6
  walk_nrm
  repeat (first | refine Walk.c rfl ?_ | refine Walk.cRet ?_ | refine Walk.cEnd ?_ | (refine Walk.cReg ?_; simp only [size5_0, size5_1, size5_2, size5_3, size5_4, size5_5, size5_6, size5_7, size5_8, size5_9, size5_10, size5_11, size5_12, size5_13, List.range, List.range.loop]) | (refine Walk.oq ?_; try walk_nrm) | (refine Walk.un ?_; walk_nrm))
  refine Walk.callV (x := .bool false) (W := w2) ?_ (ho_of (by conv => lhs; whnf) (by kernel_rfl)) (by rfl) (by decide) rfl Try.func16 (by kernel_rfl) (by rfl) ?_
  · try walk_nrm
    exact c7
  clear c7
  walk_nrm
  have hc0 : CallW Try.prog main V 16 #[.pointer (some ⟨P + 1, 0, none⟩), .iface 35 (.pointer (some ⟨P, 0, none⟩))] w2 (fun v w' => v = .bool false ∧ RI (nX W P (P + 1)) (wS0.tick 1 : Rs) w') := alerted15 (X := nX W P (P + 1)) (dl := 1) hA I (by decide) (.inl ⟨rfl, rfl⟩)
  clear I
  repeat (first | refine Walk.c rfl ?_ | refine Walk.cRet ?_ | refine Walk.cEnd ?_ | (refine Walk.cReg ?_; simp only [size5_0, size5_1, size5_2, size5_3, size5_4, size5_5, size5_6, size5_7, size5_8, size5_9, size5_10, size5_11, size5_12, size5_13, List.range, List.range.loop]) | (refine Walk.oq ?_; try walk_nrm) | (refine Walk.un ?_; walk_nrm))
  refine Walk.callW (Post := fun v w' => v = .bool false ∧ RI (nX W P (P + 1)) (wS0.tick 1 : Rs) w') ?_ (ho_of (by conv => lhs; whnf) (by kernel_rfl)) (by rfl) (by decide) rfl Try.func16 (by kernel_rfl) (by rfl) ?_
  · try walk_nrm
    exact hc0
  rintro v y0 ⟨rfl, J0⟩
  clear hc0
  walk_nrm
  have hc1 : CallW Try.prog main V 17 #[.pointer (some ⟨P + 1, 0, none⟩), .iface 35 (.pointer (some ⟨P, 0, none⟩))] y0 (fun v w' => v = .bool true ∧ RI (nX W P (P + 1)) (⟨2, fun _ => 0, true⟩ : Rs) w') := alert15 (X := nX W P (P + 1)) (dl := 1) hA J0 (by decide) (.inl ⟨rfl, rfl⟩)
  clear J0
  repeat (first | refine Walk.c rfl ?_ | refine Walk.cRet ?_ | refine Walk.cEnd ?_ | (refine Walk.cReg ?_; simp only [size5_0, size5_1, size5_2, size5_3, size5_4, size5_5, size5_6, size5_7, size5_8, size5_9, size5_10, size5_11, size5_12, size5_13, List.range, List.range.loop]) | (refine Walk.oq ?_; try walk_nrm) | (refine Walk.un ?_; walk_nrm))
  refine Walk.callW (Post := fun v w' => v = .bool true ∧ RI (nX W P (P + 1)) (⟨2, fun _ => 0, true⟩ : Rs) w') ?_ (ho_of (by conv => lhs; whnf) (by kernel_rfl)) (by rfl) (by decide) rfl Try.func17 (by kernel_rfl) (by rfl) ?_
  · try walk_nrm
    exact hc1
  rintro v y1 ⟨rfl, J1⟩
  clear hc1
  walk_nrm
  have hc2 : CallW Try.prog main V 16 #[.pointer (some ⟨P + 1, 0, none⟩), .iface 35 (.pointer (some ⟨P, 0, none⟩))] y1 (fun v w' => v = .bool true ∧ RI (nX W P (P + 1)) (⟨3, fun _ => 0, true⟩ : Rs) w') := alerted15 (X := nX W P (P + 1)) (dl := 1) hA J1 (by decide) (.inl ⟨rfl, rfl⟩)
  clear J1
  repeat (first | refine Walk.c rfl ?_ | refine Walk.cRet ?_ | refine Walk.cEnd ?_ | (refine Walk.cReg ?_; simp only [size5_0, size5_1, size5_2, size5_3, size5_4, size5_5, size5_6, size5_7, size5_8, size5_9, size5_10, size5_11, size5_12, size5_13, List.range, List.range.loop]) | (refine Walk.oq ?_; try walk_nrm) | (refine Walk.un ?_; walk_nrm))
  refine Walk.callW (Post := fun v w' => v = .bool true ∧ RI (nX W P (P + 1)) (⟨3, fun _ => 0, true⟩ : Rs) w') ?_ (ho_of (by conv => lhs; whnf) (by kernel_rfl)) (by rfl) (by decide) rfl Try.func16 (by kernel_rfl) (by rfl) ?_
  · try walk_nrm
    exact hc2
  rintro v y2 ⟨rfl, J2⟩
  clear hc2
  walk_nrm
  have hc3 : CallW Try.prog main V 18 #[.pointer (some ⟨P + 1, 0, none⟩), .iface 35 (.pointer (some ⟨P, 0, none⟩))] y2 (fun v w' => v = .bool true ∧ RI (nX W P (P + 1)) (⟨4, fun _ => 0, false⟩ : Rs) w') := clear15 (X := nX W P (P + 1)) (dl := 1) hA J2 (by decide) (.inl ⟨rfl, rfl⟩)
  clear J2
  repeat (first | refine Walk.c rfl ?_ | refine Walk.cRet ?_ | refine Walk.cEnd ?_ | (refine Walk.cReg ?_; simp only [size5_0, size5_1, size5_2, size5_3, size5_4, size5_5, size5_6, size5_7, size5_8, size5_9, size5_10, size5_11, size5_12, size5_13, List.range, List.range.loop]) | (refine Walk.oq ?_; try walk_nrm) | (refine Walk.un ?_; walk_nrm))
  refine Walk.callW (Post := fun v w' => v = .bool true ∧ RI (nX W P (P + 1)) (⟨4, fun _ => 0, false⟩ : Rs) w') ?_ (ho_of (by conv => lhs; whnf) (by kernel_rfl)) (by rfl) (by decide) rfl Try.func18 (by kernel_rfl) (by rfl) ?_
  · try walk_nrm
    exact hc3
  rintro v y3 ⟨rfl, J3⟩
  clear hc3
  walk_nrm
  have k4 : y3.cell? ⟨P, 0, none⟩ = some (.int .i64 4) := (cell_of J3.cnt 0).trans rfl
  have hold := J3.old
  clear J3 k0 r3 r4
  repeat (first | refine Walk.c rfl ?_ | refine Walk.cRet ?_ | refine Walk.cEnd ?_ | (refine Walk.cReg ?_; simp only [size5_0, size5_1, size5_2, size5_3, size5_4, size5_5, size5_6, size5_7, size5_8, size5_9, size5_10, size5_11, size5_12, size5_13, List.range, List.range.loop]) | (refine Walk.oq ?_; try walk_nrm) | (refine Walk.un ?_; walk_nrm))
  exact .stop fun d => ⟨⟨_, rfl, rfl, rfl, rfl, rfl, rfl⟩, hold⟩
theorem bn_c (q tries way : Int) (hw1 : 1 ≤ way) (hw3 : way ≤ 3) (hA : ∀ b, Apart V b) (W : World) :
    Walk Try.prog main (DR V) (fun g w' => Closing 5 6 (.bool true) g ∧ ∀ b, b < W.heap.size → w'.heap[b]? = W.heap[b]?) (G (Frame.enter Try.prog 5 #[.int .i64 q, .int .i64 tries, .int .i64 way] .normal) []) W := by
  have r3 := run_ifaceS
  have r4 := ev_ifaceS
  have g1 : decide (way < 1) = false := decide_eq_false (by omega)
  have g3 : decide (3 < way) = false := decide_eq_false (by omega)
  have hwt := waits_w (main := main) (V := V) hA W
  rw [enter_at _ Try.func5 code5_is]
  simp only [Try.ntmps5, List.size_toArray, List.length_cons, List.length_nil, Nat.reduceAdd, Nat.reduceSub, Array.replicate_succ, Array.replicate_zero, List.push_toArray, List.append_toArray, List.nil_append, List.cons_append]
  repeat (first | refine Walk.c rfl ?_ | refine Walk.cRet ?_ | refine Walk.cEnd ?_ | (refine Walk.cReg ?_; simp only [size5_0, size5_1, size5_2, size5_3, size5_4, size5_5, size5_6, size5_7, size5_8, size5_9, size5_10, size5_11, size5_12, size5_13, List.range, List.range.loop]) | (refine Walk.oq ?_; try walk_nrm) | (refine Walk.un ?_; walk_nrm))
  refine Walk.callW (Post := fun v w' => v = .bool true ∧ (∀ b, b < W.heap.size → w'.heap[b]? = W.heap[b]?) ∧ W.heap.size ≤ w'.heap.size) ?_ (ho_of (by conv => lhs; whnf) (by kernel_rfl)) (by rfl) (by decide) rfl Try.func12 (by kernel_rfl) (by rfl) ?_
  · try walk_nrm
    exact hwt
  rintro v w0 ⟨rfl, O0, Z0⟩
  clear hwt
  walk_nrm
  repeat (first | refine Walk.c rfl ?_ | refine Walk.cRet ?_ | refine Walk.cEnd ?_ | (refine Walk.cReg ?_; simp only [size5_0, size5_1, size5_2, size5_3, size5_4, size5_5, size5_6, size5_7, size5_8, size5_9, size5_10, size5_11, size5_12, size5_13, List.range, List.range.loop]) | (refine Walk.oq ?_; try walk_nrm) | (refine Walk.un ?_; walk_nrm))
  (refine Walk.oa ?_; try walk_nrm)
  have s1 : (w0.alloc (.cells #[.int .i64 0] 37)).heap.size = w0.heap.size + 1 := by simp
  have o1 : ∀ b, b < w0.heap.size → (w0.alloc (.cells #[.int .i64 0] 37)).heap[b]? = w0.heap[b]? := fun b hb => heap_new_lt _ _ hb
  have d1 := heap_alloc_new w0 (.cells #[.int .i64 0] 37)
  obtain ⟨P, hP⟩ : ∃ P, w0.heap.size = P := ⟨_, rfl⟩
  rw [hP] at s1 o1 d1 Z0 ⊢
  generalize w0.alloc (.cells #[.int .i64 0] 37) = w1 at *
  repeat (first | refine Walk.c rfl ?_ | refine Walk.cRet ?_ | refine Walk.cEnd ?_ | (refine Walk.cReg ?_; simp only [size5_0, size5_1, size5_2, size5_3, size5_4, size5_5, size5_6, size5_7, size5_8, size5_9, size5_10, size5_11, size5_12, size5_13, List.range, List.range.loop]) | (refine Walk.oq ?_; try walk_nrm) | (refine Walk.un ?_; walk_nrm))
  (refine Walk.oa ?_; try walk_nrm)
  have s2 : (w1.alloc (.cells #[.slice none 0 0, .int .u32 0] 54)).heap.size = P + 2 := by simp [s1]
  have o2 : ∀ b, b < P + 1 → (w1.alloc (.cells #[.slice none 0 0, .int .u32 0] 54)).heap[b]? = w1.heap[b]? := fun b hb => heap_new_lt _ _ (by omega)
  have d2 : (w1.alloc (.cells #[.slice none 0 0, .int .u32 0] 54)).heap[P + 1]? = some (.cells #[.slice none 0 0, .int .u32 0] 54) := s1 ▸ heap_alloc_new w1 (.cells #[.slice none 0 0, .int .u32 0] 54)
  try rw [s1]
  change Walk Try.prog main _ _ _ (w1.alloc (.cells #[.slice none 0 0, .int .u32 0] 54))
  generalize w1.alloc (.cells #[.slice none 0 0, .int .u32 0] 54) = w2 at *
  have I : RI (nX W P (P + 1)) wS0 w2 := nX_ri ((o2 P (by omega)).trans d1) d2 Z0 (by omega) (fun b hb => (o2 b (by omega)).trans ((o1 b (by omega)).trans (O0 b hb))) (by omega)
  have k0 : w2.cell? ⟨P, 0, none⟩ = some (.int .i64 0) := (cell_of I.cnt 0).trans rfl
  have kb : w2.cell? ⟨P + 1, 0, none⟩ = some (.slice none 0 0) := (cell_of d2 0).trans rfl
  have hn0 := none15_nil (main := main) (V := V) w2
  have hn1 := none15_yes (main := main) (V := V) (P + 1) none 0 w2 kb
  clear s1 o1 d1 s2 o2 d2 O0 Z0 kb hP
  have c1 := wait_none (main := main) (V := V) (sv := cntV P) (.pointer none) q tries way hw1 hw3 w2 hn0
  have c2 := wait_none (main := main) (V := V) (sv := cntV P) (.pointer (some ⟨P + 1, 0, none⟩)) q tries way hw1 hw3 w2 hn1
  clear hw1 hw3
  have c3 := limit_none (main := main) (V := V) (sv := cntV P) (.pointer none) w2 hn0
  have c4 := limit_none (main := main) (V := V) (sv := cntV P) (.pointer (some ⟨P + 1, 0, none⟩)) w2 hn1
  have c5 := nil_alert (main := main) (V := V) (cntV P) w2
  have c6 := nil_clear (main := main) (V := V) (cntV P) w2
  have c7 := nil_alerted (main := main) (V := V) (cntV P) w2
  clear hn0 hn1
  unfold cntV at c1 c2 c3 c4 c5 c6 c7
  repeat (first | refine Walk.c rfl ?_ | refine Walk.cRet ?_ | refine Walk.cEnd ?_ | (refine Walk.cReg ?_; simp only [size5_0, size5_1, size5_2, size5_3, size5_4, size5_5, size5_6, size5_7, size5_8, size5_9, size5_10, size5_11, size5_12, size5_13, List.range, List.range.loop]) | (refine Walk.oq ?_; try walk_nrm) | (refine Walk.un ?_; walk_nrm))
  refine Walk.callV (x := .tuple #[.int .i64 0, .int .i64 6]) (W := w2) ?_ (ho_of (by conv => lhs; whnf) (by kernel_rfl)) (by rfl) (by decide) rfl Try.func14 (by kernel_rfl) (by rfl) ?_
  · try walk_nrm
    exact c1
  clear c1
  walk_nrm
  repeat (first | refine Walk.c rfl ?_ | refine Walk.cRet ?_ | refine Walk.cEnd ?_ | (refine Walk.cReg ?_; simp only [size5_0, size5_1, size5_2, size5_3, size5_4, size5_5, size5_6, size5_7, size5_8, size5_9, size5_10, size5_11, size5_12, size5_13, List.range, List.range.loop]) | (refine Walk.oq ?_; try walk_nrm) | (refine Walk.un ?_; walk_nrm))
  refine Walk.callV (x := .tuple #[.int .i64 0, .int .i64 6]) (W := w2) ?_ (ho_of (by conv => lhs; whnf) (by kernel_rfl)) (by rfl) (by decide) rfl Try.func14 (by kernel_rfl) (by rfl) ?_
  · try walk_nrm
    exact c2
  clear c2
  walk_nrm
  repeat (first | refine Walk.c rfl ?_ | refine Walk.cRet ?_ | refine Walk.cEnd ?_ | (refine Walk.cReg ?_; simp only [size5_0, size5_1, size5_2, size5_3, size5_4, size5_5, size5_6, size5_7, size5_8, size5_9, size5_10, size5_11, size5_12, size5_13, List.range, List.range.loop]) | (refine Walk.oq ?_; try walk_nrm) | (refine Walk.un ?_; walk_nrm))
  refine Walk.callV (x := .int .i64 (-1)) (W := w2) ?_ (ho_of (by conv => lhs; whnf) (by kernel_rfl)) (by rfl) (by decide) rfl Try.func15 (by kernel_rfl) (by rfl) ?_
  · try walk_nrm
    exact c3
  clear c3
  walk_nrm
  repeat (first | refine Walk.c rfl ?_ | refine Walk.cRet ?_ | refine Walk.cEnd ?_ | (refine Walk.cReg ?_; simp only [size5_0, size5_1, size5_2, size5_3, size5_4, size5_5, size5_6, size5_7, size5_8, size5_9, size5_10, size5_11, size5_12, size5_13, List.range, List.range.loop]) | (refine Walk.oq ?_; try walk_nrm) | (refine Walk.un ?_; walk_nrm))
  refine Walk.callV (x := .int .i64 (-1)) (W := w2) ?_ (ho_of (by conv => lhs; whnf) (by kernel_rfl)) (by rfl) (by decide) rfl Try.func15 (by kernel_rfl) (by rfl) ?_
  · try walk_nrm
    exact c4
  clear c4
  walk_nrm
  repeat (first | refine Walk.c rfl ?_ | refine Walk.cRet ?_ | refine Walk.cEnd ?_ | (refine Walk.cReg ?_; simp only [size5_0, size5_1, size5_2, size5_3, size5_4, size5_5, size5_6, size5_7, size5_8, size5_9, size5_10, size5_11, size5_12, size5_13, List.range, List.range.loop]) | (refine Walk.oq ?_; try walk_nrm) | (refine Walk.un ?_; walk_nrm))
  refine Walk.callV (x := .bool false) (W := w2) ?_ (ho_of (by conv => lhs; whnf) (by kernel_rfl)) (by rfl) (by decide) rfl Try.func17 (by kernel_rfl) (by rfl) ?_
  · try walk_nrm
    exact c5
  clear c5
  walk_nrm
  repeat (first | refine Walk.c rfl ?_ | refine Walk.cRet ?_ | refine Walk.cEnd ?_ | (refine Walk.cReg ?_; simp only [size5_0, size5_1, size5_2, size5_3, size5_4, size5_5, size5_6, size5_7, size5_8, size5_9, size5_10, size5_11, size5_12, size5_13, List.range, List.range.loop]) | (refine Walk.oq ?_; try walk_nrm) | (refine Walk.un ?_; walk_nrm))
  refine Walk.callV (x := .bool false) (W := w2) ?_ (ho_of (by conv => lhs; whnf) (by kernel_rfl)) (by rfl) (by decide) rfl Try.func18 (by kernel_rfl) (by rfl) ?_
  · try walk_nrm
    exact c6
  clear c6
  walk_nrm
  repeat (first | refine Walk.c rfl ?_ | refine Walk.cRet ?_ | refine Walk.cEnd ?_ | (refine Walk.cReg ?_; simp only [size5_0, size5_1, size5_2, size5_3, size5_4, size5_5, size5_6, size5_7, size5_8, size5_9, size5_10, size5_11, size5_12, size5_13, List.range, List.range.loop]) | (refine Walk.oq ?_; try walk_nrm) | (refine Walk.un ?_; walk_nrm))
  refine Walk.callV (x := .bool false) (W := w2) ?_ (ho_of (by conv => lhs; whnf) (by kernel_rfl)) (by rfl) (by decide) rfl Try.func16 (by kernel_rfl) (by rfl) ?_
  · try walk_nrm
    exact c7
  clear c7
  walk_nrm
  have hc0 : CallW Try.prog main V 16 #[.pointer (some ⟨P + 1, 0, none⟩), .iface 35 (.pointer (some ⟨P, 0, none⟩))] w2 (fun v w' => v = .bool false ∧ RI (nX W P (P + 1)) (wS0.tick 1 : Rs) w') := alerted15 (X := nX W P (P + 1)) (dl := 1) hA I (by decide) (.inl ⟨rfl, rfl⟩)
  clear I
  repeat (first | refine Walk.c rfl ?_ | refine Walk.cRet ?_ | refine Walk.cEnd ?_ | (refine Walk.cReg ?_; simp only [size5_0, size5_1, size5_2, size5_3, size5_4, size5_5, size5_6, size5_7, size5_8, size5_9, size5_10, size5_11, size5_12, size5_13, List.range, List.range.loop]) | (refine Walk.oq ?_; try walk_nrm) | (refine Walk.un ?_; walk_nrm))
  refine Walk.callW (Post := fun v w' => v = .bool false ∧ RI (nX W P (P + 1)) (wS0.tick 1 : Rs) w') ?_ (ho_of (by conv => lhs; whnf) (by kernel_rfl)) (by rfl) (by decide) rfl Try.func16 (by kernel_rfl) (by rfl) ?_
  · try walk_nrm
    exact hc0
  rintro v y0 ⟨rfl, J0⟩
  clear hc0
  walk_nrm
  have hc1 : CallW Try.prog main V 17 #[.pointer (some ⟨P + 1, 0, none⟩), .iface 35 (.pointer (some ⟨P, 0, none⟩))] y0 (fun v w' => v = .bool true ∧ RI (nX W P (P + 1)) (⟨2, fun _ => 0, true⟩ : Rs) w') := alert15 (X := nX W P (P + 1)) (dl := 1) hA J0 (by decide) (.inl ⟨rfl, rfl⟩)
  clear J0
  repeat (first | refine Walk.c rfl ?_ | refine Walk.cRet ?_ | refine Walk.cEnd ?_ | (refine Walk.cReg ?_; simp only [size5_0, size5_1, size5_2, size5_3, size5_4, size5_5, size5_6, size5_7, size5_8, size5_9, size5_10, size5_11, size5_12, size5_13, List.range, List.range.loop]) | (refine Walk.oq ?_; try walk_nrm) | (refine Walk.un ?_; walk_nrm))
  refine Walk.callW (Post := fun v w' => v = .bool true ∧ RI (nX W P (P + 1)) (⟨2, fun _ => 0, true⟩ : Rs) w') ?_ (ho_of (by conv => lhs; whnf) (by kernel_rfl)) (by rfl) (by decide) rfl Try.func17 (by kernel_rfl) (by rfl) ?_
  · try walk_nrm
    exact hc1
  rintro v y1 ⟨rfl, J1⟩
  clear hc1
  walk_nrm
  have hc2 : CallW Try.prog main V 16 #[.pointer (some ⟨P + 1, 0, none⟩), .iface 35 (.pointer (some ⟨P, 0, none⟩))] y1 (fun v w' => v = .bool true ∧ RI (nX W P (P + 1)) (⟨3, fun _ => 0, true⟩ : Rs) w') := alerted15 (X := nX W P (P + 1)) (dl := 1) hA J1 (by decide) (.inl ⟨rfl, rfl⟩)
  clear J1
  repeat (first | refine Walk.c rfl ?_ | refine Walk.cRet ?_ | refine Walk.cEnd ?_ | (refine Walk.cReg ?_; simp only [size5_0, size5_1, size5_2, size5_3, size5_4, size5_5, size5_6, size5_7, size5_8, size5_9, size5_10, size5_11, size5_12, size5_13, List.range, List.range.loop]) | (refine Walk.oq ?_; try walk_nrm) | (refine Walk.un ?_; walk_nrm))
  refine Walk.callW (Post := fun v w' => v = .bool true ∧ RI (nX W P (P + 1)) (⟨3, fun _ => 0, true⟩ : Rs) w') ?_ (ho_of (by conv => lhs; whnf) (by kernel_rfl)) (by rfl) (by decide) rfl Try.func16 (by kernel_rfl) (by rfl) ?_
  · try walk_nrm
    exact hc2
  rintro v y2 ⟨rfl, J2⟩
  clear hc2
  walk_nrm
  have hc3 : CallW Try.prog main V 18 #[.pointer (some ⟨P + 1, 0, none⟩), .iface 35 (.pointer (some ⟨P, 0, none⟩))] y2 (fun v w' => v = .bool true ∧ RI (nX W P (P + 1)) (⟨4, fun _ => 0, false⟩ : Rs) w') := clear15 (X := nX W P (P + 1)) (dl := 1) hA J2 (by decide) (.inl ⟨rfl, rfl⟩)
  clear J2
  repeat (first | refine Walk.c rfl ?_ | refine Walk.cRet ?_ | refine Walk.cEnd ?_ | (refine Walk.cReg ?_; simp only [size5_0, size5_1, size5_2, size5_3, size5_4, size5_5, size5_6, size5_7, size5_8, size5_9, size5_10, size5_11, size5_12, size5_13, List.range, List.range.loop]) | (refine Walk.oq ?_; try walk_nrm) | (refine Walk.un ?_; walk_nrm))
  refine Walk.callW (Post := fun v w' => v = .bool true ∧ RI (nX W P (P + 1)) (⟨4, fun _ => 0, false⟩ : Rs) w') ?_ (ho_of (by conv => lhs; whnf) (by kernel_rfl)) (by rfl) (by decide) rfl Try.func18 (by kernel_rfl) (by rfl) ?_
  · try walk_nrm
    exact hc3
  rintro v y3 ⟨rfl, J3⟩
  clear hc3
  walk_nrm
  have k4 : y3.cell? ⟨P, 0, none⟩ = some (.int .i64 4) := (cell_of J3.cnt 0).trans rfl
  have hold := J3.old
  clear J3 k0 r3 r4
  repeat (first | refine Walk.c rfl ?_ | refine Walk.cRet ?_ | refine Walk.cEnd ?_ | (refine Walk.cReg ?_; simp only [size5_0, size5_1, size5_2, size5_3, size5_4, size5_5, size5_6, size5_7, size5_8, size5_9, size5_10, size5_11, size5_12, size5_13, List.range, List.range.loop]) | (refine Walk.oq ?_; try walk_nrm) | (refine Walk.un ?_; walk_nrm))
  exact .stop fun d => ⟨⟨_, rfl, rfl, rfl, rfl, rfl, rfl⟩, hold⟩
end
end
end Go.Proofs.Ytgfajibjedfkdaa
