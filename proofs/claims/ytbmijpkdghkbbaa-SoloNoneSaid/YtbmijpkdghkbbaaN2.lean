/- Part 2. -/
import Derived.Test.YtbmijpkdghkbbaaN1
set_option linter.unusedSimpArgs false
set_option linter.unusedVariables false
set_option maxHeartbeats 8000000
set_option maxRecDepth 100000
namespace Go.Proofs.Ytbmijpkdghkbbaa
open Go.Conc Go.RowKit Go.Relay
open Go.ConcN (upd upd_ne upd_same)
section
section
variable {P : Program} {main : Bool} {V : Nat → Option Wait} {Stop : Goroutine → World → Prop} {b : Frame} {a : Act} {cs : List Frame} {w : World} {fn : Func} {todo : List Item} {c : Frame} {t s r : Tmp}
theorem Walk.on3 (hn : b.kind = .normal) (hd : a.defers = []) (hf : P.funcs[b.fn]? = some fn) (hr : fn.results = #[.tmp t, .tmp s, .tmp r]) (h : Walk P main (DR V) Stop (G (c.finish (.tuple #[a.tmps.getD t undef, a.tmps.getD s undef, a.tmps.getD r undef])) cs) w) : Walk P main (DR V) Stop (G { b.at a todo with mode := .returning } (c :: cs)) w :=
  Walk.ctl rfl (fun w => stepG_leave (v := .tuple #[a.tmps.getD t undef, a.tmps.getD s undef, a.tmps.getD r undef]) hn hd hf (by simp [results, hr]) (by simp [results, hr])) h
end
end
section
theorem size18_0 : reg18_0.size = 2 := by kernel_rfl
theorem size18_1 : reg18_1.size = 13 := by kernel_rfl
theorem size18_2 : reg18_2.size = 2 := by kernel_rfl
theorem size18_3 : reg18_3.size = 5 := by kernel_rfl
theorem size18_4 : reg18_4.size = 6 := by kernel_rfl
theorem size18_5 : reg18_5.size = 1 := by kernel_rfl
theorem size18_6 : reg18_6.size = 2 := by kernel_rfl
theorem size18_7 : reg18_7.size = 8 := by kernel_rfl
theorem size18_8 : reg18_8.size = 2 := by kernel_rfl
theorem size18_9 : reg18_9.size = 3 := by kernel_rfl
instance (sz : Int) : Decidable (okS sz) := inferInstanceAs (Decidable (_ ∧ _ ∧ _))
section
variable {main : Bool} {V : Nat → Option Wait}
theorem new_small (sz : Int) (h1 : sz < 1) (w : World) : CallV Try.prog main V 18 #[.int .i64 sz] w (.tuple #[.pointer none, .int .i64 1]) w := by
  have g1 : decide (sz < 1) = true := by simp; omega
  refine callW_in Try.func18 code18_is fun fr cs => ?_
  simp only [Try.ntmps18, List.size_toArray, List.length_cons, List.length_nil, Nat.reduceAdd, Nat.reduceSub, Array.replicate_succ, Array.replicate_zero, List.push_toArray, List.append_toArray, List.nil_append, List.cons_append]
  repeat (first | refine Walk.c rfl ?_ | refine Walk.cRet ?_ | refine Walk.cEnd ?_ | (refine Walk.cReg ?_; simp only [size18_0, size18_1, size18_2, size18_3, size18_4, size18_5, size18_6, size18_7, size18_8, size18_9, List.range, List.range.loop]) | (refine Walk.oq ?_; try walk_nrm) | (refine Walk.un ?_; walk_nrm))
  exact Walk.on2 rfl rfl Try.func18 rfl (.stop fun d => ⟨_, ⟨rfl, d, rfl⟩, rfl⟩)
theorem new_large (sz : Int) (h1 : 1 ≤ sz) (h2 : 65536 < sz) (w : World) : CallV Try.prog main V 18 #[.int .i64 sz] w (.tuple #[.pointer none, .int .i64 1]) w := by
  have g1 : decide (sz < 1) = false := by simp; omega
  have g2 : decide (65536 < sz) = true := by simp; omega
  refine callW_in Try.func18 code18_is fun fr cs => ?_
  simp only [Try.ntmps18, List.size_toArray, List.length_cons, List.length_nil, Nat.reduceAdd, Nat.reduceSub, Array.replicate_succ, Array.replicate_zero, List.push_toArray, List.append_toArray, List.nil_append, List.cons_append]
  repeat (first | refine Walk.c rfl ?_ | refine Walk.cRet ?_ | refine Walk.cEnd ?_ | (refine Walk.cReg ?_; simp only [size18_0, size18_1, size18_2, size18_3, size18_4, size18_5, size18_6, size18_7, size18_8, size18_9, List.range, List.range.loop]) | (refine Walk.oq ?_; try walk_nrm) | (refine Walk.un ?_; walk_nrm))
  exact Walk.on2 rfl rfl Try.func18 rfl (.stop fun d => ⟨_, ⟨rfl, d, rfl⟩, rfl⟩)
theorem new_odd (sz : Int) (h1 : 1 ≤ sz) (h2 : sz ≤ 65536) (h3 : bits .and .i64 sz (sz - 1) ≠ 0) (w : World) : CallV Try.prog main V 18 #[.int .i64 sz] w (.tuple #[.pointer none, .int .i64 1]) w := by
  have hw1 : IntKind.wrap .i64 (sz - 1) = sz - 1 := by rw [IntKind.wrap_i64]; omega
  have g1 : decide (sz < 1) = false := by simp; omega
  have g2 : decide (65536 < sz) = false := by simp; omega
  have g3 : (bits .and .i64 sz (sz - 1) != 0) = true := by simp [h3]
  refine callW_in Try.func18 code18_is fun fr cs => ?_
  simp only [Try.ntmps18, List.size_toArray, List.length_cons, List.length_nil, Nat.reduceAdd, Nat.reduceSub, Array.replicate_succ, Array.replicate_zero, List.push_toArray, List.append_toArray, List.nil_append, List.cons_append]
  repeat (first | refine Walk.c rfl ?_ | refine Walk.cRet ?_ | refine Walk.cEnd ?_ | (refine Walk.cReg ?_; simp only [size18_0, size18_1, size18_2, size18_3, size18_4, size18_5, size18_6, size18_7, size18_8, size18_9, List.range, List.range.loop]) | (refine Walk.oq ?_; try walk_nrm) | (refine Walk.un ?_; walk_nrm))
  exact Walk.on2 rfl rfl Try.func18 rfl (.stop fun d => ⟨_, ⟨rfl, d, rfl⟩, rfl⟩)
theorem new_no (sz : Int) (h : ¬ okS sz) (w : World) : CallV Try.prog main V 18 #[.int .i64 sz] w (.tuple #[.pointer none, .int .i64 1]) w := by
  by_cases h1 : sz < 1
  · exact new_small sz h1 w
  · by_cases h2 : 65536 < sz
    · exact new_large sz (by omega) h2 w
    · exact new_odd sz (by omega) (by omega) (fun e => h ⟨by omega, by omega, e⟩) w
end
end
section
noncomputable def reg45_0 : Array Oper := match Try.f45.body with | some (.seq (.region _ ops _) _) => ops | _ => #[]
theorem size45_0 : reg45_0.size = 2 := by kernel_rfl
noncomputable def reg45_1 : Array Oper := match Try.f45.body with | some (.seq _ (.seq (.seq (.region _ ops _) _) _)) => ops | _ => #[]
theorem size45_1 : reg45_1.size = 6 := by kernel_rfl
noncomputable def reg45_2 : Array Oper := match Try.f45.body with | some (.seq _ (.seq (.seq _ (.cond _ (.seq (.region _ ops _) _) _)) _)) => ops | _ => #[]
theorem size45_2 : reg45_2.size = 2 := by kernel_rfl
noncomputable def reg45_3 : Array Oper := match Try.f45.body with | some (.seq _ (.seq _ (.seq (.region _ ops _) _))) => ops | _ => #[]
theorem size45_3 : reg45_3.size = 7 := by kernel_rfl
noncomputable def reg45_4 : Array Oper := match Try.f45.body with | some (.seq _ (.seq _ (.seq _ (.seq (.seq (.region _ ops _) _) _)))) => ops | _ => #[]
theorem size45_4 : reg45_4.size = 2 := by kernel_rfl
noncomputable def reg45_5 : Array Oper := match Try.f45.body with | some (.seq _ (.seq _ (.seq _ (.seq (.seq _ (.cond _ (.seq (.region _ ops _) _) _)) _)))) => ops | _ => #[]
theorem size45_5 : reg45_5.size = 3 := by kernel_rfl
noncomputable def reg45_6 : Array Oper := match Try.f45.body with | some (.seq _ (.seq _ (.seq _ (.seq _ (.seq (.region _ ops _) _))))) => ops | _ => #[]
theorem size45_6 : reg45_6.size = 7 := by kernel_rfl
noncomputable def reg45_7 : Array Oper := match Try.f45.body with | some (.seq _ (.seq _ (.seq _ (.seq _ (.seq _ (.seq (.region _ ops _) _)))))) => ops | _ => #[]
theorem size45_7 : reg45_7.size = 4 := by kernel_rfl
noncomputable def reg45_8 : Array Oper := match Try.f45.body with | some (.seq _ (.seq _ (.seq _ (.seq _ (.seq _ (.seq _ (.seq (.seq (.region _ ops _) _) _))))))) => ops | _ => #[]
theorem size45_8 : reg45_8.size = 6 := by kernel_rfl
noncomputable def reg45_9 : Array Oper := match Try.f45.body with | some (.seq _ (.seq _ (.seq _ (.seq _ (.seq _ (.seq _ (.seq (.seq _ (.block _ (.loop (.seq (.region _ ops _) _)))) _))))))) => ops | _ => #[]
theorem size45_9 : reg45_9.size = 1 := by kernel_rfl
noncomputable def reg45_10 : Array Oper := match Try.f45.body with | some (.seq _ (.seq _ (.seq _ (.seq _ (.seq _ (.seq _ (.seq (.seq _ (.block _ (.loop (.seq _ (.seq _ (.seq (.block _ (.seq (.region _ ops _) _)) _)))))) _))))))) => ops | _ => #[]
theorem size45_10 : reg45_10.size = 2 := by kernel_rfl
noncomputable def reg45_11 : Array Oper := match Try.f45.body with | some (.seq _ (.seq _ (.seq _ (.seq _ (.seq _ (.seq _ (.seq (.seq _ (.block _ (.loop (.seq _ (.seq _ (.seq (.block _ (.seq _ (.seq (.region _ ops _) _))) _)))))) _))))))) => ops | _ => #[]
theorem size45_11 : reg45_11.size = 8 := by kernel_rfl
noncomputable def reg45_12 : Array Oper := match Try.f45.body with | some (.seq _ (.seq _ (.seq _ (.seq _ (.seq _ (.seq _ (.seq (.seq _ (.block _ (.loop (.seq _ (.seq _ (.seq (.block _ (.seq _ (.seq _ (.region _ ops _)))) _)))))) _))))))) => ops | _ => #[]
theorem size45_12 : reg45_12.size = 8 := by kernel_rfl
noncomputable def reg45_13 : Array Oper := match Try.f45.body with | some (.seq _ (.seq _ (.seq _ (.seq _ (.seq _ (.seq _ (.seq (.seq _ (.block _ (.loop (.seq _ (.seq _ (.seq _ (.region _ ops _))))))) _))))))) => ops | _ => #[]
theorem size45_13 : reg45_13.size = 2 := by kernel_rfl
noncomputable def reg45_14 : Array Oper := match Try.f45.body with | some (.seq _ (.seq _ (.seq _ (.seq _ (.seq _ (.seq _ (.seq _ (.seq (.region _ ops _) _)))))))) => ops | _ => #[]
theorem size45_14 : reg45_14.size = 3 := by kernel_rfl
theorem code45_is : Try.f45.body = some (.seq (.region 0 reg45_0 false) (.seq (.seq (.region 1 reg45_1 false) (.cond (.tmp 15 ) (.seq (.region 2 reg45_2 false) (.ret)) (.skip))) (.seq (.region 3 reg45_3 false) (.seq (.seq (.region 4 reg45_4 false) (.cond (.tmp 22 ) (.seq (.region 5 reg45_5 false) (.ret)) (.skip))) (.seq (.region 6 reg45_6 false) (.seq (.region 7 reg45_7 false) (.seq (.seq (.region 8 reg45_8 false) (.block 0 (.loop (.seq (.region 9 reg45_9 false) (.seq (.cond (.tmp 40 ) (.skip) (.exit 0)) (.seq (.block 1 (.seq (.region 10 reg45_10 false) (.seq (.region 11 reg45_11 false) (.region 12 reg45_12 false)))) (.region 13 reg45_13 false))))))) (.seq (.region 14 reg45_14 false) (.ret))))))))) := by kernel_rfl
noncomputable def hdSn (ob m j : Nat) (u : Nat → Value) : Frame :=
  (base 45).at { tmps := #[u 0, u 1, u 2, u 3, .pointer none, .int .i64 0, u 6, u 7, .pointer (some ⟨ob, 0, none⟩), u 9, u 10, u 11, u 12, u 13, u 14, u 15, u 16, u 17, u 18, u 19, u 20, u 21, u 22, u 23, u 24, u 25, u 26, u 27, u 28, u 29, u 30, u 31, u 32, u 33, u 34, u 35, u 36, u 37, .int .i64 m, .int .i64 j, u 40, u 41, u 42, u 43, u 44, u 45, u 46, u 47, u 48, u 49, u 50, u 51, u 52, u 53, u 54, u 55, u 56, u 57, u 58], defers := [] } [.code (.seq (.region 9 reg45_9 false) (.seq (.cond (.tmp 40 ) (.skip) (.exit 0)) (.seq (.block 1 (.seq (.region 10 reg45_10 false) (.seq (.region 11 reg45_11 false) (.region 12 reg45_12 false)))) (.region 13 reg45_13 false)))), .inLoop (.seq (.region 9 reg45_9 false) (.seq (.cond (.tmp 40 ) (.skip) (.exit 0)) (.seq (.block 1 (.seq (.region 10 reg45_10 false) (.seq (.region 11 reg45_11 false) (.region 12 reg45_12 false)))) (.region 13 reg45_13 false)))), .inBlock 0, .code (.seq (.region 14 reg45_14 false) (.ret))]
def soJ (n j : Nat) : So := ⟨rgJ n, -1, fun k => if k < j then -1 else 0, fun k => if k < j then -1 else 0, 0, -1, -1⟩
theorem soJ_put (n j : Nat) : soPl (soNm (soJ n j) j (-1)) j (-1) = soJ n (j + 1) := by
  unfold soPl soNm soJ
  congr 1 <;>
  · funext k
    simp only [upd]
    by_cases e : k = j
    · rw [if_pos e, if_pos (by omega)]
    · rw [if_neg e]
      by_cases h : k < j
      · rw [if_pos h, if_pos (by omega)]
      · rw [if_neg h, if_neg (by omega)]
theorem soJ_bd (n m j : Nat) : SoB m (soJ n j) := by
  have h : ∀ k : Nat, seqP (if k < j then (-1 : Int) else 0) := fun k => by
    by_cases hk : k < j
    · rw [if_pos hk]; constructor <;> omega
    · rw [if_neg hk]; constructor <;> omega
  exact ⟨⟨by simp [soJ], by simp [soJ]⟩, by constructor <;> simp [soJ], by constructor <;> simp [soJ], fun k _ => h k, fun k _ => h k⟩
section
variable {main : Bool} {V : Nat → Option Wait} {n m : Nat}
structure NwS (w0 : World) (rb sb n ob qb m j : Nat) (w : World) : Prop where
  I : SoI rb sb n ob qb m (soJ n j) w
  old : ∀ b, b < w0.heap.size → w.heap[b]? = w0.heap[b]?
  size : w0.heap.size ≤ w.heap.size
theorem SoI.at {rb sb ob qb : Nat} {s : So} {w : World} (h : SoI rb sb n ob qb m s w) (d : Nat) : SoI rb sb n ob qb m s (w.at d) := h.old fun _ _ => rfl
theorem NwS.at {w0 w : World} {rb sb ob qb j : Nat} (h : NwS w0 rb sb n ob qb m j w) (d : Nat) : NwS w0 rb sb n ob qb m j (w.at d) := ⟨h.I.at d, h.old, h.size⟩
theorem son_neg (sz rd : Int) (h1 : rd < 0) (w : World) : CallV Try.prog main V 45 #[.int .i64 sz, .int .i64 rd] w (.tuple #[.pointer none, .int .i64 1]) w := by
  have g1 : decide (rd < 0) = true := decide_eq_true h1
  refine callW_in Try.func45 code45_is fun fr cs => ?_
  simp only [Try.ntmps45, List.size_toArray, List.length_cons, List.length_nil, Nat.reduceAdd, Nat.reduceSub, Array.replicate_succ, Array.replicate_zero, List.push_toArray, List.append_toArray, List.nil_append, List.cons_append]
  repeat (first | refine Walk.c rfl ?_ | refine Walk.cRet ?_ | refine Walk.cEnd ?_ | (refine Walk.cReg ?_; simp only [size45_0, size45_1, size45_2, size45_3, size45_4, size45_5, size45_6, size45_7, size45_8, size45_9, size45_10, size45_11, size45_12, size45_13, size45_14, List.range, List.range.loop]) | (refine Walk.oq ?_; try walk_nrm) | (refine Walk.un ?_; walk_nrm))
  exact Walk.on2 rfl rfl Try.func45 rfl (.stop fun d => ⟨_, ⟨rfl, d, rfl⟩, rfl⟩)
theorem son_many (sz rd : Int) (h1 : ¬ rd < 0) (h2 : 64 < rd) (w : World) : CallV Try.prog main V 45 #[.int .i64 sz, .int .i64 rd] w (.tuple #[.pointer none, .int .i64 1]) w := by
  have g1 : decide (rd < 0) = false := decide_eq_false h1
  have g2 : decide (64 < rd) = true := decide_eq_true h2
  refine callW_in Try.func45 code45_is fun fr cs => ?_
  simp only [Try.ntmps45, List.size_toArray, List.length_cons, List.length_nil, Nat.reduceAdd, Nat.reduceSub, Array.replicate_succ, Array.replicate_zero, List.push_toArray, List.append_toArray, List.nil_append, List.cons_append]
  repeat (first | refine Walk.c rfl ?_ | refine Walk.cRet ?_ | refine Walk.cEnd ?_ | (refine Walk.cReg ?_; simp only [size45_0, size45_1, size45_2, size45_3, size45_4, size45_5, size45_6, size45_7, size45_8, size45_9, size45_10, size45_11, size45_12, size45_13, size45_14, List.range, List.range.loop]) | (refine Walk.oq ?_; try walk_nrm) | (refine Walk.un ?_; walk_nrm))
  exact Walk.on2 rfl rfl Try.func45 rfl (.stop fun d => ⟨_, ⟨rfl, d, rfl⟩, rfl⟩)
theorem son_range (sz rd : Int) (h : rd < 0 ∨ 64 < rd) (w : World) : CallV Try.prog main V 45 #[.int .i64 sz, .int .i64 rd] w (.tuple #[.pointer none, .int .i64 1]) w := by
  by_cases h1 : rd < 0
  · exact son_neg sz rd h1 w
  · exact son_many sz rd h1 (by omega) w
theorem son_size (sz rd : Int) (h1 : 0 ≤ rd) (h2 : rd ≤ 64) (hok : ¬ okS sz) (w : World) : CallV Try.prog main V 45 #[.int .i64 sz, .int .i64 rd] w (.tuple #[.pointer none, .int .i64 1]) w := by
  have g1 : decide (rd < 0) = false := decide_eq_false (by omega)
  have g2 : decide (64 < rd) = false := decide_eq_false (by omega)
  have hno := new_no (main := main) (V := V) sz hok w
  refine callW_in Try.func45 code45_is fun fr cs => ?_
  simp only [Try.ntmps45, List.size_toArray, List.length_cons, List.length_nil, Nat.reduceAdd, Nat.reduceSub, Array.replicate_succ, Array.replicate_zero, List.push_toArray, List.append_toArray, List.nil_append, List.cons_append]
  repeat (first | refine Walk.c rfl ?_ | refine Walk.cRet ?_ | refine Walk.cEnd ?_ | (refine Walk.cReg ?_; simp only [size45_0, size45_1, size45_2, size45_3, size45_4, size45_5, size45_6, size45_7, size45_8, size45_9, size45_10, size45_11, size45_12, size45_13, size45_14, List.range, List.range.loop]) | (refine Walk.oq ?_; try walk_nrm) | (refine Walk.un ?_; walk_nrm))
  refine Walk.callV (x := .tuple #[.pointer none, .int .i64 1]) (W := w) ?_ (ho_of (by conv => lhs; whnf) (by kernel_rfl)) (by rfl) (by decide) rfl Try.func18 (by kernel_rfl) (by rfl) ?_
  · walk_nrm
    exact hno
  walk_nrm
  repeat (first | refine Walk.c rfl ?_ | refine Walk.cRet ?_ | refine Walk.cEnd ?_ | (refine Walk.cReg ?_; simp only [size45_0, size45_1, size45_2, size45_3, size45_4, size45_5, size45_6, size45_7, size45_8, size45_9, size45_10, size45_11, size45_12, size45_13, size45_14, List.range, List.range.loop]) | (refine Walk.oq ?_; try walk_nrm) | (refine Walk.un ?_; walk_nrm))
  exact Walk.on2 rfl rfl Try.func45 rfl (.stop fun d => ⟨_, ⟨rfl, d, rfl⟩, rfl⟩)
theorem son_no (sz rd : Int) (h : ¬ (okS sz ∧ 0 ≤ rd ∧ rd ≤ 64)) (w : World) : CallV Try.prog main V 45 #[.int .i64 sz, .int .i64 rd] w (.tuple #[.pointer none, .int .i64 1]) w := by
  by_cases h1 : rd < 0 ∨ 64 < rd
  · exact son_range sz rd h1 w
  · exact son_size sz rd (by omega) (by omega) (fun e => h ⟨e, by omega, by omega⟩) w
theorem son_in (sz : Int) (hz : sz.toNat = n) (hok : okS sz) (hm : m ≤ 64) (hA : ∀ b, Apart V b) (cs : List Frame) (w : World) :
    Walk Try.prog main (DR V) (fun gr w' => (∃ ob qb, (∃ u, gr = G (hdSn ob m 0 u) cs) ∧ NwS w (w.heap.size + 1) w.heap.size n ob qb m 0 w' ∧ w.heap.size ≤ qb ∧ w.heap.size ≤ ob)) (G (Frame.enter Try.prog 45 #[.int .i64 sz, .int .i64 m] .normal) cs) w := by
  have hi1 := Option.some_get (show (Try.prog.info? 160).isSome = true by kernel_rfl)
  have hm0 : (0 : Int) ≤ m := by omega
  have hm6 : (m : Int) ≤ 64 := by omega
  have g1 : decide ((m : Int) < 0) = false := decide_eq_false (by omega)
  have g2 : decide (64 < (m : Int)) = false := decide_eq_false (by omega)
  have hnw := new_w (main := main) (V := V) sz hok w (fun b _ => hA b)
  rw [hz] at hnw
  rw [enter_at _ Try.func45 code45_is]
  simp only [Try.ntmps45, List.size_toArray, List.length_cons, List.length_nil, Nat.reduceAdd, Nat.reduceSub, Array.replicate_succ, Array.replicate_zero, List.push_toArray, List.append_toArray, List.nil_append, List.cons_append]
  repeat (first | refine Walk.c rfl ?_ | refine Walk.cRet ?_ | refine Walk.cEnd ?_ | (refine Walk.cReg ?_; simp only [size45_0, size45_1, size45_2, size45_3, size45_4, size45_5, size45_6, size45_7, size45_8, size45_9, size45_10, size45_11, size45_12, size45_13, size45_14, List.range, List.range.loop]) | (refine Walk.oq ?_; try walk_nrm) | (refine Walk.un ?_; walk_nrm))
  refine Walk.callW (Post := fun v w' => v = .tuple #[.pointer (some ⟨w.heap.size + 1, 0, none⟩), .int .i64 0] ∧ NwR w (w.heap.size + 1) w.heap.size n n w') ?_ (ho_of (by conv => lhs; whnf) (by kernel_rfl)) (by rfl) (by decide) rfl Try.func18 (by kernel_rfl) (by rfl) ?_
  · walk_nrm
    exact hnw
  rintro _ w1 ⟨rfl, E⟩
  clear hnw
  have E1 := E.I
  have E2 := E.old
  have E3 := E.size
  have E4 := E1.size
  generalize hN : w.heap.size = N at *
  walk_nrm
  repeat (first | refine Walk.c rfl ?_ | refine Walk.cRet ?_ | refine Walk.cEnd ?_ | (refine Walk.cReg ?_; simp only [size45_0, size45_1, size45_2, size45_3, size45_4, size45_5, size45_6, size45_7, size45_8, size45_9, size45_10, size45_11, size45_12, size45_13, size45_14, List.range, List.range.loop]) | (refine Walk.oq ?_; try walk_nrm) | (refine Walk.un ?_; walk_nrm))
  clear g1 g2
  refine Walk.make 114 (.tmp 25) (.tmp 25) (ho_of (by conv => lhs; whnf) (by kernel_rfl)) (by rfl) (by decide) rfl 160 _ (.agg #[.int .i64 0, .int .i64 0]) 2 16 (by kernel_rfl) hi1.symm (by rfl) (by rfl) (by rfl) m (by rfl) (by rfl) (by omega) (by omega) ?_
  walk_nrm
  simp only [Value.cells]
  have s2 : (w1.alloc (.cells (madeCells #[.int .i64 0, .int .i64 0] (m * 2)) 160)).heap.size = w1.heap.size + 1 := by simp
  have o2 : ∀ b, b < w1.heap.size → (w1.alloc (.cells (madeCells #[.int .i64 0, .int .i64 0] (m * 2)) 160)).heap[b]? = w1.heap[b]? := fun b hb => heap_new_lt _ _ hb
  have d2 := heap_alloc_new w1 (.cells (madeCells #[.int .i64 0, .int .i64 0] (m * 2)) 160)
  generalize hM : w1.heap.size = M at *
  generalize w1.alloc (.cells (madeCells #[.int .i64 0, .int .i64 0] (m * 2)) 160) = w2 at *
  repeat (first | (refine Walk.oq ?_; try walk_nrm) | (refine Walk.un ?_; walk_nrm))
  (refine Walk.oa ?_; try walk_nrm)
  have s3 : (w2.alloc (.cells #[.pointer (some ⟨N + 1, 0, none⟩), .int .i64 0, .slice (some ⟨M, 0, none⟩) m m, .int .i64 0, .int .i64 (-1), .int .i64 (-1)] 118)).heap.size = w2.heap.size + 1 := by simp
  have o3 : ∀ b, b < w2.heap.size → (w2.alloc (.cells #[.pointer (some ⟨N + 1, 0, none⟩), .int .i64 0, .slice (some ⟨M, 0, none⟩) m m, .int .i64 0, .int .i64 (-1), .int .i64 (-1)] 118)).heap[b]? = w2.heap[b]? := fun b hb => heap_new_lt _ _ hb
  have d3 := heap_alloc_new w2 (.cells #[.pointer (some ⟨N + 1, 0, none⟩), .int .i64 0, .slice (some ⟨M, 0, none⟩) m m, .int .i64 0, .int .i64 (-1), .int .i64 (-1)] 118)
  try simp only [s2]
  rw [s2] at d3
  generalize w2.alloc (.cells #[.pointer (some ⟨N + 1, 0, none⟩), .int .i64 0, .slice (some ⟨M, 0, none⟩) m m, .int .i64 0, .int .i64 (-1), .int .i64 (-1)] 118) = w3 at *
  have l1 := E1.lt.1
  have l2 := E1.lt.2
  have hb : SoB m (soCur (soJ n 0) 0) := ⟨(soJ_bd n m 0).nx, (soJ_bd n m 0).pb, ⟨by simp [soCur], by simp [soCur]⟩, (soJ_bd n m 0).nm, (soJ_bd n m 0).pl⟩
  have I : SoI (N + 1) N n (M + 1) M m (soCur (soJ n 0) 0) w3 := ⟨(E1.old ((o3 _ (by omega)).trans (o2 _ (by omega))) ((o3 _ (by omega)).trans (o2 _ (by omega)))), d3, ⟨_, (o3 M (by omega)).trans d2, by rw [size_madeCells]; omega, fun i hi => ⟨(made2 m (i * 2) (by omega)).trans (by simp [soJ, soCur]), (made2 m (i * 2 + 1) (by omega)).trans (by simp [soJ, soCur])⟩⟩, hb, hm⟩
  obtain ⟨hc0, hz0⟩ := I.rdC
  have hst := store_nil (main := main) (V := V) (M + 1) 1 _ (-1) w3 hc0 hz0 ((hA _).1 _ rfl)
  have I2 := I.setC (x := -1) ⟨by omega, by omega⟩
  have hJ : soCur (soCur (soJ n 0) 0) (-1) = soJ n 0 := rfl
  rw [hJ] at I2
  have o4 : ∀ b, b < N → (w3.setCell ⟨M + 1, 1, none⟩ (.int .i64 (-1))).heap[b]? = w.heap[b]? := fun b hb => (heap_set_other _ _ _ _ (fun e : b = M + 1 => by omega)).trans ((o3 b (by omega)).trans ((o2 b (by omega)).trans (E2 b hb)))
  have s4 : (w3.setCell ⟨M + 1, 1, none⟩ (.int .i64 (-1))).heap.size = M + 2 := by rw [size_set]; omega
  clear I hc0 hz0 hJ d3 d2 E1 hb E E2
  repeat (first | refine Walk.c rfl ?_ | refine Walk.cRet ?_ | refine Walk.cEnd ?_ | (refine Walk.cReg ?_; simp only [size45_0, size45_1, size45_2, size45_3, size45_4, size45_5, size45_6, size45_7, size45_8, size45_9, size45_10, size45_11, size45_12, size45_13, size45_14, List.range, List.range.loop]) | (refine Walk.oq ?_; try walk_nrm) | (refine Walk.un ?_; walk_nrm))
  refine Walk.callV (x := .tuple #[]) (W := w3.setCell ⟨M + 1, 1, none⟩ (.int .i64 (-1))) ?_ (ho_of (by conv => lhs; whnf) (by kernel_rfl)) (by rfl) (by decide) rfl Try.func63 (by kernel_rfl) (by rfl) ?_
  · walk_nrm
    exact hst
  clear hst o2 o3 s3
  generalize w3.setCell ⟨M + 1, 1, none⟩ (.int .i64 (-1)) = w4 at *
  walk_nrm
  have c2 := (cell_of I2.ob 2).trans rfl
  repeat (first | refine Walk.c rfl ?_ | refine Walk.cRet ?_ | refine Walk.cEnd ?_ | (refine Walk.cReg ?_; simp only [size45_0, size45_1, size45_2, size45_3, size45_4, size45_5, size45_6, size45_7, size45_8, size45_9, size45_10, size45_11, size45_12, size45_13, size45_14, List.range, List.range.loop]) | (refine Walk.oq ?_; try walk_nrm) | (refine Walk.un ?_; walk_nrm))
  refine Walk.ctl rfl (fun w => stepG_loop) ?_
  refine .stop fun d => ⟨M + 1, M, at_slots ?_, NwS.at ⟨I2, fun b hb => o4 b (by omega), by omega⟩ d, by omega, by omega⟩
  simp only [hdSn]
  rfl
theorem son_go (w0 : World) (rb sb ob qb j : Nat) (hj : j < m) (u : Nat → Value) (cs : List Frame) (w : World) (hA : ∀ b, Apart V b) (E : NwS w0 rb sb n ob qb m j w) (hqb : w0.heap.size ≤ qb) :
    Walk Try.prog main (DR V) (fun gr w' => (∃ u, gr = G (hdSn ob m (j + 1) u) cs) ∧ NwS w0 rb sb n ob qb m (j + 1) w') (G (hdSn ob m j u) cs) w := by
  have hm := E.I.few
  obtain ⟨hc0, hz0⟩ := E.I.rdN hj
  have hst := store_nil (main := main) (V := V) qb (j * 2) _ (-1) w hc0 hz0 ((hA _).1 _ rfl)
  have I2 := E.I.setN hj (x := -1) ⟨by omega, by omega⟩
  have I3 := I2.setP hj (x := -1) ⟨by omega, by omega⟩
  rw [soJ_put] at I3
  have c2 := (cell_of E.I.ob 2).trans rfl
  have c3 := (cell_of I2.ob 2).trans rfl
  obtain ⟨cp, zp⟩ := I2.rdP hj
  have hap : Free V ⟨qb, j * 2 + 1, none⟩ := (hA qb).1 _ rfl
  have E3 : NwS w0 rb sb n ob qb m (j + 1) ((w.setCell ⟨qb, j * 2, none⟩ (.int .i64 (-1))).setCell ⟨qb, j * 2 + 1, none⟩ (.int .i64 (-1))) := ⟨I3, fun b hb => (heap_set_other _ _ _ _ (fun e : b = qb => by omega)).trans ((heap_set_other _ _ _ _ (fun e : b = qb => by omega)).trans (E.old b hb)), by rw [size_set, size_set]; exact E.size⟩
  have hj0 : (0 : Int) ≤ j := by omega
  have hj1 : decide ((j : Int) < m) = true := by simp; omega
  have hj3 : decide (j < m) = true := by simp; omega
  have hj4 : (j : Int) < m := by omega
  have hw1 : IntKind.wrap .i64 ((j : Int) + 1) = (j : Int) + 1 := by rw [IntKind.wrap_i64]; omega
  have hc : ((j + 1 : Nat) : Int) = (j : Int) + 1 := by simp
  clear E I2 I3 hc0 hz0
  conv => arg 5; unfold hdSn
  repeat (first | refine Walk.c rfl ?_ | refine Walk.cRet ?_ | refine Walk.cEnd ?_ | (refine Walk.cReg ?_; simp only [size45_0, size45_1, size45_2, size45_3, size45_4, size45_5, size45_6, size45_7, size45_8, size45_9, size45_10, size45_11, size45_12, size45_13, size45_14, List.range, List.range.loop]) | (refine Walk.oq ?_; try walk_nrm) | (refine Walk.un ?_; walk_nrm))
  refine Walk.callV (x := .tuple #[]) (W := w.setCell ⟨qb, j * 2, none⟩ (.int .i64 (-1))) ?_ (ho_of (by conv => lhs; whnf) (by kernel_rfl)) (by rfl) (by decide) rfl Try.func63 (by kernel_rfl) (by rfl) ?_
  · walk_nrm
    exact hst
  clear hst c2
  generalize w.setCell ⟨qb, j * 2, none⟩ (.int .i64 (-1)) = w2 at *
  walk_nrm
  repeat (first | refine Walk.c rfl ?_ | refine Walk.cRet ?_ | refine Walk.cEnd ?_ | (refine Walk.cReg ?_; simp only [size45_0, size45_1, size45_2, size45_3, size45_4, size45_5, size45_6, size45_7, size45_8, size45_9, size45_10, size45_11, size45_12, size45_13, size45_14, List.range, List.range.loop]) | (refine Walk.oq ?_; try walk_nrm) | (refine Walk.un ?_; walk_nrm))
  (refine Walk.os hap cp ?_; try walk_nrm)
  clear c3 cp zp
  generalize w2.setCell ⟨qb, j * 2 + 1, none⟩ (.int .i64 (-1)) = w3 at *
  repeat (first | refine Walk.c rfl ?_ | refine Walk.cRet ?_ | refine Walk.cEnd ?_ | (refine Walk.cReg ?_; simp only [size45_0, size45_1, size45_2, size45_3, size45_4, size45_5, size45_6, size45_7, size45_8, size45_9, size45_10, size45_11, size45_12, size45_13, size45_14, List.range, List.range.loop]) | (refine Walk.oq ?_; try walk_nrm) | (refine Walk.un ?_; walk_nrm))
  refine Walk.ctl rfl (fun w => stepG_inLoop) ?_
  refine .stop fun d' => ⟨at_slots ?_, E3.at d'⟩
  simp only [hdSn, hc]
  rfl
theorem son_out (ob : Nat) (u : Nat → Value) (c : Frame) (cs : List Frame) (w : World) :
    Walk Try.prog main (DR V) (fun gr w' => gr = G (c.finish (.tuple #[.pointer (some ⟨ob, 0, none⟩), .int .i64 0])) cs ∧ ∃ d, w' = w.at d) (G (hdSn ob m m u) (c :: cs)) w := by
  have hj1 : decide ((m : Int) < m) = false := by simp
  have hj3 : decide (m < m) = false := by simp
  conv => arg 5; unfold hdSn
  repeat (first | refine Walk.c rfl ?_ | refine Walk.cRet ?_ | refine Walk.cEnd ?_ | (refine Walk.cReg ?_; simp only [size45_0, size45_1, size45_2, size45_3, size45_4, size45_5, size45_6, size45_7, size45_8, size45_9, size45_10, size45_11, size45_12, size45_13, size45_14, List.range, List.range.loop]) | (refine Walk.oq ?_; try walk_nrm) | (refine Walk.un ?_; walk_nrm))
  exact Walk.on2 rfl rfl Try.func45 rfl (.stop fun d => ⟨rfl, d, rfl⟩)
theorem son_loop (w0 : World) (rb sb ob qb : Nat) (cs : List Frame) (hA : ∀ b, Apart V b) (hqb : w0.heap.size ≤ qb) :
    ∀ (r j : Nat) (u : Nat → Value) (w : World), j + r = m → NwS w0 rb sb n ob qb m j w → Walk Try.prog main (DR V) (fun gr w' => (∃ u, gr = G (hdSn ob m m u) cs) ∧ NwS w0 rb sb n ob qb m m w') (G (hdSn ob m j u) cs) w := by
  intro r
  induction r with
  | zero =>
    intro j u w hj E
    have hj : j = m := hj
    subst hj
    exact .stop fun d => ⟨⟨u, rfl⟩, E.at d⟩
  | succ r ih =>
    intro j u w hj E
    refine (son_go w0 rb sb ob qb j (by omega) u cs w hA E hqb).then ?_
    rintro _ w2 ⟨⟨u2, rfl⟩, E2⟩
    exact ih (j + 1) u2 w2 (by omega) E2
theorem son_w (sz rd : Int) (hok : okS sz) (h1 : 0 ≤ rd) (h2 : rd ≤ 64) (w : World) (hA : ∀ b, Apart V b) : CallW Try.prog main V 45 #[.int .i64 sz, .int .i64 rd] w (fun v w' => ∃ ob qb, v = .tuple #[.pointer (some ⟨ob, 0, none⟩), .int .i64 0] ∧ NwS w (w.heap.size + 1) w.heap.size sz.toNat ob qb rd.toNat rd.toNat w' ∧ w.heap.size ≤ ob ∧ w.heap.size ≤ qb) := fun fr cs => by
  have hz : rd = ((rd.toNat : Nat) : Int) := by omega
  have hm : rd.toNat ≤ 64 := by omega
  generalize rd.toNat = m at *
  subst hz
  refine (son_in sz rfl hok hm hA (fr :: cs) w).then ?_
  rintro _ w1 ⟨ob, qb, ⟨u, rfl⟩, E1, hqb, hob⟩
  refine (son_loop w (w.heap.size + 1) w.heap.size ob qb (fr :: cs) hA hqb m 0 u w1 (Nat.zero_add _) E1).then ?_
  rintro _ w2 ⟨⟨u2, rfl⟩, E2⟩
  refine (son_out ob u2 fr cs w2).mono ?_
  rintro _ _ ⟨rfl, d, rfl⟩
  exact ⟨_, ⟨ob, qb, rfl, E2.at d, hob, hqb⟩, rfl⟩
end
end
end Go.Proofs.Ytbmijpkdghkbbaa
namespace Go.Relay
section
open Go.Conc Go.RowKit
open Go.ConcN (upd upd_ne upd_same)
def calmBV (ops : Array Oper) (m : Nat) : Bool := decide (m ≤ ops.size) && (List.range m).all fun i => (ops[i]?).any fun o => (match o.op with | .select _ _ => false | _ => true) && o.dst.isSome &&
  (List.range ops.size).all fun j => decide (j = i) && !(o.looksAt ops).any (fun t => o.dst == some t) ||
    (ops[j]?).any fun p => (o.dst != p.dst) && (!(o.looksAt ops).any (fun t => p.dst == some t) || decide (j < i) && waitsB ops i j || decide (i < j) && waitsB ops j i)
section
variable {ops : Array Oper} {i : Nat} {o : Oper}
theorem calm_atV {m : Nat} (hc : calmBV ops m = true) {i : Nat} {o : Oper} (hi : i < m) (ho : ops[i]? = some o) : (∀ cs b, o.op ≠ .select cs b) ∧ (∃ t, o.dst = some t ∧ t ∉ o.looksAt ops) ∧ ∀ (j : Nat) (p : Oper), ops[j]? = some p → j ≠ i → o.dst ≠ p.dst ∧ ∀ t, p.dst = some t → t ∈ o.looksAt ops → (j < i ∧ waitsB ops i j = true) ∨ (i < j ∧ waitsB ops j i = true) := by
  have hc := (Bool.and_eq_true _ _ ▸ hc : _ ∧ _)
  have h := List.all_eq_true.1 hc.2 i (List.mem_range.2 hi)
  rw [ho] at h
  simp only [Option.any_some, Bool.and_eq_true] at h
  obtain ⟨⟨h1, h2⟩, h3⟩ := h
  refine ⟨(fun cs b e => by rw [e] at h1; cases h1), ?_, fun j p hj hne => ?_⟩
  · have h := List.all_eq_true.1 h3 i (List.mem_range.2 (Array.getElem?_eq_some_iff.1 ho).1)
    rw [ho] at h
    obtain ⟨t, ht⟩ := Option.isSome_iff_exists.1 h2
    refine ⟨t, ht, fun hm => ?_⟩
    have hl : (o.looksAt ops).any (fun t => o.dst == some t) = true := List.any_eq_true.2 ⟨t, hm, by simp [ht]⟩
    simp [hl] at h
  · have h := List.all_eq_true.1 h3 j (List.mem_range.2 (Array.getElem?_eq_some_iff.1 hj).1)
    rw [hj] at h
    have hd : decide (j = i) = false := decide_eq_false hne
    rw [hd] at h
    simp only [Bool.false_and, Bool.false_or, Option.any_some, Bool.and_eq_true, bne_iff_ne, ne_eq] at h
    refine ⟨h.1, fun t ht hm => ?_⟩
    have hl : (o.looksAt ops).any (fun t => p.dst == some t) = true := List.any_eq_true.2 ⟨t, hm, by simp [ht]⟩
    rw [hl] at h
    simpa using h.2
theorem puts_updV {m : Nat} (hc : calmBV ops m = true) (hm : i < m) (vals : Nat → Value) {f : Nat → Bool} (hf : f i = false) (ho : ops[i]? = some o) (a : Act) : puts ops vals (upd f i true) a = (puts ops vals f a).put o.dst (vals i) := by
  have hi := (Array.getElem?_eq_some_iff.1 ho).1
  obtain ⟨_, ⟨t0, ht0, _⟩, hdist⟩ := calm_atV hc hm ho
  have only : ∀ j ∈ List.range ops.size, (ops[j]?).bind (·.dst) = some t0 → j = i := fun j hj h => by
    refine Classical.byContradiction fun hne => ?_
    have hjl := List.mem_range.1 hj
    have hoj := Array.getElem?_eq_getElem hjl
    rw [hoj] at h
    exact (hdist j _ hoj hne).1 (ht0.trans h.symm)
  refine act_ext (fun t => ?_) ?_
  · rw [put_slot, ht0]
    by_cases e : t0 = t
    · subst e
      rw [if_pos rfl]
      have h1 := slot_only (vals := vals) (f := upd f i true) (upd_same _ _ _) ((dst_of ho).trans ht0) (List.range ops.size) a only (List.mem_range.2 hi)
      have h2 : (puts ops vals f a).tmps[t0]? = a.tmps[t0]? := by
        have : (putsL ops vals f (List.range ops.size) a).tmps[t0]? = (putsL ops vals (fun _ => false) (List.range ops.size) a).tmps[t0]? := slot_congr _ a a rfl fun j hj h => by
          have := only j hj h
          subst this
          exact ⟨hf, rfl⟩
        rw [putsL_none _ a fun _ _ => rfl] at this
        exact this
      rw [h2]
      exact h1
    · rw [if_neg (by simpa using e)]
      exact slot_congr _ a a rfl fun j _ h => by
        have hne : j ≠ i := fun h' => by
          subst h'
          rw [dst_of ho, ht0] at h
          exact e (Option.some.inj h)
        exact ⟨upd_ne _ _ hne, rfl⟩
  · rw [put_defers]
    unfold puts
    rw [putsL_defers, putsL_defers]
end
section
variable {P : Program} {main : Bool} {V : Nat → Option Wait} {Stop : Goroutine → World → Prop} {b : Frame} {k : List Item} {cs : List Frame} {ops : Array Oper} {w : World} {a : Act}
theorem Walk.calmOpV {Z : World → Prop} {m i : Nat} (hz : Z w) {o : Oper} {vals : Nat → Value} {f : Nat → Bool} {rest : List Nat} (hc : calmBV ops m = true) (hC : Closed ops f) (hfi : f i = false) (hk : b.kind ≠ .early) (hi : i < m) (ho : ops[i]? = some o) (hd : ∀ e ∈ o.after, Region.binds .any e = true → f e.on = true)
    (hcond : CondU P main V ops Z o (puts ops vals (fun x => decide (x < i)) a) (vals i)) (hr' : Walk P main (DR V) Stop (G (b.at ((puts ops vals f a).put o.dst (vals i)) (.inRegion ops rest :: k)) cs) w) :
    Walk P main (DR V) Stop (G (b.at (puts ops vals f a) (.inRegion ops (i :: rest) :: k)) cs) w := by
  obtain ⟨hsel, ⟨t0, ht0, hself⟩, hdist⟩ := calm_atV hc hi ho
  have hlook : ∀ t ∈ o.looksAt ops, (puts ops vals f a).tmps[t]? = (puts ops vals (fun j => decide (j < i)) a).tmps[t]? := fun t ht => slot_congr _ a a rfl fun j hj hjd => by
    have hjl := List.mem_range.1 hj
    have hoj := Array.getElem?_eq_getElem hjl
    have hne : j ≠ i := fun e => by
      subst e
      rw [dst_of ho, ht0] at hjd
      cases hjd
      exact hself ht
    rw [hoj] at hjd
    rcases (hdist j _ hoj hne).2 t hjd ht with ⟨h1, h2⟩ | ⟨h1, h2⟩
    · exact ⟨(waits_at h2 ho hd).trans (decide_eq_true h1).symm, rfl⟩
    · refine ⟨Eq.trans ?_ (decide_eq_false (Nat.lt_asymm h1)).symm, rfl⟩
      cases hfj : f j with
      | false => rfl
      | true =>
        have := waits_at h2 hoj (hC j _ hoj hfj)
        rw [hfi] at this
        cases this
  obtain ⟨s1, s2, s3⟩ := same_look hlook hsel
  have hsz : (puts ops vals f a).tmps.size = (puts ops vals (fun j => decide (j < i)) a).tmps.size := by
    unfold puts
    rw [putsL_size, putsL_size]
  have hput : ∀ v, (puts ops vals (fun j => decide (j < i)) a).put o.dst v = (puts ops vals (fun j => decide (j < i)) a).put o.dst (vals i) → (puts ops vals f a).put o.dst v = (puts ops vals f a).put o.dst (vals i) := fun v e => by
    refine act_ext (fun t => ?_) (by rw [put_defers, put_defers])
    rw [put_slot, put_slot]
    split
    · next e' =>
      have h1 : ((puts ops vals (fun j => decide (j < i)) a).put o.dst v).tmps[t]? = ((puts ops vals (fun j => decide (j < i)) a).put o.dst (vals i)).tmps[t]? := by rw [e]
      rw [put_slot, put_slot, if_pos e', if_pos e'] at h1
      by_cases hl : t < (puts ops vals f a).tmps.size
      · rw [Array.getElem?_eq_getElem (hsz ▸ hl)] at h1
        simp only [Option.map_some] at h1
        rw [Array.getElem?_eq_getElem hl]
        exact h1
      · rw [Array.getElem?_eq_none (by omega)]; rfl
    · rfl
  rcases hcond with ⟨c1, c2⟩ | ⟨c1, c2, c3⟩ | ⟨c1, f', fn, args, ats, e1, e2, e3, e4, e5⟩
  · rw [← s2] at c1
    rw [c2] at hr'
    exact Walk.ctl rfl (fun w => stepG_unwanted ho c1) hr'
  · rw [← s2] at c1
    rw [← s1] at c2 c3
    refine Walk.opq ho c1 hk (c2 w hz) fun d' K hK => ?_
    have h3 := c3 w hz d'
    revert h3
    generalize (execOp (puts ops vals f a).eval o).run P (w.at d') = rr
    intro h3
    unfold uponK at h3 ⊢
    split at h3
    · obtain ⟨x1, rfl⟩ := h3
      refine hK _ ?_
      rw [hput _ x1]; exact hr'
    · obtain ⟨x1, rfl⟩ := h3
      refine hK _ ?_
      rw [hput _ x1]; exact hr'
    · exact h3.elim
  · rw [← s2] at c1
    have hargs : args.map (puts ops vals f a).eval = args.map (puts ops vals (fun j => decide (j < i)) a).eval := Array.map_congr_left fun x hx => s3 x (by rw [e1]; simp [Op.operands, Call.operands, hx])
    rw [← hargs] at e5
    exact Walk.callV (e5 w hz) ho c1 hk e1 e2 e3 e4 hr'
theorem Walk.drawnCWV {id m : Nat} (hm : P.follows .mixedOrders = true) (hsz : ops.size = m) (hlow : lowW ops = true) (hc : calmBV ops m = true) (hk : b.kind ≠ .early)
    (h : Cm P main V ops (· = w) (fun a => Walk P main (DR V) Stop (G (b.at a (.inRegion ops [] :: k)) cs) w) (List.range m) a) : Walk P main (DR V) Stop (G (b.at a (.code (.region id ops true) :: k)) cs) w := by
  rw [List.range_eq_range'] at h
  have h0 : Cm P main V ops (· = w) (fun a => Walk P main (DR V) Stop (G (b.at a (.inRegion ops [] :: k)) cs) w) (List.range' 0 m) (puts ops (fun _ => undef) (fun j => decide (j < 0)) a) := by
    have : puts ops (fun _ => undef) (fun j => decide (j < 0)) a = a := putsL_none _ a fun j _ => decide_eq_false (Nat.not_lt_zero j)
    rw [this]; exact h
  obtain ⟨vals, _, hcond, hend⟩ := cm_vals (Z := (· = w)) (w := w) rfl (Nat.le_of_eq hsz.symm) m 0 (fun _ => undef) a (by omega) h0
  refine Walk.drawnE (E := World) (V := fun _ => V) (Stop := fun _ => Stop) (cs := fun _ => cs) (w := fun w => w) (Inv := fun f x w' => x = puts ops vals f a ∧ ∃ d, w' = w.at d) w hm hlow ⟨(puts_zero vals a).symm, w.drawn, rfl⟩ ?_ ?_
  · rintro f i o _ _ ⟨rfl, d, rfl⟩ hC hf ho hd rest hr
    have hi : i < m := by have := (Array.getElem?_eq_some_iff.1 ho).1; omega
    refine Walk.back ?_ d
    refine Walk.calmOpV (Z := (· = w)) rfl hc hC hf hk hi ho hd (hcond i o (Nat.zero_le _) hi ho) ?_
    rw [← puts_updV hc hi vals hf ho a]
    exact hr _ (w.at w.drawn) ⟨rfl, w.drawn, rfl⟩
  · rintro f _ _ ⟨rfl, d, rfl⟩ hall
    refine Walk.back ?_ d
    have : puts ops vals f a = puts ops vals (fun j => decide (j < m)) a := puts_congr (fun j hj => ⟨(hall j hj).trans (decide_eq_true (hsz ▸ hj)).symm, fun _ => rfl⟩) a
    rw [this]
    exact hend
end
end
end Go.Relay
namespace Go.Proofs.Ytbmijpkdghkbbaa
open Go.Conc Go.RowKit Go.Relay
open Go.ConcN (upd upd_ne upd_same)
section
noncomputable def reg51_0 : Array Oper := match Try.f51.body with | some (.seq (.region _ ops _) _) => ops | _ => #[]
theorem size51_0 : reg51_0.size = 3 := by kernel_rfl
noncomputable def reg51_1 : Array Oper := match Try.f51.body with | some (.seq _ (.seq (.seq (.region _ ops _) _) _)) => ops | _ => #[]
theorem size51_1 : reg51_1.size = 2 := by kernel_rfl
noncomputable def reg51_2 : Array Oper := match Try.f51.body with | some (.seq _ (.seq (.seq _ (.cond _ (.seq (.region _ ops _) _) _)) _)) => ops | _ => #[]
theorem size51_2 : reg51_2.size = 3 := by kernel_rfl
noncomputable def reg51_3 : Array Oper := match Try.f51.body with | some (.seq _ (.seq _ (.seq (.region _ ops _) _))) => ops | _ => #[]
theorem size51_3 : reg51_3.size = 4 := by kernel_rfl
noncomputable def reg51_4 : Array Oper := match Try.f51.body with | some (.seq _ (.seq _ (.seq _ (.seq (.seq (.region _ ops _) _) _)))) => ops | _ => #[]
theorem size51_4 : reg51_4.size = 3 := by kernel_rfl
noncomputable def reg51_5 : Array Oper := match Try.f51.body with | some (.seq _ (.seq _ (.seq _ (.seq (.seq _ (.block _ (.loop (.seq (.region _ ops _) _)))) _)))) => ops | _ => #[]
theorem size51_5 : reg51_5.size = 1 := by kernel_rfl
noncomputable def reg51_6 : Array Oper := match Try.f51.body with | some (.seq _ (.seq _ (.seq _ (.seq (.seq _ (.block _ (.loop (.seq _ (.seq _ (.seq (.block _ (.seq (.region _ ops _) _)) _)))))) _)))) => ops | _ => #[]
theorem size51_6 : reg51_6.size = 2 := by kernel_rfl
noncomputable def reg51_7 : Array Oper := match Try.f51.body with | some (.seq _ (.seq _ (.seq _ (.seq (.seq _ (.block _ (.loop (.seq _ (.seq _ (.seq (.block _ (.seq _ (.region _ ops _))) _)))))) _)))) => ops | _ => #[]
theorem size51_7 : reg51_7.size = 12 := by kernel_rfl
noncomputable def reg51_8 : Array Oper := match Try.f51.body with | some (.seq _ (.seq _ (.seq _ (.seq (.seq _ (.block _ (.loop (.seq _ (.seq _ (.seq _ (.region _ ops _))))))) _)))) => ops | _ => #[]
theorem size51_8 : reg51_8.size = 2 := by kernel_rfl
noncomputable def reg51_9 : Array Oper := match Try.f51.body with | some (.seq _ (.seq _ (.seq _ (.seq _ (.seq (.region _ ops _) _))))) => ops | _ => #[]
theorem size51_9 : reg51_9.size = 13 := by kernel_rfl
theorem code51_is : Try.f51.body = some (.seq (.region 0 reg51_0 false) (.seq (.seq (.region 1 reg51_1 false) (.cond (.tmp 7 ) (.seq (.region 2 reg51_2 false) (.ret)) (.skip))) (.seq (.region 3 reg51_3 false) (.seq (.seq (.region 4 reg51_4 false) (.block 0 (.loop (.seq (.region 5 reg51_5 false) (.seq (.cond (.tmp 14 ) (.skip) (.exit 0)) (.seq (.block 1 (.seq (.region 6 reg51_6 false) (.region 7 reg51_7 false))) (.region 8 reg51_8 false))))))) (.seq (.region 9 reg51_9 true) (.ret)))))) := by kernel_rfl
noncomputable def hdTt (ob N m j : Nat) (u : Nat → Value) : Frame :=
  (base 51).at { tmps := #[.pointer (some ⟨ob, 0, none⟩), u 1, .int .i64 0, .int .i64 0, .slice (some ⟨N, 0, none⟩) m m, u 5, u 6, u 7, u 8, u 9, u 10, u 11, .int .i64 m, .int .i64 j, u 14, u 15, u 16, u 17, u 18, u 19, u 20, u 21, u 22, u 23, u 24, u 25, u 26, u 27, u 28, u 29, u 30, u 31, u 32, u 33, u 34, u 35, u 36, u 37], defers := [] } [.code (.seq (.region 5 reg51_5 false) (.seq (.cond (.tmp 14 ) (.skip) (.exit 0)) (.seq (.block 1 (.seq (.region 6 reg51_6 false) (.region 7 reg51_7 false))) (.region 8 reg51_8 false)))), .inLoop (.seq (.region 5 reg51_5 false) (.seq (.cond (.tmp 14 ) (.skip) (.exit 0)) (.seq (.block 1 (.seq (.region 6 reg51_6 false) (.region 7 reg51_7 false))) (.region 8 reg51_8 false)))), .inBlock 0, .code (.seq (.region 9 reg51_9 true) (.ret))]
section
variable {main : Bool} {V : Nat → Option Wait} {rb sb n ob qb m : Nat} {s : So}
theorem state_in (cs : List Frame) (w : World) (I : SoI rb sb n ob qb m s w) (hA : ∀ b, Apart V b) :
    Walk Try.prog main (DR V) (fun gr w' => (∃ u, gr = G (hdTt ob w.heap.size m 0 u) cs) ∧ EaI w w.heap.size m s.nm 0 w') (G (Frame.enter Try.prog 51 #[.pointer (some ⟨ob, 0, none⟩)] .normal) cs) w := by
  have hrd := oreaders_w (main := main) (V := V) w I
  have hn := I.few
  have hi1 := Option.some_get (show (Try.prog.info? 2).isSome = true by kernel_rfl)
  have hp1 := fun w => run_eql_ptr (P := Try.prog) 92 undSolo (some ⟨ob, 0, none⟩) w
  have hp2 := fun w es => ev_eql_ptr (P := Try.prog) 92 undSolo (some ⟨ob, 0, none⟩) w es
  simp only [Option.isNone_some] at hp1
  clear I
  rw [enter_at _ Try.func51 code51_is]
  simp only [Try.ntmps51, List.size_toArray, List.length_cons, List.length_nil, Nat.reduceAdd, Nat.reduceSub, Array.replicate_succ, Array.replicate_zero, List.push_toArray, List.append_toArray, List.nil_append, List.cons_append]
  repeat (first | refine Walk.c rfl ?_ | refine Walk.cRet ?_ | refine Walk.cEnd ?_ | (refine Walk.cReg ?_; simp only [size51_0, size51_1, size51_2, size51_3, size51_4, size51_5, size51_6, size51_7, size51_8, size51_9, List.range, List.range.loop]) | (refine Walk.oq ?_; try walk_nrm) | (refine Walk.un ?_; walk_nrm))
  refine Walk.callV (x := .int .i64 (m : Nat)) (W := w) ?_ (ho_of (by conv => lhs; whnf) (by kernel_rfl)) (by rfl) (by decide) rfl Try.func47 (by kernel_rfl) (by rfl) ?_
  · walk_nrm
    exact hrd
  walk_nrm
  repeat (first | refine Walk.c rfl ?_ | refine Walk.cRet ?_ | refine Walk.cEnd ?_ | (refine Walk.cReg ?_; simp only [size51_0, size51_1, size51_2, size51_3, size51_4, size51_5, size51_6, size51_7, size51_8, size51_9, List.range, List.range.loop]) | (refine Walk.oq ?_; try walk_nrm) | (refine Walk.un ?_; walk_nrm))
  refine Walk.make 22 (.tmp 9) (.tmp 9) (ho_of (by conv => lhs; whnf) (by kernel_rfl)) (by rfl) (by decide) rfl 2 _ (.int .i64 0) 1 8 (by kernel_rfl) hi1.symm (by rfl) (by rfl) (by rfl) m (by rfl) (by rfl) (by omega) (by omega) ?_
  walk_nrm
  simp only [Value.cells, Nat.mul_one, made_zero]
  have s1 : (w.alloc (.cells ((List.replicate m (0 : Int)).map fun z => Value.int .i64 z).toArray 2)).heap.size = w.heap.size + 1 := by simp
  have o1 : ∀ b, b < w.heap.size → (w.alloc (.cells ((List.replicate m (0 : Int)).map fun z => Value.int .i64 z).toArray 2)).heap[b]? = w.heap[b]? := fun b hb => heap_new_lt _ _ hb
  have d1 := heap_alloc_new w (.cells ((List.replicate m (0 : Int)).map fun z => Value.int .i64 z).toArray 2)
  generalize hN : w.heap.size = N at *
  generalize w.alloc (.cells ((List.replicate m (0 : Int)).map fun z => Value.int .i64 z).toArray 2) = w1 at *
  repeat (first | refine Walk.c rfl ?_ | refine Walk.cRet ?_ | refine Walk.cEnd ?_ | (refine Walk.cReg ?_; simp only [size51_0, size51_1, size51_2, size51_3, size51_4, size51_5, size51_6, size51_7, size51_8, size51_9, List.range, List.range.loop]) | (refine Walk.oq ?_; try walk_nrm) | (refine Walk.un ?_; walk_nrm))
  refine Walk.ctl rfl (fun w => stepG_loop) ?_
  refine .stop fun d => ⟨at_slots ?_, EaI.at ⟨by rw [show padL ((List.range 0).map s.nm) m = List.replicate m 0 from padL_nil m]; exact d1, o1, by omega⟩ d⟩
  simp only [hdTt]
  rfl
theorem state_go (N j : Nat) (hj : j < m) (u : Nat → Value) (cs : List Frame) (w0 w : World) (I : SoI rb sb n ob qb m s w) (hA : ∀ b, Apart V b) (E : EaI w0 N m s.nm j w) :
    Walk Try.prog main (DR V) (fun gr w' => (∃ u, gr = G (hdTt ob N m (j + 1) u) cs) ∧ EaI w0 N m s.nm (j + 1) w') (G (hdTt ob N m j u) cs) w := by
  have hn := I.few
  have c2 := (cell_of I.ob 2).trans rfl
  have hv := value_nil (main := main) (V := V) qb (j * 2) (s.nm j) w (I.rdN hj).1
  have hlen : ((List.range j).map s.nm).length = j := by simp
  have hcell : w.cell? ⟨N, j, none⟩ = some (.int .i64 0) := E.row.cell (by
    unfold padL
    rw [List.getElem?_append_right (by omega), hlen, Nat.sub_self, List.getElem?_replicate, if_pos (by omega)])
  have hfz := E.row.frozen j
  have hfree : Free V ⟨N, j, none⟩ := (hA N).1 _ rfl
  have hrow : NumB (w.setCell ⟨N, j, none⟩ (.int .i64 (s.nm j))) N (padL ((List.range (j + 1)).map s.nm) m) := by
    have h := E.row.set j (s.nm j)
    have h2 := padL_set (l := (List.range j).map s.nm) (n := m) (by omega) (s.nm j)
    rw [hlen] at h2
    rw [h2] at h
    rw [range_snoc]
    exact h
  have hold : ∀ b, b < N → (w.setCell ⟨N, j, none⟩ (.int .i64 (s.nm j))).heap[b]? = w0.heap[b]? := fun b hb => (heap_set_other _ _ _ _ (fun e : b = N => by omega)).trans (E.old b hb)
  have hsz : N < (w.setCell ⟨N, j, none⟩ (.int .i64 (s.nm j))).heap.size := by rw [size_set]; exact E.size
  have hj0 : (0 : Int) ≤ j := by omega
  have hj1 : decide ((j : Int) < m) = true := by simp; omega
  have hj3 : decide (j < m) = true := by simp; omega
  have hj4 : (j : Int) < m := by omega
  have hw1 : IntKind.wrap .i64 ((j : Int) + 1) = (j : Int) + 1 := by rw [IntKind.wrap_i64]; omega
  have hc : ((j + 1 : Nat) : Int) = (j : Int) + 1 := by simp
  clear E I hlen
  generalize s.nm j = x at *
  conv => arg 5; unfold hdTt
  repeat (first | refine Walk.c rfl ?_ | refine Walk.cRet ?_ | refine Walk.cEnd ?_ | (refine Walk.cReg ?_; simp only [size51_0, size51_1, size51_2, size51_3, size51_4, size51_5, size51_6, size51_7, size51_8, size51_9, List.range, List.range.loop]) | (refine Walk.oq ?_; try walk_nrm) | (refine Walk.un ?_; walk_nrm))
  refine Walk.callV (x := .int .i64 x) (W := w) ?_ (ho_of (by conv => lhs; whnf) (by kernel_rfl)) (by rfl) (by decide) rfl Try.func69 (by kernel_rfl) (by rfl) ?_
  · walk_nrm
    exact hv
  walk_nrm
  repeat (first | refine Walk.c rfl ?_ | refine Walk.cRet ?_ | refine Walk.cEnd ?_ | (refine Walk.cReg ?_; simp only [size51_0, size51_1, size51_2, size51_3, size51_4, size51_5, size51_6, size51_7, size51_8, size51_9, List.range, List.range.loop]) | (refine Walk.oq ?_; try walk_nrm) | (refine Walk.un ?_; walk_nrm))
  (refine Walk.os hfree hcell ?_; try walk_nrm)
  generalize w.setCell ⟨N, j, none⟩ (.int .i64 x) = w2 at *
  clear hcell hfz hfree c2 hv
  repeat (first | refine Walk.c rfl ?_ | refine Walk.cRet ?_ | refine Walk.cEnd ?_ | (refine Walk.cReg ?_; simp only [size51_0, size51_1, size51_2, size51_3, size51_4, size51_5, size51_6, size51_7, size51_8, size51_9, List.range, List.range.loop]) | (refine Walk.oq ?_; try walk_nrm) | (refine Walk.un ?_; walk_nrm))
  refine Walk.ctl rfl (fun w => stepG_inLoop) ?_
  refine .stop fun d' => ⟨at_slots ?_, EaI.at ⟨hrow, hold, hsz⟩ d'⟩
  simp only [hdTt, hc]
  rfl
theorem state_out (N : Nat) (u : Nat → Value) (c : Frame) (cs : List Frame) (w : World) (I : SoI rb sb n ob qb m s w) :
    Walk Try.prog main (DR V) (fun gr w' => gr = G (c.finish (.tuple #[.int .i64 s.nx, .int .i64 s.cur, .slice (some ⟨N, 0, none⟩) m m])) cs ∧ ∃ d, w' = w.at d) (G (hdTt ob N m m u) (c :: cs)) w := by
  have hj1 : decide ((m : Int) < m) = false := by simp
  have hj3 : decide (m < m) = false := by simp
  have c3 : w.cell? ⟨ob, 3, none⟩ = some (.int .i64 s.nx) := (cell_of I.ob 3).trans rfl
  have hv := value_nil (main := main) (V := V) ob 1 s.cur w I.rdC.1
  clear I
  generalize s.nx = x at *
  generalize s.cur = y at *
  conv => arg 5; unfold hdTt
  repeat (first | refine Walk.c rfl ?_ | refine Walk.cRet ?_ | refine Walk.cEnd ?_ | (refine Walk.cReg ?_; simp only [size51_0, size51_1, size51_2, size51_3, size51_4, size51_5, size51_6, size51_7, size51_8, size51_9, List.range, List.range.loop]) | (refine Walk.oq ?_; try walk_nrm) | (refine Walk.un ?_; walk_nrm))
  (refine Walk.drawnCWV (by kernel_rfl) size51_9 (by kernel_rfl) (by kernel_rfl) (by decide) ?_; simp only [List.range, List.range.loop]; repeat (first | (refine Cm.opqA (ho_of (by conv => lhs; whnf) (by kernel_rfl)) (by rfl) (fun dd e he => ?_) ?_; (· (simp [go_sem, *] at he; try (subst he; exact evR_read _ _))); apply Exists.intro; apply And.intro; (· (intro dd K hK; go_simp; exact hK))) | (refine Cm.unw (ho_of (by conv => lhs; whnf) (by kernel_rfl)) (by rfl) ?_; walk_nrm)))
  refine Cm.callV (x := .int .i64 y) (fun w hz => ?_) (ho_of (by conv => lhs; whnf) (by kernel_rfl)) (by rfl) rfl Try.func69 (by kernel_rfl) (by rfl) ?_
  · subst hz
    walk_nrm
    exact hv
  walk_nrm
  repeat (first | (refine Cm.opqA (ho_of (by conv => lhs; whnf) (by kernel_rfl)) (by rfl) (fun dd e he => ?_) ?_; (· (simp [go_sem, *] at he; try (subst he; exact evR_read _ _))); apply Exists.intro; apply And.intro; (· (intro dd K hK; go_simp; exact hK))) | (refine Cm.unw (ho_of (by conv => lhs; whnf) (by kernel_rfl)) (by rfl) ?_; walk_nrm))
  refine Cm.done ?_
  repeat (first | refine Walk.c rfl ?_ | refine Walk.cRet ?_ | refine Walk.cEnd ?_ | (refine Walk.cReg ?_; simp only [size51_0, size51_1, size51_2, size51_3, size51_4, size51_5, size51_6, size51_7, size51_8, size51_9, List.range, List.range.loop]) | (refine Walk.oq ?_; try walk_nrm) | (refine Walk.un ?_; walk_nrm))
  exact Walk.on3 rfl rfl Try.func51 rfl (.stop fun d => ⟨rfl, d, rfl⟩)
theorem state_loop (cs : List Frame) (w0 : World) (I0 : SoI rb sb n ob qb m s w0) (hA : ∀ b, Apart V b) :
    ∀ (r j : Nat) (u : Nat → Value) (w : World), j + r = m → EaI w0 w0.heap.size m s.nm j w → Walk Try.prog main (DR V) (fun gr w' => (∃ u, gr = G (hdTt ob w0.heap.size m m u) cs) ∧ EaI w0 w0.heap.size m s.nm m w') (G (hdTt ob w0.heap.size m j u) cs) w := by
  intro r
  induction r with
  | zero =>
    intro j u w hj E
    have hj : j = m := hj
    subst hj
    exact .stop fun d => ⟨⟨u, rfl⟩, E.at d⟩
  | succ r ih =>
    intro j u w hj E
    have I : SoI rb sb n ob qb m s w := I0.old fun b hb => E.old _ (I0.lt hb)
    refine (state_go w0.heap.size j (by omega) u cs w0 w I hA E).then ?_
    rintro _ w2 ⟨⟨u2, rfl⟩, E2⟩
    exact ih (j + 1) u2 w2 (by omega) E2
theorem state_w (w : World) (I : SoI rb sb n ob qb m s w) (hA : ∀ b, Apart V b) : CallW Try.prog main V 51 #[.pointer (some ⟨ob, 0, none⟩)] w (fun v w' => v = .tuple #[.int .i64 s.nx, .int .i64 s.cur, .slice (some ⟨w.heap.size, 0, none⟩) m m] ∧ NewN m s.nm w (.slice (some ⟨w.heap.size, 0, none⟩) m m) w') := fun fr cs => by
  refine (state_in (fr :: cs) w I hA).then ?_
  rintro _ w1 ⟨⟨u, rfl⟩, E1⟩
  refine (state_loop (fr :: cs) w I hA m 0 u w1 (Nat.zero_add _) E1).then ?_
  rintro _ w2 ⟨⟨u2, rfl⟩, E2⟩
  refine (state_out w.heap.size u2 fr cs w2 (I.old fun b hb => E2.old _ (I.lt hb))).mono ?_
  rintro _ _ ⟨rfl, d, rfl⟩
  refine ⟨_, ⟨rfl, rfl, ?_, E2.old, E2.size⟩, rfl⟩
  have h := E2.row
  rw [padL_full (by simp)] at h
  exact h
end
end
section
theorem undSteps : Try.prog.underlying 104 = some (.pointer 106) := by kernel_rfl
theorem run_ifaceSteps (a : Option Addr) (w : World) : (Instr.makeInterface 104 (.pointer a)).run Try.prog w = .ok (.iface 104 (.pointer a)) w := by simp [Instr.makeInterface, run_underlying undSteps]
theorem ev_ifaceSteps (a : Option Addr) (w : World) (es : Array Event) : (Instr.makeInterface 104 (.pointer a)).events Try.prog w es = es := by simp [Instr.makeInterface, run_underlying undSteps]
noncomputable def rowStepsB : Bool := match Try.prog.info? 104 with
  | some ti => (match ti.methods.find? (·.name == "Step") with
    | some m => m.path.isEmpty && (m.func == some (191, true))
    | none => false)
  | none => false
theorem rowSteps : ∃ ti m, Try.prog.info? 104 = some ti ∧ ti.methods.find? (·.name == "Step") = some m ∧ m.path = #[] ∧ m.func = some (191, true) := by
  have h : rowStepsB = true := by kernel_rfl
  unfold rowStepsB at h
  revert h
  cases h1 : Try.prog.info? 104 with
  | none => simp
  | some ti =>
    simp only []
    cases h2 : ti.methods.find? (·.name == "Step") with
    | none => simp
    | some m =>
      simp only [Bool.and_eq_true, Array.isEmpty_iff, beq_iff_eq]
      exact fun h => ⟨ti, m, rfl, h2, h.1, h.2⟩
theorem method_steps (p : Nat) (w : World) (es : Array Event) : (method (Try.prog.types.size + Made.depth) 104 (.pointer (some ⟨p, 0, none⟩)) "Step").run Try.prog w = .ok (191, .pointer (some ⟨p, 0, none⟩)) w ∧ (method (Try.prog.types.size + Made.depth) 104 (.pointer (some ⟨p, 0, none⟩)) "Step").events Try.prog w es = es := by
  obtain ⟨ti, m, h1, h2, h3, h4⟩ := rowSteps
  obtain ⟨k, hk⟩ : ∃ k, Try.prog.types.size + Made.depth = k + 1 := ⟨Try.prog.types.size + (Made.depth - 1), by have : 1 ≤ Made.depth := by decide
                                                                                                                omega⟩
  rw [hk]
  unfold method
  refine ⟨?_, ?_⟩
  · simp [typeInfo, h1, h2, h3, h4, follow, receiverAt, run_underlying undSteps, Place.get]
  · simp [typeInfo, h1, h2, h3, h4, follow, receiverAt, run_underlying undSteps, Place.get]
section
variable {main : Bool} {V : Nat → Option Wait} {Stop : Goroutine → World → Prop} {w : World} {b : Frame} {a : Act} {k : List Item} {cs : List Frame} {ops : Array Oper} {i : Nat} {rest : List Nat} {o : Oper}
theorem stepG_invokeSteps {x : Operand} {ats : Array TypeId} (p : Nat) (ho : ops[i]? = some o) (hw : Region.wanted o (yielded ops a.tmps) = true) (hk : b.kind ≠ .early) (hop : o.op = .call { callee := .invoke x "Step", args := #[], argTypes := ats }) (hx : a.eval x = .iface 104 (.pointer (some ⟨p, 0, none⟩))) :
    stepG Try.prog main (G (b.at a (.inRegion ops (i :: rest) :: k)) cs) w = .go (G (Frame.enter Try.prog 191 #[.pointer (some ⟨p, 0, none⟩)] .normal) (b.at a (.inRegion ops (i :: rest) :: k) :: cs)) w := by
  have h1 : ¬ Try.f191.name = "runtime.NumGoroutine" := by decide
  have h2 : ¬ Try.f191.body = none := by simp [Try.f191]
  have hm := method_steps p w #[]
  rw [show Try.prog.types.size = 271 from by kernel_rfl] at hm
  have hr : (execOp a.eval o).run Try.prog w = .ok (.enter 191 #[.pointer (some ⟨p, 0, none⟩)]) w := by
    unfold execOp
    simp [hop, resolve, invoke, callMethod, callFunc, hm.1, Try.func191, h1, h2, hx]
  have he : (execOp a.eval o).events Try.prog w #[] = #[] := by
    unfold execOp
    simp [hop, resolve, invoke, callMethod, callFunc, hm.1, hm.2, Try.func191, h1, h2, hx]
  rw [stepG_enter ho hw hk hr]
  have : listed Try.prog b.fn a o w = #[] := by unfold listed; rw [he]; exact seen_none Try.prog _
  rw [this]
theorem Walk.invokeSteps {x : Operand} {ats : Array TypeId} (p : Nat) (ho : ops[i]? = some o) (hw : Region.wanted o (yielded ops a.tmps) = true) (hk : b.kind ≠ .early) (hop : o.op = .call { callee := .invoke x "Step", args := #[], argTypes := ats }) (hx : a.eval x = .iface 104 (.pointer (some ⟨p, 0, none⟩)))
    (h : Walk Try.prog main (DR V) Stop (G (Frame.enter Try.prog 191 #[.pointer (some ⟨p, 0, none⟩)] .normal) (b.at a (.inRegion ops (i :: rest) :: k) :: cs)) w) : Walk Try.prog main (DR V) Stop (G (b.at a (.inRegion ops (i :: rest) :: k)) cs) w :=
  Walk.ctl rfl (fun _ => stepG_invokeSteps p ho hw hk hop hx) h
end
noncomputable def reg191_0 : Array Oper := match Try.f191.body with | some (.region _ ops _) => ops | _ => #[]
theorem size191_0 : reg191_0.size = 8 := by kernel_rfl
theorem code191_is : Try.f191.body = some (.region 0 reg191_0 false) := by kernel_rfl
section
variable {main : Bool} {V : Nat → Option Wait}
theorem steps_w (p : Nat) (n : Int) (w : World) (hc : w.heap[p]? = some (.cells #[.int .i64 n] 106)) (hz : w.frozen? ⟨p, 0, none⟩ = false) (hn0 : 0 ≤ n) (hn : n < 4611686018427387904) (hf : Apart V p) :
    CallV Try.prog main V 191 #[.pointer (some ⟨p, 0, none⟩)] w (.tuple #[]) (w.setCell ⟨p, 0, none⟩ (.int .i64 (n + 1))) := by
  have hw1 : IntKind.wrap .i64 (n + 1) = n + 1 := by rw [IntKind.wrap_i64]; omega
  have h1 : w.cell? ⟨p, 0, none⟩ = some (.int .i64 n) := (cell_of hc 0).trans rfl
  have hf' : Free V ⟨p, 0, none⟩ := hf.1 _ rfl
  refine callW_in Try.func191 code191_is fun fr cs => ?_
  simp only [Try.ntmps191, List.size_toArray, List.length_cons, List.length_nil, Nat.reduceAdd, Nat.reduceSub, Array.replicate_succ, Array.replicate_zero, List.push_toArray, List.append_toArray, List.nil_append, List.cons_append]
  repeat (first | refine Walk.c rfl ?_ | refine Walk.cRet ?_ | refine Walk.cEnd ?_ | (refine Walk.cReg ?_; simp only [size191_0, List.range, List.range.loop]) | (refine Walk.oq ?_; try walk_nrm) | (refine Walk.un ?_; walk_nrm))
  (refine Walk.os hf' h1 ?_; try walk_nrm)
  repeat (first | refine Walk.c rfl ?_ | refine Walk.cRet ?_ | refine Walk.cEnd ?_ | (refine Walk.cReg ?_; simp only [size191_0, List.range, List.range.loop]) | (refine Walk.oq ?_; try walk_nrm) | (refine Walk.un ?_; walk_nrm))
  exact Walk.ret0 rfl rfl Try.func191 rfl fun d => ⟨rfl, d, rfl⟩
end
def lonC (L : La) : Nat → Nat → L.Sg × (Ans ⊕ L.D) → Option (Nat × L.Sg × Ans)
  | _, c, (s, .inl a) => some (c, s, a)
  | 0, _, (_, .inr _) => none
  | n + 1, c, (s, .inr d) => lonC L n (c + 1) (L.act s d)
theorem lonC_inl (L : La) (n c : Nat) (s : L.Sg) (a : Ans) : lonC L n c (s, .inl a) = some (c, s, a) := by cases n <;> rfl
structure CntE (L : La) (y0 : L.Gh) (base : World) (p : Nat) (R : Nat × L.Sg × Ans) where
  w : World
  y : L.Gh
  s : L.Sg
  tgt : L.Sg × (Ans ⊕ L.D)
  fuel : Nat
  n : Nat
  le : L.le y0 y
  inv : L.I y s w
  size : base.heap.size ≤ w.heap.size
  old : ∀ b, b < base.heap.size → ¬ L.sh y0 b → b ≠ p → w.heap[b]? = base.heap[b]?
  pub : ∀ b, L.sh y b → b < base.heap.size → L.sh y0 b
  cnt : w.heap[p]? = some (.cells #[.int .i64 n] 106)
  few : n + fuel < 4611686018427387904
  run : lonC L fuel n tgt = some R
section
variable {L : La} {main : Bool} {V : Nat → Option Wait} {Stop : Goroutine → World → Prop} {cs : List Frame} {y0 : L.Gh} {base : World} {p : Nat} {R : Nat × L.Sg × Ans}
def cntB (main : Bool) (V : Nat → Option Wait) (Stop : Goroutine → World → Prop) (cs : List Frame) (y0 : L.Gh) (base : World) (p : Nat) (R : Nat × L.Sg × Ans) : Lb L where
  main := main
  E := CntE L y0 base p R
  V := fun _ => V
  Stop := fun _ => Stop
  bot := fun _ => cs
  w := fun e => e.w
  s := fun e => e.s
  gh := fun e => e.y
  tgt := fun e => e.tgt
  fuel := fun e => e.fuel
  mine := fun e b => (base.heap.size ≤ b ∧ b < e.w.heap.size) ∧ ¬ L.sh e.y b
theorem cnt_step (hA : Apart V p) (hp : ¬ L.sh y0 p) (hlo : p < base.heap.size) (e : CntE L y0 base p R) (d : L.D) (ht : e.tgt = (e.s, .inr d)) (fr : Frame) (l : List Frame) (hk : ∀ e' : CntE L y0 base p R, Aft (cntB main V Stop cs y0 base p R) e d e' → LW (cntB main V Stop cs y0 base p R) e' (G (fr.finish (.tuple #[])) (l ++ cs))) :
    LW (cntB main V Stop cs y0 base p R) e (G (Frame.enter Try.prog 101 #[.iface 104 (.pointer (some ⟨p, 0, none⟩))] .normal) (fr :: (l ++ cs))) := by
  obtain ⟨ms, hu⟩ := undStepperN
  have hn1 := fun w => run_neq_iface (P := Try.prog) (w := w) 134 104 (.pointer (some ⟨p, 0, none⟩)) hu
  have hn2 := fun w es => ev_neq_iface (P := Try.prog) (w := w) 134 104 (.pointer (some ⟨p, 0, none⟩)) es hu
  obtain ⟨n, hn, hr⟩ : ∃ n, e.fuel = n + 1 ∧ lonC L n (e.n + 1) (L.act e.s d) = some R := by
    have h := e.run
    rw [ht] at h
    cases hf : e.fuel with
    | zero => rw [hf] at h; cases h
    | succ n => rw [hf] at h; exact ⟨n, rfl, h⟩
  have hz : e.w.frozen? ⟨p, 0, none⟩ = false := frozen_of e.cnt 0
  have hoth : ∀ b, b ≠ p → (e.w.setCell ⟨p, 0, none⟩ (.int .i64 ((e.n : Int) + 1))).heap[b]? = e.w.heap[b]? := fun b hb => by simp [World.setCell, Array.getElem?_modify, Ne.symm hb]
  have hsz : (e.w.setCell ⟨p, 0, none⟩ (.int .i64 ((e.n : Int) + 1))).heap.size = e.w.heap.size := by simp
  have hcn : (e.w.setCell ⟨p, 0, none⟩ (.int .i64 ((e.n : Int) + 1))).heap[p]? = some (.cells #[.int .i64 ((e.n + 1 : Nat) : Int)] 106) := by
    have h := e.cnt
    simp [World.setCell, Array.getElem?_modify, h]
  have hfew := e.few
  have hs0 := e.size
  have hps : ¬ L.sh e.y p := fun h => hp (e.pub p h hlo)
  have hh := hk { w := e.w.setCell ⟨p, 0, none⟩ (.int .i64 ((e.n : Int) + 1)), y := e.y, s := e.s, tgt := L.act e.s d, fuel := n, n := e.n + 1, le := e.le, inv := L.stable e.inv fun b hb => hoth b fun x => hps (x ▸ hb), size := by rw [hsz]; exact e.size, old := fun b h1 h2 h3 => (hoth b h3).trans (e.old b h1 h2 h3), pub := e.pub, cnt := hcn, few := by omega, run := hr } ⟨rfl, show n < e.fuel by omega, L.refl _, Nat.le_of_eq hsz.symm, fun b h => ⟨⟨⟨h.1.1, Nat.lt_of_lt_of_eq h.1.2 hsz.symm⟩, h.2⟩, hoth b (fun x => by have := h.1.1; omega)⟩⟩
  unfold LW at hh ⊢
  show Walk Try.prog main (DR V) Stop _ e.w
  replace hh : Walk Try.prog main (DR V) Stop (G (fr.finish (.tuple #[])) (l ++ cs)) (e.w.setCell ⟨p, 0, none⟩ (.int .i64 ((e.n : Int) + 1))) := hh
  rw [enter_at _ Try.func101 code101_is]
  simp only [Try.ntmps101, List.size_toArray, List.length_cons, List.length_nil, Nat.reduceAdd, Nat.reduceSub, Array.replicate_succ, Array.replicate_zero, List.push_toArray, List.append_toArray, List.nil_append, List.cons_append]
  repeat (first | refine Walk.c rfl ?_ | refine Walk.cRet ?_ | refine Walk.cEnd ?_ | (refine Walk.cReg ?_; simp only [size101_0, size101_1, List.range, List.range.loop]) | (refine Walk.oq ?_; try walk_nrm) | (refine Walk.un ?_; walk_nrm))
  refine Walk.invokeSteps p (ho_of (by conv => lhs; whnf) (by kernel_rfl)) (by rfl) (by decide) rfl rfl ?_
  refine (steps_w p e.n e.w e.cnt hz (by omega) (by omega) hA _ _).then ?_
  rintro g' w' ⟨v', ⟨rfl, dd, rfl⟩, rfl⟩
  refine Walk.back ?_ dd
  refine Walk.finish (ho_of (by conv => lhs; whnf) (by kernel_rfl)) ?_
  walk_nrm
  repeat (first | refine Walk.c rfl ?_ | refine Walk.cRet ?_ | refine Walk.cEnd ?_ | (refine Walk.cReg ?_; simp only [size101_0, size101_1, List.range, List.range.loop]) | (refine Walk.oq ?_; try walk_nrm) | (refine Walk.un ?_; walk_nrm))
  exact Walk.on0 rfl rfl Try.func101 rfl hh
theorem cnt_mine {y' : L.Gh} {e : CntE L y0 base p R} {w' : World} {b : Nat} (hle : L.le e.y y') (hs : e.w.heap.size ≤ w'.heap.size) : ((base.heap.size ≤ b ∧ b < w'.heap.size) ∧ ¬ L.sh y' b) ↔ ((((base.heap.size ≤ b ∧ b < e.w.heap.size) ∧ ¬ L.sh e.y b) ∨ (e.w.heap.size ≤ b ∧ b < w'.heap.size)) ∧ ¬ L.sh y' b) := by
  have := e.size
  constructor
  · rintro ⟨⟨a, b'⟩, hn⟩
    refine ⟨?_, hn⟩
    by_cases hb : b < e.w.heap.size
    · exact .inl ⟨⟨a, hb⟩, fun h => hn (L.mono hle h)⟩
    · exact .inr ⟨by omega, b'⟩
  · rintro ⟨⟨⟨a, b'⟩, _⟩ | ⟨a, b'⟩, hn⟩
    · exact ⟨⟨a, by omega⟩, hn⟩
    · exact ⟨⟨by omega, b'⟩, hn⟩
def cntL (hA : ∀ b, Apart V b) (hp : ¬ L.sh y0 p) (hlo : p < base.heap.size) (main : Bool) (Stop : Goroutine → World → Prop) (cs : List Frame) (R : Nat × L.Sg × Ans) : Lg L (.iface 104 (.pointer (some ⟨p, 0, none⟩))) where
  toLb := cntB main V Stop cs y0 base p R
  one := rfl
  inv := fun e => e.inv
  shA := fun _ b _ => hA b
  mineA := fun e b h => ⟨hA b, h.2, h.1.2⟩
  newA := fun _ b _ => hA b
  mg := fun e y' s' w' h0 h1 h2 h3 h4 => ⟨{ w := w', y := y', s := s', tgt := e.tgt, fuel := e.fuel, n := e.n, le := L.trans e.le h0, inv := h3, size := Nat.le_trans e.size h1, old := fun b hb hs hb' => (h2 b (Nat.lt_of_lt_of_le hb e.size) (fun hm => by have := hm.1.1; omega) (fun hm => hs (e.pub b hm hb))).trans (e.old b hb hs hb'), pub := fun b hb hlt => (h4 b hb).elim (fun h => e.pub b h hlt) fun h => h.elim (fun h => absurd h.1.1 (Nat.not_le_of_lt hlt)) fun h => absurd (Nat.le_trans e.size h) (Nat.not_le_of_lt hlt), cnt := (h2 p (Nat.lt_of_lt_of_le hlo e.size) (fun hm => by have := hm.1.1; omega) (fun hm => hp (e.pub p hm hlo))).trans e.cnt, few := e.few, run := e.run }, rfl, rfl, rfl, rfl, rfl, rfl, rfl, rfl, fun b => cnt_mine h0 h1⟩
  step := fun e d ht fr l _ _ hk => cnt_step (hA p) hp hlo e d ht fr l hk
structure Counted (L : La) (y0 : L.Gh) (w : World) (p : Nat) (R : Nat × L.Sg × Ans) (w' : World) (y : L.Gh) : Prop where
  le : L.le y0 y
  I : L.I y R.2.1 w'
  size : w.heap.size ≤ w'.heap.size
  old : ∀ b, b < w.heap.size → ¬ L.sh y0 b → b ≠ p → w'.heap[b]? = w.heap[b]?
  pub : ∀ b, L.sh y b → b < w.heap.size → L.sh y0 b
  cnt : w'.heap[p]? = some (.cells #[.int .i64 R.1] 106)
theorem CallP.cnt {f : FuncId} {args : Array Value} {w : World} {Rel : Value → Ans → World → (Nat → Prop) → Prop} (N n : Nat) (y0 : L.Gh) (s : L.Sg) (T : L.Sg × (Ans ⊕ L.D)) (hat : ∀ v x w' P d, Rel v x w' P → Rel v x (w'.at d) P) (hA : ∀ b, Apart V b) (hI : L.I y0 s w) (hp0 : ¬ L.sh y0 p) (hcnt : w.heap[p]? = some (.cells #[.int .i64 n] 106)) (hfew : n + N < 4611686018427387904) (hrun : lonC L N n T = some R)
    (hc : ∀ (K : Lg L (.iface 104 (.pointer (some ⟨p, 0, none⟩)))) (e : K.E), (∀ (e' : K.E) (b : Nat), b < w.heap.size → ¬ L.sh y0 b → b ≠ p → (K.w e').heap[b]? = w.heap[b]?) → K.w e = w → K.s e = s → K.tgt e = T → SCall K.toLb f args e (fun v e' => ∃ x, Rel v x (K.w e') (K.mine e') ∧ K.tgt e' = (K.s e', .inl x))) :
    CallP main V f args w (fun v w' => ∃ y, Rel v R.2.2 w' (fun b => (w.heap.size ≤ b ∧ b < w'.heap.size) ∧ ¬ L.sh y b) ∧ Counted L y0 w p R w' y) := by
  intro c cs hp
  have key := hc (cntL (V := V) (y0 := y0) (base := w) hA hp0 (Array.getElem?_eq_some_iff.1 hcnt).1 main (fun g w' => ∃ v, (∃ y, Rel v R.2.2 w' (fun b => (w.heap.size ≤ b ∧ b < w'.heap.size) ∧ ¬ L.sh y b) ∧ Counted L y0 w p R w' y) ∧ g = G (c.finish v) cs) cs R) { w := w, y := y0, s := s, tgt := T, fuel := N, n := n, le := L.refl _, inv := hI, size := Nat.le_refl _, old := fun _ _ _ _ => rfl, pub := fun _ h _ => h, cnt := hcnt, few := hfew, run := hrun } (fun e' b h1 h2 h3 => CntE.old e' b h1 h2 h3) rfl rfl rfl c [] hp (fun _ h => by cases h) ?_
  · exact key
  · rintro v e' ⟨x, hr, ht⟩
    have hrn := e'.run
    have hcn := e'.cnt
    have ht : e'.tgt = (e'.s, .inl x) := ht
    rw [ht, lonC_inl] at hrn
    have hR := Option.some.inj hrn
    have r0 : R.1 = e'.n := (congrArg Prod.fst hR).symm
    have r1 : R.2.1 = e'.s := (congrArg (fun x => x.2.1) hR).symm
    have r2 : R.2.2 = x := (congrArg (fun x => x.2.2) hR).symm
    refine .stop fun d => ⟨v, ⟨e'.y, ?_, ⟨e'.le, ?_, e'.size, fun b h1 h2 h3 => e'.old b h1 h2 h3, e'.pub, ?_⟩⟩, rfl⟩
    · rw [r2]
      exact hat _ _ _ _ d hr
    · rw [r1]; exact L.stable e'.inv fun _ _ => rfl
    · rw [r0]; exact hcn
end
end
end Go.Proofs.Ytbmijpkdghkbbaa
