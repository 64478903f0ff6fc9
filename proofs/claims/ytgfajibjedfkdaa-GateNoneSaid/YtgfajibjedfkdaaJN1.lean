/- Part 1. -/
import Derived.Test.YtgfajibjedfkdaaJK1
import Derived.Test.YtgfajibjedfkdaaJK2
import Derived.Test.YtgfajibjedfkdaaJK3
import Derived.Test.YtgfajibjedfkdaaJK4
import Derived.Test.YtgfajibjedfkdaaJK5
import Derived.Test.YtgfajibjedfkdaaJK7
import Derived.Test.YtgfajibjedfkdaaJK9
import Derived.Test.YtgfajibjedfkdaaJK10
import Derived.Test.YtgfajibjedfkdaaJK11
import Derived.Test.YtgfajibjedfkdaaJK12
import Derived.Test.YtgfajibjedfkdaaJK13
import Derived.Test.YtgfajibjedfkdaaJK14
import Derived.Test.YtgfajibjedfkdaaJK15
import Derived.Test.YtgfajibjedfkdaaJK16
import Derived.Test.YtgfajibjedfkdaaJK17
import Derived.Test.YtgfajibjedfkdaaJK18
import Derived.Test.YtgfajibjedfkdaaJK19
import Derived.Test.YtgfajibjedfkdaaJK20
import Derived.Test.YtgfajibjedfkdaaJK21
import Derived.Test.YtgfajibjedfkdaaJK22
import Derived.Test.YtgfajibjedfkdaaJK23
import Derived.Test.YtgfajibjedfkdaaJK24
set_option linter.unusedSimpArgs false
set_option linter.unusedVariables false
set_option maxHeartbeats 8000000
set_option maxRecDepth 100000
namespace Go.Proofs.Ytgfajibjedfkdaa
open Go.Conc Go.RowKit Go.Relay
open Go.ConcN (upd upd_ne upd_same)
theorem padL_len {l : List Int} {n : Nat} (h : l.length ≤ n) : (padL l n).length = n := by simp [padL]; omega
theorem size74_0 : reg74_0.size = 1 := by kernel_rfl
theorem size74_1 : reg74_1.size = 7 := by kernel_rfl
theorem size74_2 : reg74_2.size = 1 := by kernel_rfl
theorem size74_3 : reg74_3.size = 3 := by kernel_rfl
theorem size74_4 : reg74_4.size = 1 := by kernel_rfl
theorem size74_5 : reg74_5.size = 1 := by kernel_rfl
theorem size36_0 : reg36_0.size = 1 := by kernel_rfl
theorem size36_1 : reg36_1.size = 4 := by kernel_rfl
theorem size36_2 : reg36_2.size = 2 := by kernel_rfl
theorem size36_3 : reg36_3.size = 2 := by kernel_rfl
theorem size36_4 : reg36_4.size = 8 := by kernel_rfl
theorem size36_5 : reg36_5.size = 1 := by kernel_rfl
theorem size71_0 : reg71_0.size = 2 := by kernel_rfl
theorem size71_1 : reg71_1.size = 4 := by kernel_rfl
theorem size71_2 : reg71_2.size = 2 := by kernel_rfl
theorem size71_3 : reg71_3.size = 3 := by kernel_rfl
theorem size71_4 : reg71_4.size = 9 := by kernel_rfl
instance (p : Int) : Decidable (gOK p) := inferInstanceAs (Decidable (_ ∧ _))
instance (a q s : Int) : Decidable (gFin a q s) := inferInstanceAs (Decidable (_ ∨ _))
theorem size61_0 : reg61_0.size = 2 := by kernel_rfl
theorem size61_1 : reg61_1.size = 2 := by kernel_rfl
theorem size61_2 : reg61_2.size = 3 := by kernel_rfl
theorem size61_3 : reg61_3.size = 3 := by kernel_rfl
theorem size61_4 : reg61_4.size = 8 := by kernel_rfl
theorem size61_5 : reg61_5.size = 1 := by kernel_rfl
theorem size61_6 : reg61_6.size = 3 := by kernel_rfl
theorem size61_7 : reg61_7.size = 8 := by kernel_rfl
theorem size61_8 : reg61_8.size = 7 := by kernel_rfl
theorem size61_9 : reg61_9.size = 4 := by kernel_rfl
theorem size61_10 : reg61_10.size = 2 := by kernel_rfl
theorem size61_11 : reg61_11.size = 4 := by kernel_rfl
theorem size62_0 : reg62_0.size = 2 := by kernel_rfl
theorem size62_1 : reg62_1.size = 8 := by kernel_rfl
theorem size62_2 : reg62_2.size = 9 := by kernel_rfl
theorem size62_3 : reg62_3.size = 2 := by kernel_rfl
theorem size62_4 : reg62_4.size = 3 := by kernel_rfl
theorem size72_0 : reg72_0.size = 1 := by kernel_rfl
theorem size72_1 : reg72_1.size = 2 := by kernel_rfl
theorem size72_2 : reg72_2.size = 1 := by kernel_rfl
theorem size72_3 : reg72_3.size = 8 := by kernel_rfl
section
section
variable {L : La} {sv : Value}
theorem size63_0 : reg63_0.size = 1 := by kernel_rfl
theorem size63_1 : reg63_1.size = 4 := by kernel_rfl
theorem size63_2 : reg63_2.size = 2 := by kernel_rfl
theorem size63_3 : reg63_3.size = 2 := by kernel_rfl
theorem size63_4 : reg63_4.size = 7 := by kernel_rfl
theorem size63_5 : reg63_5.size = 5 := by kernel_rfl
theorem size63_6 : reg63_6.size = 1 := by kernel_rfl
theorem size63_8 : reg63_8.size = 1 := by kernel_rfl
theorem size60_0 : reg60_0.size = 1 := by kernel_rfl
theorem size60_1 : reg60_1.size = 4 := by kernel_rfl
theorem size60_2 : reg60_2.size = 2 := by kernel_rfl
theorem size60_3 : reg60_3.size = 2 := by kernel_rfl
theorem size60_4 : reg60_4.size = 7 := by kernel_rfl
theorem size60_5 : reg60_5.size = 4 := by kernel_rfl
theorem size60_6 : reg60_6.size = 1 := by kernel_rfl
theorem size60_7 : reg60_7.size = 8 := by kernel_rfl
theorem size60_9 : reg60_9.size = 1 := by kernel_rfl
end
end
theorem size35_0 : reg35_0.size = 1 := by kernel_rfl
theorem size35_1 : reg35_1.size = 2 := by kernel_rfl
theorem size35_2 : reg35_2.size = 1 := by kernel_rfl
theorem size35_3 : reg35_3.size = 2 := by kernel_rfl
theorem size35_4 : reg35_4.size = 3 := by kernel_rfl
theorem size35_5 : reg35_5.size = 1 := by kernel_rfl
theorem size35_6 : reg35_6.size = 2 := by kernel_rfl
theorem size35_7 : reg35_7.size = 10 := by kernel_rfl
theorem size35_8 : reg35_8.size = 2 := by kernel_rfl
theorem size35_9 : reg35_9.size = 2 := by kernel_rfl
theorem size34_0 : reg34_0.size = 1 := by kernel_rfl
theorem size34_1 : reg34_1.size = 3 := by kernel_rfl
section
noncomputable def reg70_0 : Array Oper := match Try.f70.body with | some (.seq (.region _ ops _) _) => ops | _ => #[]
theorem size70_0 : reg70_0.size = 1 := by kernel_rfl
noncomputable def reg70_1 : Array Oper := match Try.f70.body with | some (.seq _ (.seq (.seq (.region _ ops _) _) _)) => ops | _ => #[]
theorem size70_1 : reg70_1.size = 2 := by kernel_rfl
noncomputable def reg70_2 : Array Oper := match Try.f70.body with | some (.seq _ (.seq (.seq _ (.cond _ (.seq (.region _ ops _) _) _)) _)) => ops | _ => #[]
theorem size70_2 : reg70_2.size = 3 := by kernel_rfl
noncomputable def reg70_3 : Array Oper := match Try.f70.body with | some (.seq _ (.seq _ (.seq (.region _ ops _) _))) => ops | _ => #[]
theorem size70_3 : reg70_3.size = 3 := by kernel_rfl
theorem code70_is : Try.f70.body = some (.seq (.region 0 reg70_0 false) (.seq (.seq (.region 1 reg70_1 false) (.cond (.tmp 6 ) (.seq (.region 2 reg70_2 false) (.ret)) (.skip))) (.seq (.region 3 reg70_3 false) (.ret)))) := by kernel_rfl
noncomputable def reg33_0 : Array Oper := match Try.f33.body with | some (.seq (.region _ ops _) _) => ops | _ => #[]
theorem size33_0 : reg33_0.size = 1 := by kernel_rfl
noncomputable def reg33_1 : Array Oper := match Try.f33.body with | some (.seq _ (.seq (.region _ ops _) _)) => ops | _ => #[]
theorem size33_1 : reg33_1.size = 1 := by kernel_rfl
noncomputable def reg33_2 : Array Oper := match Try.f33.body with | some (.seq _ (.seq _ (.seq (.seq (.region _ ops _) _) _))) => ops | _ => #[]
theorem size33_2 : reg33_2.size = 1 := by kernel_rfl
noncomputable def reg33_3 : Array Oper := match Try.f33.body with | some (.seq _ (.seq _ (.seq (.seq _ (.block _ (.loop (.seq (.seq (.region _ ops _) _) _)))) _))) => ops | _ => #[]
theorem size33_3 : reg33_3.size = 4 := by kernel_rfl
noncomputable def reg33_5 : Array Oper := match Try.f33.body with | some (.seq _ (.seq _ (.seq (.seq _ (.block _ (.loop (.seq _ (.seq (.block _ (.region _ ops _)) _))))) _))) => ops | _ => #[]
theorem size33_5 : reg33_5.size = 8 := by kernel_rfl
noncomputable def reg33_4 : Array Oper := match Try.f33.body with | some (.seq _ (.seq _ (.seq (.seq _ (.block _ (.loop (.seq _ (.seq _ (.region _ ops _)))))) _))) => ops | _ => #[]
theorem size33_4 : reg33_4.size = 3 := by kernel_rfl
noncomputable def reg33_6 : Array Oper := match Try.f33.body with | some (.seq _ (.seq _ (.seq _ (.seq (.region _ ops _) _)))) => ops | _ => #[]
theorem size33_6 : reg33_6.size = 2 := by kernel_rfl
theorem code33_is : Try.f33.body = some (.seq (.region 0 reg33_0 false) (.seq (.region 1 reg33_1 false) (.seq (.seq (.region 2 reg33_2 false) (.block 0 (.loop (.seq (.seq (.region 3 reg33_3 false) (.cond (.tmp 8 ) (.skip) (.exit 0))) (.seq (.block 1 (.region 5 reg33_5 false)) (.region 4 reg33_4 false)))))) (.seq (.region 6 reg33_6 false) (.ret))))) := by kernel_rfl
noncomputable def hdLw (lv ov : Value) (i : Nat) (u : Nat → Value) : Frame :=
  (base 33).at { tmps := #[lv, u 1, u 2, ov, .int .i64 i, u 5, u 6, u 7, u 8, u 9, u 10, u 11, u 12, u 13, u 14, u 15, u 16, u 17, u 18], defers := [] } [.code (.seq (.seq (.region 3 reg33_3 false) (.cond (.tmp 8 ) (.skip) (.exit 0))) (.seq (.block 1 (.region 5 reg33_5 false)) (.region 4 reg33_4 false))), .inLoop (.seq (.seq (.region 3 reg33_3 false) (.cond (.tmp 8 ) (.skip) (.exit 0))) (.seq (.block 1 (.region 5 reg33_5 false)) (.region 4 reg33_4 false))), .inBlock 0, .code (.seq (.region 6 reg33_6 false) (.ret))]
section
variable {main : Bool} {V : Nat → Option Wait}
theorem told_yes (x : Int) (w : World) (hA : ∀ b, w.heap.size ≤ b → Apart V b) : CallW Try.prog main V 70 #[.int .i64 x, .int .i64 0] w (GansOf x 0 w) := by
  have hap := hA w.heap.size (Nat.le_refl _)
  refine callW_in Try.func70 code70_is fun fr cs => ?_
  simp only [Try.ntmps70, List.size_toArray, List.length_cons, List.length_nil, Nat.reduceAdd, Nat.reduceSub, Array.replicate_succ, Array.replicate_zero, List.push_toArray, List.append_toArray, List.nil_append, List.cons_append]
  repeat (first | refine Walk.c rfl ?_ | refine Walk.cRet ?_ | refine Walk.cEnd ?_ | (refine Walk.cReg ?_; simp only [size70_0, size70_1, size70_2, size70_3, List.range, List.range.loop]) | (refine Walk.oq ?_; try walk_nrm) | (refine Walk.un ?_; walk_nrm))
  (refine Walk.oa ?_; try walk_nrm)
  have s1 : (w.alloc (.cells #[.bool false, .int .i64 0, .slice none 0 0] 81)).heap.size = w.heap.size + 1 := by simp
  have o1 : ∀ b, b < w.heap.size → (w.alloc (.cells #[.bool false, .int .i64 0, .slice none 0 0] 81)).heap[b]? = w.heap[b]? := fun b hb => heap_new_lt _ _ hb
  have d1 := heap_alloc_new w (.cells #[.bool false, .int .i64 0, .slice none 0 0] 81)
  generalize hN : w.heap.size = N at *
  generalize hw1 : w.alloc (.cells #[.bool false, .int .i64 0, .slice none 0 0] 81) = w1 at *
  repeat (first | refine Walk.c rfl ?_ | refine Walk.cRet ?_ | refine Walk.cEnd ?_ | (refine Walk.cReg ?_; simp only [size70_0, size70_1, size70_2, size70_3, List.range, List.range.loop]) | (refine Walk.oq ?_; try walk_nrm) | (refine Walk.un ?_; walk_nrm))
  refine Walk.storeS 81 (.tmp 4) (.tmp 10) (ho_of (by conv => lhs; whnf) (by kernel_rfl)) (by rfl) (by decide) rfl N #[.bool true, .int .i64 x, .slice none 0 0] _ 81 rfl rfl d1 (by kernel_rfl) (by rfl) (by simp [Value.oneCell']) hap ?_
  have d2 := setRow_self (cells := #[.bool true, .int .i64 x, .slice none 0 0]) d1
  have o2 : ∀ b, b < N → (w1.setRow N #[.bool true, .int .i64 x, .slice none 0 0]).heap[b]? = w.heap[b]? := fun b hb => (setRow_other _ _ (by omega)).trans (o1 b hb)
  have s2 := setRow_size w1 N #[.bool true, .int .i64 x, .slice none 0 0]
  generalize w1.setRow N #[.bool true, .int .i64 x, .slice none 0 0] = w2 at *
  walk_nrm
  repeat (first | refine Walk.c rfl ?_ | refine Walk.cRet ?_ | refine Walk.cEnd ?_ | (refine Walk.cReg ?_; simp only [size70_0, size70_1, size70_2, size70_3, List.range, List.range.loop]) | (refine Walk.oq ?_; try walk_nrm) | (refine Walk.un ?_; walk_nrm))
  refine Walk.onCell (T := N) rfl rfl rfl Try.func70 rfl (by rfl) d2 (by kernel_rfl) (by kernel_rfl) (.stop fun d => ⟨_, ⟨rfl, ?_, ?_⟩, rfl⟩)
  · rw [hN]
    exact o2
  · show w.heap.size ≤ w2.heap.size
    omega
theorem told_no (x er : Int) (her : er ≠ 0) (w : World) (hA : ∀ b, w.heap.size ≤ b → Apart V b) : CallW Try.prog main V 70 #[.int .i64 x, .int .i64 er] w (GansOf x er w) := by
  have hap := hA w.heap.size (Nat.le_refl _)
  have hb1 : (er == 0) = false := by simp [her]
  have hb2 : (er != 0) = true := by simp [her]
  have hif : (if er = 0 then x else er) = er := if_neg her
  unfold GansOf
  rw [hif]
  refine callW_in Try.func70 code70_is fun fr cs => ?_
  simp only [Try.ntmps70, List.size_toArray, List.length_cons, List.length_nil, Nat.reduceAdd, Nat.reduceSub, Array.replicate_succ, Array.replicate_zero, List.push_toArray, List.append_toArray, List.nil_append, List.cons_append]
  repeat (first | refine Walk.c rfl ?_ | refine Walk.cRet ?_ | refine Walk.cEnd ?_ | (refine Walk.cReg ?_; simp only [size70_0, size70_1, size70_2, size70_3, List.range, List.range.loop]) | (refine Walk.oq ?_; try walk_nrm) | (refine Walk.un ?_; walk_nrm))
  (refine Walk.oa ?_; try walk_nrm)
  have s1 : (w.alloc (.cells #[.bool false, .int .i64 0, .slice none 0 0] 81)).heap.size = w.heap.size + 1 := by simp
  have o1 : ∀ b, b < w.heap.size → (w.alloc (.cells #[.bool false, .int .i64 0, .slice none 0 0] 81)).heap[b]? = w.heap[b]? := fun b hb => heap_new_lt _ _ hb
  have d1 := heap_alloc_new w (.cells #[.bool false, .int .i64 0, .slice none 0 0] 81)
  generalize hN : w.heap.size = N at *
  generalize hw1 : w.alloc (.cells #[.bool false, .int .i64 0, .slice none 0 0] 81) = w1 at *
  repeat (first | refine Walk.c rfl ?_ | refine Walk.cRet ?_ | refine Walk.cEnd ?_ | (refine Walk.cReg ?_; simp only [size70_0, size70_1, size70_2, size70_3, List.range, List.range.loop]) | (refine Walk.oq ?_; try walk_nrm) | (refine Walk.un ?_; walk_nrm))
  refine Walk.storeS 81 (.tmp 4) (.tmp 8) (ho_of (by conv => lhs; whnf) (by kernel_rfl)) (by rfl) (by decide) rfl N #[.bool false, .int .i64 er, .slice none 0 0] _ 81 rfl rfl d1 (by kernel_rfl) (by rfl) (by simp [Value.oneCell']) hap ?_
  have d2 := setRow_self (cells := #[.bool false, .int .i64 er, .slice none 0 0]) d1
  have o2 : ∀ b, b < N → (w1.setRow N #[.bool false, .int .i64 er, .slice none 0 0]).heap[b]? = w.heap[b]? := fun b hb => (setRow_other _ _ (by omega)).trans (o1 b hb)
  have s2 := setRow_size w1 N #[.bool false, .int .i64 er, .slice none 0 0]
  generalize w1.setRow N #[.bool false, .int .i64 er, .slice none 0 0] = w2 at *
  walk_nrm
  repeat (first | refine Walk.c rfl ?_ | refine Walk.cRet ?_ | refine Walk.cEnd ?_ | (refine Walk.cReg ?_; simp only [size70_0, size70_1, size70_2, size70_3, List.range, List.range.loop]) | (refine Walk.oq ?_; try walk_nrm) | (refine Walk.un ?_; walk_nrm))
  refine Walk.onCell (T := N) rfl rfl rfl Try.func70 rfl (by rfl) d2 (by kernel_rfl) (by kernel_rfl) (.stop fun d => ⟨_, ⟨by rw [hb1], ?_, ?_⟩, rfl⟩)
  · exact o2
  · show N ≤ w2.heap.size
    omega
theorem told_w (x er : Int) (w : World) (hA : ∀ b, w.heap.size ≤ b → Apart V b) : CallW Try.prog main V 70 #[.int .i64 x, .int .i64 er] w (GansOf x er w) := by
  by_cases h : er = 0
  · subst h
    exact told_yes x w hA
  · exact told_no x er h w hA
structure LwI (w0 : World) (l : List Int) (i : Nat) (ta : Option Addr) (tc : Nat) (w : World) : Prop where
  row : w.ownsRow w0.heap.size 2 1 (.slice ta i tc) i ((l.take i).map fun z => .int .i64 z)
  old : ∀ b, b < w0.heap.size → w.heap[b]? = w0.heap[b]?
  size : w0.heap.size ≤ w.heap.size
theorem LwI.at {w0 : World} {l : List Int} {i : Nat} {ta : Option Addr} {tc : Nat} {w : World} (h : LwI w0 l i ta tc w) (d : Nat) : LwI w0 l i ta tc (w.at d) := ⟨row_same h.row fun _ _ => rfl, h.old, h.size⟩
theorem lw_in (a : Option Addr) (n c : Nat) (w : World) (cs : List Frame) :
    Walk Try.prog main (DR V) (fun g w' => (∃ u, g = G (hdLw (.slice a n c) (.slice none 0 0) 0 u) cs) ∧ ∃ d, w' = w.at d) (G (Frame.enter Try.prog 33 #[.slice a n c] .normal) cs) w := by
  rw [enter_at _ Try.func33 code33_is]
  simp only [Try.ntmps33, List.size_toArray, List.length_cons, List.length_nil, Nat.reduceAdd, Nat.reduceSub, Array.replicate_succ, Array.replicate_zero, List.push_toArray, List.append_toArray, List.nil_append, List.cons_append]
  repeat (first | refine Walk.c rfl ?_ | refine Walk.cRet ?_ | refine Walk.cEnd ?_ | (refine Walk.cReg ?_; simp only [size33_0, size33_1, size33_2, size33_3, size33_5, size33_4, size33_6, List.range, List.range.loop]) | (refine Walk.oq ?_; try walk_nrm) | (refine Walk.un ?_; walk_nrm))
  refine Walk.ctl rfl (fun w => stepG_loop) ?_
  refine .stop fun d => ⟨at_slots ?_, d, rfl⟩
  simp only [hdLw]
  rfl
theorem lw_go (a : Option Addr) (l : List Int) (c i : Nat) (hn : l.length ≤ 64) (hi : i < l.length) (ta : Option Addr) (tc : Nat) (u : Nat → Value) (cs : List Frame) (w0 w : World) (M : LwI w0 l i ta tc w) (ha : NumA a l w0) (hA : ∀ b, w0.heap.size ≤ b → Apart V b) :
    Walk Try.prog main (DR V) (fun g w' => ∃ ta' tc', (∃ u, g = G (hdLw (.slice a l.length c) (.slice ta' (i + 1) tc') (i + 1) u) cs) ∧ LwI w0 l (i + 1) ta' tc' w') (G (hdLw (.slice a l.length c) (.slice ta i tc) i u) cs) w := by
  obtain ⟨hrow, hold, hsz⟩ := M
  have hi2 := Option.some_get (show (Try.prog.info? 2).isSome = true by kernel_rfl)
  have hx := List.getElem?_eq_getElem hi
  obtain ⟨ab, ao, rfl, hc⟩ := (ha.old hold) i _ hx
  have htk : l.take (i + 1) = l.take i ++ [l[i]] := by rw [List.take_add_one, hx]; rfl
  clear hx ha
  generalize l[i] = z at *
  obtain ⟨n, hnl⟩ : ∃ n, l.length = n := ⟨_, rfl⟩
  rw [hnl] at hi hn ⊢
  have hi0 : (0 : Int) ≤ i := by omega
  have hi1 : decide ((i : Int) < n) = true := by simp; omega
  have hi3 : decide (i < n) = true := by simp; omega
  have hi4 : (i : Int) < n := by omega
  have hw1 : IntKind.wrap .i64 ((i : Int) + 1) = (i : Int) + 1 := by rw [IntKind.wrap_i64]; omega
  have hc1 : ((i + 1 : Nat) : Int) = (i : Int) + 1 := by simp
  conv => arg 5; unfold hdLw
  repeat (first | refine Walk.c rfl ?_ | refine Walk.cRet ?_ | refine Walk.cEnd ?_ | (refine Walk.cReg ?_; simp only [size33_0, size33_1, size33_2, size33_3, size33_5, size33_4, size33_6, List.range, List.range.loop]) | (refine Walk.oq ?_; try walk_nrm) | (refine Walk.un ?_; walk_nrm))
  (refine Walk.oa ?_; try walk_nrm)
  have s1 : (w.alloc (.cells #[.int .i64 z] 2)).heap.size = w.heap.size + 1 := by simp
  have o1 : ∀ b, b < w.heap.size → (w.alloc (.cells #[.int .i64 z] 2)).heap[b]? = w.heap[b]? := fun b hb => heap_new_lt _ _ hb
  have d1 := heap_alloc_new w (.cells #[.int .i64 z] 2)
  have hrow1 : (w.alloc (.cells #[.int .i64 z] 2)).ownsRow w0.heap.size 2 1 (.slice ta i tc) i ((l.take i).map fun z => .int .i64 z) := row_same hrow fun b hb => o1 b (hrow.lt b hb).2
  have hnews : ∀ (q : Nat) (x : Value), ([.int .i64 z] : List Value)[q]? = some x → (w.alloc (.cells #[.int .i64 z] 2)).cell? ((⟨w.heap.size, 0, none⟩ : Addr).add q) = some x := fun q x hx => by
    rw [add_none, Nat.zero_add]
    refine (cell_of d1 q).trans ?_
    simpa using hx
  refine Walk.append (.tmp 11) (.tmp 16) 28 (ho_of (by conv => lhs; whnf) (by kernel_rfl)) (by rfl) (by decide) rfl w0.heap.size 2 _ (.int .i64 0) 1 8 huI64s hi2.symm (by rfl) (by rfl) (by rfl) (by rfl) (by decide) (.slice ta i tc) i _ rfl hrow1 ⟨w.heap.size, 0, none⟩ 1 1 [.int .i64 z] rfl (by rfl) hnews (by simp [Value.oneCell']) (by decide) (by simp [maxLen]; omega) (by omega) (by omega) (fun b hb => hA b (hrow1.lt b hb).1) (fun g gcap w3 hown3 hgr hat hlt => ?_)
  have hold3 : ∀ b, b < w0.heap.size → w3.heap[b]? = w0.heap[b]? := fun b hb => (hgr.block b (by omega) (fun he => by have := (hrow1.lt b he.symm).1; omega)).trans ((o1 b (by omega)).trans (hold b hb))
  have hs3 := hgr.size
  clear hrow1 hnews o1 d1
  walk_nrm
  repeat (first | refine Walk.c rfl ?_ | refine Walk.cRet ?_ | refine Walk.cEnd ?_ | (refine Walk.cReg ?_; simp only [size33_0, size33_1, size33_2, size33_3, size33_5, size33_4, size33_6, List.range, List.range.loop]) | (refine Walk.oq ?_; try walk_nrm) | (refine Walk.un ?_; walk_nrm))
  refine Walk.ctl rfl (fun w => stepG_inLoop) ?_
  refine .stop fun d => ⟨some ⟨g, 0, none⟩, gcap, at_slots ?_, LwI.at ⟨?_, hold3, by omega⟩ d⟩
  · simp only [hdLw, hc1]
    rfl
  · rw [htk, List.map_append]
    exact hown3
theorem lw_end (lv ov : Value) (a : Option Addr) (n c : Nat) (hl : lv = .slice a n c) (u : Nat → Value) (fr : Frame) (cs : List Frame) (w : World) :
    Walk Try.prog main (DR V) (fun g w' => g = G (fr.finish ov) cs ∧ ∃ d, w' = w.at d) (G (hdLw lv ov n u) (fr :: cs)) w := by
  subst hl
  have h1 : decide ((n : Int) < n) = false := by simp
  have h2 : decide (n < n) = false := by simp
  conv => arg 5; unfold hdLw
  repeat (first | refine Walk.c rfl ?_ | refine Walk.cRet ?_ | refine Walk.cEnd ?_ | (refine Walk.cReg ?_; simp only [size33_0, size33_1, size33_2, size33_3, size33_5, size33_4, size33_6, List.range, List.range.loop]) | (refine Walk.oq ?_; try walk_nrm) | (refine Walk.un ?_; walk_nrm))
  exact Walk.on1 rfl rfl Try.func33 rfl (.stop fun d => ⟨rfl, d, rfl⟩)
def LwideOf (l : List Int) (w : World) (v : Value) (w' : World) : Prop := ∃ a c, v = .slice a l.length c ∧ w'.ownsRow w.heap.size 2 1 v l.length (l.map fun z => .int .i64 z) ∧ (∀ b, b < w.heap.size → w'.heap[b]? = w.heap[b]?) ∧ w.heap.size ≤ w'.heap.size
theorem lwide_w (a : Option Addr) (l : List Int) (c : Nat) (hn : l.length ≤ 64) (w : World) (ha : NumA a l w) (hA : ∀ b, w.heap.size ≤ b → Apart V b) : CallW Try.prog main V 33 #[.slice a l.length c] w (LwideOf l w) := by
  intro fr cs
  refine (lw_in a l.length c w (fr :: cs)).then ?_
  rintro g _ ⟨⟨u, rfl⟩, d, rfl⟩
  refine Walk.back ?_ d
  have loop : ∀ (r i : Nat) (ta : Option Addr) (tc : Nat) (u : Nat → Value) (w1 : World), i + r = l.length → LwI w l i ta tc w1 →
      Walk Try.prog main (DR V) (fun g w' => ∃ v, (LwideOf l w v w') ∧ g = G (fr.finish v) cs) (G (hdLw (.slice a l.length c) (.slice ta i tc) i u) (fr :: cs)) w1 := by
    intro r
    induction r with
    | zero =>
      intro i ta tc u w1 hi M
      obtain rfl : i = l.length := hi
      refine (lw_end _ _ a l.length c rfl u fr cs w1).mono ?_
      rintro g w' ⟨rfl, d, rfl⟩
      have hr := M.row
      rw [List.take_of_length_le (Nat.le_refl _)] at hr
      exact ⟨_, ⟨ta, tc, rfl, row_same hr fun _ _ => rfl, M.old, M.size⟩, rfl⟩
    | succ r ih =>
      intro i ta tc u w1 hi M
      refine (lw_go a l c i hn (by omega) ta tc u (fr :: cs) w w1 M ha hA).then ?_
      rintro g w' ⟨ta', tc', ⟨u', rfl⟩, M2⟩
      exact ih (i + 1) ta' tc' u' w' (by omega) M2
  exact loop l.length 0 none 0 u w (Nat.zero_add _) ⟨⟨rfl, .inl ⟨rfl, rfl⟩⟩, fun _ _ => rfl, Nat.le_refl _⟩
end
end
section
noncomputable def reg30_0 : Array Oper := match Try.f30.body with | some (.seq (.region _ ops _) _) => ops | _ => #[]
theorem size30_0 : reg30_0.size = 2 := by kernel_rfl
noncomputable def reg30_1 : Array Oper := match Try.f30.body with | some (.seq _ (.seq (.seq (.region _ ops _) _) _)) => ops | _ => #[]
theorem size30_1 : reg30_1.size = 2 := by kernel_rfl
noncomputable def reg30_2 : Array Oper := match Try.f30.body with | some (.seq _ (.seq (.seq _ (.block _ (.seq (.region _ ops _) _))) _)) => ops | _ => #[]
theorem size30_2 : reg30_2.size = 2 := by kernel_rfl
noncomputable def reg30_3 : Array Oper := match Try.f30.body with | some (.seq _ (.seq (.seq _ (.block _ (.seq _ (.cond _ (.seq (.region _ ops _) _) _)))) _)) => ops | _ => #[]
theorem size30_3 : reg30_3.size = 9 := by kernel_rfl
noncomputable def reg30_4 : Array Oper := match Try.f30.body with | some (.seq _ (.seq (.seq _ (.block _ (.seq _ (.cond _ _ (.seq (.region _ ops _) _))))) _)) => ops | _ => #[]
theorem size30_4 : reg30_4.size = 2 := by kernel_rfl
noncomputable def reg30_5 : Array Oper := match Try.f30.body with | some (.seq _ (.seq (.seq _ (.block _ (.seq _ (.cond _ _ (.seq _ (.cond _ (.seq (.region _ ops _) _) _)))))) _)) => ops | _ => #[]
theorem size30_5 : reg30_5.size = 7 := by kernel_rfl
noncomputable def reg30_6 : Array Oper := match Try.f30.body with | some (.seq _ (.seq (.seq _ (.block _ (.seq _ (.cond _ _ (.seq _ (.cond _ _ (.seq (.region _ ops _) _))))))) _)) => ops | _ => #[]
theorem size30_6 : reg30_6.size = 2 := by kernel_rfl
noncomputable def reg30_7 : Array Oper := match Try.f30.body with | some (.seq _ (.seq (.seq _ (.block _ (.seq _ (.cond _ _ (.seq _ (.cond _ _ (.seq _ (.cond _ (.seq (.region _ ops _) _) _)))))))) _)) => ops | _ => #[]
theorem size30_7 : reg30_7.size = 9 := by kernel_rfl
noncomputable def reg30_8 : Array Oper := match Try.f30.body with | some (.seq _ (.seq (.seq _ (.block _ (.seq _ (.cond _ _ (.seq _ (.cond _ _ (.seq _ (.cond _ _ (.seq (.region _ ops _) _))))))))) _)) => ops | _ => #[]
theorem size30_8 : reg30_8.size = 2 := by kernel_rfl
noncomputable def reg30_9 : Array Oper := match Try.f30.body with | some (.seq _ (.seq (.seq _ (.block _ (.seq _ (.cond _ _ (.seq _ (.cond _ _ (.seq _ (.cond _ _ (.seq _ (.cond _ (.seq (.region _ ops _) _) _)))))))))) _)) => ops | _ => #[]
theorem size30_9 : reg30_9.size = 9 := by kernel_rfl
noncomputable def reg30_10 : Array Oper := match Try.f30.body with | some (.seq _ (.seq (.seq _ (.block _ (.seq _ (.cond _ _ (.seq _ (.cond _ _ (.seq _ (.cond _ _ (.seq _ (.cond _ _ (.seq (.region _ ops _) _))))))))))) _)) => ops | _ => #[]
theorem size30_10 : reg30_10.size = 2 := by kernel_rfl
noncomputable def reg30_11 : Array Oper := match Try.f30.body with | some (.seq _ (.seq (.seq _ (.block _ (.seq _ (.cond _ _ (.seq _ (.cond _ _ (.seq _ (.cond _ _ (.seq _ (.cond _ _ (.seq _ (.cond _ (.seq (.region _ ops _) _) _)))))))))))) _)) => ops | _ => #[]
theorem size30_11 : reg30_11.size = 6 := by kernel_rfl
noncomputable def reg30_12 : Array Oper := match Try.f30.body with | some (.seq _ (.seq (.seq _ (.block _ (.seq _ (.cond _ _ (.seq _ (.cond _ _ (.seq _ (.cond _ _ (.seq _ (.cond _ _ (.seq _ (.cond _ _ (.seq (.region _ ops _) _))))))))))))) _)) => ops | _ => #[]
theorem size30_12 : reg30_12.size = 2 := by kernel_rfl
noncomputable def reg30_13 : Array Oper := match Try.f30.body with | some (.seq _ (.seq (.seq _ (.block _ (.seq _ (.cond _ _ (.seq _ (.cond _ _ (.seq _ (.cond _ _ (.seq _ (.cond _ _ (.seq _ (.cond _ _ (.seq _ (.cond _ (.seq (.region _ ops _) _) _)))))))))))))) _)) => ops | _ => #[]
theorem size30_13 : reg30_13.size = 10 := by kernel_rfl
noncomputable def reg30_14 : Array Oper := match Try.f30.body with | some (.seq _ (.seq (.seq _ (.block _ (.seq _ (.cond _ _ (.seq _ (.cond _ _ (.seq _ (.cond _ _ (.seq _ (.cond _ _ (.seq _ (.cond _ _ (.seq _ (.cond _ (.seq _ (.seq (.region _ ops _) _)) _)))))))))))))) _)) => ops | _ => #[]
theorem size30_14 : reg30_14.size = 5 := by kernel_rfl
noncomputable def reg30_15 : Array Oper := match Try.f30.body with | some (.seq _ (.seq (.seq _ (.block _ (.seq _ (.cond _ _ (.seq _ (.cond _ _ (.seq _ (.cond _ _ (.seq _ (.cond _ _ (.seq _ (.cond _ _ (.seq _ (.cond _ _ (.seq (.region _ ops _) _))))))))))))))) _)) => ops | _ => #[]
theorem size30_15 : reg30_15.size = 2 := by kernel_rfl
noncomputable def reg30_16 : Array Oper := match Try.f30.body with | some (.seq _ (.seq (.seq _ (.block _ (.seq _ (.cond _ _ (.seq _ (.cond _ _ (.seq _ (.cond _ _ (.seq _ (.cond _ _ (.seq _ (.cond _ _ (.seq _ (.cond _ _ (.seq _ (.cond _ (.seq (.region _ ops _) _) _)))))))))))))))) _)) => ops | _ => #[]
theorem size30_16 : reg30_16.size = 12 := by kernel_rfl
noncomputable def reg30_17 : Array Oper := match Try.f30.body with | some (.seq _ (.seq (.seq _ (.block _ (.seq _ (.cond _ _ (.seq _ (.cond _ _ (.seq _ (.cond _ _ (.seq _ (.cond _ _ (.seq _ (.cond _ _ (.seq _ (.cond _ _ (.seq _ (.cond _ (.seq _ (.seq (.region _ ops _) _)) _)))))))))))))))) _)) => ops | _ => #[]
theorem size30_17 : reg30_17.size = 4 := by kernel_rfl
noncomputable def reg30_18 : Array Oper := match Try.f30.body with | some (.seq _ (.seq _ (.seq (.region _ ops _) _))) => ops | _ => #[]
theorem size30_18 : reg30_18.size = 2 := by kernel_rfl
theorem code30_is : Try.f30.body = some (.seq (.region 0 reg30_0 false) (.seq (.seq (.region 1 reg30_1 false) (.block 0 (.seq (.region 2 reg30_2 false) (.cond (.tmp 13 ) (.seq (.region 3 reg30_3 false) (.ret)) (.seq (.region 4 reg30_4 false) (.cond (.tmp 23 ) (.seq (.region 5 reg30_5 false) (.ret)) (.seq (.region 6 reg30_6 false) (.cond (.tmp 31 ) (.seq (.region 7 reg30_7 false) (.ret)) (.seq (.region 8 reg30_8 false) (.cond (.tmp 41 ) (.seq (.region 9 reg30_9 false) (.ret)) (.seq (.region 10 reg30_10 false) (.cond (.tmp 51 ) (.seq (.region 11 reg30_11 false) (.ret)) (.seq (.region 12 reg30_12 false) (.cond (.tmp 58 ) (.seq (.region 13 reg30_13 false) (.seq (.region 14 reg30_14 false) (.ret))) (.seq (.region 15 reg30_15 false) (.cond (.tmp 72 ) (.seq (.region 16 reg30_16 false) (.seq (.region 17 reg30_17 false) (.ret))) (.skip))))))))))))))))) (.seq (.region 18 reg30_18 false) (.ret)))) := by kernel_rfl
section
variable {gb : Nat} {sv : Value}
theorem cell_back6 {L : La} {sv : Value} (K : Lg L sv) {F : FuncId} {fn : Func} {e2 : K.E} {fr c : Frame} {l : List Frame} {R : Nat} {a : Ans} {sl : Value} (hm : K.mine e2 R) (hR : (K.w e2).heap[R]? = some (.cells #[.bool false, .int .i64 0, .slice none 0 0] 81))
    (ht : K.tgt e2 = (K.s e2, .inl a)) (hsl : GatL K e2 sl a.l) (hk : ∀ e', K.tgt e' = (K.s e', .inl a) → GatL K e' sl a.l → LW K.toLb e' (G (c.finish (ansV a sl)) (l ++ K.bot e')))
    (hF : Try.prog.funcs[F]? = some fn) (hres : fn.results = #[.cell 6 81]) (hfr : fr.mode = .returning ∧ fr.kind = .normal ∧ fr.defers = [] ∧ fr.fn = F ∧ fr.tmps.getD 6 undef = .pointer (some ⟨R, 0, none⟩)) :
    Walk Try.prog K.main (DR (K.V e2)) (K.Stop e2) (G fr (c :: (l ++ K.bot e2))) ((K.w e2).setRow R #[.bool a.ok, .int .i64 a.n, sl]) := by
  obtain ⟨h1, h2, h3, h4, h5⟩ := hfr
  obtain ⟨e3, m⟩ := K.own e2 (w' := (K.w e2).setRow R #[.bool a.ok, .int .i64 a.n, sl]) (by rw [setRow_size]; exact Nat.le_refl _) (fun b _ hbm => setRow_other _ _ (fun he : b = R => hbm (by rw [he]; exact hm)))
  have c9 := setRow_self (cells := #[.bool a.ok, .int .i64 a.n, sl]) hR
  refine Walk.onCell (T := R) h1 h2 h3 (by rw [h4]; exact hF) hres h5 c9 (by kernel_rfl) (by kernel_rfl) ?_
  refine LW.to m (hk e3 ?_ ?_)
  · rw [m.tgt, m.s]
    exact ht
  · refine hsl.keep (fun b h => (m.mine b).2 (.inl h)) fun b _ hb => ?_
    rw [m.w]
    exact setRow_other _ _ (hsl.ne hR b hb)
theorem lcall_s (K : Lg (gtLa gb) sv) (e : K.E) (th ok oa ob oc : Int) (ht : K.tgt e = gtEnter (K.s e) th ⟨ok, oa, ob, oc⟩) :
    SCall K.toLb 30 #[.pointer (some ⟨gb, 0, none⟩), sv, .agg #[.int .i64 ok, .int .i64 oa, .int .i64 ob, .int .i64 oc]] e (DoOutK K) := by
  intro fr l hp hl hk
  have hp1 := fun w => run_eql_ptr (P := Try.prog) 74 undGate (some ⟨gb, 0, none⟩) w
  have hp2 := fun w es => ev_eql_ptr (P := Try.prog) 74 undGate (some ⟨gb, 0, none⟩) w es
  simp only [Option.isNone_some] at hp1
  unfold LW
  rw [enter_at _ Try.func30 code30_is]
  simp only [Try.ntmps30, List.size_toArray, List.length_cons, List.length_nil, Nat.reduceAdd, Nat.reduceSub, Array.replicate_succ, Array.replicate_zero, List.push_toArray, List.append_toArray, List.nil_append, List.cons_append]
  repeat (first | refine Walk.c rfl ?_ | refine Walk.cRet ?_ | refine Walk.cEnd ?_ | (refine Walk.cReg ?_; simp only [size30_0, size30_1, size30_2, size30_3, size30_4, size30_5, size30_6, size30_7, size30_8, size30_9, size30_10, size30_11, size30_12, size30_13, size30_14, size30_15, size30_16, size30_17, size30_18, List.range, List.range.loop]) | (refine Walk.oq ?_; try walk_nrm) | (refine Walk.un ?_; walk_nrm))
  (refine Walk.oa ?_; try walk_nrm)
  (refine Walk.oa ?_; try walk_nrm)
  have hA1 : ((K.w e).alloc (.cells #[.int .i64 ok, .int .i64 oa, .int .i64 ob, .int .i64 oc] 84)).heap.size = (K.w e).heap.size + 1 := by simp
  have c1 : (((K.w e).alloc (.cells #[.int .i64 ok, .int .i64 oa, .int .i64 ob, .int .i64 oc] 84)).alloc (.cells #[.bool false, .int .i64 0, .slice none 0 0] 81)).heap[(K.w e).heap.size]? = some (.cells #[.int .i64 ok, .int .i64 oa, .int .i64 ob, .int .i64 oc] 84) := by
    rw [heap_new_lt _ _ (by omega)]
    exact heap_alloc_new _ _
  have c2 : (((K.w e).alloc (.cells #[.int .i64 ok, .int .i64 oa, .int .i64 ob, .int .i64 oc] 84)).alloc (.cells #[.bool false, .int .i64 0, .slice none 0 0] 81)).heap[(K.w e).heap.size + 1]? = some (.cells #[.bool false, .int .i64 0, .slice none 0 0] 81) := by
    have := heap_alloc_new ((K.w e).alloc (.cells #[.int .i64 ok, .int .i64 oa, .int .i64 ob, .int .i64 oc] 84)) (.cells #[.bool false, .int .i64 0, .slice none 0 0] 81)
    rwa [hA1] at this
  have hs2 : (((K.w e).alloc (.cells #[.int .i64 ok, .int .i64 oa, .int .i64 ob, .int .i64 oc] 84)).alloc (.cells #[.bool false, .int .i64 0, .slice none 0 0] 81)).heap.size = (K.w e).heap.size + 2 := by simp
  obtain ⟨e1, m1⟩ := K.grow e (w' := ((K.w e).alloc (.cells #[.int .i64 ok, .int .i64 oa, .int .i64 ob, .int .i64 oc] 84)).alloc (.cells #[.bool false, .int .i64 0, .slice none 0 0] 81)) (by omega) (fun b hb' => by
    rw [heap_new_lt _ _ (by omega)]
    exact heap_new_lt _ _ hb')
  try simp only [hA1]
  generalize hw2 : ((K.w e).alloc (.cells #[.int .i64 ok, .int .i64 oa, .int .i64 ob, .int .i64 oc] 84)).alloc (.cells #[.bool false, .int .i64 0, .slice none 0 0] 81) = w2 at *
  generalize hN : (K.w e).heap.size = N at *
  have hmn : K.mine e1 (N + 1) := m1.new (by omega) (by omega)
  have ht1 : K.tgt e1 = gtEnter (K.s e1) th ⟨ok, oa, ob, oc⟩ := by rw [m1.tgt, m1.s]; exact ht
  have d0 := (cell_of c1 0).trans rfl
  have d1 := (cell_of c1 1).trans rfl
  have d2 := (cell_of c1 2).trans rfl
  have hw1 := m1.w
  refine LW.to (l := fr :: l) m1 ?_
  unfold LW
  clear hw2 m1 ht
  subst hw1
  have hapN := (K.mineA e1 _ hmn).1
  repeat (first | refine Walk.c rfl ?_ | refine Walk.cRet ?_ | refine Walk.cEnd ?_ | (refine Walk.cReg ?_; simp only [size30_0, size30_1, size30_2, size30_3, size30_4, size30_5, size30_6, size30_7, size30_8, size30_9, size30_10, size30_11, size30_12, size30_13, size30_14, size30_15, size30_16, size30_17, size30_18, List.range, List.range.loop]) | (refine Walk.oq ?_; try walk_nrm) | (refine Walk.un ?_; walk_nrm))
  by_cases h1 : ok = 1
  · subst h1
    have ht3 : K.tgt e1 = (K.s e1, if gOK oa then .inr (.j1 oa ob) else gErr 1) := ht1
    repeat (first | refine Walk.c rfl ?_ | refine Walk.cRet ?_ | refine Walk.cEnd ?_ | (refine Walk.cReg ?_; simp only [size30_0, size30_1, size30_2, size30_3, size30_4, size30_5, size30_6, size30_7, size30_8, size30_9, size30_10, size30_11, size30_12, size30_13, size30_14, size30_15, size30_16, size30_17, size30_18, List.range, List.range.loop]) | (refine Walk.oq ?_; try walk_nrm) | (refine Walk.un ?_; walk_nrm))
    have hg := SCall.fz K (join_all (Fz K e1) (fz0 K e1) oa ob ht3)
    refine LW.callS (K := K.toLb) (e := e1) (l := fr :: l) (f := 60) (Q := fun x e' => ∃ h : Kept K e1 e', ErrOut (Fz K e1) gErr x ⟨e', h⟩) ?_ (ho_of (by conv => lhs; whnf) (by kernel_rfl)) (by rfl) (by decide) rfl Try.func60 (by kernel_rfl) (by rfl) ⟨rfl, rfl, _, Try.func30⟩ (plain_cons hp hl) ?_
    · walk_nrm
      exact hg
    rintro x e2 ⟨hkept, er, rfl, ht4⟩
    obtain ⟨hm2, hb2⟩ := hkept (N + 1) hmn
    rw [c2] at hb2
    clear hg
    replace ht4 : K.tgt e2 = (K.s e2, .inl ⟨er == 0, if er = 0 then 0 else er, []⟩) := ht4
    have hans := told_w (main := K.main) (V := K.V e2) 0 er (K.w e2) (K.newA e2)
    unfold LW
    walk_nrm
    repeat (first | refine Walk.c rfl ?_ | refine Walk.cRet ?_ | refine Walk.cEnd ?_ | (refine Walk.cReg ?_; simp only [size30_0, size30_1, size30_2, size30_3, size30_4, size30_5, size30_6, size30_7, size30_8, size30_9, size30_10, size30_11, size30_12, size30_13, size30_14, size30_15, size30_16, size30_17, size30_18, List.range, List.range.loop]) | (refine Walk.oq ?_; try walk_nrm) | (refine Walk.un ?_; walk_nrm))
    refine Walk.callW (Post := GansOf 0 er (K.w e2)) ?_ (ho_of (by conv => lhs; whnf) (by kernel_rfl)) (by rfl) (by decide) rfl Try.func70 (by kernel_rfl) (by rfl) ?_
    · walk_nrm
      exact hans
    rintro v w3 ⟨rfl, o3, z3⟩
    clear hans
    have lN : N + 1 < (K.w e2).heap.size := (Array.getElem?_eq_some_iff.1 hb2).1
    obtain ⟨e3, m3⟩ := K.grow e2 (w' := w3) z3 o3
    have hm3 : K.mine e3 (N + 1) := (m3.mine _).2 (.inl hm2)
    have hb3 : (K.w e3).heap[N + 1]? = some (.cells #[.bool false, .int .i64 0, .slice none 0 0] 81) := by rw [m3.w]; exact (o3 _ lN).trans hb2
    have ht5 : K.tgt e3 = (K.s e3, .inl ⟨er == 0, if er = 0 then 0 else er, []⟩) := by rw [m3.tgt, m3.s]; exact ht4
    have hap3 := (K.mineA e3 _ hm3).1
    refine LW.to (l := fr :: l) m3 ?_
    unfold LW
    clear hb2 o3 m3 ht4
    generalize (if er = 0 then 0 else er) = y at *
    generalize (er == 0) = bb at *
    walk_nrm
    repeat (first | refine Walk.c rfl ?_ | refine Walk.cRet ?_ | refine Walk.cEnd ?_ | (refine Walk.cReg ?_; simp only [size30_0, size30_1, size30_2, size30_3, size30_4, size30_5, size30_6, size30_7, size30_8, size30_9, size30_10, size30_11, size30_12, size30_13, size30_14, size30_15, size30_16, size30_17, size30_18, List.range, List.range.loop]) | (refine Walk.oq ?_; try walk_nrm) | (refine Walk.un ?_; walk_nrm))
    refine Walk.storeS 81 (.tmp 6) (.tmp 22) (ho_of (by conv => lhs; whnf) (by kernel_rfl)) (by rfl) (by decide) rfl (N + 1) #[.bool bb, .int .i64 y, .slice none 0 0] _ 81 rfl rfl hb3 (by kernel_rfl) (by rfl) (by simp [Value.oneCell']) hap3 ?_
    walk_nrm
    repeat (first | refine Walk.c rfl ?_ | refine Walk.cRet ?_ | refine Walk.cEnd ?_ | (refine Walk.cReg ?_; simp only [size30_0, size30_1, size30_2, size30_3, size30_4, size30_5, size30_6, size30_7, size30_8, size30_9, size30_10, size30_11, size30_12, size30_13, size30_14, size30_15, size30_16, size30_17, size30_18, List.range, List.range.loop]) | (refine Walk.oq ?_; try walk_nrm) | (refine Walk.un ?_; walk_nrm))
    exact cell_back6 K (a := ⟨bb, y, []⟩) (sl := .slice none 0 0) hm3 hb3 ht5 (GatL.nil K e3) (fun e' h h' => hk _ e' ⟨_, _, h, rfl, h', by simp⟩) Try.func30 rfl ⟨rfl, rfl, rfl, rfl, rfl⟩
  have hbk1 : (ok == 1) = false := by simp [h1]
  simp only [hbk1]
  repeat (first | refine Walk.c rfl ?_ | refine Walk.cRet ?_ | refine Walk.cEnd ?_ | (refine Walk.cReg ?_; simp only [size30_0, size30_1, size30_2, size30_3, size30_4, size30_5, size30_6, size30_7, size30_8, size30_9, size30_10, size30_11, size30_12, size30_13, size30_14, size30_15, size30_16, size30_17, size30_18, List.range, List.range.loop]) | (refine Walk.oq ?_; try walk_nrm) | (refine Walk.un ?_; walk_nrm))
  by_cases h2 : ok = 2
  · subst h2
    have ht3 : K.tgt e1 = (K.s e1, if gOK oa then .inr (.l1 oa) else gErr 1) := ht1
    repeat (first | refine Walk.c rfl ?_ | refine Walk.cRet ?_ | refine Walk.cEnd ?_ | (refine Walk.cReg ?_; simp only [size30_0, size30_1, size30_2, size30_3, size30_4, size30_5, size30_6, size30_7, size30_8, size30_9, size30_10, size30_11, size30_12, size30_13, size30_14, size30_15, size30_16, size30_17, size30_18, List.range, List.range.loop]) | (refine Walk.oq ?_; try walk_nrm) | (refine Walk.un ?_; walk_nrm))
    have hg := SCall.fz K (leave_all (Fz K e1) (fz0 K e1) oa ht3)
    refine LW.callS (K := K.toLb) (e := e1) (l := fr :: l) (f := 63) (Q := fun x e' => ∃ h : Kept K e1 e', ErrOut (Fz K e1) gErr x ⟨e', h⟩) ?_ (ho_of (by conv => lhs; whnf) (by kernel_rfl)) (by rfl) (by decide) rfl Try.func63 (by kernel_rfl) (by rfl) ⟨rfl, rfl, _, Try.func30⟩ (plain_cons hp hl) ?_
    · walk_nrm
      exact hg
    rintro x e2 ⟨hkept, er, rfl, ht4⟩
    obtain ⟨hm2, hb2⟩ := hkept (N + 1) hmn
    rw [c2] at hb2
    clear hg
    replace ht4 : K.tgt e2 = (K.s e2, .inl ⟨er == 0, if er = 0 then 0 else er, []⟩) := ht4
    have hans := told_w (main := K.main) (V := K.V e2) 0 er (K.w e2) (K.newA e2)
    unfold LW
    walk_nrm
    repeat (first | refine Walk.c rfl ?_ | refine Walk.cRet ?_ | refine Walk.cEnd ?_ | (refine Walk.cReg ?_; simp only [size30_0, size30_1, size30_2, size30_3, size30_4, size30_5, size30_6, size30_7, size30_8, size30_9, size30_10, size30_11, size30_12, size30_13, size30_14, size30_15, size30_16, size30_17, size30_18, List.range, List.range.loop]) | (refine Walk.oq ?_; try walk_nrm) | (refine Walk.un ?_; walk_nrm))
    refine Walk.callW (Post := GansOf 0 er (K.w e2)) ?_ (ho_of (by conv => lhs; whnf) (by kernel_rfl)) (by rfl) (by decide) rfl Try.func70 (by kernel_rfl) (by rfl) ?_
    · walk_nrm
      exact hans
    rintro v w3 ⟨rfl, o3, z3⟩
    clear hans
    have lN : N + 1 < (K.w e2).heap.size := (Array.getElem?_eq_some_iff.1 hb2).1
    obtain ⟨e3, m3⟩ := K.grow e2 (w' := w3) z3 o3
    have hm3 : K.mine e3 (N + 1) := (m3.mine _).2 (.inl hm2)
    have hb3 : (K.w e3).heap[N + 1]? = some (.cells #[.bool false, .int .i64 0, .slice none 0 0] 81) := by rw [m3.w]; exact (o3 _ lN).trans hb2
    have ht5 : K.tgt e3 = (K.s e3, .inl ⟨er == 0, if er = 0 then 0 else er, []⟩) := by rw [m3.tgt, m3.s]; exact ht4
    have hap3 := (K.mineA e3 _ hm3).1
    refine LW.to (l := fr :: l) m3 ?_
    unfold LW
    clear hb2 o3 m3 ht4
    generalize (if er = 0 then 0 else er) = y at *
    generalize (er == 0) = bb at *
    walk_nrm
    repeat (first | refine Walk.c rfl ?_ | refine Walk.cRet ?_ | refine Walk.cEnd ?_ | (refine Walk.cReg ?_; simp only [size30_0, size30_1, size30_2, size30_3, size30_4, size30_5, size30_6, size30_7, size30_8, size30_9, size30_10, size30_11, size30_12, size30_13, size30_14, size30_15, size30_16, size30_17, size30_18, List.range, List.range.loop]) | (refine Walk.oq ?_; try walk_nrm) | (refine Walk.un ?_; walk_nrm))
    refine Walk.storeS 81 (.tmp 6) (.tmp 30) (ho_of (by conv => lhs; whnf) (by kernel_rfl)) (by rfl) (by decide) rfl (N + 1) #[.bool bb, .int .i64 y, .slice none 0 0] _ 81 rfl rfl hb3 (by kernel_rfl) (by rfl) (by simp [Value.oneCell']) hap3 ?_
    walk_nrm
    repeat (first | refine Walk.c rfl ?_ | refine Walk.cRet ?_ | refine Walk.cEnd ?_ | (refine Walk.cReg ?_; simp only [size30_0, size30_1, size30_2, size30_3, size30_4, size30_5, size30_6, size30_7, size30_8, size30_9, size30_10, size30_11, size30_12, size30_13, size30_14, size30_15, size30_16, size30_17, size30_18, List.range, List.range.loop]) | (refine Walk.oq ?_; try walk_nrm) | (refine Walk.un ?_; walk_nrm))
    exact cell_back6 K (a := ⟨bb, y, []⟩) (sl := .slice none 0 0) hm3 hb3 ht5 (GatL.nil K e3) (fun e' h h' => hk _ e' ⟨_, _, h, rfl, h', by simp⟩) Try.func30 rfl ⟨rfl, rfl, rfl, rfl, rfl⟩
  have hbk2 : (ok == 2) = false := by simp [h2]
  simp only [hbk2]
  repeat (first | refine Walk.c rfl ?_ | refine Walk.cRet ?_ | refine Walk.cEnd ?_ | (refine Walk.cReg ?_; simp only [size30_0, size30_1, size30_2, size30_3, size30_4, size30_5, size30_6, size30_7, size30_8, size30_9, size30_10, size30_11, size30_12, size30_13, size30_14, size30_15, size30_16, size30_17, size30_18, List.range, List.range.loop]) | (refine Walk.oq ?_; try walk_nrm) | (refine Walk.un ?_; walk_nrm))
  by_cases h3 : ok = 3
  · subst h3
    have ht3 : K.tgt e1 = (K.s e1, if gOK oa then .inr (.s1 oa ob) else gErr 1) := ht1
    repeat (first | refine Walk.c rfl ?_ | refine Walk.cRet ?_ | refine Walk.cEnd ?_ | (refine Walk.cReg ?_; simp only [size30_0, size30_1, size30_2, size30_3, size30_4, size30_5, size30_6, size30_7, size30_8, size30_9, size30_10, size30_11, size30_12, size30_13, size30_14, size30_15, size30_16, size30_17, size30_18, List.range, List.range.loop]) | (refine Walk.oq ?_; try walk_nrm) | (refine Walk.un ?_; walk_nrm))
    have hg := SCall.fz K (gset_all (Fz K e1) (fz0 K e1) oa ob ht3)
    refine LW.callS (K := K.toLb) (e := e1) (l := fr :: l) (f := 36) (Q := fun x e' => ∃ h : Kept K e1 e', ErrOut (Fz K e1) gErr x ⟨e', h⟩) ?_ (ho_of (by conv => lhs; whnf) (by kernel_rfl)) (by rfl) (by decide) rfl Try.func36 (by kernel_rfl) (by rfl) ⟨rfl, rfl, _, Try.func30⟩ (plain_cons hp hl) ?_
    · walk_nrm
      exact hg
    rintro x e2 ⟨hkept, er, rfl, ht4⟩
    obtain ⟨hm2, hb2⟩ := hkept (N + 1) hmn
    rw [c2] at hb2
    clear hg
    replace ht4 : K.tgt e2 = (K.s e2, .inl ⟨er == 0, if er = 0 then 0 else er, []⟩) := ht4
    have hans := told_w (main := K.main) (V := K.V e2) 0 er (K.w e2) (K.newA e2)
    unfold LW
    walk_nrm
    repeat (first | refine Walk.c rfl ?_ | refine Walk.cRet ?_ | refine Walk.cEnd ?_ | (refine Walk.cReg ?_; simp only [size30_0, size30_1, size30_2, size30_3, size30_4, size30_5, size30_6, size30_7, size30_8, size30_9, size30_10, size30_11, size30_12, size30_13, size30_14, size30_15, size30_16, size30_17, size30_18, List.range, List.range.loop]) | (refine Walk.oq ?_; try walk_nrm) | (refine Walk.un ?_; walk_nrm))
    refine Walk.callW (Post := GansOf 0 er (K.w e2)) ?_ (ho_of (by conv => lhs; whnf) (by kernel_rfl)) (by rfl) (by decide) rfl Try.func70 (by kernel_rfl) (by rfl) ?_
    · walk_nrm
      exact hans
    rintro v w3 ⟨rfl, o3, z3⟩
    clear hans
    have lN : N + 1 < (K.w e2).heap.size := (Array.getElem?_eq_some_iff.1 hb2).1
    obtain ⟨e3, m3⟩ := K.grow e2 (w' := w3) z3 o3
    have hm3 : K.mine e3 (N + 1) := (m3.mine _).2 (.inl hm2)
    have hb3 : (K.w e3).heap[N + 1]? = some (.cells #[.bool false, .int .i64 0, .slice none 0 0] 81) := by rw [m3.w]; exact (o3 _ lN).trans hb2
    have ht5 : K.tgt e3 = (K.s e3, .inl ⟨er == 0, if er = 0 then 0 else er, []⟩) := by rw [m3.tgt, m3.s]; exact ht4
    have hap3 := (K.mineA e3 _ hm3).1
    refine LW.to (l := fr :: l) m3 ?_
    unfold LW
    clear hb2 o3 m3 ht4
    generalize (if er = 0 then 0 else er) = y at *
    generalize (er == 0) = bb at *
    walk_nrm
    repeat (first | refine Walk.c rfl ?_ | refine Walk.cRet ?_ | refine Walk.cEnd ?_ | (refine Walk.cReg ?_; simp only [size30_0, size30_1, size30_2, size30_3, size30_4, size30_5, size30_6, size30_7, size30_8, size30_9, size30_10, size30_11, size30_12, size30_13, size30_14, size30_15, size30_16, size30_17, size30_18, List.range, List.range.loop]) | (refine Walk.oq ?_; try walk_nrm) | (refine Walk.un ?_; walk_nrm))
    refine Walk.storeS 81 (.tmp 6) (.tmp 40) (ho_of (by conv => lhs; whnf) (by kernel_rfl)) (by rfl) (by decide) rfl (N + 1) #[.bool bb, .int .i64 y, .slice none 0 0] _ 81 rfl rfl hb3 (by kernel_rfl) (by rfl) (by simp [Value.oneCell']) hap3 ?_
    walk_nrm
    repeat (first | refine Walk.c rfl ?_ | refine Walk.cRet ?_ | refine Walk.cEnd ?_ | (refine Walk.cReg ?_; simp only [size30_0, size30_1, size30_2, size30_3, size30_4, size30_5, size30_6, size30_7, size30_8, size30_9, size30_10, size30_11, size30_12, size30_13, size30_14, size30_15, size30_16, size30_17, size30_18, List.range, List.range.loop]) | (refine Walk.oq ?_; try walk_nrm) | (refine Walk.un ?_; walk_nrm))
    exact cell_back6 K (a := ⟨bb, y, []⟩) (sl := .slice none 0 0) hm3 hb3 ht5 (GatL.nil K e3) (fun e' h h' => hk _ e' ⟨_, _, h, rfl, h', by simp⟩) Try.func30 rfl ⟨rfl, rfl, rfl, rfl, rfl⟩
  have hbk3 : (ok == 3) = false := by simp [h3]
  simp only [hbk3]
  repeat (first | refine Walk.c rfl ?_ | refine Walk.cRet ?_ | refine Walk.cEnd ?_ | (refine Walk.cReg ?_; simp only [size30_0, size30_1, size30_2, size30_3, size30_4, size30_5, size30_6, size30_7, size30_8, size30_9, size30_10, size30_11, size30_12, size30_13, size30_14, size30_15, size30_16, size30_17, size30_18, List.range, List.range.loop]) | (refine Walk.oq ?_; try walk_nrm) | (refine Walk.un ?_; walk_nrm))
  by_cases h4 : ok = 4
  · subst h4
    have ht3 : K.tgt e1 = (K.s e1, if gOK oa then .inr (.g1 oa) else gErr 1) := ht1
    repeat (first | refine Walk.c rfl ?_ | refine Walk.cRet ?_ | refine Walk.cEnd ?_ | (refine Walk.cReg ?_; simp only [size30_0, size30_1, size30_2, size30_3, size30_4, size30_5, size30_6, size30_7, size30_8, size30_9, size30_10, size30_11, size30_12, size30_13, size30_14, size30_15, size30_16, size30_17, size30_18, List.range, List.range.loop]) | (refine Walk.oq ?_; try walk_nrm) | (refine Walk.un ?_; walk_nrm))
    have hg := SCall.fz K (gget_all (Fz K e1) (fz0 K e1) oa ht3)
    refine LW.callS (K := K.toLb) (e := e1) (l := fr :: l) (f := 71) (Q := fun x e' => ∃ h : Kept K e1 e', GgetOut (Fz K e1) x ⟨e', h⟩) ?_ (ho_of (by conv => lhs; whnf) (by kernel_rfl)) (by rfl) (by decide) rfl Try.func71 (by kernel_rfl) (by rfl) ⟨rfl, rfl, _, Try.func30⟩ (plain_cons hp hl) ?_
    · walk_nrm
      exact hg
    rintro x e2 ⟨hkept, xv, er, rfl, ht4⟩
    obtain ⟨hm2, hb2⟩ := hkept (N + 1) hmn
    rw [c2] at hb2
    clear hg
    replace ht4 : K.tgt e2 = (K.s e2, .inl ⟨er == 0, if er = 0 then xv else er, []⟩) := ht4
    have hans := told_w (main := K.main) (V := K.V e2) xv er (K.w e2) (K.newA e2)
    unfold LW
    walk_nrm
    repeat (first | refine Walk.c rfl ?_ | refine Walk.cRet ?_ | refine Walk.cEnd ?_ | (refine Walk.cReg ?_; simp only [size30_0, size30_1, size30_2, size30_3, size30_4, size30_5, size30_6, size30_7, size30_8, size30_9, size30_10, size30_11, size30_12, size30_13, size30_14, size30_15, size30_16, size30_17, size30_18, List.range, List.range.loop]) | (refine Walk.oq ?_; try walk_nrm) | (refine Walk.un ?_; walk_nrm))
    refine Walk.callW (Post := GansOf xv er (K.w e2)) ?_ (ho_of (by conv => lhs; whnf) (by kernel_rfl)) (by rfl) (by decide) rfl Try.func70 (by kernel_rfl) (by rfl) ?_
    · walk_nrm
      exact hans
    rintro v w3 ⟨rfl, o3, z3⟩
    clear hans
    have lN : N + 1 < (K.w e2).heap.size := (Array.getElem?_eq_some_iff.1 hb2).1
    obtain ⟨e3, m3⟩ := K.grow e2 (w' := w3) z3 o3
    have hm3 : K.mine e3 (N + 1) := (m3.mine _).2 (.inl hm2)
    have hb3 : (K.w e3).heap[N + 1]? = some (.cells #[.bool false, .int .i64 0, .slice none 0 0] 81) := by rw [m3.w]; exact (o3 _ lN).trans hb2
    have ht5 : K.tgt e3 = (K.s e3, .inl ⟨er == 0, if er = 0 then xv else er, []⟩) := by rw [m3.tgt, m3.s]; exact ht4
    have hap3 := (K.mineA e3 _ hm3).1
    refine LW.to (l := fr :: l) m3 ?_
    unfold LW
    clear hb2 o3 m3 ht4
    generalize (if er = 0 then xv else er) = y at *
    generalize (er == 0) = bb at *
    walk_nrm
    repeat (first | refine Walk.c rfl ?_ | refine Walk.cRet ?_ | refine Walk.cEnd ?_ | (refine Walk.cReg ?_; simp only [size30_0, size30_1, size30_2, size30_3, size30_4, size30_5, size30_6, size30_7, size30_8, size30_9, size30_10, size30_11, size30_12, size30_13, size30_14, size30_15, size30_16, size30_17, size30_18, List.range, List.range.loop]) | (refine Walk.oq ?_; try walk_nrm) | (refine Walk.un ?_; walk_nrm))
    refine Walk.storeS 81 (.tmp 6) (.tmp 50) (ho_of (by conv => lhs; whnf) (by kernel_rfl)) (by rfl) (by decide) rfl (N + 1) #[.bool bb, .int .i64 y, .slice none 0 0] _ 81 rfl rfl hb3 (by kernel_rfl) (by rfl) (by simp [Value.oneCell']) hap3 ?_
    walk_nrm
    repeat (first | refine Walk.c rfl ?_ | refine Walk.cRet ?_ | refine Walk.cEnd ?_ | (refine Walk.cReg ?_; simp only [size30_0, size30_1, size30_2, size30_3, size30_4, size30_5, size30_6, size30_7, size30_8, size30_9, size30_10, size30_11, size30_12, size30_13, size30_14, size30_15, size30_16, size30_17, size30_18, List.range, List.range.loop]) | (refine Walk.oq ?_; try walk_nrm) | (refine Walk.un ?_; walk_nrm))
    exact cell_back6 K (a := ⟨bb, y, []⟩) (sl := .slice none 0 0) hm3 hb3 ht5 (GatL.nil K e3) (fun e' h h' => hk _ e' ⟨_, _, h, rfl, h', by simp⟩) Try.func30 rfl ⟨rfl, rfl, rfl, rfl, rfl⟩
  have hbk4 : (ok == 4) = false := by simp [h4]
  simp only [hbk4]
  repeat (first | refine Walk.c rfl ?_ | refine Walk.cRet ?_ | refine Walk.cEnd ?_ | (refine Walk.cReg ?_; simp only [size30_0, size30_1, size30_2, size30_3, size30_4, size30_5, size30_6, size30_7, size30_8, size30_9, size30_10, size30_11, size30_12, size30_13, size30_14, size30_15, size30_16, size30_17, size30_18, List.range, List.range.loop]) | (refine Walk.oq ?_; try walk_nrm) | (refine Walk.un ?_; walk_nrm))
  by_cases h5 : ok = 5
  · subst h5
    have ht3 : K.tgt e1 = (K.s e1, .inr .t1) := ht1
    repeat (first | refine Walk.c rfl ?_ | refine Walk.cRet ?_ | refine Walk.cEnd ?_ | (refine Walk.cReg ?_; simp only [size30_0, size30_1, size30_2, size30_3, size30_4, size30_5, size30_6, size30_7, size30_8, size30_9, size30_10, size30_11, size30_12, size30_13, size30_14, size30_15, size30_16, size30_17, size30_18, List.range, List.range.loop]) | (refine Walk.oq ?_; try walk_nrm) | (refine Walk.un ?_; walk_nrm))
    have hg := SCall.fz K (glist_all (Fz K e1) (fz0 K e1) ht3)
    refine LW.callS (K := K.toLb) (e := e1) (l := fr :: l) (f := 72) (Q := fun x e' => ∃ h : Kept K e1 e', ListOut (Fz K e1) (fun l => .inl ⟨true, 0, l⟩) x ⟨e', h⟩) ?_ (ho_of (by conv => lhs; whnf) (by kernel_rfl)) (by rfl) (by decide) rfl Try.func72 (by kernel_rfl) (by rfl) ⟨rfl, rfl, _, Try.func30⟩ (plain_cons hp hl) ?_
    · walk_nrm
      exact hg
    rintro x e2 ⟨hkept, ls, h64, ⟨sa, sc, rfl, hnum, _, _⟩, ht4⟩
    obtain ⟨hm2, hb2⟩ := hkept (N + 1) hmn
    rw [c2] at hb2
    clear hg
    replace ht4 : K.tgt e2 = (K.s e2, .inl ⟨true, 0, ls⟩) := ht4
    have hwd := lwide_w (main := K.main) (V := K.V e2) sa ls sc h64 (K.w e2) hnum (K.newA e2)
    clear hnum
    unfold LW
    walk_nrm
    repeat (first | refine Walk.c rfl ?_ | refine Walk.cRet ?_ | refine Walk.cEnd ?_ | (refine Walk.cReg ?_; simp only [size30_0, size30_1, size30_2, size30_3, size30_4, size30_5, size30_6, size30_7, size30_8, size30_9, size30_10, size30_11, size30_12, size30_13, size30_14, size30_15, size30_16, size30_17, size30_18, List.range, List.range.loop]) | (refine Walk.oq ?_; try walk_nrm) | (refine Walk.un ?_; walk_nrm))
    refine Walk.callW (Post := LwideOf ls (K.w e2)) ?_ (ho_of (by conv => lhs; whnf) (by kernel_rfl)) (by rfl) (by decide) rfl Try.func33 (by kernel_rfl) (by rfl) ?_
    · walk_nrm
      exact hwd
    rintro v w3 ⟨ta, tc, rfl, hn3, o3, z3⟩
    clear hwd
    have lN : N + 1 < (K.w e2).heap.size := (Array.getElem?_eq_some_iff.1 hb2).1
    obtain ⟨e3, m3⟩ := K.grow e2 (w' := w3) z3 o3
    have hm3 : K.mine e3 (N + 1) := (m3.mine _).2 (.inl hm2)
    have hb3 : (K.w e3).heap[N + 1]? = some (.cells #[.bool false, .int .i64 0, .slice none 0 0] 81) := by rw [m3.w]; exact (o3 _ lN).trans hb2
    have ht5 : K.tgt e3 = (K.s e3, .inl ⟨true, 0, ls⟩) := by rw [m3.tgt, m3.s]; exact ht4
    have hap3 := (K.mineA e3 _ hm3).1
    have hls3 : GatL K e3 (.slice ta ls.length tc) ls := ⟨⟨_, _, rfl⟩, by rw [m3.w]; exact row_raise hn3 fun _ _ => Nat.zero_le _, fun b hb => m3.new (hn3.lt b hb).1 (hn3.lt b hb).2⟩
    have hcb := fun fr' hfr => cell_back6 K (F := 30) (fr := fr') (c := fr) (l := l) (a := ⟨true, 0, ls⟩) hm3 hb3 ht5 hls3 (fun e' h h' => hk _ e' ⟨_, _, h, rfl, h', by show ls.length ≤ 65536; omega⟩) Try.func30 rfl hfr
    refine LW.to (l := fr :: l) m3 ?_
    unfold LW
    clear hb2 o3 m3 ht4 hk hn3 hls3 z3 lN ht5
    generalize ls.length = ln at *
    walk_nrm
    repeat (first | refine Walk.c rfl ?_ | refine Walk.cRet ?_ | refine Walk.cEnd ?_ | (refine Walk.cReg ?_; simp only [size30_0, size30_1, size30_2, size30_3, size30_4, size30_5, size30_6, size30_7, size30_8, size30_9, size30_10, size30_11, size30_12, size30_13, size30_14, size30_15, size30_16, size30_17, size30_18, List.range, List.range.loop]) | (refine Walk.oq ?_; try walk_nrm) | (refine Walk.un ?_; walk_nrm))
    refine Walk.storeS 81 (.tmp 6) (.tmp 57) (ho_of (by conv => lhs; whnf) (by kernel_rfl)) (by rfl) (by decide) rfl (N + 1) #[.bool true, .int .i64 0, .slice ta ln tc] _ 81 rfl rfl hb3 (by kernel_rfl) (by rfl) (by simp [Value.oneCell']) hap3 ?_
    walk_nrm
    repeat (first | refine Walk.c rfl ?_ | refine Walk.cRet ?_ | refine Walk.cEnd ?_ | (refine Walk.cReg ?_; simp only [size30_0, size30_1, size30_2, size30_3, size30_4, size30_5, size30_6, size30_7, size30_8, size30_9, size30_10, size30_11, size30_12, size30_13, size30_14, size30_15, size30_16, size30_17, size30_18, List.range, List.range.loop]) | (refine Walk.oq ?_; try walk_nrm) | (refine Walk.un ?_; walk_nrm))
    exact hcb _ ⟨rfl, rfl, rfl, rfl, rfl⟩
  have hbk5 : (ok == 5) = false := by simp [h5]
  simp only [hbk5]
  repeat (first | refine Walk.c rfl ?_ | refine Walk.cRet ?_ | refine Walk.cEnd ?_ | (refine Walk.cReg ?_; simp only [size30_0, size30_1, size30_2, size30_3, size30_4, size30_5, size30_6, size30_7, size30_8, size30_9, size30_10, size30_11, size30_12, size30_13, size30_14, size30_15, size30_16, size30_17, size30_18, List.range, List.range.loop]) | (refine Walk.oq ?_; try walk_nrm) | (refine Walk.un ?_; walk_nrm))
  by_cases h6 : ok = 6
  · subst h6
    have ht3 : K.tgt e1 = (K.s e1, .inr (.e1 oa)) := ht1
    repeat (first | refine Walk.c rfl ?_ | refine Walk.cRet ?_ | refine Walk.cEnd ?_ | (refine Walk.cReg ?_; simp only [size30_0, size30_1, size30_2, size30_3, size30_4, size30_5, size30_6, size30_7, size30_8, size30_9, size30_10, size30_11, size30_12, size30_13, size30_14, size30_15, size30_16, size30_17, size30_18, List.range, List.range.loop]) | (refine Walk.oq ?_; try walk_nrm) | (refine Walk.un ?_; walk_nrm))
    have hg := SCall.fz K (gleast_all (Fz K e1) (fz0 K e1) oa ht3)
    refine LW.callS (K := K.toLb) (e := e1) (l := fr :: l) (f := 61) (Q := fun x e' => ∃ h : Kept K e1 e', LeastOut (Fz K e1) gLe x ⟨e', h⟩) ?_ (ho_of (by conv => lhs; whnf) (by kernel_rfl)) (by rfl) (by decide) rfl Try.func61 (by kernel_rfl) (by rfl) ⟨rfl, rfl, _, Try.func30⟩ (plain_cons hp hl) ?_
    · walk_nrm
      exact hg
    rintro x e2 ⟨hkept, ls, pl, rfl, ht4⟩
    obtain ⟨hm2, hb2⟩ := hkept (N + 1) hmn
    rw [c2] at hb2
    clear hg
    replace ht4 : K.tgt e2 = (K.s e2, .inl ⟨true, ls, [pl]⟩) := ht4
    unfold LW
    walk_nrm
    repeat (first | refine Walk.c rfl ?_ | refine Walk.cRet ?_ | refine Walk.cEnd ?_ | (refine Walk.cReg ?_; simp only [size30_0, size30_1, size30_2, size30_3, size30_4, size30_5, size30_6, size30_7, size30_8, size30_9, size30_10, size30_11, size30_12, size30_13, size30_14, size30_15, size30_16, size30_17, size30_18, List.range, List.range.loop]) | (refine Walk.oq ?_; try walk_nrm) | (refine Walk.un ?_; walk_nrm))
    (refine Walk.oa ?_; try walk_nrm)
    have o3 : ∀ b, b < (K.w e2).heap.size → ((K.w e2).alloc (.cells #[.int .i64 pl] 2)).heap[b]? = (K.w e2).heap[b]? := fun b hb => heap_new_lt _ _ hb
    have hn3 := heap_alloc_new (K.w e2) (.cells #[.int .i64 pl] 2)
    have z3 : ((K.w e2).alloc (.cells #[.int .i64 pl] 2)).heap.size = (K.w e2).heap.size + 1 := by simp
    generalize (K.w e2).alloc (.cells #[.int .i64 pl] 2) = w3 at *
    have lN : N + 1 < (K.w e2).heap.size := (Array.getElem?_eq_some_iff.1 hb2).1
    have z4 : (K.w e2).heap.size < w3.heap.size := by rw [z3]; exact Nat.lt_succ_self _
    obtain ⟨e3, m3⟩ := K.grow e2 (w' := w3) (Nat.le_of_lt z4) o3
    have hm3 : K.mine e3 (N + 1) := (m3.mine _).2 (.inl hm2)
    have hb3 : (K.w e3).heap[N + 1]? = some (.cells #[.bool false, .int .i64 0, .slice none 0 0] 81) := by rw [m3.w]; exact (o3 _ lN).trans hb2
    have ht5 : K.tgt e3 = (K.s e3, .inl ⟨true, ls, [pl]⟩) := by rw [m3.tgt, m3.s]; exact ht4
    have hap3 := (K.mineA e3 _ hm3).1
    have hls3 : GatL K e3 (.slice (some ⟨(K.w e2).heap.size, 0, none⟩) 1 1) [pl] := ⟨⟨_, _, rfl⟩, by rw [m3.w]; exact NumB.row (xs := [pl]) hn3 (Nat.zero_le _) (show 1 ≤ maxLen by decide), fun b hb => by cases hb; exact m3.new (Nat.le_refl _) z4⟩
    have hcb := fun fr' hfr => cell_back6 K (F := 30) (fr := fr') (c := fr) (l := l) (a := ⟨true, ls, [pl]⟩) hm3 hb3 ht5 hls3 (fun e' h h' => hk _ e' ⟨_, _, h, rfl, h', by simp⟩) Try.func30 rfl hfr
    refine LW.to (l := fr :: l) m3 ?_
    unfold LW
    clear hb2 o3 m3 ht4 hk hn3 hls3 z3 z4 lN ht5
    generalize (K.w e2).heap.size = B at *
    walk_nrm
    repeat (first | refine Walk.c rfl ?_ | refine Walk.cRet ?_ | refine Walk.cEnd ?_ | (refine Walk.cReg ?_; simp only [size30_0, size30_1, size30_2, size30_3, size30_4, size30_5, size30_6, size30_7, size30_8, size30_9, size30_10, size30_11, size30_12, size30_13, size30_14, size30_15, size30_16, size30_17, size30_18, List.range, List.range.loop]) | (refine Walk.oq ?_; try walk_nrm) | (refine Walk.un ?_; walk_nrm))
    refine Walk.storeS 81 (.tmp 6) (.tmp 71) (ho_of (by conv => lhs; whnf) (by kernel_rfl)) (by rfl) (by decide) rfl (N + 1) #[.bool true, .int .i64 ls, .slice (some ⟨B, 0, none⟩) 1 1] _ 81 rfl rfl hb3 (by kernel_rfl) (by rfl) (by simp [Value.oneCell']) hap3 ?_
    walk_nrm
    repeat (first | refine Walk.c rfl ?_ | refine Walk.cRet ?_ | refine Walk.cEnd ?_ | (refine Walk.cReg ?_; simp only [size30_0, size30_1, size30_2, size30_3, size30_4, size30_5, size30_6, size30_7, size30_8, size30_9, size30_10, size30_11, size30_12, size30_13, size30_14, size30_15, size30_16, size30_17, size30_18, List.range, List.range.loop]) | (refine Walk.oq ?_; try walk_nrm) | (refine Walk.un ?_; walk_nrm))
    exact hcb _ ⟨rfl, rfl, rfl, rfl, rfl⟩
  have hbk6 : (ok == 6) = false := by simp [h6]
  simp only [hbk6]
  repeat (first | refine Walk.c rfl ?_ | refine Walk.cRet ?_ | refine Walk.cEnd ?_ | (refine Walk.cReg ?_; simp only [size30_0, size30_1, size30_2, size30_3, size30_4, size30_5, size30_6, size30_7, size30_8, size30_9, size30_10, size30_11, size30_12, size30_13, size30_14, size30_15, size30_16, size30_17, size30_18, List.range, List.range.loop]) | (refine Walk.oq ?_; try walk_nrm) | (refine Walk.un ?_; walk_nrm))
  by_cases h7 : ok = 7
  · subst h7
    have ht3 : K.tgt e1 = (K.s e1, .inr (.m1 oa ob)) := ht1
    repeat (first | refine Walk.c rfl ?_ | refine Walk.cRet ?_ | refine Walk.cEnd ?_ | (refine Walk.cReg ?_; simp only [size30_0, size30_1, size30_2, size30_3, size30_4, size30_5, size30_6, size30_7, size30_8, size30_9, size30_10, size30_11, size30_12, size30_13, size30_14, size30_15, size30_16, size30_17, size30_18, List.range, List.range.loop]) | (refine Walk.oq ?_; try walk_nrm) | (refine Walk.un ?_; walk_nrm))
    have hg := SCall.fz K (gmay_all (Fz K e1) (fz0 K e1) oa ob ht3)
    refine LW.callS (K := K.toLb) (e := e1) (l := fr :: l) (f := 62) (Q := fun x e' => ∃ h : Kept K e1 e', MayOut (Fz K e1) gMay x ⟨e', h⟩) ?_ (ho_of (by conv => lhs; whnf) (by kernel_rfl)) (by rfl) (by decide) rfl Try.func62 (by kernel_rfl) (by rfl) ⟨rfl, rfl, _, Try.func30⟩ (plain_cons hp hl) ?_
    · walk_nrm
      exact hg
    rintro x e2 ⟨hkept, b, pl, rfl, ht4⟩
    obtain ⟨hm2, hb2⟩ := hkept (N + 1) hmn
    rw [c2] at hb2
    clear hg
    replace ht4 : K.tgt e2 = (K.s e2, .inl ⟨b, pl, []⟩) := ht4
    have hap2 := (K.mineA e2 _ hm2).1
    unfold LW
    walk_nrm
    repeat (first | refine Walk.c rfl ?_ | refine Walk.cRet ?_ | refine Walk.cEnd ?_ | (refine Walk.cReg ?_; simp only [size30_0, size30_1, size30_2, size30_3, size30_4, size30_5, size30_6, size30_7, size30_8, size30_9, size30_10, size30_11, size30_12, size30_13, size30_14, size30_15, size30_16, size30_17, size30_18, List.range, List.range.loop]) | (refine Walk.oq ?_; try walk_nrm) | (refine Walk.un ?_; walk_nrm))
    refine Walk.storeS 81 (.tmp 6) (.tmp 86) (ho_of (by conv => lhs; whnf) (by kernel_rfl)) (by rfl) (by decide) rfl (N + 1) #[.bool b, .int .i64 pl, .slice none 0 0] _ 81 rfl rfl hb2 (by kernel_rfl) (by rfl) (by simp [Value.oneCell']) hap2 ?_
    walk_nrm
    repeat (first | refine Walk.c rfl ?_ | refine Walk.cRet ?_ | refine Walk.cEnd ?_ | (refine Walk.cReg ?_; simp only [size30_0, size30_1, size30_2, size30_3, size30_4, size30_5, size30_6, size30_7, size30_8, size30_9, size30_10, size30_11, size30_12, size30_13, size30_14, size30_15, size30_16, size30_17, size30_18, List.range, List.range.loop]) | (refine Walk.oq ?_; try walk_nrm) | (refine Walk.un ?_; walk_nrm))
    exact cell_back6 K (a := ⟨b, pl, []⟩) (sl := .slice none 0 0) hm2 hb2 ht4 (GatL.nil K e2) (fun e' h h' => hk _ e' ⟨_, _, h, rfl, h', by simp⟩) Try.func30 rfl ⟨rfl, rfl, rfl, rfl, rfl⟩
  have hbk7 : (ok == 7) = false := by simp [h7]
  simp only [hbk7]
  repeat (first | refine Walk.c rfl ?_ | refine Walk.cRet ?_ | refine Walk.cEnd ?_ | (refine Walk.cReg ?_; simp only [size30_0, size30_1, size30_2, size30_3, size30_4, size30_5, size30_6, size30_7, size30_8, size30_9, size30_10, size30_11, size30_12, size30_13, size30_14, size30_15, size30_16, size30_17, size30_18, List.range, List.range.loop]) | (refine Walk.oq ?_; try walk_nrm) | (refine Walk.un ?_; walk_nrm))
  have ht3 : K.tgt e1 = (K.s e1, .inl gNo) := ht1.trans (gtEnter_no _ _ _ h1 h2 h3 h4 h5 h6 h7)
  repeat (first | refine Walk.c rfl ?_ | refine Walk.cRet ?_ | refine Walk.cEnd ?_ | (refine Walk.cReg ?_; simp only [size30_0, size30_1, size30_2, size30_3, size30_4, size30_5, size30_6, size30_7, size30_8, size30_9, size30_10, size30_11, size30_12, size30_13, size30_14, size30_15, size30_16, size30_17, size30_18, List.range, List.range.loop]) | (refine Walk.oq ?_; try walk_nrm) | (refine Walk.un ?_; walk_nrm))
  refine Walk.storeS 81 (.tmp 6) (.tmp 87) (ho_of (by conv => lhs; whnf) (by kernel_rfl)) (by rfl) (by decide) rfl (N + 1) #[.bool false, .int .i64 0, .slice none 0 0] _ 81 rfl rfl c2 (by kernel_rfl) (by rfl) (by simp [Value.oneCell']) hapN ?_
  walk_nrm
  repeat (first | refine Walk.c rfl ?_ | refine Walk.cRet ?_ | refine Walk.cEnd ?_ | (refine Walk.cReg ?_; simp only [size30_0, size30_1, size30_2, size30_3, size30_4, size30_5, size30_6, size30_7, size30_8, size30_9, size30_10, size30_11, size30_12, size30_13, size30_14, size30_15, size30_16, size30_17, size30_18, List.range, List.range.loop]) | (refine Walk.oq ?_; try walk_nrm) | (refine Walk.un ?_; walk_nrm))
  exact cell_back6 K (a := gNo) (sl := .slice none 0 0) hmn c2 ht3 (GatL.nil K e1) (fun e' h h' => hk _ e' ⟨_, _, h, rfl, h', by simp [gNo]⟩) Try.func30 rfl ⟨rfl, rfl, rfl, rfl, rfl⟩
end
end
end Go.Proofs.Ytgfajibjedfkdaa
