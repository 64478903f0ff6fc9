/- Part 1. -/
import Derived.Test.YtbmijpkdghkbbaaJ1
import Derived.Test.YtbmijpkdghkbbaaJ2
import Derived.Test.YtbmijpkdghkbbaaJ3
import Derived.Test.YtbmijpkdghkbbaaJ4
import Derived.Test.YtbmijpkdghkbbaaJ5
import Derived.Test.YtbmijpkdghkbbaaJ6
import Derived.Test.YtbmijpkdghkbbaaJ7
import Derived.Test.YtbmijpkdghkbbaaJ10
import Derived.Test.YtbmijpkdghkbbaaJ12
import Derived.Test.YtbmijpkdghkbbaaJ13
import Derived.Test.YtbmijpkdghkbbaaJ14
import Derived.Test.YtbmijpkdghkbbaaJ15
import Derived.Test.YtbmijpkdghkbbaaJ16
import Derived.Test.YtbmijpkdghkbbaaJ17
import Derived.Test.YtbmijpkdghkbbaaJ18
import Derived.Test.YtbmijpkdghkbbaaJ20
import Derived.Test.YtbmijpkdghkbbaaJ21
import Derived.Test.YtbmijpkdghkbbaaJ23
import Derived.Test.YtbmijpkdghkbbaaJ24
import Derived.Test.YtbmijpkdghkbbaaJ25
import Derived.Test.YtbmijpkdghkbbaaJ27
import Derived.Test.YtbmijpkdghkbbaaRows
import Derived.Conc.LeavingOf
import Derived.Lib.SmallJoins
import Derived.Handy
set_option linter.unusedSimpArgs false
set_option linter.unusedVariables false
set_option maxHeartbeats 8000000
set_option maxRecDepth 100000
namespace Go.Proofs.Ytbmijpkdghkbbaa
open Go.Conc Go.RowKit Go.Relay
open Go.ConcN (upd upd_ne upd_same)
structure Closing (f : FuncId) (t : Tmp) (v : Value) (g : Goroutine) : Prop where
  all : ∃ fr, g = G fr [] ∧ fr.mode = .returning ∧ fr.kind = .normal ∧ fr.defers = [] ∧ fr.fn = f ∧ fr.tmps.getD t undef = v
section
theorem cvU8 (k : Int) (w : World) (es : Array Event) : (convert 5 2 (.int .u8 k)).run Try.prog w = .ok (.int .i64 (IntKind.i64.wrap k)) w ∧ (convert 5 2 (.int .u8 k)).events Try.prog w es = es := by
  have h := run_convert_int (P := Try.prog) (w := w) 5 2 .u8 k (by kernel_rfl) (by kernel_rfl)
  rw [show Try.prog.intKind 2 = .i64 from by kernel_rfl] at h
  exact ⟨h, events_convert_int 5 2 .u8 k (by kernel_rfl) (by kernel_rfl) es⟩
theorem cvU32 (k : Int) (w : World) (es : Array Event) : (convert 62 2 (.int .u32 k)).run Try.prog w = .ok (.int .i64 (IntKind.i64.wrap k)) w ∧ (convert 62 2 (.int .u32 k)).events Try.prog w es = es := by
  have h := run_convert_int (P := Try.prog) (w := w) 62 2 .u32 k (by kernel_rfl) (by kernel_rfl)
  rw [show Try.prog.intKind 2 = .i64 from by kernel_rfl] at h
  exact ⟨h, events_convert_int 62 2 .u32 k (by kernel_rfl) (by kernel_rfl) es⟩
noncomputable def reg32_0 : Array Oper := match Try.f32.body with | some (.seq (.region _ ops _) _) => ops | _ => #[]
theorem size32_0 : reg32_0.size = 1 := by kernel_rfl
noncomputable def reg32_1 : Array Oper := match Try.f32.body with | some (.seq _ (.seq (.region _ ops _) _)) => ops | _ => #[]
theorem size32_1 : reg32_1.size = 4 := by kernel_rfl
theorem code32_is : Try.f32.body = some (.seq (.region 0 reg32_0 false) (.seq (.region 1 reg32_1 false) (.ret))) := by kernel_rfl
section
variable {main : Bool} {V : Nat → Option Wait}
theorem item_w (q : Int) (h0 : 0 ≤ q) (h1 : q < 1152921504606846976) (w : World) : CallV Try.prog main V 32 #[.int .i64 q] w (.int .i64 (1000 + 7 * q)) w := by
  have r1 : IntKind.i64.wrap (7 * q) = 7 * q := by rw [IntKind.wrap_i64]; omega
  have r2 : IntKind.i64.wrap (1000 + 7 * q) = 1000 + 7 * q := by rw [IntKind.wrap_i64]; omega
  refine callW_in Try.func32 code32_is fun fr cs => ?_
  simp only [Try.ntmps32, List.size_toArray, List.length_cons, List.length_nil, Nat.reduceAdd, Nat.reduceSub, Array.replicate_succ, Array.replicate_zero, List.push_toArray, List.append_toArray, List.nil_append, List.cons_append]
  repeat (first | refine Walk.c rfl ?_ | refine Walk.cRet ?_ | refine Walk.cEnd ?_ | (refine Walk.cReg ?_; simp only [size32_0, size32_1, List.range, List.range.loop]) | (refine Walk.oq ?_; try walk_nrm) | (refine Walk.un ?_; walk_nrm))
  exact Walk.ret1 rfl rfl Try.func32 rfl fun d => ⟨rfl, d, rfl⟩
end
theorem ix_lap (n : Nat) (hn : 1 ≤ n) (q : Int) (h0 : 0 ≤ q) : ixR n (q + n) = ixR n q ∧ laR n (q + n) = laR n q + 2 := by
  unfold ixR laR
  have hn0 : (n : Int) ≠ 0 := by omega
  rw [Int.add_emod_right, Int.add_ediv_of_dvd_right (Int.dvd_refl _), Int.ediv_self hn0]
  omega
section
variable {n : Nat} {s : Rg} {q v : Int}
theorem lay_st (hn : 1 ≤ n) : (rgLay n s q v).st (ixR n q) = laR n q ∧ (rgLay n s q v).va (ixR n q) = v ∧ ∀ k, k ≠ ixR n q → (rgLay n s q v).st k = s.st k := by
  refine ⟨upd_same _ _ _, upd_same _ _ _, fun k hk => ?_⟩
  unfold rgLay rgPutS rgPutV
  show upd (upd s.st _ _) _ _ k = _
  rw [upd_ne _ _ hk, upd_ne _ _ hk]
theorem order_facts (hn : 1 ≤ n) (h0 : 0 ≤ q) (h1 : q < 1152921504606846976) (h2 : n ≤ 65536) :
    getA n (rgLay n s q v) q = ⟨true, v, []⟩ ∧ getA n (rgLay n s q v) (q + n) = ⟨false, 6, []⟩ ∧ thA n (rgLay n s q v) q = true ∧ thA n (rgLay n s q v) (q + n) = false ∧
    ((n : Int) ≤ q → getA n (rgLay n s q v) (q - n) = ⟨false, 10, []⟩) ∧ (¬ (n : Int) ≤ q → getA n (rgLay n s q v) (q - n) = ⟨false, 1, []⟩) := by
  obtain ⟨e1, e2, _⟩ := lay_st (n := n) (s := s) (q := q) (v := v) hn
  obtain ⟨i1, i2⟩ := ix_lap n hn q h0
  have g0 : good q := ⟨h0, by omega⟩
  have g1 : good (q + n) := ⟨by omega, by omega⟩
  refine ⟨?_, ?_, ?_, ?_, fun h => ?_, fun h => ?_⟩
  · unfold getA
    rw [if_pos g0, e1, e2, if_neg (by omega), if_neg (by omega)]
  · unfold getA
    rw [if_pos g1, i1, i2, e1, if_pos (by omega)]
  · unfold thA
    rw [if_pos g0, e1]
    simp
  · unfold thA
    rw [if_pos g1, i1, i2, e1]
    exact decide_eq_false (by omega)
  · have h3 : 0 ≤ q - n := by omega
    obtain ⟨j1, j2⟩ := ix_lap n hn (q - n) h3
    rw [show q - n + n = q by omega] at j1 j2
    have g2 : good (q - n) := ⟨h3, by omega⟩
    unfold getA
    rw [if_pos g2, ← j1, e1, if_neg (by omega), if_pos (by omega)]
  · unfold getA
    rw [if_neg fun h => by have := h.1; omega]
theorem order_hi (rb sb : Nat) (hn : 1 ≤ n) (h0 : 0 ≤ q) (h1 : q < 1152921504606846976) : runN (rgLa rb sb n) 1 (rgLay n s q v, hiD n q q) = some (rgLay n s q v, ⟨true, q, []⟩) := by
  have g0 : good q := ⟨h0, by omega⟩
  have e : hiD n q q = .inr (.h q q) := by
    unfold hiD
    rw [if_neg (by omega), if_pos ⟨g0, Int.le_refl _⟩]
    congr 2
    omega
  rw [e]
  show runN (rgLa rb sb n) 0 (rgAct n (rgLay n s q v) (.h q q)) = _
  unfold rgAct
  dsimp only
  rw [(lay_st (n := n) (s := s) (q := q) (v := v) hn).1, if_pos rfl, if_neg (by omega)]
  rfl
end
structure OrI (rb sb n : Nat) (s : Rg) (W w : World) : Prop where
  I : RgI rb sb n s w
  old : ∀ b, b < W.heap.size → w.heap[b]? = W.heap[b]?
  size : W.heap.size ≤ w.heap.size
  ge : W.heap.size ≤ rb ∧ W.heap.size ≤ sb
section
variable {rb sb n : Nat} {s s' : Rg} {W w w' : World}
theorem OrI.sol (h : OrI rb sb n s W w) (k : SolR rb sb n s' w w') : OrI rb sb n s' W w' :=
  ⟨k.I, fun b hb => (k.old b (Nat.lt_of_lt_of_le hb h.size) (by have := h.ge; omega) (by have := h.ge; omega)).trans (h.old b hb), Nat.le_trans h.size k.size, h.ge⟩
theorem OrI.new (h : OrI rb sb n s W w) (ho : ∀ b, b < w.heap.size → w'.heap[b]? = w.heap[b]?) (hs : w.heap.size ≤ w'.heap.size) : OrI rb sb n s W w' :=
  ⟨h.I.old (ho _ h.I.lt.1) (ho _ h.I.lt.2), fun b hb => (ho b (Nat.lt_of_lt_of_le hb h.size)).trans (h.old b hb), Nat.le_trans h.size hs, h.ge⟩
theorem OrI.at (h : OrI rb sb n s W w) (d : Nat) : OrI rb sb n s W (w.at d) := ⟨⟨h.I.hd, h.I.sl, h.I.pos⟩, h.old, h.size, h.ge⟩
end
noncomputable def reg6_0 : Array Oper := match Try.f6.body with | some (.seq (.region _ ops _) _) => ops | _ => #[]
theorem size6_0 : reg6_0.size = 1 := by kernel_rfl
noncomputable def reg6_1 : Array Oper := match Try.f6.body with | some (.seq _ (.seq (.seq (.region _ ops _) _) _)) => ops | _ => #[]
theorem size6_1 : reg6_1.size = 2 := by kernel_rfl
noncomputable def reg6_2 : Array Oper := match Try.f6.body with | some (.seq _ (.seq (.seq _ (.cond _ (.seq (.region _ ops _) _) _)) _)) => ops | _ => #[]
theorem size6_2 : reg6_2.size = 1 := by kernel_rfl
noncomputable def reg6_3 : Array Oper := match Try.f6.body with | some (.seq _ (.seq _ (.seq (.region _ ops _) _))) => ops | _ => #[]
theorem size6_3 : reg6_3.size = 4 := by kernel_rfl
noncomputable def reg6_4 : Array Oper := match Try.f6.body with | some (.seq _ (.seq _ (.seq _ (.seq (.region _ ops _) _)))) => ops | _ => #[]
theorem size6_4 : reg6_4.size = 7 := by kernel_rfl
noncomputable def reg6_5 : Array Oper := match Try.f6.body with | some (.seq _ (.seq _ (.seq _ (.seq _ (.seq (.seq (.region _ ops _) _) _))))) => ops | _ => #[]
theorem size6_5 : reg6_5.size = 6 := by kernel_rfl
noncomputable def reg6_6 : Array Oper := match Try.f6.body with | some (.seq _ (.seq _ (.seq _ (.seq _ (.seq (.seq _ (.cond _ (.seq (.region _ ops _) _) _)) _))))) => ops | _ => #[]
theorem size6_6 : reg6_6.size = 1 := by kernel_rfl
noncomputable def reg6_7 : Array Oper := match Try.f6.body with | some (.seq _ (.seq _ (.seq _ (.seq _ (.seq _ (.seq (.region _ ops _) _)))))) => ops | _ => #[]
theorem size6_7 : reg6_7.size = 3 := by kernel_rfl
noncomputable def reg6_8 : Array Oper := match Try.f6.body with | some (.seq _ (.seq _ (.seq _ (.seq _ (.seq _ (.seq _ (.seq (.seq (.region _ ops _) _) _))))))) => ops | _ => #[]
theorem size6_8 : reg6_8.size = 1 := by kernel_rfl
noncomputable def reg6_9 : Array Oper := match Try.f6.body with | some (.seq _ (.seq _ (.seq _ (.seq _ (.seq _ (.seq _ (.seq (.seq _ (.block _ (.loop (.seq (.seq (.region _ ops _) _) _)))) _))))))) => ops | _ => #[]
theorem size6_9 : reg6_9.size = 4 := by kernel_rfl
noncomputable def reg6_11 : Array Oper := match Try.f6.body with | some (.seq _ (.seq _ (.seq _ (.seq _ (.seq _ (.seq _ (.seq (.seq _ (.block _ (.loop (.seq _ (.seq (.block _ (.seq (.region _ ops _) _)) _))))) _))))))) => ops | _ => #[]
theorem size6_11 : reg6_11.size = 12 := by kernel_rfl
noncomputable def reg6_12 : Array Oper := match Try.f6.body with | some (.seq _ (.seq _ (.seq _ (.seq _ (.seq _ (.seq _ (.seq (.seq _ (.block _ (.loop (.seq _ (.seq (.block _ (.seq _ (.seq (.region _ ops _) _))) _))))) _))))))) => ops | _ => #[]
theorem size6_12 : reg6_12.size = 3 := by kernel_rfl
noncomputable def reg6_13 : Array Oper := match Try.f6.body with | some (.seq _ (.seq _ (.seq _ (.seq _ (.seq _ (.seq _ (.seq (.seq _ (.block _ (.loop (.seq _ (.seq (.block _ (.seq _ (.seq _ (.seq (.seq (.region _ ops _) _) _)))) _))))) _))))))) => ops | _ => #[]
theorem size6_13 : reg6_13.size = 12 := by kernel_rfl
noncomputable def reg6_14 : Array Oper := match Try.f6.body with | some (.seq _ (.seq _ (.seq _ (.seq _ (.seq _ (.seq _ (.seq (.seq _ (.block _ (.loop (.seq _ (.seq (.block _ (.seq _ (.seq _ (.seq (.seq _ (.cond _ (.seq (.region _ ops _) _) _)) _)))) _))))) _))))))) => ops | _ => #[]
theorem size6_14 : reg6_14.size = 1 := by kernel_rfl
noncomputable def reg6_15 : Array Oper := match Try.f6.body with | some (.seq _ (.seq _ (.seq _ (.seq _ (.seq _ (.seq _ (.seq (.seq _ (.block _ (.loop (.seq _ (.seq (.block _ (.seq _ (.seq _ (.seq _ (.seq (.region _ ops _) _))))) _))))) _))))))) => ops | _ => #[]
theorem size6_15 : reg6_15.size = 8 := by kernel_rfl
noncomputable def reg6_16 : Array Oper := match Try.f6.body with | some (.seq _ (.seq _ (.seq _ (.seq _ (.seq _ (.seq _ (.seq (.seq _ (.block _ (.loop (.seq _ (.seq (.block _ (.seq _ (.seq _ (.seq _ (.seq _ (.seq (.region _ ops _) _)))))) _))))) _))))))) => ops | _ => #[]
theorem size6_16 : reg6_16.size = 10 := by kernel_rfl
noncomputable def reg6_17 : Array Oper := match Try.f6.body with | some (.seq _ (.seq _ (.seq _ (.seq _ (.seq _ (.seq _ (.seq (.seq _ (.block _ (.loop (.seq _ (.seq (.block _ (.seq _ (.seq _ (.seq _ (.seq _ (.seq _ (.seq (.seq (.region _ ops _) _) _))))))) _))))) _))))))) => ops | _ => #[]
theorem size6_17 : reg6_17.size = 33 := by kernel_rfl
noncomputable def reg6_18 : Array Oper := match Try.f6.body with | some (.seq _ (.seq _ (.seq _ (.seq _ (.seq _ (.seq _ (.seq (.seq _ (.block _ (.loop (.seq _ (.seq (.block _ (.seq _ (.seq _ (.seq _ (.seq _ (.seq _ (.seq (.seq _ (.cond _ (.seq (.region _ ops _) _) _)) _))))))) _))))) _))))))) => ops | _ => #[]
theorem size6_18 : reg6_18.size = 1 := by kernel_rfl
noncomputable def reg6_19 : Array Oper := match Try.f6.body with | some (.seq _ (.seq _ (.seq _ (.seq _ (.seq _ (.seq _ (.seq (.seq _ (.block _ (.loop (.seq _ (.seq (.block _ (.seq _ (.seq _ (.seq _ (.seq _ (.seq _ (.seq _ (.seq (.region _ ops _) _)))))))) _))))) _))))))) => ops | _ => #[]
theorem size6_19 : reg6_19.size = 10 := by kernel_rfl
noncomputable def reg6_20 : Array Oper := match Try.f6.body with | some (.seq _ (.seq _ (.seq _ (.seq _ (.seq _ (.seq _ (.seq (.seq _ (.block _ (.loop (.seq _ (.seq (.block _ (.seq _ (.seq _ (.seq _ (.seq _ (.seq _ (.seq _ (.seq _ (.seq (.seq (.region _ ops _) _) _))))))))) _))))) _))))))) => ops | _ => #[]
theorem size6_20 : reg6_20.size = 16 := by kernel_rfl
noncomputable def reg6_21 : Array Oper := match Try.f6.body with | some (.seq _ (.seq _ (.seq _ (.seq _ (.seq _ (.seq _ (.seq (.seq _ (.block _ (.loop (.seq _ (.seq (.block _ (.seq _ (.seq _ (.seq _ (.seq _ (.seq _ (.seq _ (.seq _ (.seq (.seq _ (.cond _ (.seq (.region _ ops _) _) _)) _))))))))) _))))) _))))))) => ops | _ => #[]
theorem size6_21 : reg6_21.size = 1 := by kernel_rfl
noncomputable def reg6_22 : Array Oper := match Try.f6.body with | some (.seq _ (.seq _ (.seq _ (.seq _ (.seq _ (.seq _ (.seq (.seq _ (.block _ (.loop (.seq _ (.seq (.block _ (.seq _ (.seq _ (.seq _ (.seq _ (.seq _ (.seq _ (.seq _ (.seq _ (.seq (.region _ ops _) _)))))))))) _))))) _))))))) => ops | _ => #[]
theorem size6_22 : reg6_22.size = 3 := by kernel_rfl
noncomputable def reg6_23 : Array Oper := match Try.f6.body with | some (.seq _ (.seq _ (.seq _ (.seq _ (.seq _ (.seq _ (.seq (.seq _ (.block _ (.loop (.seq _ (.seq (.block _ (.seq _ (.seq _ (.seq _ (.seq _ (.seq _ (.seq _ (.seq _ (.seq _ (.seq _ (.seq (.seq (.region _ ops _) _) _))))))))))) _))))) _))))))) => ops | _ => #[]
theorem size6_23 : reg6_23.size = 4 := by kernel_rfl
noncomputable def reg6_24 : Array Oper := match Try.f6.body with | some (.seq _ (.seq _ (.seq _ (.seq _ (.seq _ (.seq _ (.seq (.seq _ (.block _ (.loop (.seq _ (.seq (.block _ (.seq _ (.seq _ (.seq _ (.seq _ (.seq _ (.seq _ (.seq _ (.seq _ (.seq _ (.seq (.seq _ (.cond _ (.seq (.region _ ops _) _) _)) _))))))))))) _))))) _))))))) => ops | _ => #[]
theorem size6_24 : reg6_24.size = 1 := by kernel_rfl
noncomputable def reg6_25 : Array Oper := match Try.f6.body with | some (.seq _ (.seq _ (.seq _ (.seq _ (.seq _ (.seq _ (.seq (.seq _ (.block _ (.loop (.seq _ (.seq (.block _ (.seq _ (.seq _ (.seq _ (.seq _ (.seq _ (.seq _ (.seq _ (.seq _ (.seq _ (.seq _ (.seq (.region _ ops _) _)))))))))))) _))))) _))))))) => ops | _ => #[]
theorem size6_25 : reg6_25.size = 1 := by kernel_rfl
noncomputable def reg6_26 : Array Oper := match Try.f6.body with | some (.seq _ (.seq _ (.seq _ (.seq _ (.seq _ (.seq _ (.seq (.seq _ (.block _ (.loop (.seq _ (.seq (.block _ (.seq _ (.seq _ (.seq _ (.seq _ (.seq _ (.seq _ (.seq _ (.seq _ (.seq _ (.seq _ (.seq _ (.block _ (.loop (.seq (.seq (.region _ ops _) _) _))))))))))))))) _))))) _))))))) => ops | _ => #[]
theorem size6_26 : reg6_26.size = 3 := by kernel_rfl
noncomputable def reg6_28 : Array Oper := match Try.f6.body with | some (.seq _ (.seq _ (.seq _ (.seq _ (.seq _ (.seq _ (.seq (.seq _ (.block _ (.loop (.seq _ (.seq (.block _ (.seq _ (.seq _ (.seq _ (.seq _ (.seq _ (.seq _ (.seq _ (.seq _ (.seq _ (.seq _ (.seq _ (.block _ (.loop (.seq _ (.seq (.block _ (.seq (.region _ ops _) _)) _)))))))))))))))) _))))) _))))))) => ops | _ => #[]
theorem size6_28 : reg6_28.size = 16 := by kernel_rfl
noncomputable def reg6_29 : Array Oper := match Try.f6.body with | some (.seq _ (.seq _ (.seq _ (.seq _ (.seq _ (.seq _ (.seq (.seq _ (.block _ (.loop (.seq _ (.seq (.block _ (.seq _ (.seq _ (.seq _ (.seq _ (.seq _ (.seq _ (.seq _ (.seq _ (.seq _ (.seq _ (.seq _ (.block _ (.loop (.seq _ (.seq (.block _ (.seq _ (.cond _ (.seq (.region _ ops _) _) _))) _)))))))))))))))) _))))) _))))))) => ops | _ => #[]
theorem size6_29 : reg6_29.size = 1 := by kernel_rfl
noncomputable def reg6_27 : Array Oper := match Try.f6.body with | some (.seq _ (.seq _ (.seq _ (.seq _ (.seq _ (.seq _ (.seq (.seq _ (.block _ (.loop (.seq _ (.seq (.block _ (.seq _ (.seq _ (.seq _ (.seq _ (.seq _ (.seq _ (.seq _ (.seq _ (.seq _ (.seq _ (.seq _ (.block _ (.loop (.seq _ (.seq _ (.region _ ops _))))))))))))))))) _))))) _))))))) => ops | _ => #[]
theorem size6_27 : reg6_27.size = 3 := by kernel_rfl
noncomputable def reg6_10 : Array Oper := match Try.f6.body with | some (.seq _ (.seq _ (.seq _ (.seq _ (.seq _ (.seq _ (.seq (.seq _ (.block _ (.loop (.seq _ (.seq _ (.region _ ops _)))))) _))))))) => ops | _ => #[]
theorem size6_10 : reg6_10.size = 3 := by kernel_rfl
noncomputable def reg6_30 : Array Oper := match Try.f6.body with | some (.seq _ (.seq _ (.seq _ (.seq _ (.seq _ (.seq _ (.seq _ (.seq (.region _ ops _) _)))))))) => ops | _ => #[]
theorem size6_30 : reg6_30.size = 1 := by kernel_rfl
theorem code6_is : Try.f6.body = some (.seq (.region 0 reg6_0 false) (.seq (.seq (.region 1 reg6_1 false) (.cond (.tmp 22 ) (.seq (.region 2 reg6_2 false) (.ret)) (.skip))) (.seq (.region 3 reg6_3 false) (.seq (.region 4 reg6_4 false) (.seq (.seq (.region 5 reg6_5 false) (.cond (.tmp 36 ) (.seq (.region 6 reg6_6 false) (.ret)) (.skip))) (.seq (.region 7 reg6_7 false) (.seq (.seq (.region 8 reg6_8 false) (.block 0 (.loop (.seq (.seq (.region 9 reg6_9 false) (.cond (.tmp 42 ) (.skip) (.exit 0))) (.seq (.block 1 (.seq (.region 11 reg6_11 false) (.seq (.region 12 reg6_12 false) (.seq (.seq (.region 13 reg6_13 false) (.cond (.tmp 69 ) (.seq (.region 14 reg6_14 false) (.ret)) (.skip))) (.seq (.region 15 reg6_15 false) (.seq (.region 16 reg6_16 false) (.seq (.seq (.region 17 reg6_17 false) (.cond (.tmp 116 ) (.seq (.region 18 reg6_18 false) (.ret)) (.skip))) (.seq (.region 19 reg6_19 false) (.seq (.seq (.region 20 reg6_20 false) (.cond (.tmp 140 ) (.seq (.region 21 reg6_21 false) (.ret)) (.skip))) (.seq (.region 22 reg6_22 false) (.seq (.seq (.region 23 reg6_23 false) (.cond (.tmp 146 ) (.seq (.region 24 reg6_24 false) (.ret)) (.skip))) (.seq (.region 25 reg6_25 false) (.block 2 (.loop (.seq (.seq (.region 26 reg6_26 false) (.cond (.tmp 149 ) (.skip) (.exit 2))) (.seq (.block 3 (.seq (.region 28 reg6_28 true) (.cond (.tmp 167 ) (.seq (.region 29 reg6_29 false) (.ret)) (.skip)))) (.region 27 reg6_27 false))))))))))))))))) (.region 10 reg6_10 false)))))) (.seq (.region 30 reg6_30 false) (.ret))))))))) := by kernel_rfl
noncomputable def hdOr (lv : Value) (rb n j : Nat) (q : Int) (u : Nat → Value) : Frame :=
  (base 6).at { tmps := #[u 0, u 1, lv, u 3, u 4, u 5, .bool false, .int .i64 n, .pointer (some ⟨rb, 0, none⟩), u 9, .int .i64 q, .int .i64 j, u 12, u 13, u 14, u 15, u 16, u 17, u 18, u 19, u 20, u 21, u 22, u 23, u 24, u 25, u 26, u 27, u 28, u 29, u 30, u 31, u 32, u 33, u 34, u 35, u 36, u 37, u 38, u 39, u 40, u 41, u 42, u 43, u 44, u 45, u 46, u 47, u 48, u 49, u 50, u 51, u 52, u 53, u 54, u 55, u 56, u 57, u 58, u 59, u 60, u 61, u 62, u 63, u 64, u 65, u 66, u 67, u 68, u 69, u 70, u 71, u 72, u 73, u 74, u 75, u 76, u 77, u 78, u 79, u 80, u 81, u 82, u 83, u 84, u 85, u 86, u 87, u 88, u 89, u 90, u 91, u 92, u 93, u 94, u 95, u 96, u 97, u 98, u 99, u 100, u 101, u 102, u 103, u 104, u 105, u 106, u 107, u 108, u 109, u 110, u 111, u 112, u 113, u 114, u 115, u 116, u 117, u 118, u 119, u 120, u 121, u 122, u 123, u 124, u 125, u 126, u 127, u 128, u 129, u 130, u 131, u 132, u 133, u 134, u 135, u 136, u 137, u 138, u 139, u 140, u 141, u 142, u 143, u 144, u 145, u 146, u 147, u 148, u 149, u 150, u 151, u 152, u 153, u 154, u 155, u 156, u 157, u 158, u 159, u 160, u 161, u 162, u 163, u 164, u 165, u 166, u 167], defers := [] } [.code (.seq (.seq (.region 9 reg6_9 false) (.cond (.tmp 42 ) (.skip) (.exit 0))) (.seq (.block 1 (.seq (.region 11 reg6_11 false) (.seq (.region 12 reg6_12 false) (.seq (.seq (.region 13 reg6_13 false) (.cond (.tmp 69 ) (.seq (.region 14 reg6_14 false) (.ret)) (.skip))) (.seq (.region 15 reg6_15 false) (.seq (.region 16 reg6_16 false) (.seq (.seq (.region 17 reg6_17 false) (.cond (.tmp 116 ) (.seq (.region 18 reg6_18 false) (.ret)) (.skip))) (.seq (.region 19 reg6_19 false) (.seq (.seq (.region 20 reg6_20 false) (.cond (.tmp 140 ) (.seq (.region 21 reg6_21 false) (.ret)) (.skip))) (.seq (.region 22 reg6_22 false) (.seq (.seq (.region 23 reg6_23 false) (.cond (.tmp 146 ) (.seq (.region 24 reg6_24 false) (.ret)) (.skip))) (.seq (.region 25 reg6_25 false) (.block 2 (.loop (.seq (.seq (.region 26 reg6_26 false) (.cond (.tmp 149 ) (.skip) (.exit 2))) (.seq (.block 3 (.seq (.region 28 reg6_28 true) (.cond (.tmp 167 ) (.seq (.region 29 reg6_29 false) (.ret)) (.skip)))) (.region 27 reg6_27 false))))))))))))))))) (.region 10 reg6_10 false))), .inLoop (.seq (.seq (.region 9 reg6_9 false) (.cond (.tmp 42 ) (.skip) (.exit 0))) (.seq (.block 1 (.seq (.region 11 reg6_11 false) (.seq (.region 12 reg6_12 false) (.seq (.seq (.region 13 reg6_13 false) (.cond (.tmp 69 ) (.seq (.region 14 reg6_14 false) (.ret)) (.skip))) (.seq (.region 15 reg6_15 false) (.seq (.region 16 reg6_16 false) (.seq (.seq (.region 17 reg6_17 false) (.cond (.tmp 116 ) (.seq (.region 18 reg6_18 false) (.ret)) (.skip))) (.seq (.region 19 reg6_19 false) (.seq (.seq (.region 20 reg6_20 false) (.cond (.tmp 140 ) (.seq (.region 21 reg6_21 false) (.ret)) (.skip))) (.seq (.region 22 reg6_22 false) (.seq (.seq (.region 23 reg6_23 false) (.cond (.tmp 146 ) (.seq (.region 24 reg6_24 false) (.ret)) (.skip))) (.seq (.region 25 reg6_25 false) (.block 2 (.loop (.seq (.seq (.region 26 reg6_26 false) (.cond (.tmp 149 ) (.skip) (.exit 2))) (.seq (.block 3 (.seq (.region 28 reg6_28 true) (.cond (.tmp 167 ) (.seq (.region 29 reg6_29 false) (.ret)) (.skip)))) (.region 27 reg6_27 false))))))))))))))))) (.region 10 reg6_10 false))), .inBlock 0, .code (.seq (.region 30 reg6_30 false) (.ret))]
noncomputable def hdOs (lv : Value) (rb n j : Nat) (q : Int) (B1 B2 k : Nat) (u : Nat → Value) : Frame :=
  (base 6).at { tmps := #[u 0, u 1, lv, u 3, u 4, u 5, .bool false, .int .i64 n, .pointer (some ⟨rb, 0, none⟩), u 9, .int .i64 q, .int .i64 j, .slice (some ⟨B1, 0, none⟩) n n, u 13, u 14, u 15, u 16, u 17, u 18, .slice (some ⟨B2, 0, none⟩) n n, .int .i64 k, u 21, u 22, u 23, u 24, u 25, u 26, u 27, u 28, u 29, u 30, u 31, u 32, u 33, u 34, u 35, u 36, u 37, u 38, u 39, u 40, u 41, u 42, u 43, u 44, u 45, u 46, u 47, u 48, u 49, u 50, u 51, u 52, u 53, u 54, u 55, u 56, u 57, u 58, u 59, u 60, u 61, u 62, u 63, u 64, u 65, u 66, u 67, u 68, u 69, u 70, u 71, u 72, u 73, u 74, u 75, u 76, u 77, u 78, u 79, u 80, u 81, u 82, u 83, u 84, u 85, u 86, u 87, u 88, u 89, u 90, u 91, u 92, u 93, u 94, u 95, u 96, u 97, u 98, u 99, u 100, u 101, u 102, u 103, u 104, u 105, u 106, u 107, u 108, u 109, u 110, u 111, u 112, u 113, u 114, u 115, u 116, u 117, u 118, u 119, u 120, u 121, u 122, u 123, u 124, u 125, u 126, u 127, u 128, u 129, u 130, u 131, u 132, u 133, u 134, u 135, u 136, u 137, u 138, u 139, u 140, u 141, u 142, u 143, u 144, u 145, u 146, u 147, u 148, u 149, u 150, u 151, u 152, u 153, u 154, u 155, u 156, u 157, u 158, u 159, u 160, u 161, u 162, u 163, u 164, u 165, u 166, u 167], defers := [] } [.code (.seq (.seq (.region 26 reg6_26 false) (.cond (.tmp 149 ) (.skip) (.exit 2))) (.seq (.block 3 (.seq (.region 28 reg6_28 true) (.cond (.tmp 167 ) (.seq (.region 29 reg6_29 false) (.ret)) (.skip)))) (.region 27 reg6_27 false))), .inLoop (.seq (.seq (.region 26 reg6_26 false) (.cond (.tmp 149 ) (.skip) (.exit 2))) (.seq (.block 3 (.seq (.region 28 reg6_28 true) (.cond (.tmp 167 ) (.seq (.region 29 reg6_29 false) (.ret)) (.skip)))) (.region 27 reg6_27 false))), .inBlock 2, .inBlock 1, .code (.region 10 reg6_10 false), .inLoop (.seq (.seq (.region 9 reg6_9 false) (.cond (.tmp 42 ) (.skip) (.exit 0))) (.seq (.block 1 (.seq (.region 11 reg6_11 false) (.seq (.region 12 reg6_12 false) (.seq (.seq (.region 13 reg6_13 false) (.cond (.tmp 69 ) (.seq (.region 14 reg6_14 false) (.ret)) (.skip))) (.seq (.region 15 reg6_15 false) (.seq (.region 16 reg6_16 false) (.seq (.seq (.region 17 reg6_17 false) (.cond (.tmp 116 ) (.seq (.region 18 reg6_18 false) (.ret)) (.skip))) (.seq (.region 19 reg6_19 false) (.seq (.seq (.region 20 reg6_20 false) (.cond (.tmp 140 ) (.seq (.region 21 reg6_21 false) (.ret)) (.skip))) (.seq (.region 22 reg6_22 false) (.seq (.seq (.region 23 reg6_23 false) (.cond (.tmp 146 ) (.seq (.region 24 reg6_24 false) (.ret)) (.skip))) (.seq (.region 25 reg6_25 false) (.block 2 (.loop (.seq (.seq (.region 26 reg6_26 false) (.cond (.tmp 149 ) (.skip) (.exit 2))) (.seq (.block 3 (.seq (.region 28 reg6_28 true) (.cond (.tmp 167 ) (.seq (.region 29 reg6_29 false) (.ret)) (.skip)))) (.region 27 reg6_27 false))))))))))))))))) (.region 10 reg6_10 false))), .inBlock 0, .code (.seq (.region 30 reg6_30 false) (.ret))]
theorem so_in (p f r : Int) (n : Nat) (lv : Value) (h6 : Int.tmod p 6 = r) (h68 : IntKind.u8.wrap r = r) (hr0 : 0 ≤ r) (hr64 : r ≤ 64) (hsh : IntKind.i64.wrap (2 ^ r.toNat) = (n : Int)) (hok : okS (n : Int)) (hf : IntKind.i64.wrap f = f) (w : World) : Walk Try.prog true (DR (fun _ => none)) (fun g w' => ∃ fr, g = G (Frame.enter Try.prog 14 #[] .normal) [fr] ∧ (∃ d, w' = w.at d) ∧ ∀ w1,
      Walk Try.prog true (DR (fun _ => none)) (fun g w' => (∃ u, g = G (hdOr lv (w1.heap.size + 1) n 0 f u) []) ∧ OrI (w1.heap.size + 1) w1.heap.size n (rgJ n) w1 w') (G (fr.finish (.bool true)) []) w1)
    (G (Frame.enter Try.prog 6 #[.int .u8 p, .int .u32 f, lv] .normal) []) w := by
  have hA : ∀ b, Apart (fun _ => none) b := fun b => ⟨fun _ _ _ _ h => (by cases h), fun _ _ h => (by cases h)⟩
  have hsh2 : IntKind.i64.wrap (1 * 2 ^ r.toNat) = (n : Int) := by rw [Int.one_mul]; exact hsh
  have v1 := fun w => (cvU32 f w #[]).1
  have v2 := fun w es => (cvU32 f w es).2
  rw [hf] at v1
  rw [enter_at _ Try.func6 code6_is]
  simp only [Try.ntmps6, List.size_toArray, List.length_cons, List.length_nil, Nat.reduceAdd, Nat.reduceSub, Array.replicate_succ, Array.replicate_zero, List.push_toArray, List.append_toArray, List.nil_append, List.cons_append]
  repeat (first | refine Walk.c rfl ?_ | refine Walk.cRet ?_ | refine Walk.cEnd ?_ | (refine Walk.cReg ?_; simp only [size6_0, size6_1, size6_2, size6_3, size6_4, size6_5, size6_6, size6_7, size6_8, size6_9, size6_11, size6_12, size6_13, size6_14, size6_15, size6_16, size6_17, size6_18, size6_19, size6_20, size6_21, size6_22, size6_23, size6_24, size6_25, size6_26, size6_28, size6_29, size6_27, size6_10, size6_30, List.range, List.range.loop]) | (refine Walk.oq ?_; try walk_nrm) | (refine Walk.un ?_; walk_nrm))
  refine Walk.callE (ho_of (by conv => lhs; whnf) (by kernel_rfl)) (by rfl) (by decide) rfl Try.func14 (by kernel_rfl) (by rfl) ?_
  walk_nrm
  refine .stop fun d => ⟨_, rfl, ⟨d, rfl⟩, fun w1 => ?_⟩
  refine Walk.finish (ho_of (by conv => lhs; whnf) (by kernel_rfl)) ?_
  walk_nrm
  have hnw := new_w (main := true) (V := fun _ => none) (n : Int) hok w1 (fun b _ => hA b)
  rw [Int.toNat_natCast] at hnw
  repeat (first | refine Walk.c rfl ?_ | refine Walk.cRet ?_ | refine Walk.cEnd ?_ | (refine Walk.cReg ?_; simp only [size6_0, size6_1, size6_2, size6_3, size6_4, size6_5, size6_6, size6_7, size6_8, size6_9, size6_11, size6_12, size6_13, size6_14, size6_15, size6_16, size6_17, size6_18, size6_19, size6_20, size6_21, size6_22, size6_23, size6_24, size6_25, size6_26, size6_28, size6_29, size6_27, size6_10, size6_30, List.range, List.range.loop]) | (refine Walk.oq ?_; try walk_nrm) | (refine Walk.un ?_; walk_nrm))
  clear h6 h68 hr0 hr64 hsh hsh2
  refine Walk.callW (Post := fun v w' => v = .tuple #[.pointer (some ⟨w1.heap.size + 1, 0, none⟩), .int .i64 0] ∧ NwR w1 (w1.heap.size + 1) w1.heap.size n n w') ?_ (ho_of (by conv => lhs; whnf) (by kernel_rfl)) (by rfl) (by decide) rfl Try.func18 (by kernel_rfl) (by rfl) ?_
  · walk_nrm
    exact hnw
  rintro v w2 ⟨rfl, E2⟩
  have N2 : OrI (w1.heap.size + 1) w1.heap.size n (rgJ n) w1 w2 := ⟨E2.I, E2.old, E2.size, by omega, Nat.le_refl _⟩
  clear hnw E2
  generalize w1.heap.size + 1 = rb at *
  have hq1 := fun w => run_eql_ptr (P := Try.prog) 35 undRing (some ⟨rb, 0, none⟩) w
  have hq2 := fun w es => ev_eql_ptr (P := Try.prog) 35 undRing (some ⟨rb, 0, none⟩) w es
  simp only [Option.isNone_some] at hq1
  walk_nrm
  repeat (first | refine Walk.c rfl ?_ | refine Walk.cRet ?_ | refine Walk.cEnd ?_ | (refine Walk.cReg ?_; simp only [size6_0, size6_1, size6_2, size6_3, size6_4, size6_5, size6_6, size6_7, size6_8, size6_9, size6_11, size6_12, size6_13, size6_14, size6_15, size6_16, size6_17, size6_18, size6_19, size6_20, size6_21, size6_22, size6_23, size6_24, size6_25, size6_26, size6_28, size6_29, size6_27, size6_10, size6_30, List.range, List.range.loop]) | (refine Walk.oq ?_; try walk_nrm) | (refine Walk.un ?_; walk_nrm))
  refine Walk.ctl rfl (fun w => stepG_loop) ?_
  refine .stop fun d => ⟨at_slots ?_, N2.at d⟩
  simp only [hdOr]
  rfl
end
section
structure OrB (rb sb n B1 B2 : Nat) (s s' : Rg) (W w : World) : Prop where
  o : OrI rb sb n s' W w
  b1 : NumB w B1 ((List.range n).map s.st)
  b2 : NumB w B2 ((List.range n).map s'.st)
theorem NumB.sol {rb sb n : Nat} {s : Rg} {w w' : World} {B : Nat} {xs : List Int} (h : NumB w B xs) (hne : B ≠ rb ∧ B ≠ sb) (k : SolR rb sb n s w w') : NumB w' B xs := h.same (k.old B h.lt hne.1 hne.2)
section
variable {rb sb n : Nat} {s : Rg} {W : World}
theorem so_half (la lo ln lc j : Nat) (z d e m q p pn pm it : Int) (hit : 1000 + 7 * p = it) (hj : j < ln) (hj2 : ln ≤ 281474976710656) (h5 : Int.tmod z 5 = d) (hd8 : IntKind.u8.wrap d = d) (hd : IntKind.i64.wrap d = d) (r2 : IntKind.i64.wrap (1 + d) = e) (r3 : IntKind.i64.wrap ((n : Int) * e) = m) (r4 : IntKind.i64.wrap (q + m) = p)
    (hp0 : 0 ≤ p) (hp1 : p < 1152921504606846976) (r5 : IntKind.i64.wrap (p + n) = pn) (r6 : IntKind.i64.wrap (p - n) = pm) (hpn : pn = p + n) (hpm : pm = p - n) (w : World) (I : OrI rb sb n s W w) (hz : w.cell? ⟨la, lo + j, none⟩ = some (.int .u8 z)) (cs : List Frame) (u : Nat → Value) :
    Walk Try.prog true (DR (fun _ => none)) (fun g w' => (∃ B1 B2, (∃ u, g = G (hdOs (.slice (some ⟨la, lo, none⟩) ln lc) rb n j p B1 B2 0 u) cs) ∧ OrB rb sb n B1 B2 s (rgLay n s p it) W w')) (G (hdOr (.slice (some ⟨la, lo, none⟩) ln lc) rb n j q u) cs) w := by
  have hA : ∀ b, Apart (fun _ => none) b := fun b => ⟨fun _ _ _ _ h => (by cases h), fun _ _ h => (by cases h)⟩
  have hn := I.I.pos
  have hi0 : (0 : Int) ≤ j := by omega
  have hi1 : decide ((j : Int) < ln) = true := by simp; omega
  have hi3 : decide (j < ln) = true := by simp; omega
  have hi4 : (j : Int) < ln := by omega
  have v1 := fun w => (cvU8 d w #[]).1
  have v2 := fun w es => (cvU8 d w es).2
  rw [hd] at v1
  obtain ⟨F1, F2, F3, F4, F5, F6⟩ := order_facts (n := n) (s := s) (q := p) (v := it) hn.1 hp0 hp1 hn.2
  have F7 := order_hi (n := n) (s := s) (q := p) (v := it) rb sb hn.1 hp0 hp1
  rw [← hpn] at F2 F4
  rw [← hpm] at F5 F6
  have kit := fun w => item_w (main := true) (V := fun _ => none) p hp0 hp1 w
  rw [hit] at kit
  have kput := fun w (I : RgI rb sb n s w) => rput_w (main := true) (V := fun _ => none) hA I p it ⟨hp0, by omega⟩
  have kst := stamps_w (main := true) (V := fun _ => none) w I.I (fun b _ => hA b)
  generalize hS : rgLay n s p it = S at *
  clear hS
  have kg := fun w (I : RgI rb sb n S w) (x : Int) => rget_w (main := true) (V := fun _ => none) hA I x
  have kt := fun w (I : RgI rb sb n S w) (x : Int) => rthere_w (main := true) (V := fun _ => none) hA I x
  have kh := fun w (I : RgI rb sb n S w) => rhigh_w (main := true) (V := fun _ => none) hA I p p 1 S ⟨true, p, []⟩ F7
  have ks2 := fun w (I : RgI rb sb n S w) => stamps_w (main := true) (V := fun _ => none) w I (fun b _ => hA b)
  clear F7
  clear hit
  have hlt := I.I.lt
  clear hpn hpm hd hp0 hp1
  conv => arg 5; unfold hdOr
  repeat (first | refine Walk.c rfl ?_ | refine Walk.cRet ?_ | refine Walk.cEnd ?_ | (refine Walk.cReg ?_; simp only [size6_0, size6_1, size6_2, size6_3, size6_4, size6_5, size6_6, size6_7, size6_8, size6_9, size6_11, size6_12, size6_13, size6_14, size6_15, size6_16, size6_17, size6_18, size6_19, size6_20, size6_21, size6_22, size6_23, size6_24, size6_25, size6_26, size6_28, size6_29, size6_27, size6_10, size6_30, List.range, List.range.loop]) | (refine Walk.oq ?_; try walk_nrm) | (refine Walk.un ?_; walk_nrm))
  refine Walk.callW (Post := NewN n s.st w) ?_ (ho_of (by conv => lhs; whnf) (by kernel_rfl)) (by rfl) (by decide) rfl Try.func27 (by kernel_rfl) (by rfl) ?_
  · walk_nrm
    exact kst
  rintro v w1 ⟨rfl, B1, O1, Z1⟩
  have I1 := I.new O1 (Nat.le_of_lt Z1)
  generalize w.heap.size = b1 at *
  have hne1 : b1 ≠ rb ∧ b1 ≠ sb := ⟨by omega, by omega⟩
  clear kst h5 hd8 r2 r3 r4 v1 v2 hz O1 hi0 hi1 hi3 hi4
  walk_nrm
  repeat (first | refine Walk.c rfl ?_ | refine Walk.cRet ?_ | refine Walk.cEnd ?_ | (refine Walk.cReg ?_; simp only [size6_0, size6_1, size6_2, size6_3, size6_4, size6_5, size6_6, size6_7, size6_8, size6_9, size6_11, size6_12, size6_13, size6_14, size6_15, size6_16, size6_17, size6_18, size6_19, size6_20, size6_21, size6_22, size6_23, size6_24, size6_25, size6_26, size6_28, size6_29, size6_27, size6_10, size6_30, List.range, List.range.loop]) | (refine Walk.oq ?_; try walk_nrm) | (refine Walk.un ?_; walk_nrm))
  refine Walk.callV (x := .int .i64 it) (W := w1) ?_ (ho_of (by conv => lhs; whnf) (by kernel_rfl)) (by rfl) (by decide) rfl Try.func32 (by kernel_rfl) (by rfl) ?_
  · walk_nrm
    exact kit w1
  walk_nrm
  repeat (first | refine Walk.c rfl ?_ | refine Walk.cRet ?_ | refine Walk.cEnd ?_ | (refine Walk.cReg ?_; simp only [size6_0, size6_1, size6_2, size6_3, size6_4, size6_5, size6_6, size6_7, size6_8, size6_9, size6_11, size6_12, size6_13, size6_14, size6_15, size6_16, size6_17, size6_18, size6_19, size6_20, size6_21, size6_22, size6_23, size6_24, size6_25, size6_26, size6_28, size6_29, size6_27, size6_10, size6_30, List.range, List.range.loop]) | (refine Walk.oq ?_; try walk_nrm) | (refine Walk.un ?_; walk_nrm))
  refine Walk.callP (Post := fun v w' => v = .int .i64 0 ∧ SolR rb sb n S w1 w') ?_ (ho_of (by conv => lhs; whnf) (by kernel_rfl)) (by rfl) (by decide) rfl Try.func33 (by kernel_rfl) (by rfl) ⟨rfl, rfl, _, Try.func6⟩ ?_
  · walk_nrm
    exact kput w1 I1.I
  rintro v w2 ⟨rfl, H2⟩
  have I2 := I1.sol H2
  have B2 := B1.sol hne1 H2
  clear kput I1 B1 H2 Z1 hlt
  walk_nrm
  repeat (first | refine Walk.c rfl ?_ | refine Walk.cRet ?_ | refine Walk.cEnd ?_ | (refine Walk.cReg ?_; simp only [size6_0, size6_1, size6_2, size6_3, size6_4, size6_5, size6_6, size6_7, size6_8, size6_9, size6_11, size6_12, size6_13, size6_14, size6_15, size6_16, size6_17, size6_18, size6_19, size6_20, size6_21, size6_22, size6_23, size6_24, size6_25, size6_26, size6_28, size6_29, size6_27, size6_10, size6_30, List.range, List.range.loop]) | (refine Walk.oq ?_; try walk_nrm) | (refine Walk.un ?_; walk_nrm))
  have hg := kg w2 I2.I p
  rw [F1] at hg
  refine Walk.callP (Post := fun x w' => ∃ a er, x = .tuple #[.int .i64 a, .int .i64 er] ∧ (⟨true, it, []⟩ : Ans) = ⟨er == 0, if er = 0 then a else er, []⟩ ∧ SolR rb sb n S w2 w') ?_ (ho_of (by conv => lhs; whnf) (by kernel_rfl)) (by rfl) (by decide) rfl Try.func34 (by kernel_rfl) (by rfl) ⟨rfl, rfl, _, Try.func6⟩ ?_
  · walk_nrm
    exact hg
  rintro v w3 ⟨a3, er, rfl, he, H3⟩
  obtain ⟨rfl, ha⟩ := got_ok he
  obtain rfl := ha.symm
  have I3 := I2.sol H3
  have B3 := B2.sol hne1 H3
  clear he hg H3 I2 B2
  walk_nrm
  repeat (first | refine Walk.c rfl ?_ | refine Walk.cRet ?_ | refine Walk.cEnd ?_ | (refine Walk.cReg ?_; simp only [size6_0, size6_1, size6_2, size6_3, size6_4, size6_5, size6_6, size6_7, size6_8, size6_9, size6_11, size6_12, size6_13, size6_14, size6_15, size6_16, size6_17, size6_18, size6_19, size6_20, size6_21, size6_22, size6_23, size6_24, size6_25, size6_26, size6_28, size6_29, size6_27, size6_10, size6_30, List.range, List.range.loop]) | (refine Walk.oq ?_; try walk_nrm) | (refine Walk.un ?_; walk_nrm))
  have hg := kg w3 I3.I pn
  rw [F2] at hg
  refine Walk.callP (Post := fun x w' => ∃ a er, x = .tuple #[.int .i64 a, .int .i64 er] ∧ (⟨false, 6, []⟩ : Ans) = ⟨er == 0, if er = 0 then a else er, []⟩ ∧ SolR rb sb n S w3 w') ?_ (ho_of (by conv => lhs; whnf) (by kernel_rfl)) (by rfl) (by decide) rfl Try.func34 (by kernel_rfl) (by rfl) ⟨rfl, rfl, _, Try.func6⟩ ?_
  · walk_nrm
    exact hg
  rintro v w4 ⟨a4, er, rfl, he, H4⟩
  obtain rfl := got_no he
  have I4 := I3.sol H4
  have B4 := B3.sol hne1 H4
  clear he hg H4 I3 B3
  walk_nrm
  repeat (first | refine Walk.c rfl ?_ | refine Walk.cRet ?_ | refine Walk.cEnd ?_ | (refine Walk.cReg ?_; simp only [size6_0, size6_1, size6_2, size6_3, size6_4, size6_5, size6_6, size6_7, size6_8, size6_9, size6_11, size6_12, size6_13, size6_14, size6_15, size6_16, size6_17, size6_18, size6_19, size6_20, size6_21, size6_22, size6_23, size6_24, size6_25, size6_26, size6_28, size6_29, size6_27, size6_10, size6_30, List.range, List.range.loop]) | (refine Walk.oq ?_; try walk_nrm) | (refine Walk.un ?_; walk_nrm))
  refine Walk.callV (x := .int .i64 it) (W := w4) ?_ (ho_of (by conv => lhs; whnf) (by kernel_rfl)) (by rfl) (by decide) rfl Try.func32 (by kernel_rfl) (by rfl) ?_
  · walk_nrm
    exact kit w4
  walk_nrm
  repeat (first | refine Walk.c rfl ?_ | refine Walk.cRet ?_ | refine Walk.cEnd ?_ | (refine Walk.cReg ?_; simp only [size6_0, size6_1, size6_2, size6_3, size6_4, size6_5, size6_6, size6_7, size6_8, size6_9, size6_11, size6_12, size6_13, size6_14, size6_15, size6_16, size6_17, size6_18, size6_19, size6_20, size6_21, size6_22, size6_23, size6_24, size6_25, size6_26, size6_28, size6_29, size6_27, size6_10, size6_30, List.range, List.range.loop]) | (refine Walk.oq ?_; try walk_nrm) | (refine Walk.un ?_; walk_nrm))
  have hg := kt w4 I4.I p
  rw [F3] at hg
  refine Walk.callP (Post := fun x w' => x = .bool true ∧ SolR rb sb n S w4 w') ?_ (ho_of (by conv => lhs; whnf) (by kernel_rfl)) (by rfl) (by decide) rfl Try.func35 (by kernel_rfl) (by rfl) ⟨rfl, rfl, _, Try.func6⟩ ?_
  · walk_nrm
    exact hg
  rintro v w5 ⟨rfl, H5⟩
  have I5 := I4.sol H5
  have B5 := B4.sol hne1 H5
  clear hg H5 I4 B4
  walk_nrm
  repeat (first | refine Walk.c rfl ?_ | refine Walk.cRet ?_ | refine Walk.cEnd ?_ | (refine Walk.cReg ?_; simp only [size6_0, size6_1, size6_2, size6_3, size6_4, size6_5, size6_6, size6_7, size6_8, size6_9, size6_11, size6_12, size6_13, size6_14, size6_15, size6_16, size6_17, size6_18, size6_19, size6_20, size6_21, size6_22, size6_23, size6_24, size6_25, size6_26, size6_28, size6_29, size6_27, size6_10, size6_30, List.range, List.range.loop]) | (refine Walk.oq ?_; try walk_nrm) | (refine Walk.un ?_; walk_nrm))
  have hg := kt w5 I5.I pn
  rw [F4] at hg
  refine Walk.callP (Post := fun x w' => x = .bool false ∧ SolR rb sb n S w5 w') ?_ (ho_of (by conv => lhs; whnf) (by kernel_rfl)) (by rfl) (by decide) rfl Try.func35 (by kernel_rfl) (by rfl) ⟨rfl, rfl, _, Try.func6⟩ ?_
  · walk_nrm
    exact hg
  rintro v w6 ⟨rfl, H6⟩
  have I6 := I5.sol H6
  have B6 := B5.sol hne1 H6
  clear hg H6 I5 B5
  walk_nrm
  repeat (first | refine Walk.c rfl ?_ | refine Walk.cRet ?_ | refine Walk.cEnd ?_ | (refine Walk.cReg ?_; simp only [size6_0, size6_1, size6_2, size6_3, size6_4, size6_5, size6_6, size6_7, size6_8, size6_9, size6_11, size6_12, size6_13, size6_14, size6_15, size6_16, size6_17, size6_18, size6_19, size6_20, size6_21, size6_22, size6_23, size6_24, size6_25, size6_26, size6_28, size6_29, size6_27, size6_10, size6_30, List.range, List.range.loop]) | (refine Walk.oq ?_; try walk_nrm) | (refine Walk.un ?_; walk_nrm))
  refine Walk.callP (Post := fun x w' => x = .int .i64 p ∧ SolR rb sb n S w6 w') ?_ (ho_of (by conv => lhs; whnf) (by kernel_rfl)) (by rfl) (by decide) rfl Try.func36 (by kernel_rfl) (by rfl) ⟨rfl, rfl, _, Try.func6⟩ ?_
  · walk_nrm
    exact kh w6 I6.I
  rintro v w7 ⟨rfl, H7⟩
  have I7 := I6.sol H7
  have B7 := B6.sol hne1 H7
  clear kh H7 I6 B6 kit kt F1 F2 F3 F4
  walk_nrm
  repeat (first | refine Walk.c rfl ?_ | refine Walk.cRet ?_ | refine Walk.cEnd ?_ | (refine Walk.cReg ?_; simp only [size6_0, size6_1, size6_2, size6_3, size6_4, size6_5, size6_6, size6_7, size6_8, size6_9, size6_11, size6_12, size6_13, size6_14, size6_15, size6_16, size6_17, size6_18, size6_19, size6_20, size6_21, size6_22, size6_23, size6_24, size6_25, size6_26, size6_28, size6_29, size6_27, size6_10, size6_30, List.range, List.range.loop]) | (refine Walk.oq ?_; try walk_nrm) | (refine Walk.un ?_; walk_nrm))
  by_cases hc : (n : Int) ≤ p
  · have F := F5 hc
    have g1 : decide ((n : Int) ≤ p) = true := by simp [hc]
    have g2 : decide (p < (n : Int)) = false := by simp [hc]
    clear F5 F6
    have hg := kg w7 I7.I pm
    rw [F] at hg
    refine Walk.callP (Post := fun x w' => ∃ a er, x = .tuple #[.int .i64 a, .int .i64 er] ∧ (⟨false, 10, []⟩ : Ans) = ⟨er == 0, if er = 0 then a else er, []⟩ ∧ SolR rb sb n S w7 w') ?_ (ho_of (by conv => lhs; whnf) (by kernel_rfl)) (by rfl) (by decide) rfl Try.func34 (by kernel_rfl) (by rfl) ⟨rfl, rfl, _, Try.func6⟩ ?_
    · walk_nrm
      exact hg
    rintro v w8 ⟨a8, er, rfl, he, H8⟩
    obtain rfl := got_no he
    have I8 := I7.sol H8
    have B8 := B7.sol hne1 H8
    clear he hg H8 I7 B7
    walk_nrm
    repeat (first | refine Walk.c rfl ?_ | refine Walk.cRet ?_ | refine Walk.cEnd ?_ | (refine Walk.cReg ?_; simp only [size6_0, size6_1, size6_2, size6_3, size6_4, size6_5, size6_6, size6_7, size6_8, size6_9, size6_11, size6_12, size6_13, size6_14, size6_15, size6_16, size6_17, size6_18, size6_19, size6_20, size6_21, size6_22, size6_23, size6_24, size6_25, size6_26, size6_28, size6_29, size6_27, size6_10, size6_30, List.range, List.range.loop]) | (refine Walk.oq ?_; try walk_nrm) | (refine Walk.un ?_; walk_nrm))
    refine Walk.callW (Post := NewN n S.st w8) ?_ (ho_of (by conv => lhs; whnf) (by kernel_rfl)) (by rfl) (by decide) rfl Try.func27 (by kernel_rfl) (by rfl) ?_
    · walk_nrm
      exact ks2 w8 I8.I
    rintro v w9 ⟨rfl, C9, O9, Z9⟩
    have I9 := I8.new O9 (Nat.le_of_lt Z9)
    have B9 := B8.same (O9 _ B8.lt)
    generalize w8.heap.size = b2 at *
    clear ks2 O9 Z9 I8 B8 g1 g2 hc kg
    walk_nrm
    repeat (first | refine Walk.c rfl ?_ | refine Walk.cRet ?_ | refine Walk.cEnd ?_ | (refine Walk.cReg ?_; simp only [size6_0, size6_1, size6_2, size6_3, size6_4, size6_5, size6_6, size6_7, size6_8, size6_9, size6_11, size6_12, size6_13, size6_14, size6_15, size6_16, size6_17, size6_18, size6_19, size6_20, size6_21, size6_22, size6_23, size6_24, size6_25, size6_26, size6_28, size6_29, size6_27, size6_10, size6_30, List.range, List.range.loop]) | (refine Walk.oq ?_; try walk_nrm) | (refine Walk.un ?_; walk_nrm))
    refine Walk.ctl rfl (fun w => stepG_loop) ?_
    refine .stop fun d => ⟨b1, b2, at_slots ?_, I9.at d, B9.same rfl, C9.same rfl⟩
    simp only [hdOs]
    rfl
  · have F := F6 hc
    have g1 : decide ((n : Int) ≤ p) = false := by simp; omega
    have g2 : decide (p < (n : Int)) = true := by simp; omega
    clear F5 F6
    have hg := kg w7 I7.I pm
    rw [F] at hg
    refine Walk.callP (Post := fun x w' => ∃ a er, x = .tuple #[.int .i64 a, .int .i64 er] ∧ (⟨false, 1, []⟩ : Ans) = ⟨er == 0, if er = 0 then a else er, []⟩ ∧ SolR rb sb n S w7 w') ?_ (ho_of (by conv => lhs; whnf) (by kernel_rfl)) (by rfl) (by decide) rfl Try.func34 (by kernel_rfl) (by rfl) ⟨rfl, rfl, _, Try.func6⟩ ?_
    · walk_nrm
      exact hg
    rintro v w8 ⟨a8, er, rfl, he, H8⟩
    obtain rfl := got_no he
    have I8 := I7.sol H8
    have B8 := B7.sol hne1 H8
    clear he hg H8 I7 B7
    walk_nrm
    repeat (first | refine Walk.c rfl ?_ | refine Walk.cRet ?_ | refine Walk.cEnd ?_ | (refine Walk.cReg ?_; simp only [size6_0, size6_1, size6_2, size6_3, size6_4, size6_5, size6_6, size6_7, size6_8, size6_9, size6_11, size6_12, size6_13, size6_14, size6_15, size6_16, size6_17, size6_18, size6_19, size6_20, size6_21, size6_22, size6_23, size6_24, size6_25, size6_26, size6_28, size6_29, size6_27, size6_10, size6_30, List.range, List.range.loop]) | (refine Walk.oq ?_; try walk_nrm) | (refine Walk.un ?_; walk_nrm))
    refine Walk.callW (Post := NewN n S.st w8) ?_ (ho_of (by conv => lhs; whnf) (by kernel_rfl)) (by rfl) (by decide) rfl Try.func27 (by kernel_rfl) (by rfl) ?_
    · walk_nrm
      exact ks2 w8 I8.I
    rintro v w9 ⟨rfl, C9, O9, Z9⟩
    have I9 := I8.new O9 (Nat.le_of_lt Z9)
    have B9 := B8.same (O9 _ B8.lt)
    generalize w8.heap.size = b2 at *
    clear ks2 O9 Z9 I8 B8 g1 g2 hc kg
    walk_nrm
    repeat (first | refine Walk.c rfl ?_ | refine Walk.cRet ?_ | refine Walk.cEnd ?_ | (refine Walk.cReg ?_; simp only [size6_0, size6_1, size6_2, size6_3, size6_4, size6_5, size6_6, size6_7, size6_8, size6_9, size6_11, size6_12, size6_13, size6_14, size6_15, size6_16, size6_17, size6_18, size6_19, size6_20, size6_21, size6_22, size6_23, size6_24, size6_25, size6_26, size6_28, size6_29, size6_27, size6_10, size6_30, List.range, List.range.loop]) | (refine Walk.oq ?_; try walk_nrm) | (refine Walk.un ?_; walk_nrm))
    refine Walk.ctl rfl (fun w => stepG_loop) ?_
    refine .stop fun d => ⟨b1, b2, at_slots ?_, I9.at d, B9.same rfl, C9.same rfl⟩
    simp only [hdOs]
    rfl
end
end
section
section
variable {rb sb n B1 B2 : Nat} {s s' : Rg} {W w : World}
theorem OrB.at (h : OrB rb sb n B1 B2 s s' W w) (d : Nat) : OrB rb sb n B1 B2 s s' W (w.at d) := ⟨h.o.at d, h.b1.same rfl, h.b2.same rfl⟩
theorem so_look (lv : Value) (j k : Nat) (q : Int) (hk : k < n) (hq : good q) (hst : ∀ k, k ≠ ixR n q → s'.st k = s.st k) (I : OrB rb sb n B1 B2 s s' W w) (cs : List Frame) (u : Nat → Value) :
    Walk Try.prog true (DR (fun _ => none)) (fun g w' => (∃ u, g = G (hdOs lv rb n j q B1 B2 (k + 1) u) cs) ∧ ∃ d, w' = w.at d) (G (hdOs lv rb n j q B1 B2 k u) cs) w := by
  have hn := I.o.I.pos
  have hi0 : (0 : Int) ≤ k := by omega
  have hi1 : decide ((k : Int) < n) = true := by simp; omega
  have hi3 : decide (k < n) = true := by simp; omega
  have hi4 : (k : Int) < n := by omega
  have hw1 : IntKind.wrap .i64 ((k : Int) + 1) = (k : Int) + 1 := by rw [IntKind.wrap_i64]; omega
  have hcc : ((k + 1 : Nat) : Int) = (k : Int) + 1 := by simp
  have ksl := slot_w (main := true) (V := fun _ => none) w I.o.I q hq
  have c1 : w.cell? ⟨B1, k, none⟩ = some (.int .i64 (s.st k)) := I.b1.cell (by simp [hk])
  have c2 : w.cell? ⟨B2, k, none⟩ = some (.int .i64 (s'.st k)) := I.b2.cell (by simp [hk])
  have hd := hst k
  generalize s.st k = x at *
  generalize s'.st k = y at *
  generalize ixR n q = ix at *
  clear hst
  conv => arg 5; unfold hdOs
  repeat (first | refine Walk.c rfl ?_ | refine Walk.cRet ?_ | refine Walk.cEnd ?_ | (refine Walk.cReg ?_; simp only [size6_0, size6_1, size6_2, size6_3, size6_4, size6_5, size6_6, size6_7, size6_8, size6_9, size6_11, size6_12, size6_13, size6_14, size6_15, size6_16, size6_17, size6_18, size6_19, size6_20, size6_21, size6_22, size6_23, size6_24, size6_25, size6_26, size6_28, size6_29, size6_27, size6_10, size6_30, List.range, List.range.loop]) | (refine Walk.oq ?_; try walk_nrm) | (refine Walk.un ?_; walk_nrm))
  by_cases hx : k = ix
  · subst hx
    have g1 : ((k : Int) != (k : Int)) = false := by simp
    clear hd
    (refine Walk.drawnC (by kernel_rfl) size6_28 (by kernel_rfl) (by kernel_rfl) (by decide) ?_; simp only [List.range, List.range.loop]; repeat (first | (refine Cm.opqA (ho_of (by conv => lhs; whnf) (by kernel_rfl)) (by rfl) (fun dd e he => ?_) ?_; (· (simp [go_sem, *] at he; try (subst he; exact evR_read _ _))); apply Exists.intro; apply And.intro; (· (intro dd K hK; go_simp; exact hK))) | (refine Cm.unw (ho_of (by conv => lhs; whnf) (by kernel_rfl)) (by rfl) ?_; walk_nrm)))
    refine Cm.callV (x := .int .i64 (k : Nat)) ?_ (ho_of (by conv => lhs; whnf) (by kernel_rfl)) (by rfl) rfl Try.func24 (by kernel_rfl) (by rfl) ?_
    · intro w' e
      subst e
      walk_nrm
      exact ksl
    walk_nrm
    repeat (first | (refine Cm.opqA (ho_of (by conv => lhs; whnf) (by kernel_rfl)) (by rfl) (fun dd e he => ?_) ?_; (· (simp [go_sem, *] at he; try (subst he; exact evR_read _ _))); apply Exists.intro; apply And.intro; (· (intro dd K hK; go_simp; exact hK))) | (refine Cm.unw (ho_of (by conv => lhs; whnf) (by kernel_rfl)) (by rfl) ?_; walk_nrm))
    refine Cm.done ?_
    clear ksl c1 c2
    repeat (first | refine Walk.c rfl ?_ | refine Walk.cRet ?_ | refine Walk.cEnd ?_ | (refine Walk.cReg ?_; simp only [size6_0, size6_1, size6_2, size6_3, size6_4, size6_5, size6_6, size6_7, size6_8, size6_9, size6_11, size6_12, size6_13, size6_14, size6_15, size6_16, size6_17, size6_18, size6_19, size6_20, size6_21, size6_22, size6_23, size6_24, size6_25, size6_26, size6_28, size6_29, size6_27, size6_10, size6_30, List.range, List.range.loop]) | (refine Walk.oq ?_; try walk_nrm) | (refine Walk.un ?_; walk_nrm))
    refine Walk.ctl rfl (fun w => stepG_inLoop) ?_
    refine .stop fun d => ⟨at_slots ?_, d, rfl⟩
    simp only [hdOs, hcc]
    rfl
  · have hy := hd hx
    subst hy
    have g1 : ((k : Int) != (ix : Int)) = true := by simp; omega
    clear hd
    (refine Walk.drawnC (by kernel_rfl) size6_28 (by kernel_rfl) (by kernel_rfl) (by decide) ?_; simp only [List.range, List.range.loop]; repeat (first | (refine Cm.opqA (ho_of (by conv => lhs; whnf) (by kernel_rfl)) (by rfl) (fun dd e he => ?_) ?_; (· (simp [go_sem, *] at he; try (subst he; exact evR_read _ _))); apply Exists.intro; apply And.intro; (· (intro dd K hK; go_simp; exact hK))) | (refine Cm.unw (ho_of (by conv => lhs; whnf) (by kernel_rfl)) (by rfl) ?_; walk_nrm)))
    refine Cm.callV (x := .int .i64 (ix : Nat)) ?_ (ho_of (by conv => lhs; whnf) (by kernel_rfl)) (by rfl) rfl Try.func24 (by kernel_rfl) (by rfl) ?_
    · intro w' e
      subst e
      walk_nrm
      exact ksl
    walk_nrm
    repeat (first | (refine Cm.opqA (ho_of (by conv => lhs; whnf) (by kernel_rfl)) (by rfl) (fun dd e he => ?_) ?_; (· (simp [go_sem, *] at he; try (subst he; exact evR_read _ _))); apply Exists.intro; apply And.intro; (· (intro dd K hK; go_simp; exact hK))) | (refine Cm.unw (ho_of (by conv => lhs; whnf) (by kernel_rfl)) (by rfl) ?_; walk_nrm))
    refine Cm.done ?_
    clear ksl c1 c2
    repeat (first | refine Walk.c rfl ?_ | refine Walk.cRet ?_ | refine Walk.cEnd ?_ | (refine Walk.cReg ?_; simp only [size6_0, size6_1, size6_2, size6_3, size6_4, size6_5, size6_6, size6_7, size6_8, size6_9, size6_11, size6_12, size6_13, size6_14, size6_15, size6_16, size6_17, size6_18, size6_19, size6_20, size6_21, size6_22, size6_23, size6_24, size6_25, size6_26, size6_28, size6_29, size6_27, size6_10, size6_30, List.range, List.range.loop]) | (refine Walk.oq ?_; try walk_nrm) | (refine Walk.un ?_; walk_nrm))
    refine Walk.ctl rfl (fun w => stepG_inLoop) ?_
    refine .stop fun d => ⟨at_slots ?_, d, rfl⟩
    simp only [hdOs, hcc]
    rfl
theorem so_next (lv : Value) (j : Nat) (q : Int) (hj : j < 281474976710656) (w : World) (cs : List Frame) (u : Nat → Value) :
    Walk Try.prog true (DR (fun _ => none)) (fun g w' => (∃ u, g = G (hdOr lv rb n (j + 1) q u) cs) ∧ ∃ d, w' = w.at d) (G (hdOs lv rb n j q B1 B2 n u) cs) w := by
  have hi1 : decide ((n : Int) < n) = false := by simp
  have hi3 : decide (n < n) = false := by simp
  have hw1 : IntKind.wrap .i64 ((j : Int) + 1) = (j : Int) + 1 := by rw [IntKind.wrap_i64]; omega
  have hcc : ((j + 1 : Nat) : Int) = (j : Int) + 1 := by simp
  conv => arg 5; unfold hdOs
  repeat (first | refine Walk.c rfl ?_ | refine Walk.cRet ?_ | refine Walk.cEnd ?_ | (refine Walk.cReg ?_; simp only [size6_0, size6_1, size6_2, size6_3, size6_4, size6_5, size6_6, size6_7, size6_8, size6_9, size6_11, size6_12, size6_13, size6_14, size6_15, size6_16, size6_17, size6_18, size6_19, size6_20, size6_21, size6_22, size6_23, size6_24, size6_25, size6_26, size6_28, size6_29, size6_27, size6_10, size6_30, List.range, List.range.loop]) | (refine Walk.oq ?_; try walk_nrm) | (refine Walk.un ?_; walk_nrm))
  refine Walk.ctl rfl (fun w => stepG_inLoop) ?_
  refine .stop fun d => ⟨at_slots ?_, d, rfl⟩
  simp only [hdOr, hcc]
  rfl
theorem so_end (la : Option Addr) (ln lc : Nat) (q : Int) (w : World) (u : Nat → Value) :
    Walk Try.prog true (DR (fun _ => none)) (fun g w' => Closing 6 6 (.bool true) g ∧ ∃ d, w' = w.at d) (G (hdOr (.slice la ln lc) rb n ln q u) []) w := by
  have hi1 : decide ((ln : Int) < ln) = false := by simp
  have hi3 : decide (ln < ln) = false := by simp
  conv => arg 5; unfold hdOr
  repeat (first | refine Walk.c rfl ?_ | refine Walk.cRet ?_ | refine Walk.cEnd ?_ | (refine Walk.cReg ?_; simp only [size6_0, size6_1, size6_2, size6_3, size6_4, size6_5, size6_6, size6_7, size6_8, size6_9, size6_11, size6_12, size6_13, size6_14, size6_15, size6_16, size6_17, size6_18, size6_19, size6_20, size6_21, size6_22, size6_23, size6_24, size6_25, size6_26, size6_28, size6_29, size6_27, size6_10, size6_30, List.range, List.range.loop]) | (refine Walk.oq ?_; try walk_nrm) | (refine Walk.un ?_; walk_nrm))
  exact .stop fun d => ⟨⟨_, rfl, rfl, rfl, rfl, rfl, rfl⟩, d, rfl⟩
end
end
section
section
variable {rb sb n : Nat}
theorem so_looks (lv : Value) (j : Nat) (hj : j < 281474976710656) (q : Int) (hq : good q) (B1 B2 : Nat) (s s' : Rg) (hst : ∀ k, k ≠ ixR n q → s'.st k = s.st k) (W : World) (cs : List Frame) :
    ∀ (r k : Nat) (w : World) (u : Nat → Value), k + r = n → OrB rb sb n B1 B2 s s' W w →
    Walk Try.prog true (DR (fun _ => none)) (fun g w' => (∃ u, g = G (hdOr lv rb n (j + 1) q u) cs) ∧ OrI rb sb n s' W w') (G (hdOs lv rb n j q B1 B2 k u) cs) w := by
  intro r
  induction r with
  | zero =>
    intro k w u hk I
    have hk : k = n := hk
    subst hk
    refine (so_next lv j q hj w cs u).mono ?_
    rintro g w' ⟨hu, d, rfl⟩
    exact ⟨hu, I.o.at d⟩
  | succ r ih =>
    intro k w u hk I
    refine (so_look lv j k q (by omega) hq hst I cs u).then ?_
    rintro g w' ⟨⟨u', rfl⟩, d, rfl⟩
    exact ih (k + 1) _ u' (by omega) (I.at d)
theorem so_lap (la lo ln lc j : Nat) (z q : Int) (hj : j < ln) (hj2 : ln ≤ 140737488355328) (hn : 1 ≤ n) (hn32 : n ≤ 32) (hz0 : 0 ≤ z) (hz1 : z ≤ 255) (hq0 : 0 ≤ q) (hq1 : q ≤ 4294967295 + 160 * j) (s : Rg) (W w : World) (I : OrI rb sb n s W w) (hz : w.cell? ⟨la, lo + j, none⟩ = some (.int .u8 z)) (cs : List Frame) (u : Nat → Value) :
    Walk Try.prog true (DR (fun _ => none)) (fun g w' => ∃ (q' : Int) (s' : Rg), 0 ≤ q' ∧ q' ≤ 4294967295 + 160 * (j + 1 : Nat) ∧ (∃ u, g = G (hdOr (.slice (some ⟨la, lo, none⟩) ln lc) rb n (j + 1) q' u) cs) ∧ OrI rb sb n s' W w') (G (hdOr (.slice (some ⟨la, lo, none⟩) ln lc) rb n j q u) cs) w := by
  have ht : Int.tmod z 5 = z % 5 := Int.tmod_eq_emod_of_nonneg hz0
  obtain ⟨e, he⟩ : ∃ e : Int, 1 + z % 5 = e := ⟨_, rfl⟩
  have he1 : 1 ≤ e ∧ e ≤ 5 := by omega
  obtain ⟨m, hm⟩ : ∃ m : Int, (n : Int) * e = m := ⟨_, rfl⟩
  have hm1 : 1 ≤ m ∧ m ≤ 160 := by
    have hc : e = 1 ∨ e = 2 ∨ e = 3 ∨ e = 4 ∨ e = 5 := by omega
    rcases hc with h | h | h | h | h <;> subst h <;> omega
  have hb : q + m < 1152921504606846976 := by omega
  have hS := (lay_st (n := n) (s := s) (q := q + m) (v := 1000 + 7 * (q + m)) hn).2.2
  refine (so_half la lo ln lc j z (z % 5) e m q (q + m) (q + m + n) (q + m - n) (1000 + 7 * (q + m)) rfl hj (by omega) ht (by rw [IntKind.wrap_u8]; omega) (by rw [IntKind.wrap_i64]; omega) (by rw [he, IntKind.wrap_i64]; omega) (by rw [hm, IntKind.wrap_i64]; omega) (by rw [IntKind.wrap_i64]; omega) (by omega) hb (by rw [IntKind.wrap_i64]; omega) (by rw [IntKind.wrap_i64]; omega) rfl rfl w I hz cs u).then ?_
  rintro _ w2 ⟨B1, B2, ⟨u2, rfl⟩, I2⟩
  refine (so_looks _ j (by omega) (q + m) ⟨by omega, by omega⟩ B1 B2 s _ hS W cs n 0 w2 u2 (Nat.zero_add _) I2).mono ?_
  rintro g w3 ⟨hu, I3⟩
  exact ⟨q + m, _, by omega, by omega, hu, I3⟩
theorem so_loop (la : Option Addr) (ln lc : Nat) (l : List Int) (hl : l.length = ln) (hj2 : ln ≤ 140737488355328) (hn : 1 ≤ n) (hn32 : n ≤ 32) (W : World)
    (hz : ∀ (j : Nat) (z : Int), l[j]? = some z → (0 ≤ z ∧ z ≤ 255) ∧ ∃ b o, la = some ⟨b, o, none⟩ ∧ W.cell? ⟨b, o + j, none⟩ = some (.int .u8 z)) :
    ∀ (r j : Nat) (q : Int) (s : Rg) (w : World) (u : Nat → Value), j + r = ln → 0 ≤ q → q ≤ 4294967295 + 160 * j → OrI rb sb n s W w →
    Walk Try.prog true (DR (fun _ => none)) (fun g w' => Closing 6 6 (.bool true) g ∧ ∀ b, b < W.heap.size → w'.heap[b]? = W.heap[b]?) (G (hdOr (.slice la ln lc) rb n j q u) []) w := by
  intro r
  induction r with
  | zero =>
    intro j q s w u hj h0 h1 I
    have hj : j = ln := hj
    subst hj
    refine (so_end la j lc q w u).mono ?_
    rintro g w' ⟨hC, d, rfl⟩
    exact ⟨hC, I.old⟩
  | succ r ih =>
    intro j q s w u hj h0 h1 I
    have hjl : j < l.length := by omega
    have hzj : l[j]? = some l[j] := List.getElem?_eq_getElem hjl
    generalize l[j] = z at hzj
    obtain ⟨⟨z0, z1⟩, b, o, rfl, hc⟩ := hz j z hzj
    refine (so_lap b o ln lc j z q (by omega) hj2 hn hn32 z0 z1 h0 h1 s W w I ((World.cell?_of_block (a := ⟨b, _, none⟩) (I.old b (cell_lt' hc))).trans hc) [] u).then ?_
    rintro g w2 ⟨q2, s2, h2, h3, ⟨u2, rfl⟩, I2⟩
    exact ih (j + 1) q2 s2 w2 u2 (by omega) h2 h3 I2
end
theorem so_size (p : Int) (h0 : 0 ≤ p) : ∃ (r : Int) (n : Nat), Int.tmod p 6 = r ∧ IntKind.u8.wrap r = r ∧ 0 ≤ r ∧ r ≤ 64 ∧ IntKind.i64.wrap (2 ^ r.toNat) = (n : Int) ∧ okS (n : Int) ∧ n ≤ 32 ∧ 1 ≤ n := by
  have ht : Int.tmod p 6 = p % 6 := Int.tmod_eq_emod_of_nonneg h0
  have hc : p % 6 = 0 ∨ p % 6 = 1 ∨ p % 6 = 2 ∨ p % 6 = 3 ∨ p % 6 = 4 ∨ p % 6 = 5 := by omega
  rcases hc with h | h | h | h | h | h
  · exact ⟨0, 1, ht.trans h, by decide, by decide, by decide, by decide, ⟨by decide, by decide, by kernel_rfl⟩, by decide, by decide⟩
  · exact ⟨1, 2, ht.trans h, by decide, by decide, by decide, by decide, ⟨by decide, by decide, by kernel_rfl⟩, by decide, by decide⟩
  · exact ⟨2, 4, ht.trans h, by decide, by decide, by decide, by decide, ⟨by decide, by decide, by kernel_rfl⟩, by decide, by decide⟩
  · exact ⟨3, 8, ht.trans h, by decide, by decide, by decide, by decide, ⟨by decide, by decide, by kernel_rfl⟩, by decide, by decide⟩
  · exact ⟨4, 16, ht.trans h, by decide, by decide, by decide, by decide, ⟨by decide, by decide, by kernel_rfl⟩, by decide, by decide⟩
  · exact ⟨5, 32, ht.trans h, by decide, by decide, by decide, by decide, ⟨by decide, by decide, by kernel_rfl⟩, by decide, by decide⟩
theorem so_all (p f : Int) (hp : 0 ≤ p) (hf0 : 0 ≤ f) (hf1 : f ≤ 4294967295) (la : Option Addr) (ln lc : Nat) (l : List Int) (hl : l.length = ln) (hj2 : ln ≤ 140737488355328) (W : World)
    (hz : ∀ (j : Nat) (z : Int), l[j]? = some z → (0 ≤ z ∧ z ≤ 255) ∧ ∃ b o, la = some ⟨b, o, none⟩ ∧ W.cell? ⟨b, o + j, none⟩ = some (.int .u8 z)) :
    Runs (fun g w' => Closing 6 6 (.bool true) g ∧ ∀ b, b < W.heap.size → w'.heap[b]? = W.heap[b]?) (G (Frame.enter Try.prog 6 #[.int .u8 p, .int .u32 f, .slice la ln lc] .normal) []) W := by
  obtain ⟨r, n, h6, h68, hr0, hr64, hsh, hok, hn32, hn⟩ := so_size p hp
  refine Runs.walk (so_in p f r n (.slice la ln lc) h6 h68 hr0 hr64 hsh hok (by rw [IntKind.wrap_i64]; omega) W) ?_
  rintro _ _ ⟨fr, rfl, ⟨d, rfl⟩, hB⟩
  refine Runs.then (fixed_run fr [] (W.at d)) ?_
  rintro _ w1 ⟨rfl, O1, Z1⟩
  have O1 : ∀ b, b < W.heap.size → w1.heap[b]? = W.heap[b]? := O1
  have Z1 : W.heap.size ≤ w1.heap.size := Z1
  refine Runs.walk ((hB w1).then ?_) (Stop := fun g w' => Closing 6 6 (.bool true) g ∧ ∀ b, b < w1.heap.size → w'.heap[b]? = w1.heap[b]?) ?_
  · rintro g w2 ⟨⟨u, rfl⟩, I2⟩
    refine so_loop la ln lc l hl hj2 hn hn32 w1 (fun j z hj => ?_) ln 0 f _ w2 u (Nat.zero_add _) hf0 (by omega) I2
    obtain ⟨h1, b, o, e, hc⟩ := hz j z hj
    exact ⟨h1, b, o, e, (World.cell?_of_block (a := ⟨b, _, none⟩) (O1 b (cell_lt' hc))).trans hc⟩
  · rintro g w3 ⟨hC, hO⟩
    exact .now ⟨hC, fun b hb => (hO b (by omega)).trans (O1 b hb)⟩
end
section
open Go.ChangeShapes Go.WideShapes Go.ChangeAt Go.Joins Go.Deep
theorem prog_own : ownKnob Try.prog.godebug = none := by kernel_rfl
def Left (W : World) (v : Value) (w' : World) : Prop := v = .bool true ∧ w'.os = W.os ∧ w'.output = W.output ∧ ∀ b, b < W.heap.size → w'.heap[b]? = W.heap[b]?
theorem Left.kept {W w' : World} {v : Value} (h : Left W v w') (may : MemPlace → Prop) : W.keptBut w' may := by
  refine ⟨h.2.1, h.2.2.1, fun i hi => ?_⟩
  rw [h.2.2.2 i hi]
  split <;> simp_all
theorem und4_is : Try.prog.underlying 4 = some .bool := by kernel_rfl
theorem stepG_done {P : Program} {fr : Frame} {w : World} {fn : Func} {v : Value} (hm : fr.mode = .returning) (hn : fr.kind = .normal) (hd : fr.defers = []) (hf : P.funcs[fr.fn]? = some fn) (hr : (results fn fr.tmps).run P w = .ok v w) (he : (results fn fr.tmps).events P w #[] = #[]) (hi : P.inits.idxOf? fr.fn = none) :
    stepG P true (G fr []) w = .ended (.done v) w #[] := by
  simp [G, stepG, unwind, doReturn, hm, hd, hn, hf, hr, he, hi, GStep.after, seen_none]
theorem run_claim {f : FuncId} {fn : Func} {args : Array Value} {W : World} {Post : Value → World → Prop} {v : Value} {t : Tmp} (hf : Try.prog.funcs[f]? = some fn) (hres : fn.results = #[.tmp t]) (hi : Try.prog.inits.idxOf? f = none)
    (h : Runs (fun g w' => Closing f t v g ∧ (OsSame W w' → ∀ d, Post v (w'.at d))) (G (Frame.enter Try.prog f args .normal) []) W) :
    ∃ M last o w' t', runNT Try.prog (M + 1) (solo (G (Frame.enter Try.prog f args .normal) []) W) #[] = (.ended o w', t') ∧ Go.runN Try.prog M (solo (G (Frame.enter Try.prog f args .normal) []) W) = .next last ∧ step Try.prog last = .ended o w' ∧ Go.Conc.Good Try.prog Post last o w' t' := by
  rw [solo_eq_crowd]
  have A0 := at_begin (P := Try.prog) (gs := #[G (Frame.enter Try.prog f args .normal) []]) (a := G (Frame.enter Try.prog f args .normal) []) (sl := none) (w := W) rfl (leavers_one Try.prog _) past_nil
  obtain ⟨N1, m1, T1, r1, ⟨nG, g1, w1, _, ⟨⟨fr, rfl, hm, hn, hd, hfn, hv⟩, hP⟩, A1⟩, ho⟩ := h 1 _ _ (Nat.le_refl _) A0
  obtain ⟨gs, sl, q, B, rfl, _, hg0, hL, hPast⟩ := A1.ends (fun _ => rfl)
  have hP := hP ho
  have hs : ∀ d, stepG Try.prog true (G fr []) (w1.at d) = .ended (.done v) (w1.at d) #[] := fun d =>
    stepG_done hm hn hd (by rw [hfn]; exact hf) (by rw [results_tmp hres, hv]) (events_results_tmp hres _ _) (by rw [hfn]; exact hi)
  have hG : Goes Try.prog true AtRel (fun _ _ es => ∀ e ∈ es, EvL (fun _ => False) B e) (AtEnd Try.prog (fun _ => False) B Post) 0 (G fr []) w1 := by
    rintro _ ⟨d, rfl⟩
    exact ⟨rfl, v, #[], hs d, by simp, hP d⟩
  obtain ⟨M8, last, o, w', t', e1, e2, e3, e4⟩ := beside_ends (P := Try.prog) (Post := Post) (sl := sl) (fun _ _ _ h => h) hg0 hL hPast hG
  refine ⟨N1 + M8, last, o, w', t', ?_, ?_, e3, e4⟩
  · rw [Nat.add_assoc, runNT_add, r1]; exact e1
  · rw [Go.runN_add, ← runNT_fst Try.prog _ _ #[], r1]; exact e2
end
end Go.Proofs.Ytbmijpkdghkbbaa
