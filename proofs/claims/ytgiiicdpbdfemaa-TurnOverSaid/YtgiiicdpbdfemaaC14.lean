/- Part 14. -/
import Derived.Test.YtgiiicdpbdfemaaC13
import Derived.Test.YtgiiicdpbdfemaaRows
import Derived.Conc.LeavingOf
import Derived.Lib.SmallJoins
import Derived.Handy
import Derived.SizedLaws
import Derived.Carry
import Derived.Deep.Slices
set_option linter.unusedSimpArgs false
/- The statement's side: TurnOver, up to its run. -/
section
namespace Go.Proofs.Ytgiiicdpbdfemaa
open Go.Conc Go.RowKit Go.Relay
open Go.ConcN (upd upd_ne upd_same)

noncomputable def reg6_0 : Array Oper := match Try.f6.body with | some (.seq (.region _ ops _) _) => ops | _ => #[]
theorem size6_0 : reg6_0.size = 1 := by kernel_rfl
noncomputable def reg6_1 : Array Oper := match Try.f6.body with | some (.seq _ (.seq (.seq (.region _ ops _) _) _)) => ops | _ => #[]
theorem size6_1 : reg6_1.size = 2 := by kernel_rfl
noncomputable def reg6_2 : Array Oper := match Try.f6.body with | some (.seq _ (.seq (.seq _ (.cond _ (.seq (.region _ ops _) _) _)) _)) => ops | _ => #[]
theorem size6_2 : reg6_2.size = 1 := by kernel_rfl
noncomputable def reg6_3 : Array Oper := match Try.f6.body with | some (.seq _ (.seq _ (.seq (.region _ ops _) _))) => ops | _ => #[]
theorem size6_3 : reg6_3.size = 3 := by kernel_rfl
noncomputable def reg6_4 : Array Oper := match Try.f6.body with | some (.seq _ (.seq _ (.seq _ (.seq (.region _ ops _) _)))) => ops | _ => #[]
theorem size6_4 : reg6_4.size = 14 := by kernel_rfl
noncomputable def reg6_5 : Array Oper := match Try.f6.body with | some (.seq _ (.seq _ (.seq _ (.seq _ (.seq (.region _ ops _) _))))) => ops | _ => #[]
theorem size6_5 : reg6_5.size = 4 := by kernel_rfl
noncomputable def reg6_6 : Array Oper := match Try.f6.body with | some (.seq _ (.seq _ (.seq _ (.seq _ (.seq _ (.seq (.seq (.region _ ops _) _) _)))))) => ops | _ => #[]
theorem size6_6 : reg6_6.size = 16 := by kernel_rfl
noncomputable def reg6_7 : Array Oper := match Try.f6.body with | some (.seq _ (.seq _ (.seq _ (.seq _ (.seq _ (.seq (.seq _ (.cond _ (.seq (.region _ ops _) _) _)) _)))))) => ops | _ => #[]
theorem size6_7 : reg6_7.size = 1 := by kernel_rfl
noncomputable def reg6_8 : Array Oper := match Try.f6.body with | some (.seq _ (.seq _ (.seq _ (.seq _ (.seq _ (.seq _ (.seq (.region _ ops _) _))))))) => ops | _ => #[]
theorem size6_8 : reg6_8.size = 3 := by kernel_rfl
noncomputable def reg6_9 : Array Oper := match Try.f6.body with | some (.seq _ (.seq _ (.seq _ (.seq _ (.seq _ (.seq _ (.seq _ (.seq (.region _ ops _) _)))))))) => ops | _ => #[]
theorem size6_9 : reg6_9.size = 1 := by kernel_rfl
noncomputable def reg6_10 : Array Oper := match Try.f6.body with | some (.seq _ (.seq _ (.seq _ (.seq _ (.seq _ (.seq _ (.seq _ (.seq _ (.seq (.seq (.region _ ops _) _) _))))))))) => ops | _ => #[]
theorem size6_10 : reg6_10.size = 1 := by kernel_rfl
noncomputable def reg6_11 : Array Oper := match Try.f6.body with | some (.seq _ (.seq _ (.seq _ (.seq _ (.seq _ (.seq _ (.seq _ (.seq _ (.seq (.seq _ (.block _ (.loop (.seq (.seq (.region _ ops _) _) _)))) _))))))))) => ops | _ => #[]
theorem size6_11 : reg6_11.size = 3 := by kernel_rfl
noncomputable def reg6_13 : Array Oper := match Try.f6.body with | some (.seq _ (.seq _ (.seq _ (.seq _ (.seq _ (.seq _ (.seq _ (.seq _ (.seq (.seq _ (.block _ (.loop (.seq _ (.seq (.block _ (.seq (.region _ ops _) _)) _))))) _))))))))) => ops | _ => #[]
theorem size6_13 : reg6_13.size = 10 := by kernel_rfl
noncomputable def reg6_14 : Array Oper := match Try.f6.body with | some (.seq _ (.seq _ (.seq _ (.seq _ (.seq _ (.seq _ (.seq _ (.seq _ (.seq (.seq _ (.block _ (.loop (.seq _ (.seq (.block _ (.seq _ (.seq (.region _ ops _) _))) _))))) _))))))))) => ops | _ => #[]
theorem size6_14 : reg6_14.size = 5 := by kernel_rfl
noncomputable def reg6_15 : Array Oper := match Try.f6.body with | some (.seq _ (.seq _ (.seq _ (.seq _ (.seq _ (.seq _ (.seq _ (.seq _ (.seq (.seq _ (.block _ (.loop (.seq _ (.seq (.block _ (.seq _ (.seq _ (.seq (.region _ ops _) _)))) _))))) _))))))))) => ops | _ => #[]
theorem size6_15 : reg6_15.size = 4 := by kernel_rfl
noncomputable def reg6_16 : Array Oper := match Try.f6.body with | some (.seq _ (.seq _ (.seq _ (.seq _ (.seq _ (.seq _ (.seq _ (.seq _ (.seq (.seq _ (.block _ (.loop (.seq _ (.seq (.block _ (.seq _ (.seq _ (.seq _ (.seq (.region _ ops _) _))))) _))))) _))))))))) => ops | _ => #[]
theorem size6_16 : reg6_16.size = 6 := by kernel_rfl
noncomputable def reg6_17 : Array Oper := match Try.f6.body with | some (.seq _ (.seq _ (.seq _ (.seq _ (.seq _ (.seq _ (.seq _ (.seq _ (.seq (.seq _ (.block _ (.loop (.seq _ (.seq (.block _ (.seq _ (.seq _ (.seq _ (.seq _ (.cond _ (.seq (.region _ ops _) _) _)))))) _))))) _))))))))) => ops | _ => #[]
theorem size6_17 : reg6_17.size = 1 := by kernel_rfl
noncomputable def reg6_12 : Array Oper := match Try.f6.body with | some (.seq _ (.seq _ (.seq _ (.seq _ (.seq _ (.seq _ (.seq _ (.seq _ (.seq (.seq _ (.block _ (.loop (.seq _ (.seq _ (.region _ ops _)))))) _))))))))) => ops | _ => #[]
theorem size6_12 : reg6_12.size = 3 := by kernel_rfl
noncomputable def reg6_18 : Array Oper := match Try.f6.body with | some (.seq _ (.seq _ (.seq _ (.seq _ (.seq _ (.seq _ (.seq _ (.seq _ (.seq _ (.seq (.region _ ops _) _)))))))))) => ops | _ => #[]
theorem size6_18 : reg6_18.size = 1 := by kernel_rfl
noncomputable def reg6_19 : Array Oper := match Try.f6.body with | some (.seq _ (.seq _ (.seq _ (.seq _ (.seq _ (.seq _ (.seq _ (.seq _ (.seq _ (.seq _ (.seq (.seq (.region _ ops _) _) _))))))))))) => ops | _ => #[]
theorem size6_19 : reg6_19.size = 1 := by kernel_rfl
noncomputable def reg6_20 : Array Oper := match Try.f6.body with | some (.seq _ (.seq _ (.seq _ (.seq _ (.seq _ (.seq _ (.seq _ (.seq _ (.seq _ (.seq _ (.seq (.seq _ (.block _ (.loop (.seq (.seq (.region _ ops _) _) _)))) _))))))))))) => ops | _ => #[]
theorem size6_20 : reg6_20.size = 4 := by kernel_rfl
noncomputable def reg6_22 : Array Oper := match Try.f6.body with | some (.seq _ (.seq _ (.seq _ (.seq _ (.seq _ (.seq _ (.seq _ (.seq _ (.seq _ (.seq _ (.seq (.seq _ (.block _ (.loop (.seq _ (.seq (.block _ (.seq (.region _ ops _) _)) _))))) _))))))))))) => ops | _ => #[]
theorem size6_22 : reg6_22.size = 5 := by kernel_rfl
noncomputable def reg6_23 : Array Oper := match Try.f6.body with | some (.seq _ (.seq _ (.seq _ (.seq _ (.seq _ (.seq _ (.seq _ (.seq _ (.seq _ (.seq _ (.seq (.seq _ (.block _ (.loop (.seq _ (.seq (.block _ (.seq _ (.seq (.region _ ops _) _))) _))))) _))))))))))) => ops | _ => #[]
theorem size6_23 : reg6_23.size = 14 := by kernel_rfl
noncomputable def reg6_24 : Array Oper := match Try.f6.body with | some (.seq _ (.seq _ (.seq _ (.seq _ (.seq _ (.seq _ (.seq _ (.seq _ (.seq _ (.seq _ (.seq (.seq _ (.block _ (.loop (.seq _ (.seq (.block _ (.seq _ (.seq _ (.cond _ (.seq (.seq (.region _ ops _) _) _) _)))) _))))) _))))))))))) => ops | _ => #[]
theorem size6_24 : reg6_24.size = 12 := by kernel_rfl
noncomputable def reg6_25 : Array Oper := match Try.f6.body with | some (.seq _ (.seq _ (.seq _ (.seq _ (.seq _ (.seq _ (.seq _ (.seq _ (.seq _ (.seq _ (.seq (.seq _ (.block _ (.loop (.seq _ (.seq (.block _ (.seq _ (.seq _ (.cond _ (.seq (.seq _ (.cond _ (.seq (.region _ ops _) _) _)) _) _)))) _))))) _))))))))))) => ops | _ => #[]
theorem size6_25 : reg6_25.size = 1 := by kernel_rfl
noncomputable def reg6_26 : Array Oper := match Try.f6.body with | some (.seq _ (.seq _ (.seq _ (.seq _ (.seq _ (.seq _ (.seq _ (.seq _ (.seq _ (.seq _ (.seq (.seq _ (.block _ (.loop (.seq _ (.seq (.block _ (.seq _ (.seq _ (.cond _ (.seq _ (.seq (.region _ ops _) _)) _)))) _))))) _))))))))))) => ops | _ => #[]
theorem size6_26 : reg6_26.size = 7 := by kernel_rfl
noncomputable def reg6_27 : Array Oper := match Try.f6.body with | some (.seq _ (.seq _ (.seq _ (.seq _ (.seq _ (.seq _ (.seq _ (.seq _ (.seq _ (.seq _ (.seq (.seq _ (.block _ (.loop (.seq _ (.seq (.block _ (.seq _ (.seq _ (.cond _ (.seq _ (.seq _ (.region _ ops _))) _)))) _))))) _))))))))))) => ops | _ => #[]
theorem size6_27 : reg6_27.size = 3 := by kernel_rfl
noncomputable def reg6_21 : Array Oper := match Try.f6.body with | some (.seq _ (.seq _ (.seq _ (.seq _ (.seq _ (.seq _ (.seq _ (.seq _ (.seq _ (.seq _ (.seq (.seq _ (.block _ (.loop (.seq _ (.seq _ (.region _ ops _)))))) _))))))))))) => ops | _ => #[]
theorem size6_21 : reg6_21.size = 3 := by kernel_rfl
noncomputable def reg6_28 : Array Oper := match Try.f6.body with | some (.seq _ (.seq _ (.seq _ (.seq _ (.seq _ (.seq _ (.seq _ (.seq _ (.seq _ (.seq _ (.seq _ (.seq (.seq (.region _ ops _) _) _)))))))))))) => ops | _ => #[]
theorem size6_28 : reg6_28.size = 1 := by kernel_rfl
noncomputable def reg6_29 : Array Oper := match Try.f6.body with | some (.seq _ (.seq _ (.seq _ (.seq _ (.seq _ (.seq _ (.seq _ (.seq _ (.seq _ (.seq _ (.seq _ (.seq (.seq _ (.block _ (.loop (.seq (.seq (.region _ ops _) _) _)))) _)))))))))))) => ops | _ => #[]
theorem size6_29 : reg6_29.size = 3 := by kernel_rfl
noncomputable def reg6_31 : Array Oper := match Try.f6.body with | some (.seq _ (.seq _ (.seq _ (.seq _ (.seq _ (.seq _ (.seq _ (.seq _ (.seq _ (.seq _ (.seq _ (.seq (.seq _ (.block _ (.loop (.seq _ (.seq (.block _ (.seq (.seq (.region _ ops _) _) _)) _))))) _)))))))))))) => ops | _ => #[]
theorem size6_31 : reg6_31.size = 5 := by kernel_rfl
noncomputable def reg6_32 : Array Oper := match Try.f6.body with | some (.seq _ (.seq _ (.seq _ (.seq _ (.seq _ (.seq _ (.seq _ (.seq _ (.seq _ (.seq _ (.seq _ (.seq (.seq _ (.block _ (.loop (.seq _ (.seq (.block _ (.seq _ (.seq (.seq (.region _ ops _) _) _))) _))))) _)))))))))))) => ops | _ => #[]
theorem size6_32 : reg6_32.size = 12 := by kernel_rfl
noncomputable def reg6_33 : Array Oper := match Try.f6.body with | some (.seq _ (.seq _ (.seq _ (.seq _ (.seq _ (.seq _ (.seq _ (.seq _ (.seq _ (.seq _ (.seq _ (.seq (.seq _ (.block _ (.loop (.seq _ (.seq (.block _ (.seq _ (.seq (.seq _ (.cond _ (.seq (.region _ ops _) _) _)) _))) _))))) _)))))))))))) => ops | _ => #[]
theorem size6_33 : reg6_33.size = 1 := by kernel_rfl
noncomputable def reg6_34 : Array Oper := match Try.f6.body with | some (.seq _ (.seq _ (.seq _ (.seq _ (.seq _ (.seq _ (.seq _ (.seq _ (.seq _ (.seq _ (.seq _ (.seq (.seq _ (.block _ (.loop (.seq _ (.seq (.block _ (.seq _ (.seq _ (.seq (.region _ ops _) _)))) _))))) _)))))))))))) => ops | _ => #[]
theorem size6_34 : reg6_34.size = 7 := by kernel_rfl
noncomputable def reg6_35 : Array Oper := match Try.f6.body with | some (.seq _ (.seq _ (.seq _ (.seq _ (.seq _ (.seq _ (.seq _ (.seq _ (.seq _ (.seq _ (.seq _ (.seq (.seq _ (.block _ (.loop (.seq _ (.seq (.block _ (.seq _ (.seq _ (.seq _ (.region _ ops _))))) _))))) _)))))))))))) => ops | _ => #[]
theorem size6_35 : reg6_35.size = 3 := by kernel_rfl
noncomputable def reg6_30 : Array Oper := match Try.f6.body with | some (.seq _ (.seq _ (.seq _ (.seq _ (.seq _ (.seq _ (.seq _ (.seq _ (.seq _ (.seq _ (.seq _ (.seq (.seq _ (.block _ (.loop (.seq _ (.seq _ (.region _ ops _)))))) _)))))))))))) => ops | _ => #[]
theorem size6_30 : reg6_30.size = 5 := by kernel_rfl
noncomputable def reg6_36 : Array Oper := match Try.f6.body with | some (.seq _ (.seq _ (.seq _ (.seq _ (.seq _ (.seq _ (.seq _ (.seq _ (.seq _ (.seq _ (.seq _ (.seq _ (.seq (.region _ ops _) _))))))))))))) => ops | _ => #[]
theorem size6_36 : reg6_36.size = 5 := by kernel_rfl
theorem code6_is : Try.f6.body = some (.seq (.region 0 reg6_0 false) (.seq (.seq (.region 1 reg6_1 false) (.cond (.tmp 20 ) (.seq (.region 2 reg6_2 false) (.ret)) (.skip))) (.seq (.region 3 reg6_3 false) (.seq (.region 4 reg6_4 false) (.seq (.region 5 reg6_5 false) (.seq (.seq (.region 6 reg6_6 false) (.cond (.tmp 52 ) (.seq (.region 7 reg6_7 false) (.ret)) (.skip))) (.seq (.region 8 reg6_8 false) (.seq (.region 9 reg6_9 false) (.seq (.seq (.region 10 reg6_10 false) (.block 0 (.loop (.seq (.seq (.region 11 reg6_11 false) (.cond (.tmp 57 ) (.skip) (.exit 0))) (.seq (.block 1 (.seq (.region 13 reg6_13 false) (.seq (.region 14 reg6_14 false) (.seq (.region 15 reg6_15 false) (.seq (.region 16 reg6_16 false) (.cond (.tmp 80 ) (.seq (.region 17 reg6_17 false) (.ret)) (.skip))))))) (.region 12 reg6_12 false)))))) (.seq (.region 18 reg6_18 false) (.seq (.seq (.region 19 reg6_19 false) (.block 2 (.loop (.seq (.seq (.region 20 reg6_20 false) (.cond (.tmp 84 ) (.skip) (.exit 2))) (.seq (.block 3 (.seq (.region 22 reg6_22 false) (.seq (.region 23 reg6_23 false) (.cond (.tmp 104 ) (.seq (.seq (.region 24 reg6_24 false) (.cond (.tmp 116 ) (.seq (.region 25 reg6_25 false) (.ret)) (.skip))) (.seq (.region 26 reg6_26 false) (.region 27 reg6_27 false))) (.skip))))) (.region 21 reg6_21 false)))))) (.seq (.seq (.region 28 reg6_28 false) (.block 4 (.loop (.seq (.seq (.region 29 reg6_29 false) (.cond (.tmp 127 ) (.skip) (.exit 4))) (.seq (.block 5 (.seq (.seq (.region 31 reg6_31 false) (.cond (.tmp 136 ) (.exit 5) (.skip))) (.seq (.seq (.region 32 reg6_32 false) (.cond (.tmp 148 ) (.seq (.region 33 reg6_33 false) (.ret)) (.skip))) (.seq (.region 34 reg6_34 false) (.region 35 reg6_35 false))))) (.region 30 reg6_30 false)))))) (.seq (.region 36 reg6_36 false) (.ret)))))))))))))) := by kernel_rfl

noncomputable def at6 (lv sv v5 v6 v7 v8 : Value) (u : Nat → Value) : Frame :=
  (base 6).at { tmps := #[lv, sv, u 2, u 3, .bool false, v5, v6, v7, v8, u 9, u 10, u 11, u 12, u 13, u 14, u 15, u 16, u 17, u 18, u 19, u 20, u 21, u 22, u 23, u 24, u 25, u 26, u 27, u 28, u 29, u 30, u 31, u 32, u 33, u 34, u 35, u 36, u 37, u 38, u 39, u 40, u 41, u 42, u 43, u 44, u 45, u 46, u 47, u 48, u 49, u 50, u 51, u 52, u 53, u 54, u 55, u 56, u 57, u 58, u 59, u 60, u 61, u 62, u 63, u 64, u 65, u 66, u 67, u 68, u 69, u 70, u 71, u 72, u 73, u 74, u 75, u 76, u 77, u 78, u 79, u 80, u 81, u 82, u 83, u 84, u 85, u 86, u 87, u 88, u 89, u 90, u 91, u 92, u 93, u 94, u 95, u 96, u 97, u 98, u 99, u 100, u 101, u 102, u 103, u 104, u 105, u 106, u 107, u 108, u 109, u 110, u 111, u 112, u 113, u 114, u 115, u 116, u 117, u 118, u 119, u 120, u 121, u 122, u 123, u 124, u 125, u 126, u 127, u 128, u 129, u 130, u 131, u 132, u 133, u 134, u 135, u 136, u 137, u 138, u 139, u 140, u 141, u 142, u 143, u 144, u 145, u 146, u 147, u 148, u 149, u 150, u 151, u 152, u 153, u 154, u 155, u 156, u 157, u 158, u 159, u 160], defers := [] } [.code (.seq (.region 5 reg6_5 false) (.seq (.seq (.region 6 reg6_6 false) (.cond (.tmp 52 ) (.seq (.region 7 reg6_7 false) (.ret)) (.skip))) (.seq (.region 8 reg6_8 false) (.seq (.region 9 reg6_9 false) (.seq (.seq (.region 10 reg6_10 false) (.block 0 (.loop (.seq (.seq (.region 11 reg6_11 false) (.cond (.tmp 57 ) (.skip) (.exit 0))) (.seq (.block 1 (.seq (.region 13 reg6_13 false) (.seq (.region 14 reg6_14 false) (.seq (.region 15 reg6_15 false) (.seq (.region 16 reg6_16 false) (.cond (.tmp 80 ) (.seq (.region 17 reg6_17 false) (.ret)) (.skip))))))) (.region 12 reg6_12 false)))))) (.seq (.region 18 reg6_18 false) (.seq (.seq (.region 19 reg6_19 false) (.block 2 (.loop (.seq (.seq (.region 20 reg6_20 false) (.cond (.tmp 84 ) (.skip) (.exit 2))) (.seq (.block 3 (.seq (.region 22 reg6_22 false) (.seq (.region 23 reg6_23 false) (.cond (.tmp 104 ) (.seq (.seq (.region 24 reg6_24 false) (.cond (.tmp 116 ) (.seq (.region 25 reg6_25 false) (.ret)) (.skip))) (.seq (.region 26 reg6_26 false) (.region 27 reg6_27 false))) (.skip))))) (.region 21 reg6_21 false)))))) (.seq (.seq (.region 28 reg6_28 false) (.block 4 (.loop (.seq (.seq (.region 29 reg6_29 false) (.cond (.tmp 127 ) (.skip) (.exit 4))) (.seq (.block 5 (.seq (.seq (.region 31 reg6_31 false) (.cond (.tmp 136 ) (.exit 5) (.skip))) (.seq (.seq (.region 32 reg6_32 false) (.cond (.tmp 148 ) (.seq (.region 33 reg6_33 false) (.ret)) (.skip))) (.seq (.region 34 reg6_34 false) (.region 35 reg6_35 false))))) (.region 30 reg6_30 false)))))) (.seq (.region 36 reg6_36 false) (.ret))))))))))]

/-- What the run of the walks has left. -/
structure One (s : Wlk) (n : Nat) (sl : List Int) (B : Nat) (oa : Option Addr) (oc q : Nat) (arr : Array Value) (la : Option Addr) (cap : Nat) (W w : World) : Prop where
  o1 : w.ownsRow W.heap.size 3 1 (.slice oa (overW s n 1048576 sl).2.length oc) (overW s n 1048576 sl).2.length (numbs (overW s n 1048576 sl).2)
  q1 : w.heap[q]? = some (.cells arr 4 (0, 0))
  a1 : ∀ i, i < n → arr[i]? = some (.bool ((overW s n 1048576 sl).1.out i == some true))
  bd : w.heap[B]? = some (.cells #[.slice la (overW s n 1048576 sl).2.length cap] 49)
  br : w.ownsRow 0 3 1 (.slice la (overW s n 1048576 sl).2.length cap) (overW s n 1048576 sl).2.length (numbs (overW s n 1048576 sl).2)
  old : Old W w
  lq : W.heap.size ≤ q

theorem max_min_big' : min (max (1048576 : Int) 0) 1048576 = 1048576 := by decide
theorem Mde.at' {B : Nat} {st af : Nat → Int} {nl : Nat → Bool} {w0 w : World} {oa : Option Addr} {oc i : Nat} {W : Nat → Nat} (M : Mde B st af nl w0 w oa oc i W) (d : Nat) : Mde B st af nl w0 (w.at d) oa oc i W := ⟨⟨M.old.size, M.old.same⟩, M.row, M.wk, M.inj, M.z⟩

def ints (l : List Int) : List Value := l.map fun z => .int .i64 z
theorem ints_get {l : List Int} {j : Nat} {z : Int} (h : l[j]? = some z) : (ints l)[j]? = some (.int .i64 z) := by
  unfold ints
  rw [List.getElem?_map, h]; rfl

set_option maxHeartbeats 8000000 in
set_option maxRecDepth 100000 in
theorem over_first (la : Option Addr) (N cap : Nat) (st af : Nat → Int) (nl : Nat → Bool) (sa : Option Addr) (sc : Nat) (sl : List Int) (W : World) (hN : N ≤ 8796093022208) (hsl : sl.length ≤ 17592186044416) (hl : WalksAt la N st af nl W) (hnil : sa = none → sl = [] ∧ sc = 0)
    (hs : ∀ (j : Nat) (z : Int), sl[j]? = some z → ∃ s so, sa = some ⟨s, so, none⟩ ∧ W.cell? ⟨s, so + j, none⟩ = some (.int .i64 z)) :
    Runs (fun g w => ∃ B oa oc q arr la2 cap2, One ⟨nl, fun i => st i % 32, af⟩ (min N 64) sl B oa oc q arr la2 cap2 W w ∧
      ∃ u, g = G (at6 (.slice la N cap) (.slice sa sl.length sc) (.pointer (some ⟨B, 0, none⟩)) (.slice oa (overW ⟨nl, fun i => st i % 32, af⟩ (min N 64) 1048576 sl).2.length oc) (.bool (decide (0 < goingW (min N 64) (overW ⟨nl, fun i => st i % 32, af⟩ (min N 64) 1048576 sl).1))) (.slice (some ⟨q, 0, none⟩) (min N 64) (min N 64)) u) [])
      (G (Frame.enter Try.prog 6 #[.slice la N cap, .slice sa sl.length sc] .normal) []) W := by
  refine Runs.go ?_
  rw [enter_at _ Try.func6 code6_is]
  simp only [Try.ntmps6, List.size_toArray, List.length_cons, List.length_nil, Nat.reduceAdd, Nat.reduceSub, Array.replicate_succ, Array.replicate_zero, List.push_toArray, List.append_toArray, List.nil_append, List.cons_append]
  repeat (first | (refine Walk.c rfl ?_) | (refine Walk.cRet ?_) | (refine Walk.cEnd ?_) | (refine Walk.cReg ?_; simp only [size6_0, size6_1, size6_2, size6_3, size6_4, size6_5, size6_6, size6_7, size6_8, size6_9, size6_10, size6_11, size6_13, size6_14, size6_15, size6_16, size6_17, size6_12, size6_18, size6_19, size6_20, size6_22, size6_23, size6_24, size6_25, size6_26, size6_27, size6_21, size6_28, size6_29, size6_31, size6_32, size6_33, size6_34, size6_35, size6_30, size6_36, List.range, List.range.loop]) | (refine Walk.opq (ho_of (by conv => lhs; whnf) (by kernel_rfl)) (by rfl) (by decide) (fun dd e he => ?_) (fun dd K hK => ?_); (· (simp [go_sem, *] at he; try (subst he; exact evR_read _ _))); go_simp; refine hK _ ?_; clear hK K; try walk_nrm) | (refine Walk.ctl rfl (fun w => stepG_unwanted (ho_of (by conv => lhs; whnf) (by kernel_rfl)) (by rfl)) ?_; walk_nrm))
  refine Walk.callE (ho_of (by conv => lhs; whnf) (by kernel_rfl)) (by rfl) (by decide) rfl Try.func13 (by kernel_rfl) (by rfl) ?_
  refine .stop fun d => ?_
  walk_nrm
  refine Runs.then (awake_run _ _ (W.at d)) ?_
  rintro _ w1 ⟨O1, rfl⟩
  have O1 := Old.un d O1
  refine Runs.go ?_
  refine Walk.finish (ho_of (by conv => lhs; whnf) (by kernel_rfl)) ?_
  walk_nrm
  repeat (first | (refine Walk.c rfl ?_) | (refine Walk.cRet ?_) | (refine Walk.cEnd ?_) | (refine Walk.cReg ?_; simp only [size6_0, size6_1, size6_2, size6_3, size6_4, size6_5, size6_6, size6_7, size6_8, size6_9, size6_10, size6_11, size6_13, size6_14, size6_15, size6_16, size6_17, size6_12, size6_18, size6_19, size6_20, size6_22, size6_23, size6_24, size6_25, size6_26, size6_27, size6_21, size6_28, size6_29, size6_31, size6_32, size6_33, size6_34, size6_35, size6_30, size6_36, List.range, List.range.loop]) | (refine Walk.opq (ho_of (by conv => lhs; whnf) (by kernel_rfl)) (by rfl) (by decide) (fun dd e he => ?_) (fun dd K hK => ?_); (· (simp [go_sem, *] at he; try (subst he; exact evR_read _ _))); go_simp; refine hK _ ?_; clear hK K; try walk_nrm) | (refine Walk.ctl rfl (fun w => stepG_unwanted (ho_of (by conv => lhs; whnf) (by kernel_rfl)) (by rfl)) ?_; walk_nrm))
  (co_applyP Walk.opw (ho_of (by conv => lhs; whnf) (by kernel_rfl)) (by rfl) (by decide) ?wev1 ?wdr1 ?wrun1; (case' wrun1 => (intro dd K hK; go_simp; simp only [alloc_at', setCell_at']; refine hK _ ?wmore1; clear hK K)); (case wdr1 => exact fun dd es hes => DR.alloc' dd es hes); (case wev1 => (intro dd e he; simp [go_sem, *] at he)); try walk_nrm)
  have hB := heap_alloc_new w1 (.cells #[.slice none 0 0] 49)
  have O2 := O1.trans (old_alloc w1 (.cells #[.slice none 0 0] 49))
  have gB := O1.size
  clear O1
  generalize w1.heap.size = B at *
  generalize w1.alloc (.cells #[.slice none 0 0] 49) = w2 at *
  repeat (first | (refine Walk.c rfl ?_) | (refine Walk.cRet ?_) | (refine Walk.cEnd ?_) | (refine Walk.cReg ?_; simp only [size6_0, size6_1, size6_2, size6_3, size6_4, size6_5, size6_6, size6_7, size6_8, size6_9, size6_10, size6_11, size6_13, size6_14, size6_15, size6_16, size6_17, size6_12, size6_18, size6_19, size6_20, size6_22, size6_23, size6_24, size6_25, size6_26, size6_27, size6_21, size6_28, size6_29, size6_31, size6_32, size6_33, size6_34, size6_35, size6_30, size6_36, List.range, List.range.loop]) | (refine Walk.opq (ho_of (by conv => lhs; whnf) (by kernel_rfl)) (by rfl) (by decide) (fun dd e he => ?_) (fun dd K hK => ?_); (· (simp [go_sem, *] at he; try (subst he; exact evR_read _ _))); go_simp; refine hK _ ?_; clear hK K; try walk_nrm) | (refine Walk.ctl rfl (fun w => stepG_unwanted (ho_of (by conv => lhs; whnf) (by kernel_rfl)) (by rfl)) ?_; walk_nrm))
  have hl2 := hl.old O2
  refine Walk.callW (Post := fun v w' => ∃ oa oc Wf, v = .slice oa N oc ∧ Mde B st af nl w2 w' oa oc N Wf) ?_ (ho_of (by conv => lhs; whnf) (by kernel_rfl)) (by rfl) (by decide) rfl Try.func24 (by kernel_rfl) (by rfl) ?_
  · walk_nrm
    exact walkers24_w la cap N hN w2 hl2 fun b _ => apart0 b
  rintro v w3 ⟨oaW, ocW, Wf, rfl, M⟩
  walk_nrm
  have lB := (Array.getElem?_eq_some_iff.1 hB).1
  have hB3 := (M.old.same B lB).trans hB
  have O3 := O2.trans M.old
  have lB3 : B < w3.heap.size := Nat.lt_of_lt_of_le lB M.old.size
  clear hl2 hB lB O2
  (co_applyP Walk.opw (ho_of (by conv => lhs; whnf) (by kernel_rfl)) (by rfl) (by decide) ?wev2 ?wdr2 ?wrun2; (case' wrun2 => (intro dd K hK; go_simp; simp only [alloc_at', setCell_at']; refine hK _ ?wmore2; clear hK K)); (case wdr2 => exact fun dd es hes => DR.alloc' dd es hes); (case wev2 => (intro dd e he; simp [go_sem, *] at he)); try walk_nrm)
  have hrow0 := World.ownsRow_lit (e := 3) (size := 1) w3 #[] 0 (Nat.le_refl _) (by decide) rfl
  have hO4 := old_alloc w3 (.cells #[] 3)
  have hM4 := M.grow hO4
  have hs4 : (w3.alloc (.cells #[] 3)).heap.size = w3.heap.size + 1 := by simp
  have hB4 := (hO4.same B lB3).trans hB3
  have hO4W := O3.trans hO4
  have lW3 : ∀ j, j < N → nl j = false → Wf j < w3.heap.size := fun j hj hn => (Array.getElem?_eq_some_iff.1 (M.wk j hj hn).1).1
  clear hB3
  generalize hw4 : w3.alloc (.cells #[] 3) = w4 at *
  repeat (first | (refine Walk.opq (ho_of (by conv => lhs; whnf) (by kernel_rfl)) (by rfl) (by decide) (fun dd e he => ?_) (fun dd K hK => ?_); (· (simp [go_sem, *] at he; try (subst he; exact evR_read _ _))); go_simp; refine hK _ ?_; clear hK K; try walk_nrm) | (refine Walk.ctl rfl (fun w => stepG_unwanted (ho_of (by conv => lhs; whnf) (by kernel_rfl)) (by rfl)) ?_; walk_nrm))
  have hi3 := Option.some_get (show (Try.prog.info? 3).isSome = true by kernel_rfl)
  refine Walk.appendSl (.tmp 27) (.tmp 28) 24 (ho_of (by conv => lhs; whnf) (by kernel_rfl)) (by rfl) (by decide) rfl w3.heap.size 3 _ (.int .i64 0) 1 8 (by kernel_rfl) hi3.symm (by rfl) (by rfl) (by rfl) (by rfl) (by decide) (.slice (some ⟨w3.heap.size, 0, none⟩) 0 0) 0 [] rfl hrow0 sa sl.length sc (ints sl) rfl (fun e => ⟨by rw [(hnil e).1]; rfl, (hnil e).2⟩) (by simp [ints]) (fun ad e j u hu => ?_) (by simp [ints, Value.oneCell']) (by simp [maxLen]; omega) (by omega) (by omega) (fun g _ => apart0 g) (fun v' w5 hown hg hat => ?_)
  · unfold ints at hu
    rw [List.getElem?_map] at hu
    obtain ⟨z, hz, rfl⟩ := Option.map_eq_some_iff.1 hu
    obtain ⟨s, so, e', hc⟩ := hs j z hz
    rw [e] at e'
    cases e'
    rw [add_none]
    exact old_cell hO4W hc
  clear hi3
  rw [Nat.zero_add, List.nil_append] at hown
  obtain ⟨ca, cc, rfl⟩ := row_shape hown
  have hk5 : ∀ b, b < w3.heap.size → w5.heap[b]? = w4.heap[b]? := fun b hb => hg.block b (by omega) (by simp [Value.ownBlock]; omega)
  have hO5 : Old w3 w5 := ⟨by have := hg.size; omega, fun b hb => (hk5 b hb).trans (hO4.same b hb)⟩
  have hM5 := M.grow hO5
  have hB5 := (hO5.same B lB3).trans ((hO4.same B lB3).symm.trans hB4)
  have hO5W := O3.trans hO5
  clear hM4 hB4 hrow0 hO4 hO4W hg hat hk5
  walk_nrm
  repeat (first | (refine Walk.opq (ho_of (by conv => lhs; whnf) (by kernel_rfl)) (by rfl) (by decide) (fun dd e he => ?_) (fun dd K hK => ?_); (· (simp [go_sem, *] at he; try (subst he; exact evR_read _ _))); go_simp; refine hK _ ?_; clear hK K; try walk_nrm) | (refine Walk.ctl rfl (fun w => stepG_unwanted (ho_of (by conv => lhs; whnf) (by kernel_rfl)) (by rfl)) ?_; walk_nrm))
  refine Walk.callE (ho_of (by conv => lhs; whnf) (by kernel_rfl)) (by rfl) (by decide) rfl Try.func23 (by kernel_rfl) (by rfl) ?_
  refine .stop fun d5 => ?_
  walk_nrm
  refine Runs.then (over_walkers (hM5.at' d5) hB5 ca cc sl 1048576 hsl (fun j z hz => by
    obtain ⟨g, cap, e, _, hg1, _, hc⟩ := row_cell hown (ints_get hz)
    injection e with e _ _
    exact ⟨g, 0, e, by omega, fun i hi hni e' => by have := lW3 i hi hni; omega, by rw [Nat.zero_add]; exact hc⟩) _ []) ?_
  rintro _ w6 ⟨_, ⟨⟨oa, oc, q, la2, cap2, arr, rfl, r1, b1, br1, h1, a1, g1⟩, z6, k6⟩, rfl⟩
  rw [max_min_big'] at r1 a1 b1 br1
  have hT : One ⟨nl, fun i => st i % 32, af⟩ (min N 64) sl B oa oc q arr la2 cap2 W w6 := by
    have h5 : W.heap.size ≤ w5.heap.size := hO5W.size
    have z6 : w5.heap.size ≤ w6.heap.size := z6
    have g1 : w5.heap.size ≤ q := g1
    refine ⟨row_mono r1 h5, h1, a1, b1, br1, ⟨by omega, fun b hb => ?_⟩, by omega⟩
    exact (k6 b (Nat.lt_of_lt_of_le hb h5) (by omega)).trans (hO5W.same b hb)
  clear r1 a1 b1 br1 h1 z6 k6 hM5 hB5 hown hO5 hO5W M O3
  rw [max_min_big']
  refine Runs.go ?_
  refine Walk.finish (ho_of (by conv => lhs; whnf) (by kernel_rfl)) ?_
  walk_nrm
  generalize hF : overW ⟨nl, fun i => st i % 32, af⟩ (min N 64) 1048576 sl = F at *
  generalize hstk : decide (0 < goingW (min N 64) F.1) = stk at *
  repeat (first | (refine Walk.opq (ho_of (by conv => lhs; whnf) (by kernel_rfl)) (by rfl) (by decide) (fun dd e he => ?_) (fun dd K hK => ?_); (· (simp [go_sem, *] at he; try (subst he; exact evR_read _ _))); go_simp; refine hK _ ?_; clear hK K; try walk_nrm) | (refine Walk.ctl rfl (fun w => stepG_unwanted (ho_of (by conv => lhs; whnf) (by kernel_rfl)) (by rfl)) ?_; walk_nrm))
  refine Walk.ctl rfl (fun w => stepG_region_end) ?_
  refine .stop fun d7 => ?_
  refine Runs.now ⟨B, oa, oc, q, arr, la2, cap2, ?_, at_slots ?_⟩
  · exact ⟨hT.o1, hT.q1, hT.a1, hT.bd, hT.br, ⟨hT.old.size, hT.old.same⟩, hT.lq⟩
  · simp only [at6]
    rfl
end Go.Proofs.Ytgiiicdpbdfemaa
end

/- Walkers by a schedule, told apart from all memory: what each has done, and that the order can be followed greedily. -/
section
namespace Go.Proofs.Ytgiiicdpbdfemaa
open Go.ConcN (sumTo sumTo_le upd sumTo_upd upd_ne upd_same)

/-- How many steps a walk does in the end; whether it breaks. -/
def dW (s : Wlk) (i : Nat) : Nat := if s.nl i then 0 else (numW (s.st i) (s.af i)).toNat
def bW (s : Wlk) (i : Nat) : Bool := !s.nl i && badW (s.st i) (s.af i)

/-- Each is on its way, or has ended as it should. -/
def PF (s : Wlk) (n : Nat) (st : WX × List Nat) : Prop := ∀ i, i < n → (st.1.out i = none ∧ st.1.dn i < dW s i) ∨ (st.1.out i = some (bW s i) ∧ st.1.dn i = dW s i)

theorem set_fine {s : Wlk} {x : WX} {i : Nat} (hs : 0 ≤ s.st i) (h : x.dn i ≤ dW s i) : ((setW s x i).out i = none ∧ x.dn i < dW s i) ∨ ((setW s x i).out i = some (bW s i) ∧ x.dn i = dW s i) := by
  have e : (setW s x i).out i = if s.nl i then some false else if (x.dn i : Int) < numW (s.st i) (s.af i) then none else some (badW (s.st i) (s.af i)) := upd_same _ _ _
  have hn := numW_nonneg (after := s.af i) hs
  rw [e]
  unfold dW bW at *
  cases hnl : s.nl i with
  | true =>
    rw [hnl] at h
    right
    exact ⟨rfl, by simpa using h⟩
  | false =>
    rw [hnl] at h
    simp only [Bool.false_eq_true, if_false] at h ⊢
    by_cases hl : (x.dn i : Int) < numW (s.st i) (s.af i)
    · left
      rw [if_pos hl]
      exact ⟨rfl, by omega⟩
    · right
      rw [if_neg hl]
      exact ⟨by simp, by omega⟩

theorem pf_born {s : Wlk} (hs : ∀ i, 0 ≤ s.st i) (n : Nat) (m : Int) : PF s n (bornsA (absW s n m) n 0 wx0, []) := by
  obtain ⟨h1, _, h3⟩ := borns_at s n m n 0 wx0
  intro i hi
  show ((bornsA (absW s n m) n 0 wx0).out i = none ∧ (bornsA (absW s n m) n 0 wx0).dn i < _) ∨ ((bornsA (absW s n m) n 0 wx0).out i = _ ∧ (bornsA (absW s n m) n 0 wx0).dn i = _)
  rw [(h3 i).1 (by omega), h1]
  exact set_fine (hs i) (Nat.zero_le _)

theorem pf_step {s : Wlk} {n : Nat} {m : Int} (hs : ∀ i, 0 ≤ s.st i) (st : WX × List Nat) (i : Nat) (P : PF s n st) (hi : i < n) (ho : st.1.out i = none) : PF s n ((absW s n m).next st.1 i, st.2 ++ [i]) := by
  have hd : st.1.dn i < dW s i := by
    rcases P i hi with ⟨_, h⟩ | ⟨h, _⟩
    · exact h
    · rw [ho] at h; cases h
  intro j hj
  by_cases e : j = i
  · subst e
    have := set_fine (s := s) (x := doneW st.1 j) (i := j) (hs j) (by show upd st.1.dn j (st.1.dn j + 1) j ≤ _; rw [upd_same]; omega)
    exact this
  · show (upd st.1.out i _ j = none ∧ upd st.1.dn i (st.1.dn i + 1) j < _) ∨ (upd st.1.out i _ j = _ ∧ upd st.1.dn i (st.1.dn i + 1) j = _)
    rw [upd_ne _ _ e, upd_ne _ _ e]
    exact P j hj

theorem sumTo_lt_iff {f g : Nat → Nat} : ∀ {n : Nat}, (∀ i, i < n → f i ≤ g i) → (sumTo n f ≤ sumTo n g ∧ (sumTo n f < sumTo n g ↔ ∃ i, i < n ∧ f i < g i))
  | 0, _ => ⟨Nat.le_refl _, ⟨fun h => absurd h (Nat.lt_irrefl _), fun ⟨i, h, _⟩ => absurd h (Nat.not_lt_zero _)⟩⟩
  | n + 1, h => by
    obtain ⟨h1, h2⟩ := sumTo_lt_iff (f := f) (g := g) (n := n) fun i hi => h i (by omega)
    have hn := h n (Nat.lt_succ_self n)
    rw [sumTo, sumTo]
    refine ⟨by omega, fun hl => ?_, fun ⟨i, hi, hl⟩ => ?_⟩
    · by_cases e : f n < g n
      · exact ⟨n, Nat.lt_succ_self n, e⟩
      · obtain ⟨i, hi, hl⟩ := h2.1 (by omega)
        exact ⟨i, by omega, hl⟩
    · by_cases e : i = n
      · subst e; omega
      · have := h2.2 ⟨i, by omega, hl⟩
        omega

/-- A state of a run whose end is F. -/
structure Chk (s : Wlk) (n : Nat) (F st : WX × List Nat) : Prop where
  pw : PW s n st
  pf : PF s n st
  pre : Stps (absW s n 1048576) st F

def allW (s : Wlk) (n : Nat) : Nat := sumTo n (dW s)

section
variable {s : Wlk} {n : Nat} {F st : WX × List Nat}

theorem Chk.le (P : Chk s n F st) : ∀ i, i < n → st.1.dn i ≤ dW s i := fun i hi => by
  rcases P.pf i hi with ⟨_, h⟩ | ⟨_, h⟩ <;> omega
theorem Chk.out (P : Chk s n F st) {i : Nat} (hi : i < n) : st.1.out i = none ↔ st.1.dn i < dW s i := by
  rcases P.pf i hi with ⟨h1, h2⟩ | ⟨h1, h2⟩
  · exact ⟨fun _ => h2, fun _ => h1⟩
  · exact ⟨fun h => (by rw [h1] at h; cases h), fun h => absurd h (by omega)⟩
theorem Chk.going (P : Chk s n F st) : 0 < goingW n st.1 ↔ st.2.length < allW s n := by
  have hs := (sumTo_lt_iff P.le).2
  have hl : st.2.length = sumTo n st.1.dn := P.pw.len
  unfold allW
  rw [hl]
  constructor
  · intro h
    obtain ⟨i, hi, ho⟩ := List.countP_pos_iff.1 h
    have hi : i < n := List.mem_range.1 hi
    exact hs.2 ⟨i, hi, (P.out hi).1 (by simpa using ho)⟩
  · intro h
    obtain ⟨i, hi, hd⟩ := hs.1 h
    exact List.countP_pos_iff.2 ⟨i, List.mem_range.2 hi, by rw [(P.out hi).2 hd]; rfl⟩
theorem Chk.short (P : Chk s n F st) (hn : n ≤ 64) : st.2.length ≤ 1984 := P.pw.short hn
theorem Chk.at_most (P : Chk s n F st) : st.2.length ≤ allW s n := by
  have hl : st.2.length = sumTo n st.1.dn := P.pw.len
  rw [hl]
  exact (sumTo_lt_iff P.le).1
theorem Chk.over (P : Chk s n F st) (hn : n ≤ 64) : overA (absW s n 1048576) st = true ↔ st.2.length = allW s n := by
  have hg := P.going
  have hs := P.short hn
  have ha := P.at_most
  unfold overA
  simp only [Bool.or_eq_true, decide_eq_true_eq]
  constructor
  · rintro (h | h)
    · have h : goingW n st.1 = 0 := h
      omega
    · have h : (1048576 : Int) ≤ st.2.length := h
      omega
  · intro h
    left
    show goingW n st.1 = 0
    omega

/-- A number that may do a step. -/
theorem Chk.yes (P : Chk s n F st) (hn : n ≤ 64) {i : Nat} (hi : i < n) (hd : st.1.dn i < dW s i) : stepA (absW s n 1048576) st (i : Nat) = (nextW s st.1 i, st.2 ++ [i]) := by
  have ho := (P.out hi).2 hd
  have hov : overA (absW s n 1048576) st = false := by
    cases h : overA (absW s n 1048576) st with
    | false => rfl
    | true =>
      have h1 := (P.over hn).1 h
      have h2 := P.going.1 (List.countP_pos_iff.2 ⟨i, List.mem_range.2 hi, by rw [ho]; rfl⟩)
      omega
  unfold stepA
  rw [if_pos ⟨hov, by omega, by show (i : Int) < n; omega, by show st.1.out (i : Int).toNat = none; rw [Int.toNat_natCast]; exact ho⟩]
  simp
  rfl
/-- .. and one that may not. -/
theorem Chk.no (P : Chk s n F st) {z : Int} (h : ¬ (0 ≤ z ∧ z < n ∧ st.1.dn z.toNat < dW s z.toNat)) : stepA (absW s n 1048576) st z = st := by
  unfold stepA
  rw [if_neg]
  rintro ⟨_, h1, h2, h3⟩
  have h2 : z < n := h2
  exact h ⟨h1, h2, (P.out (by omega)).1 h3⟩
/-- What stands next in the order. -/
theorem Chk.next {i : Nat} (P : Chk s n F (nextW s st.1 i, st.2 ++ [i])) : F.2[st.2.length]? = some i := by
  obtain ⟨l, h, _, _⟩ := P.pre.pre
  rw [h]
  simp

variable (hst : ∀ i, s.st i < 32) (hs0 : ∀ i, 0 ≤ s.st i)
include hst hs0
/-- Along the schedule. -/
theorem chk_fold (sl : List Int) : ∀ (a b : List Int), sl = a ++ b → Chk s n (overW s n 1048576 sl) (a.foldl (stepA (absW s n 1048576)) (bornsA (absW s n 1048576) n 0 wx0, [])) := fun a b e => by
  have h1 := fold_stps (absW s n 1048576) a (bornsA (absW s n 1048576) n 0 wx0, [])
  refine ⟨h1.keep (P := PW s n) (fun st i P hi ho => pw_step hst st i P hi ho) (pw_born s n _), h1.keep (P := PF s n) (fun st i P hi ho => pf_step hs0 st i P hi ho) (pf_born hs0 n _), ?_⟩
  show Stps _ _ (restA _ _ (sl.foldl _ _))
  rw [e, List.foldl_append]
  exact (fold_stps _ b _).trans (rest_stps _ _ _)

/-- In a round, ahead of number x; f: how many rounds there may be behind it. -/
structure Mid (s : Wlk) (n : Nat) (F st : WX × List Nat) (x f : Nat) : Prop where
  pw : PW s n st
  pf : PF s n st
  fin : F = restA (absW s n 1048576) f ((List.range' x (n - x)).foldl (fun st i => stepA (absW s n 1048576) st (i : Nat)) st)
  fuel : 1048576 ≤ ((List.range' x (n - x)).foldl (fun st i => stepA (absW s n 1048576) st (i : Nat)) st).2.length + f
omit hst hs0 in
theorem Mid.chk {x f : Nat} (M : Mid s n F st x f) : Chk s n F st := ⟨M.pw, M.pf, by rw [M.fin]; exact (foldn_stps _ _ _).trans (rest_stps _ _ _)⟩
theorem Mid.step {x f : Nat} (M : Mid s n F st x f) (hx : x < n) : Mid s n F (stepA (absW s n 1048576) st (x : Nat)) (x + 1) f := by
  have h1 := step_stps (absW s n 1048576) st (x : Nat)
  have e : List.range' x (n - x) = x :: List.range' (x + 1) (n - (x + 1)) := by
    obtain ⟨r, hr⟩ : ∃ r, n - x = r + 1 := ⟨n - x - 1, by omega⟩
    rw [hr, List.range'_succ]
    congr 2
    omega
  refine ⟨h1.keep (P := PW s n) (fun st i P hi ho => pw_step hst st i P hi ho) M.pw, h1.keep (P := PF s n) (fun st i P hi ho => pf_step hs0 st i P hi ho) M.pf, ?_, ?_⟩
  · have := M.fin
    rw [e, List.foldl_cons] at this
    exact this
  · have := M.fuel
    rw [e, List.foldl_cons] at this
    exact this
omit hst hs0 in
/-- Behind a round's last number the next round begins, or all is done. -/
theorem Mid.turn {f : Nat} (hn : n ≤ 64) (M : Mid s n F st n f) (h : st.2.length < allW s n) : ∃ f', f = f' + 1 ∧ Mid s n F st 0 f' := by
  have h1 := M.fin
  have h2 := M.fuel
  rw [Nat.sub_self] at h1 h2
  have h1 : F = restA (absW s n 1048576) f st := h1
  have h2 : 1048576 ≤ st.2.length + f := h2
  have hsh := M.chk.short hn
  obtain ⟨f', rfl⟩ : ∃ f', f = f' + 1 := ⟨f - 1, by omega⟩
  have hov : overA (absW s n 1048576) st = false := by
    cases h' : overA (absW s n 1048576) st with
    | false => rfl
    | true => have := (M.chk.over hn).1 h'; omega
  have e : (List.range' 0 (n - 0)).foldl (fun st i => stepA (absW s n 1048576) st (i : Nat)) st = roundA (absW s n 1048576) st := by
    unfold roundA
    rw [Nat.sub_zero, ← List.range_eq_range']
    rfl
  refine ⟨f', rfl, M.pw, M.pf, ?_, ?_⟩
  · rw [e, h1]
    exact rest_on _ hov
  · rw [e]
    have := roundA_one (absW s n 1048576) hov
    omega
omit hst hs0 in
theorem Mid.done {x f : Nat} (hn : n ≤ 64) (M : Mid s n F st x f) (h : ¬ st.2.length < allW s n) : F = st := by
  have ha := M.chk.at_most
  have hov := (M.chk.over hn).2 (by omega)
  have e : ∀ l : List Nat, l.foldl (fun st i => stepA (absW s n 1048576) st (i : Nat)) st = st := fun l => by
    induction l with
    | nil => rfl
    | cons z l ih =>
      rw [List.foldl_cons]
      have : stepA (absW s n 1048576) st (z : Nat) = st := by
        unfold stepA
        rw [if_neg]
        rintro ⟨h', _⟩
        rw [hov] at h'; cases h'
      rw [this]; exact ih
  rw [M.fin, e]
  cases f with
  | zero => rfl
  | succ f => exact rest_off _ hov
/-- Behind the schedule. -/
theorem mid_first (hn : n ≤ 64) (sl : List Int) (h : (sl.foldl (stepA (absW s n 1048576)) (bornsA (absW s n 1048576) n 0 wx0, [])).2.length < allW s n) : ∃ f, Mid s n (overW s n 1048576 sl) (sl.foldl (stepA (absW s n 1048576)) (bornsA (absW s n 1048576) n 0 wx0, [])) 0 f := by
  have P := chk_fold (n := n) hst hs0 sl sl [] (by simp)
  have M : Mid s n (overW s n 1048576 sl) (sl.foldl (stepA (absW s n 1048576)) (bornsA (absW s n 1048576) n 0 wx0, [])) n 1048576 := by
    refine ⟨P.pw, P.pf, ?_, ?_⟩
    · rw [Nat.sub_self]; rfl
    · rw [Nat.sub_self]
      show 1048576 ≤ _ + 1048576
      omega
  obtain ⟨f', _, M'⟩ := M.turn hn h
  exact ⟨f', M'⟩
omit hst hs0 in
theorem chk_done (hn : n ≤ 64) {sl : List Int} (P : Chk s n (overW s n 1048576 sl) (sl.foldl (stepA (absW s n 1048576)) (bornsA (absW s n 1048576) n 0 wx0, []))) (h : ¬ (sl.foldl (stepA (absW s n 1048576)) (bornsA (absW s n 1048576) n 0 wx0, [])).2.length < allW s n) : overW s n 1048576 sl = sl.foldl (stepA (absW s n 1048576)) (bornsA (absW s n 1048576) n 0 wx0, []) := by
  have ha := P.at_most
  have hov := (P.over hn).2 (by omega)
  show restA _ _ (sl.foldl _ _) = _
  exact rest_off (f := 1048575) _ hov
end
end Go.Proofs.Ytgiiicdpbdfemaa
end

/- The statement's side: TurnOver, its first loop. -/
section
namespace Go.Proofs.Ytgiiicdpbdfemaa
open Go.Conc Go.RowKit Go.Relay
open Go.ConcN (upd upd_ne upd_same)

noncomputable def hd6a (lv sv v5 v6 : Value) (q n Lb : Nat) (al i : Nat) (u : Nat → Value) : Frame :=
  (base 6).at { tmps := #[lv, sv, u 2, u 3, .bool false, v5, v6, .bool false, .slice (some ⟨q, 0, none⟩) n n, .int .i64 n, .slice (some ⟨Lb, 0, none⟩) n n, .int .i64 al, .int .i64 i, u 13, u 14, u 15, u 16, u 17, u 18, u 19, u 20, u 21, u 22, u 23, u 24, u 25, u 26, u 27, u 28, u 29, u 30, u 31, u 32, u 33, u 34, u 35, u 36, u 37, u 38, u 39, u 40, u 41, u 42, u 43, u 44, u 45, u 46, u 47, u 48, u 49, u 50, u 51, u 52, u 53, u 54, u 55, u 56, u 57, u 58, u 59, u 60, u 61, u 62, u 63, u 64, u 65, u 66, u 67, u 68, u 69, u 70, u 71, u 72, u 73, u 74, u 75, u 76, u 77, u 78, u 79, u 80, u 81, u 82, u 83, u 84, u 85, u 86, u 87, u 88, u 89, u 90, u 91, u 92, u 93, u 94, u 95, u 96, u 97, u 98, u 99, u 100, u 101, u 102, u 103, u 104, u 105, u 106, u 107, u 108, u 109, u 110, u 111, u 112, u 113, u 114, u 115, u 116, u 117, u 118, u 119, u 120, u 121, u 122, u 123, u 124, u 125, u 126, u 127, u 128, u 129, u 130, u 131, u 132, u 133, u 134, u 135, u 136, u 137, u 138, u 139, u 140, u 141, u 142, u 143, u 144, u 145, u 146, u 147, u 148, u 149, u 150, u 151, u 152, u 153, u 154, u 155, u 156, u 157, u 158, u 159, u 160], defers := [] } [.code (.seq (.seq (.region 11 reg6_11 false) (.cond (.tmp 57 ) (.skip) (.exit 0))) (.seq (.block 1 (.seq (.region 13 reg6_13 false) (.seq (.region 14 reg6_14 false) (.seq (.region 15 reg6_15 false) (.seq (.region 16 reg6_16 false) (.cond (.tmp 80 ) (.seq (.region 17 reg6_17 false) (.ret)) (.skip))))))) (.region 12 reg6_12 false))), .inLoop (.seq (.seq (.region 11 reg6_11 false) (.cond (.tmp 57 ) (.skip) (.exit 0))) (.seq (.block 1 (.seq (.region 13 reg6_13 false) (.seq (.region 14 reg6_14 false) (.seq (.region 15 reg6_15 false) (.seq (.region 16 reg6_16 false) (.cond (.tmp 80 ) (.seq (.region 17 reg6_17 false) (.ret)) (.skip))))))) (.region 12 reg6_12 false))), .inBlock 0, .code (.seq (.region 18 reg6_18 false) (.seq (.seq (.region 19 reg6_19 false) (.block 2 (.loop (.seq (.seq (.region 20 reg6_20 false) (.cond (.tmp 84 ) (.skip) (.exit 2))) (.seq (.block 3 (.seq (.region 22 reg6_22 false) (.seq (.region 23 reg6_23 false) (.cond (.tmp 104 ) (.seq (.seq (.region 24 reg6_24 false) (.cond (.tmp 116 ) (.seq (.region 25 reg6_25 false) (.ret)) (.skip))) (.seq (.region 26 reg6_26 false) (.region 27 reg6_27 false))) (.skip))))) (.region 21 reg6_21 false)))))) (.seq (.seq (.region 28 reg6_28 false) (.block 4 (.loop (.seq (.seq (.region 29 reg6_29 false) (.cond (.tmp 127 ) (.skip) (.exit 4))) (.seq (.block 5 (.seq (.seq (.region 31 reg6_31 false) (.cond (.tmp 136 ) (.exit 5) (.skip))) (.seq (.seq (.region 32 reg6_32 false) (.cond (.tmp 148 ) (.seq (.region 33 reg6_33 false) (.ret)) (.skip))) (.seq (.region 34 reg6_34 false) (.region 35 reg6_35 false))))) (.region 30 reg6_30 false)))))) (.seq (.region 36 reg6_36 false) (.ret)))))]

set_option maxHeartbeats 8000000 in
set_option maxRecDepth 100000 in
theorem over_mid (la : Option Addr) (N cap : Nat) (sv : Value) (B : Nat) (oa : Option Addr) (L oc q n : Nat) (lb : Option Addr) (cap2 : Nat) (u : Nat → Value) (w : World) (hmin : min (N : Int) 64 = (n : Nat)) (hn : n ≤ 64)
    (s1 : CallV Try.prog true (fun _ => none) 25 #[.slice oa L oc, .slice lb L cap2] w (.bool true) w) (hb : w.cell? ⟨B, 0, none⟩ = some (.slice lb L cap2)) :
    Walk Try.prog true (DR (fun _ => none)) (fun g w' => (∃ u', g = G (hd6a (.slice la N cap) sv (.pointer (some ⟨B, 0, none⟩)) (.slice oa L oc) q n w.heap.size 0 0 u') []) ∧ ∃ d, w' = (w.alloc (.cells (madeCells #[.int .i64 0] n) 3)).at d)
      (G (at6 (.slice la N cap) sv (.pointer (some ⟨B, 0, none⟩)) (.slice oa L oc) (.bool false) (.slice (some ⟨q, 0, none⟩) n n) u) []) w := by
  have hmn := @events_min_ints Try.prog
  unfold at6
  refine Walk.c rfl ?_
  refine Walk.cReg ?_
  simp only [size6_5, List.range, List.range.loop]
  repeat (first | (refine Walk.opq (ho_of (by conv => lhs; whnf) (by kernel_rfl)) (by rfl) (by decide) (fun dd e he => ?_) (fun dd K hK => ?_); (· (simp [go_sem, *] at he; try (subst he; exact evR_read _ _))); go_simp; refine hK _ ?_; clear hK K; try walk_nrm) | (refine Walk.ctl rfl (fun w => stepG_unwanted (ho_of (by conv => lhs; whnf) (by kernel_rfl)) (by rfl)) ?_; walk_nrm))
  refine Walk.ctl rfl (fun w => stepG_region_end) ?_
  clear hmn hmin
  refine Walk.c rfl ?_
  refine Walk.c rfl ?_
  refine Walk.cReg ?_
  simp only [size6_6, List.range, List.range.loop]
  repeat (first | (refine Walk.opq (ho_of (by conv => lhs; whnf) (by kernel_rfl)) (by rfl) (by decide) (fun dd e he => ?_) (fun dd K hK => ?_); (· (simp [go_sem, *] at he; try (subst he; exact evR_read _ _))); go_simp; refine hK _ ?_; clear hK K; try walk_nrm) | (refine Walk.ctl rfl (fun w => stepG_unwanted (ho_of (by conv => lhs; whnf) (by kernel_rfl)) (by rfl)) ?_; walk_nrm))
  refine Walk.callV (x := .bool true) (W := w) ?_ (ho_of (by conv => lhs; whnf) (by kernel_rfl)) (by rfl) (by decide) rfl Try.func25 (by kernel_rfl) (by rfl) ?_
  · walk_nrm
    exact s1
  walk_nrm
  clear s1
  repeat (first | (refine Walk.c rfl ?_) | (refine Walk.cRet ?_) | (refine Walk.cEnd ?_) | (refine Walk.cReg ?_; simp only [size6_0, size6_1, size6_2, size6_3, size6_4, size6_5, size6_6, size6_7, size6_8, size6_9, size6_10, size6_11, size6_13, size6_14, size6_15, size6_16, size6_17, size6_12, size6_18, size6_19, size6_20, size6_22, size6_23, size6_24, size6_25, size6_26, size6_27, size6_21, size6_28, size6_29, size6_31, size6_32, size6_33, size6_34, size6_35, size6_30, size6_36, List.range, List.range.loop]) | (refine Walk.opq (ho_of (by conv => lhs; whnf) (by kernel_rfl)) (by rfl) (by decide) (fun dd e he => ?_) (fun dd K hK => ?_); (· (simp [go_sem, *] at he; try (subst he; exact evR_read _ _))); go_simp; refine hK _ ?_; clear hK K; try walk_nrm) | (refine Walk.ctl rfl (fun w => stepG_unwanted (ho_of (by conv => lhs; whnf) (by kernel_rfl)) (by rfl)) ?_; walk_nrm))
  have hi3 := Option.some_get (show (Try.prog.info? 3).isSome = true by kernel_rfl)
  refine Walk.make 24 (.tmp 53) (.tmp 53) (ho_of (by conv => lhs; whnf) (by kernel_rfl)) (by rfl) (by decide) rfl 3 _ (.int .i64 0) 1 8 (by kernel_rfl) hi3.symm (by rfl) (by rfl) (by rfl) n (by rfl) (by rfl) (by omega) (by omega) ?_
  clear hi3
  walk_nrm
  simp only [Value.cells, Nat.mul_one]
  repeat (first | (refine Walk.c rfl ?_) | (refine Walk.cRet ?_) | (refine Walk.cEnd ?_) | (refine Walk.cReg ?_; simp only [size6_0, size6_1, size6_2, size6_3, size6_4, size6_5, size6_6, size6_7, size6_8, size6_9, size6_10, size6_11, size6_13, size6_14, size6_15, size6_16, size6_17, size6_12, size6_18, size6_19, size6_20, size6_22, size6_23, size6_24, size6_25, size6_26, size6_27, size6_21, size6_28, size6_29, size6_31, size6_32, size6_33, size6_34, size6_35, size6_30, size6_36, List.range, List.range.loop]) | (refine Walk.opq (ho_of (by conv => lhs; whnf) (by kernel_rfl)) (by rfl) (by decide) (fun dd e he => ?_) (fun dd K hK => ?_); (· (simp [go_sem, *] at he; try (subst he; exact evR_read _ _))); go_simp; refine hK _ ?_; clear hK K; try walk_nrm) | (refine Walk.ctl rfl (fun w => stepG_unwanted (ho_of (by conv => lhs; whnf) (by kernel_rfl)) (by rfl)) ?_; walk_nrm))
  refine Walk.ctl rfl (fun w => stepG_loop) ?_
  refine .stop fun d => ⟨at_slots ?_, d, rfl⟩
  simp only [hd6a]
  rfl

set_option maxHeartbeats 8000000 in
set_option maxRecDepth 100000 in
theorem does_nil (st af : Int) (w : World) : CallW Try.prog true (fun _ => none) 26 #[.agg #[.int .i64 st, .int .i64 af, .bool true]] w (fun v w' => v = .tuple #[.int .i64 0, .bool false] ∧ ∃ d, w' = (w.alloc (.cells #[.int .i64 st, .int .i64 af, .bool true] 58)).at d) := by
  refine callW_in Try.func26 code26_is fun fr cs => ?_
  simp only [Try.ntmps26, List.size_toArray, List.length_cons, List.length_nil, Nat.reduceAdd, Nat.reduceSub, Array.replicate_succ, Array.replicate_zero, List.push_toArray, List.append_toArray, List.nil_append, List.cons_append]
  repeat (first | (refine Walk.c rfl ?_) | (refine Walk.cRet ?_) | (refine Walk.cEnd ?_) | (refine Walk.cReg ?_; simp only [size26_0, size26_1, size26_2, size26_3, size26_4, size26_5, size26_6, List.range, List.range.loop]) | (refine Walk.opq (ho_of (by conv => lhs; whnf) (by kernel_rfl)) (by rfl) (by decide) (fun dd e he => ?_) (fun dd K hK => ?_); (· (simp [go_sem, *] at he; try (subst he; exact evR_read _ _))); go_simp; refine hK _ ?_; clear hK K; try walk_nrm) | (refine Walk.ctl rfl (fun w => stepG_unwanted (ho_of (by conv => lhs; whnf) (by kernel_rfl)) (by rfl)) ?_; walk_nrm))
  (co_applyP Walk.opw (ho_of (by conv => lhs; whnf) (by kernel_rfl)) (by rfl) (by decide) ?wev1 ?wdr1 ?wrun1; (case' wrun1 => (intro dd K hK; go_simp; simp only [alloc_at', setCell_at']; refine hK _ ?wmore1; clear hK K)); (case wdr1 => exact fun dd es hes => DR.alloc' dd es hes); (case wev1 => (intro dd e he; simp [go_sem, *] at he)); try walk_nrm)
  have hb := heap_alloc_new w (.cells #[.int .i64 st, .int .i64 af, .bool true] 58)
  have c0 : (w.alloc (.cells #[.int .i64 st, .int .i64 af, .bool true] 58)).cell? ⟨w.heap.size, 0, none⟩ = some (.int .i64 st) := (cell_of hb 0).trans rfl
  have c1 : (w.alloc (.cells #[.int .i64 st, .int .i64 af, .bool true] 58)).cell? ⟨w.heap.size, 1, none⟩ = some (.int .i64 af) := (cell_of hb 1).trans rfl
  have c2 : (w.alloc (.cells #[.int .i64 st, .int .i64 af, .bool true] 58)).cell? ⟨w.heap.size, 2, none⟩ = some (.bool true) := (cell_of hb 2).trans rfl
  clear hb
  generalize w.heap.size = X at *
  generalize w.alloc (.cells #[.int .i64 st, .int .i64 af, .bool true] 58) = w1 at *
  have hbk := bits_and31 st
  generalize st % 32 = k at *
  repeat (first | (refine Walk.c rfl ?_) | (refine Walk.cRet ?_) | (refine Walk.cEnd ?_) | (refine Walk.cReg ?_; simp only [size26_0, size26_1, size26_2, size26_3, size26_4, size26_5, size26_6, List.range, List.range.loop]) | (refine Walk.opq (ho_of (by conv => lhs; whnf) (by kernel_rfl)) (by rfl) (by decide) (fun dd e he => ?_) (fun dd K hK => ?_); (· (simp [go_sem, *] at he; try (subst he; exact evR_read _ _))); go_simp; refine hK _ ?_; clear hK K; try walk_nrm) | (refine Walk.ctl rfl (fun w => stepG_unwanted (ho_of (by conv => lhs; whnf) (by kernel_rfl)) (by rfl)) ?_; walk_nrm))
  refine Walk.ctl rfl (fun w => stepG_leave rfl rfl Try.func26 (results_tmp2 rfl _ _ w) (events_results_tmp2 rfl _ _)) (.stop fun d => ⟨_, ⟨?_, d, rfl⟩, rfl⟩)
  simp

theorem does_any (s : Wlk) (i : Nat) (st af : Int) (nl : Bool) (h1 : s.st i = st % 32) (h2 : s.af i = af) (h3 : s.nl i = nl) (w : World) : CallW Try.prog true (fun _ => none) 26 #[.agg #[.int .i64 st, .int .i64 af, .bool nl]] w (fun v w' => v = .tuple #[.int .i64 (dW s i : Nat), .bool (bW s i)] ∧ ∃ d, w' = (w.alloc (.cells #[.int .i64 st, .int .i64 af, .bool nl] 58)).at d) := by
  unfold dW bW
  rw [h3]
  cases nl with
  | true => exact does_nil st af w
  | false =>
    have := does_w (main := true) (V := fun _ => none) st af w
    have hn := numW_nonneg (steps := st % 32) (after := af) (Int.emod_nonneg _ (by decide))
    rw [h1, h2]
    have e : ((if false = true then 0 else (numW (st % 32) af).toNat : Nat) : Int) = numW (st % 32) af := by
      rw [if_neg (by simp)]; omega
    rw [e]
    exact this

set_option maxHeartbeats 8000000 in
set_option maxRecDepth 100000 in
theorem l1_go (L lo N cap : Nat) (sv v5 v6 : Value) (q n Lb al i : Nat) (st af : Int) (nl : Bool) (k : Nat) (bb : Bool) (y : Value) (u : Nat → Value) (w : World) (hi : i < n) (hiN : i < N) (hn : n ≤ 64) (hal : al ≤ 1984) (hk : k ≤ 31)
    (c0 : w.cell? ⟨L, lo + i * 3, none⟩ = some (.int .i64 st)) (c1 : w.cell? ⟨L, lo + i * 3 + 1, none⟩ = some (.int .i64 af)) (c2 : w.cell? ⟨L, lo + i * 3 + 2, none⟩ = some (.bool nl))
    (hd : CallW Try.prog true (fun _ => none) 26 #[.agg #[.int .i64 st, .int .i64 af, .bool nl]] w (fun v w' => v = .tuple #[.int .i64 (k : Nat), .bool bb] ∧ ∃ d, w' = (w.alloc (.cells #[.int .i64 st, .int .i64 af, .bool nl] 58)).at d))
    (hy : w.cell? ⟨Lb, i, none⟩ = some y) (hz : w.frozen? ⟨Lb, i, none⟩ = false) (hq : w.cell? ⟨q, i, none⟩ = some (.bool bb)) (hqL : q ≠ Lb) :
    Walk Try.prog true (DR (fun _ => none)) (fun g w' => (∃ u', g = G (hd6a (.slice (some ⟨L, lo, none⟩) N cap) sv v5 v6 q n Lb (al + k) (i + 1) u') []) ∧ ∃ d, w' = ((w.alloc (.cells #[.int .i64 st, .int .i64 af, .bool nl] 58)).setCell ⟨Lb, i, none⟩ (.int .i64 (k : Nat))).at d)
      (G (hd6a (.slice (some ⟨L, lo, none⟩) N cap) sv v5 v6 q n Lb al i u) []) w := by
  have hw1 : IntKind.wrap .i64 ((i : Int) + 1) = (i : Int) + 1 := by rw [IntKind.wrap_i64]; omega
  have hw2 : IntKind.wrap .i64 ((al : Int) + k) = (al : Int) + k := by rw [IntKind.wrap_i64]; omega
  have qb := run_neq_bool 4 und4
  have qe := ev_neq_bool 4 und4
  conv => arg 5; unfold hd6a
  repeat (first | (refine Walk.c rfl ?_) | (refine Walk.cRet ?_) | (refine Walk.cEnd ?_) | (refine Walk.cReg ?_; simp only [size6_0, size6_1, size6_2, size6_3, size6_4, size6_5, size6_6, size6_7, size6_8, size6_9, size6_10, size6_11, size6_13, size6_14, size6_15, size6_16, size6_17, size6_12, size6_18, size6_19, size6_20, size6_22, size6_23, size6_24, size6_25, size6_26, size6_27, size6_21, size6_28, size6_29, size6_31, size6_32, size6_33, size6_34, size6_35, size6_30, size6_36, List.range, List.range.loop]) | (refine Walk.opq (ho_of (by conv => lhs; whnf) (by kernel_rfl)) (by rfl) (by decide) (fun dd e he => ?_) (fun dd K hK => ?_); (· (simp [go_sem, *] at he; try (subst he; exact evR_read _ _))); go_simp; refine hK _ ?_; clear hK K; try walk_nrm) | (refine Walk.ctl rfl (fun w => stepG_unwanted (ho_of (by conv => lhs; whnf) (by kernel_rfl)) (by rfl)) ?_; walk_nrm))
  obtain ⟨fs, hu58⟩ : ∃ fs, Try.prog.underlying 58 = some (.struct fs) := by
    have h : (Try.prog.underlying 58).any (fun | .struct _ => true | _ => false) = true := by kernel_rfl
    cases e : Try.prog.underlying 58 with
    | none => rw [e] at h; cases h
    | some x => rw [e] at h; cases x <;> first | exact ⟨_, rfl⟩ | cases h
  have hcx : ∀ (j : Nat) (v : Value), [(.int .i64 st : Value), .int .i64 af, .bool nl][j]? = some v → w.cell? ⟨L, lo + i * 3 + j, none⟩ = some v := fun j v hv => by
    match j, hv with
    | 0, hv => simp at hv; subst hv; exact c0
    | 1, hv => simp at hv; subst hv; exact c1
    | 2, hv => simp at hv; subst hv; exact c2
    | j + 3, hv => simp at hv
  refine Walk.loadS 58 (.tmp 63) (ho_of (by conv => lhs; whnf) (by kernel_rfl)) (by rfl) (by decide) rfl L (lo + i * 3) [.int .i64 st, .int .i64 af, .bool nl] _ rfl hcx hu58 rfl (by kernel_rfl) ?_
  clear hcx hu58 c0 c1 c2
  walk_nrm
  refine Walk.callW (Post := fun v w' => v = .tuple #[.int .i64 (k : Nat), .bool bb] ∧ ∃ d, w' = (w.alloc (.cells #[.int .i64 st, .int .i64 af, .bool nl] 58)).at d) ?_ (ho_of (by conv => lhs; whnf) (by kernel_rfl)) (by rfl) (by decide) rfl Try.func26 (by kernel_rfl) (by rfl) ?_
  · walk_nrm
    exact hd
  rintro v w5' ⟨rfl, d5, rfl⟩
  refine Walk.back ?_ d5
  clear hd
  have hy' := cell_alloc w (.cells #[.int .i64 st, .int .i64 af, .bool nl] 58) hy
  have hz' := frozen_alloc w (.cells #[.int .i64 st, .int .i64 af, .bool nl] 58) hy hz
  have hq' := cell_alloc w (.cells #[.int .i64 st, .int .i64 af, .bool nl] 58) hq
  clear hy hz hq
  generalize w.alloc (.cells #[.int .i64 st, .int .i64 af, .bool nl] 58) = w1 at *
  have hf : Free (fun _ => none) ⟨Lb, i, none⟩ := (apart0 Lb).1 _ rfl
  walk_nrm
  repeat (first | (refine Walk.c rfl ?_) | (refine Walk.cRet ?_) | (refine Walk.cEnd ?_) | (refine Walk.cReg ?_; simp only [size6_0, size6_1, size6_2, size6_3, size6_4, size6_5, size6_6, size6_7, size6_8, size6_9, size6_10, size6_11, size6_13, size6_14, size6_15, size6_16, size6_17, size6_12, size6_18, size6_19, size6_20, size6_22, size6_23, size6_24, size6_25, size6_26, size6_27, size6_21, size6_28, size6_29, size6_31, size6_32, size6_33, size6_34, size6_35, size6_30, size6_36, List.range, List.range.loop]) | (refine Walk.opq (ho_of (by conv => lhs; whnf) (by kernel_rfl)) (by rfl) (by decide) (fun dd e he => ?_) (fun dd K hK => ?_); (· (simp [go_sem, *] at he; try (subst he; exact evR_read _ _))); go_simp; refine hK _ ?_; clear hK K; try walk_nrm) | (refine Walk.ctl rfl (fun w => stepG_unwanted (ho_of (by conv => lhs; whnf) (by kernel_rfl)) (by rfl)) ?_; walk_nrm))
  (co_applyP Walk.opw (ho_of (by conv => lhs; whnf) (by kernel_rfl)) (by rfl) (by decide) ?wev2 ?wdr2 ?wrun2; (case' wrun2 => (intro dd K hK; go_simp; simp only [alloc_at', setCell_at']; refine hK _ ?wmore2; clear hK K)); (case wdr2 => exact fun dd es hes => DR.set' hf hy' dd es hes); (case wev2 => (intro dd e he; simp [go_sem, storedEv, ev_store_bool, ev_store_int, ev_store_slice, ev_store_pointer, *] at he; subst he; exact evR_write _ _ hf)); try walk_nrm)
  have hq2 : (w1.setCell ⟨Lb, i, none⟩ (.int .i64 (k : Nat))).cell? ⟨q, i, none⟩ = some (.bool bb) := (World.cell?_of_block (a := ⟨q, i, none⟩) (heap_set_other _ _ _ _ hqL)).trans hq'
  clear hq' hy' hz' hf
  generalize w1.setCell ⟨Lb, i, none⟩ (.int .i64 (k : Nat)) = w2 at *
  repeat (first | (refine Walk.c rfl ?_) | (refine Walk.cRet ?_) | (refine Walk.cEnd ?_) | (refine Walk.cReg ?_; simp only [size6_0, size6_1, size6_2, size6_3, size6_4, size6_5, size6_6, size6_7, size6_8, size6_9, size6_10, size6_11, size6_13, size6_14, size6_15, size6_16, size6_17, size6_12, size6_18, size6_19, size6_20, size6_22, size6_23, size6_24, size6_25, size6_26, size6_27, size6_21, size6_28, size6_29, size6_31, size6_32, size6_33, size6_34, size6_35, size6_30, size6_36, List.range, List.range.loop]) | (refine Walk.opq (ho_of (by conv => lhs; whnf) (by kernel_rfl)) (by rfl) (by decide) (fun dd e he => ?_) (fun dd K hK => ?_); (· (simp [go_sem, *] at he; try (subst he; exact evR_read _ _))); go_simp; refine hK _ ?_; clear hK K; try walk_nrm) | (refine Walk.ctl rfl (fun w => stepG_unwanted (ho_of (by conv => lhs; whnf) (by kernel_rfl)) (by rfl)) ?_; walk_nrm))
  refine Walk.ctl rfl (fun w => stepG_inLoop) ?_
  refine .stop fun d' => ⟨at_slots ?_, d', rfl⟩
  have hc : ((i + 1 : Nat) : Int) = (i : Int) + 1 := by simp
  have hc2 : ((al + k : Nat) : Int) = (al : Int) + k := by simp
  simp only [hd6a, hc, hc2]
  rfl
end Go.Proofs.Ytgiiicdpbdfemaa
end

/- The statement's side: TurnOver, its loop along the schedule. -/
section
namespace Go.Proofs.Ytgiiicdpbdfemaa
open Go.Conc Go.RowKit Go.Relay
open Go.ConcN (upd upd_ne upd_same)

noncomputable def hd6b (lv sv v5 v6 v8 : Value) (n Lb al at_ j : Nat) (u : Nat → Value) : Frame :=
  (base 6).at { tmps := #[lv, sv, u 2, u 3, .bool false, v5, v6, .bool false, v8, .int .i64 n, .slice (some ⟨Lb, 0, none⟩) n n, .int .i64 al, u 12, u 13, u 14, .int .i64 at_, .int .i64 j, u 17, u 18, u 19, u 20, u 21, u 22, u 23, u 24, u 25, u 26, u 27, u 28, u 29, u 30, u 31, u 32, u 33, u 34, u 35, u 36, u 37, u 38, u 39, u 40, u 41, u 42, u 43, u 44, u 45, u 46, u 47, u 48, u 49, u 50, u 51, u 52, u 53, u 54, u 55, u 56, u 57, u 58, u 59, u 60, u 61, u 62, u 63, u 64, u 65, u 66, u 67, u 68, u 69, u 70, u 71, u 72, u 73, u 74, u 75, u 76, u 77, u 78, u 79, u 80, u 81, u 82, u 83, u 84, u 85, u 86, u 87, u 88, u 89, u 90, u 91, u 92, u 93, u 94, u 95, u 96, u 97, u 98, u 99, u 100, u 101, u 102, u 103, u 104, u 105, u 106, u 107, u 108, u 109, u 110, u 111, u 112, u 113, u 114, u 115, u 116, u 117, u 118, u 119, u 120, u 121, u 122, u 123, u 124, u 125, u 126, u 127, u 128, u 129, u 130, u 131, u 132, u 133, u 134, u 135, u 136, u 137, u 138, u 139, u 140, u 141, u 142, u 143, u 144, u 145, u 146, u 147, u 148, u 149, u 150, u 151, u 152, u 153, u 154, u 155, u 156, u 157, u 158, u 159, u 160], defers := [] } [.code (.seq (.seq (.region 20 reg6_20 false) (.cond (.tmp 84 ) (.skip) (.exit 2))) (.seq (.block 3 (.seq (.region 22 reg6_22 false) (.seq (.region 23 reg6_23 false) (.cond (.tmp 104 ) (.seq (.seq (.region 24 reg6_24 false) (.cond (.tmp 116 ) (.seq (.region 25 reg6_25 false) (.ret)) (.skip))) (.seq (.region 26 reg6_26 false) (.region 27 reg6_27 false))) (.skip))))) (.region 21 reg6_21 false))), .inLoop (.seq (.seq (.region 20 reg6_20 false) (.cond (.tmp 84 ) (.skip) (.exit 2))) (.seq (.block 3 (.seq (.region 22 reg6_22 false) (.seq (.region 23 reg6_23 false) (.cond (.tmp 104 ) (.seq (.seq (.region 24 reg6_24 false) (.cond (.tmp 116 ) (.seq (.region 25 reg6_25 false) (.ret)) (.skip))) (.seq (.region 26 reg6_26 false) (.region 27 reg6_27 false))) (.skip))))) (.region 21 reg6_21 false))), .inBlock 2, .code (.seq (.seq (.region 28 reg6_28 false) (.block 4 (.loop (.seq (.seq (.region 29 reg6_29 false) (.cond (.tmp 127 ) (.skip) (.exit 4))) (.seq (.block 5 (.seq (.seq (.region 31 reg6_31 false) (.cond (.tmp 136 ) (.exit 5) (.skip))) (.seq (.seq (.region 32 reg6_32 false) (.cond (.tmp 148 ) (.seq (.region 33 reg6_33 false) (.ret)) (.skip))) (.seq (.region 34 reg6_34 false) (.region 35 reg6_35 false))))) (.region 30 reg6_30 false)))))) (.seq (.region 36 reg6_36 false) (.ret)))]

set_option maxHeartbeats 8000000 in
set_option maxRecDepth 100000 in
theorem l1_out (lv sv v5 v6 : Value) (q n Lb al : Nat) (u : Nat → Value) (w : World) :
    Walk Try.prog true (DR (fun _ => none)) (fun g w' => (∃ u', g = G (hd6b lv sv v5 v6 (.slice (some ⟨q, 0, none⟩) n n) n Lb al 0 0 u') []) ∧ ∃ d, w' = w.at d) (G (hd6a lv sv v5 v6 q n Lb al n u) []) w := by
  unfold hd6a
  repeat (first | (refine Walk.c rfl ?_) | (refine Walk.cRet ?_) | (refine Walk.cEnd ?_) | (refine Walk.cReg ?_; simp only [size6_0, size6_1, size6_2, size6_3, size6_4, size6_5, size6_6, size6_7, size6_8, size6_9, size6_10, size6_11, size6_13, size6_14, size6_15, size6_16, size6_17, size6_12, size6_18, size6_19, size6_20, size6_22, size6_23, size6_24, size6_25, size6_26, size6_27, size6_21, size6_28, size6_29, size6_31, size6_32, size6_33, size6_34, size6_35, size6_30, size6_36, List.range, List.range.loop]) | (refine Walk.opq (ho_of (by conv => lhs; whnf) (by kernel_rfl)) (by rfl) (by decide) (fun dd e he => ?_) (fun dd K hK => ?_); (· (simp [go_sem, *] at he; try (subst he; exact evR_read _ _))); go_simp; refine hK _ ?_; clear hK K; try walk_nrm) | (refine Walk.ctl rfl (fun w => stepG_unwanted (ho_of (by conv => lhs; whnf) (by kernel_rfl)) (by rfl)) ?_; walk_nrm))
  refine Walk.ctl rfl (fun w => stepG_loop) ?_
  refine .stop fun d => ⟨at_slots ?_, d, rfl⟩
  simp only [hd6b]
  rfl


set_option maxHeartbeats 8000000 in
set_option maxRecDepth 100000 in
theorem l2_neg (lv v5 v6 v8 : Value) (s so m sc n Lb al at_ j : Nat) (z : Int) (u : Nat → Value) (w : World) (hj : j < m) (hm : m ≤ 17592186044416) (hs : w.cell? ⟨s, so + j, none⟩ = some (.int .i64 z)) (hz : z < 0) :
    Walk Try.prog true (DR (fun _ => none)) (fun g w' => (∃ u', g = G (hd6b lv (.slice (some ⟨s, so, none⟩) m sc) v5 v6 v8 n Lb al at_ (j + 1) u') []) ∧ ∃ d, w' = w.at d) (G (hd6b lv (.slice (some ⟨s, so, none⟩) m sc) v5 v6 v8 n Lb al at_ j u) []) w := by
  have hw1 : IntKind.wrap .i64 ((j : Int) + 1) = (j : Int) + 1 := by rw [IntKind.wrap_i64]; omega
  have d0 : decide (z ≥ 0) = false := decide_eq_false (by omega)
  have d1 : decide (0 ≤ z) = false := decide_eq_false (by omega)
  conv => arg 5; unfold hd6b
  repeat (first | (refine Walk.c rfl ?_) | (refine Walk.cRet ?_) | (refine Walk.cEnd ?_) | (refine Walk.cReg ?_; simp only [size6_0, size6_1, size6_2, size6_3, size6_4, size6_5, size6_6, size6_7, size6_8, size6_9, size6_10, size6_11, size6_13, size6_14, size6_15, size6_16, size6_17, size6_12, size6_18, size6_19, size6_20, size6_22, size6_23, size6_24, size6_25, size6_26, size6_27, size6_21, size6_28, size6_29, size6_31, size6_32, size6_33, size6_34, size6_35, size6_30, size6_36, List.range, List.range.loop]) | (refine Walk.opq (ho_of (by conv => lhs; whnf) (by kernel_rfl)) (by rfl) (by decide) (fun dd e he => ?_) (fun dd K hK => ?_); (· (simp [go_sem, *] at he; try (subst he; exact evR_read _ _))); go_simp; refine hK _ ?_; clear hK K; try walk_nrm) | (refine Walk.ctl rfl (fun w => stepG_unwanted (ho_of (by conv => lhs; whnf) (by kernel_rfl)) (by rfl)) ?_; walk_nrm))
  refine Walk.ctl rfl (fun w => stepG_inLoop) ?_
  refine .stop fun d' => ⟨at_slots ?_, d', rfl⟩
  have hc : ((j + 1 : Nat) : Int) = (j : Int) + 1 := by simp
  simp only [hd6b, hc]
  rfl

set_option maxHeartbeats 8000000 in
set_option maxRecDepth 100000 in
theorem l2_big (lv v5 v6 v8 : Value) (s so m sc n Lb al at_ j : Nat) (z : Int) (u : Nat → Value) (w : World) (hj : j < m) (hm : m ≤ 17592186044416) (hs : w.cell? ⟨s, so + j, none⟩ = some (.int .i64 z)) (h0 : 0 ≤ z) (hz : (n : Int) ≤ z) :
    Walk Try.prog true (DR (fun _ => none)) (fun g w' => (∃ u', g = G (hd6b lv (.slice (some ⟨s, so, none⟩) m sc) v5 v6 v8 n Lb al at_ (j + 1) u') []) ∧ ∃ d, w' = w.at d) (G (hd6b lv (.slice (some ⟨s, so, none⟩) m sc) v5 v6 v8 n Lb al at_ j u) []) w := by
  have hw1 : IntKind.wrap .i64 ((j : Int) + 1) = (j : Int) + 1 := by rw [IntKind.wrap_i64]; omega
  have d0 : decide (z ≥ 0) = true := decide_eq_true h0
  have d1 : decide (0 ≤ z) = true := decide_eq_true h0
  have d2 : decide (z < n) = false := decide_eq_false (by omega)
  conv => arg 5; unfold hd6b
  repeat (first | (refine Walk.c rfl ?_) | (refine Walk.cRet ?_) | (refine Walk.cEnd ?_) | (refine Walk.cReg ?_; simp only [size6_0, size6_1, size6_2, size6_3, size6_4, size6_5, size6_6, size6_7, size6_8, size6_9, size6_10, size6_11, size6_13, size6_14, size6_15, size6_16, size6_17, size6_12, size6_18, size6_19, size6_20, size6_22, size6_23, size6_24, size6_25, size6_26, size6_27, size6_21, size6_28, size6_29, size6_31, size6_32, size6_33, size6_34, size6_35, size6_30, size6_36, List.range, List.range.loop]) | (refine Walk.opq (ho_of (by conv => lhs; whnf) (by kernel_rfl)) (by rfl) (by decide) (fun dd e he => ?_) (fun dd K hK => ?_); (· (simp [go_sem, *] at he; try (subst he; exact evR_read _ _))); go_simp; refine hK _ ?_; clear hK K; try walk_nrm) | (refine Walk.ctl rfl (fun w => stepG_unwanted (ho_of (by conv => lhs; whnf) (by kernel_rfl)) (by rfl)) ?_; walk_nrm))
  refine Walk.ctl rfl (fun w => stepG_inLoop) ?_
  refine .stop fun d' => ⟨at_slots ?_, d', rfl⟩
  have hc : ((j + 1 : Nat) : Int) = (j : Int) + 1 := by simp
  simp only [hd6b, hc]
  rfl

set_option maxHeartbeats 8000000 in
set_option maxRecDepth 100000 in
theorem l2_zero (lv v5 v6 v8 : Value) (s so m sc n Lb al at_ j x : Nat) (u : Nat → Value) (w : World) (hj : j < m) (hm : m ≤ 17592186044416) (hs : w.cell? ⟨s, so + j, none⟩ = some (.int .i64 (x : Nat))) (hx : x < n) (hl : w.cell? ⟨Lb, x, none⟩ = some (.int .i64 0)) :
    Walk Try.prog true (DR (fun _ => none)) (fun g w' => (∃ u', g = G (hd6b lv (.slice (some ⟨s, so, none⟩) m sc) v5 v6 v8 n Lb al at_ (j + 1) u') []) ∧ ∃ d, w' = w.at d) (G (hd6b lv (.slice (some ⟨s, so, none⟩) m sc) v5 v6 v8 n Lb al at_ j u) []) w := by
  have hw1 : IntKind.wrap .i64 ((j : Int) + 1) = (j : Int) + 1 := by rw [IntKind.wrap_i64]; omega
  have d1 : decide (0 ≤ (x : Int)) = true := decide_eq_true (by omega)
  have d2 : decide ((x : Int) < n) = true := decide_eq_true (by omega)
  conv => arg 5; unfold hd6b
  repeat (first | (refine Walk.c rfl ?_) | (refine Walk.cRet ?_) | (refine Walk.cEnd ?_) | (refine Walk.cReg ?_; simp only [size6_0, size6_1, size6_2, size6_3, size6_4, size6_5, size6_6, size6_7, size6_8, size6_9, size6_10, size6_11, size6_13, size6_14, size6_15, size6_16, size6_17, size6_12, size6_18, size6_19, size6_20, size6_22, size6_23, size6_24, size6_25, size6_26, size6_27, size6_21, size6_28, size6_29, size6_31, size6_32, size6_33, size6_34, size6_35, size6_30, size6_36, List.range, List.range.loop]) | (refine Walk.opq (ho_of (by conv => lhs; whnf) (by kernel_rfl)) (by rfl) (by decide) (fun dd e he => ?_) (fun dd K hK => ?_); (· (simp [go_sem, *] at he; try (subst he; exact evR_read _ _))); go_simp; refine hK _ ?_; clear hK K; try walk_nrm) | (refine Walk.ctl rfl (fun w => stepG_unwanted (ho_of (by conv => lhs; whnf) (by kernel_rfl)) (by rfl)) ?_; walk_nrm))
  refine Walk.ctl rfl (fun w => stepG_inLoop) ?_
  refine .stop fun d' => ⟨at_slots ?_, d', rfl⟩
  have hc : ((j + 1 : Nat) : Int) = (j : Int) + 1 := by simp
  simp only [hd6b, hc]
  rfl


set_option maxHeartbeats 8000000 in
set_option maxRecDepth 100000 in
theorem l2_yes (lv v5 v8 : Value) (s so m sc ob L oc n Lb al at_ j x k : Nat) (u : Nat → Value) (w : World) (hj : j < m) (hm : m ≤ 17592186044416) (hs : w.cell? ⟨s, so + j, none⟩ = some (.int .i64 (x : Nat))) (hx : x < n) (hl : w.cell? ⟨Lb, x, none⟩ = some (.int .i64 ((k : Int) + 1))) (hz : w.frozen? ⟨Lb, x, none⟩ = false) (hk : k ≤ 31)
    (ha : at_ < L) (hL : L ≤ 1984) (ho : w.cell? ⟨ob, at_, none⟩ = some (.int .i64 (x : Nat))) :
    Walk Try.prog true (DR (fun _ => none)) (fun g w' => (∃ u', g = G (hd6b lv (.slice (some ⟨s, so, none⟩) m sc) v5 (.slice (some ⟨ob, 0, none⟩) L oc) v8 n Lb al (at_ + 1) (j + 1) u') []) ∧ ∃ d, w' = (w.setCell ⟨Lb, x, none⟩ (.int .i64 (k : Nat))).at d) (G (hd6b lv (.slice (some ⟨s, so, none⟩) m sc) v5 (.slice (some ⟨ob, 0, none⟩) L oc) v8 n Lb al at_ j u) []) w := by
  have hw1 : IntKind.wrap .i64 ((j : Int) + 1) = (j : Int) + 1 := by rw [IntKind.wrap_i64]; omega
  have hw2 : IntKind.wrap .i64 ((at_ : Int) + 1) = (at_ : Int) + 1 := by rw [IntKind.wrap_i64]; omega
  have hw3 : IntKind.wrap .i64 ((k : Int) + 1 - 1) = (k : Int) := by rw [IntKind.wrap_i64]; omega
  have hw4 : IntKind.wrap .i64 (k : Int) = (k : Int) := by rw [IntKind.wrap_i64]; omega
  have d1 : decide (0 ≤ (x : Int)) = true := decide_eq_true (by omega)
  have d2 : decide ((x : Int) < n) = true := decide_eq_true (by omega)
  have d3 : decide (0 < (k : Int) + 1) = true := decide_eq_true (by omega)
  have d4 : decide ((L : Int) ≤ at_) = false := decide_eq_false (by omega)
  have d5 : decide (L ≤ at_) = false := decide_eq_false (by omega)
  have hf : Free (fun _ => none) ⟨Lb, x, none⟩ := (apart0 Lb).1 _ rfl
  conv => arg 5; unfold hd6b
  repeat (first | (refine Walk.c rfl ?_) | (refine Walk.cRet ?_) | (refine Walk.cEnd ?_) | (refine Walk.cReg ?_; simp only [size6_0, size6_1, size6_2, size6_3, size6_4, size6_5, size6_6, size6_7, size6_8, size6_9, size6_10, size6_11, size6_13, size6_14, size6_15, size6_16, size6_17, size6_12, size6_18, size6_19, size6_20, size6_22, size6_23, size6_24, size6_25, size6_26, size6_27, size6_21, size6_28, size6_29, size6_31, size6_32, size6_33, size6_34, size6_35, size6_30, size6_36, List.range, List.range.loop]) | (refine Walk.opq (ho_of (by conv => lhs; whnf) (by kernel_rfl)) (by rfl) (by decide) (fun dd e he => ?_) (fun dd K hK => ?_); (· (simp [go_sem, *] at he; try (subst he; exact evR_read _ _))); go_simp; refine hK _ ?_; clear hK K; try walk_nrm) | (refine Walk.ctl rfl (fun w => stepG_unwanted (ho_of (by conv => lhs; whnf) (by kernel_rfl)) (by rfl)) ?_; walk_nrm))
  (co_applyP Walk.opw (ho_of (by conv => lhs; whnf) (by kernel_rfl)) (by rfl) (by decide) ?wev1 ?wdr1 ?wrun1; (case' wrun1 => (intro dd K hK; go_simp; simp only [alloc_at', setCell_at']; refine hK _ ?wmore1; clear hK K)); (case wdr1 => exact fun dd es hes => DR.set' hf hl dd es hes); (case wev1 => (intro dd e he; simp [go_sem, storedEv, ev_store_bool, ev_store_int, ev_store_slice, ev_store_pointer, *] at he; subst he; exact evR_write _ _ hf)); try walk_nrm)
  clear hl hs ho hz
  generalize w.setCell ⟨Lb, x, none⟩ (.int .i64 (k : Nat)) = w2 at *
  repeat (first | (refine Walk.c rfl ?_) | (refine Walk.cRet ?_) | (refine Walk.cEnd ?_) | (refine Walk.cReg ?_; simp only [size6_0, size6_1, size6_2, size6_3, size6_4, size6_5, size6_6, size6_7, size6_8, size6_9, size6_10, size6_11, size6_13, size6_14, size6_15, size6_16, size6_17, size6_12, size6_18, size6_19, size6_20, size6_22, size6_23, size6_24, size6_25, size6_26, size6_27, size6_21, size6_28, size6_29, size6_31, size6_32, size6_33, size6_34, size6_35, size6_30, size6_36, List.range, List.range.loop]) | (refine Walk.opq (ho_of (by conv => lhs; whnf) (by kernel_rfl)) (by rfl) (by decide) (fun dd e he => ?_) (fun dd K hK => ?_); (· (simp [go_sem, *] at he; try (subst he; exact evR_read _ _))); go_simp; refine hK _ ?_; clear hK K; try walk_nrm) | (refine Walk.ctl rfl (fun w => stepG_unwanted (ho_of (by conv => lhs; whnf) (by kernel_rfl)) (by rfl)) ?_; walk_nrm))
  refine Walk.ctl rfl (fun w => stepG_inLoop) ?_
  refine .stop fun d' => ⟨at_slots ?_, d', rfl⟩
  have hc : ((j + 1 : Nat) : Int) = (j : Int) + 1 := by simp
  have hc2 : ((at_ + 1 : Nat) : Int) = (at_ : Int) + 1 := by simp
  simp only [hd6b, hc, hc2]
  rfl
end Go.Proofs.Ytgiiicdpbdfemaa
end

/- The statement's side: TurnOver, its last loop. -/
section
namespace Go.Proofs.Ytgiiicdpbdfemaa
open Go.Conc Go.RowKit Go.Relay
open Go.ConcN (upd upd_ne upd_same)

noncomputable def hd6c (lv sv v5 v6 v8 : Value) (n Lb al at_ x : Nat) (u : Nat → Value) : Frame :=
  (base 6).at { tmps := #[lv, sv, u 2, u 3, .bool false, v5, v6, .bool false, v8, .int .i64 n, .slice (some ⟨Lb, 0, none⟩) n n, .int .i64 al, u 12, u 13, u 14, .int .i64 at_, u 16, u 17, .int .i64 x, u 19, u 20, u 21, u 22, u 23, u 24, u 25, u 26, u 27, u 28, u 29, u 30, u 31, u 32, u 33, u 34, u 35, u 36, u 37, u 38, u 39, u 40, u 41, u 42, u 43, u 44, u 45, u 46, u 47, u 48, u 49, u 50, u 51, u 52, u 53, u 54, u 55, u 56, u 57, u 58, u 59, u 60, u 61, u 62, u 63, u 64, u 65, u 66, u 67, u 68, u 69, u 70, u 71, u 72, u 73, u 74, u 75, u 76, u 77, u 78, u 79, u 80, u 81, u 82, u 83, u 84, u 85, u 86, u 87, u 88, u 89, u 90, u 91, u 92, u 93, u 94, u 95, u 96, u 97, u 98, u 99, u 100, u 101, u 102, u 103, u 104, u 105, u 106, u 107, u 108, u 109, u 110, u 111, u 112, u 113, u 114, u 115, u 116, u 117, u 118, u 119, u 120, u 121, u 122, u 123, u 124, u 125, u 126, u 127, u 128, u 129, u 130, u 131, u 132, u 133, u 134, u 135, u 136, u 137, u 138, u 139, u 140, u 141, u 142, u 143, u 144, u 145, u 146, u 147, u 148, u 149, u 150, u 151, u 152, u 153, u 154, u 155, u 156, u 157, u 158, u 159, u 160], defers := [] } [.code (.seq (.seq (.region 29 reg6_29 false) (.cond (.tmp 127 ) (.skip) (.exit 4))) (.seq (.block 5 (.seq (.seq (.region 31 reg6_31 false) (.cond (.tmp 136 ) (.exit 5) (.skip))) (.seq (.seq (.region 32 reg6_32 false) (.cond (.tmp 148 ) (.seq (.region 33 reg6_33 false) (.ret)) (.skip))) (.seq (.region 34 reg6_34 false) (.region 35 reg6_35 false))))) (.region 30 reg6_30 false))), .inLoop (.seq (.seq (.region 29 reg6_29 false) (.cond (.tmp 127 ) (.skip) (.exit 4))) (.seq (.block 5 (.seq (.seq (.region 31 reg6_31 false) (.cond (.tmp 136 ) (.exit 5) (.skip))) (.seq (.seq (.region 32 reg6_32 false) (.cond (.tmp 148 ) (.seq (.region 33 reg6_33 false) (.ret)) (.skip))) (.seq (.region 34 reg6_34 false) (.region 35 reg6_35 false))))) (.region 30 reg6_30 false))), .inBlock 4, .code (.seq (.region 36 reg6_36 false) (.ret))]

set_option maxHeartbeats 8000000 in
set_option maxRecDepth 100000 in
theorem l2_out (lv v5 v6 v8 : Value) (sa : Option Addr) (m sc n Lb al at_ : Nat) (u : Nat → Value) (w : World) :
    Walk Try.prog true (DR (fun _ => none)) (fun g w' => (∃ u', g = G (hd6c lv (.slice sa m sc) v5 v6 v8 n Lb al at_ 0 u') []) ∧ ∃ d, w' = w.at d) (G (hd6b lv (.slice sa m sc) v5 v6 v8 n Lb al at_ m u) []) w := by
  unfold hd6b
  repeat (first | (refine Walk.c rfl ?_) | (refine Walk.cRet ?_) | (refine Walk.cEnd ?_) | (refine Walk.cReg ?_; simp only [size6_0, size6_1, size6_2, size6_3, size6_4, size6_5, size6_6, size6_7, size6_8, size6_9, size6_10, size6_11, size6_13, size6_14, size6_15, size6_16, size6_17, size6_12, size6_18, size6_19, size6_20, size6_22, size6_23, size6_24, size6_25, size6_26, size6_27, size6_21, size6_28, size6_29, size6_31, size6_32, size6_33, size6_34, size6_35, size6_30, size6_36, List.range, List.range.loop]) | (refine Walk.opq (ho_of (by conv => lhs; whnf) (by kernel_rfl)) (by rfl) (by decide) (fun dd e he => ?_) (fun dd K hK => ?_); (· (simp [go_sem, *] at he; try (subst he; exact evR_read _ _))); go_simp; refine hK _ ?_; clear hK K; try walk_nrm) | (refine Walk.ctl rfl (fun w => stepG_unwanted (ho_of (by conv => lhs; whnf) (by kernel_rfl)) (by rfl)) ?_; walk_nrm))
  refine Walk.ctl rfl (fun w => stepG_loop) ?_
  refine .stop fun d => ⟨at_slots ?_, d, rfl⟩
  simp only [hd6c]
  rfl

set_option maxHeartbeats 8000000 in
set_option maxRecDepth 100000 in
theorem l3_out (lv sv v5 v8 : Value) (oa : Option Addr) (oc n Lb al x : Nat) (u : Nat → Value) (w : World) :
    Walk Try.prog true (DR (fun _ => none)) (fun g w' => Closing 6 4 (.bool true) g ∧ ∃ d, w' = w.at d) (G (hd6c lv sv v5 (.slice oa al oc) v8 n Lb al al x u) []) w := by
  unfold hd6c
  repeat (first | (refine Walk.c rfl ?_) | (refine Walk.cRet ?_) | (refine Walk.cEnd ?_) | (refine Walk.cReg ?_; simp only [size6_0, size6_1, size6_2, size6_3, size6_4, size6_5, size6_6, size6_7, size6_8, size6_9, size6_10, size6_11, size6_13, size6_14, size6_15, size6_16, size6_17, size6_12, size6_18, size6_19, size6_20, size6_22, size6_23, size6_24, size6_25, size6_26, size6_27, size6_21, size6_28, size6_29, size6_31, size6_32, size6_33, size6_34, size6_35, size6_30, size6_36, List.range, List.range.loop]) | (refine Walk.opq (ho_of (by conv => lhs; whnf) (by kernel_rfl)) (by rfl) (by decide) (fun dd e he => ?_) (fun dd K hK => ?_); (· (simp [go_sem, *] at he; try (subst he; exact evR_read _ _))); go_simp; refine hK _ ?_; clear hK K; try walk_nrm) | (refine Walk.ctl rfl (fun w => stepG_unwanted (ho_of (by conv => lhs; whnf) (by kernel_rfl)) (by rfl)) ?_; walk_nrm))
  exact .stop fun d => ⟨⟨_, rfl, rfl, rfl, rfl, rfl, rfl⟩, d, rfl⟩

theorem rem_next {x n y : Nat} (hx : x < n) (hy : y = if x + 1 = n then 0 else x + 1) : Int.tmod ((x : Int) + 1) n = y := by
  have e : ((x : Int) + 1) = ((x + 1 : Nat) : Int) := by omega
  rw [e, ← Int.ofNat_tmod, hy]
  split
  · next h => rw [h, Nat.mod_self]
  · next h => rw [Nat.mod_eq_of_lt (by omega)]

set_option maxHeartbeats 8000000 in
set_option maxRecDepth 100000 in
theorem l3_zero (lv sv v5 v6 v8 : Value) (n Lb al at_ x y : Nat) (u : Nat → Value) (w : World) (ha : at_ < al) (hx : x < n) (hn : n ≤ 64) (hy : y = if x + 1 = n then 0 else x + 1) (hl : w.cell? ⟨Lb, x, none⟩ = some (.int .i64 0)) :
    Walk Try.prog true (DR (fun _ => none)) (fun g w' => (∃ u', g = G (hd6c lv sv v5 v6 v8 n Lb al at_ y u') []) ∧ ∃ d, w' = w.at d) (G (hd6c lv sv v5 v6 v8 n Lb al at_ x u) []) w := by
  have hw1 : IntKind.wrap .i64 ((x : Int) + 1) = (x : Int) + 1 := by rw [IntKind.wrap_i64]; omega
  have hr := rem_next hx hy
  have hyn : y < 64 := by rw [hy]; split <;> omega
  have hw2 : IntKind.wrap .i64 (y : Int) = (y : Int) := by rw [IntKind.wrap_i64]; omega
  have hn0 : ¬ ((n : Int) = 0) := by omega
  have hn1 : ¬ (n = 0) := by omega
  conv => arg 5; unfold hd6c
  clear hy
  repeat (first | (refine Walk.c rfl ?_) | (refine Walk.cRet ?_) | (refine Walk.cEnd ?_) | (refine Walk.cReg ?_; simp only [size6_0, size6_1, size6_2, size6_3, size6_4, size6_5, size6_6, size6_7, size6_8, size6_9, size6_10, size6_11, size6_13, size6_14, size6_15, size6_16, size6_17, size6_12, size6_18, size6_19, size6_20, size6_22, size6_23, size6_24, size6_25, size6_26, size6_27, size6_21, size6_28, size6_29, size6_31, size6_32, size6_33, size6_34, size6_35, size6_30, size6_36, List.range, List.range.loop]) | (refine Walk.opq (ho_of (by conv => lhs; whnf) (by kernel_rfl)) (by rfl) (by decide) (fun dd e he => ?_) (fun dd K hK => ?_); (· (simp [go_sem, *] at he; try (subst he; exact evR_read _ _))); go_simp; refine hK _ ?_; clear hK K; try walk_nrm) | (refine Walk.ctl rfl (fun w => stepG_unwanted (ho_of (by conv => lhs; whnf) (by kernel_rfl)) (by rfl)) ?_; walk_nrm))
  refine Walk.ctl rfl (fun w => stepG_inLoop) ?_
  refine .stop fun d' => ⟨at_slots ?_, d', rfl⟩
  simp only [hd6c]
  rfl

set_option maxHeartbeats 8000000 in
set_option maxRecDepth 100000 in
theorem l3_yes (lv sv v5 v8 : Value) (ob L oc n Lb al at_ x y k : Nat) (u : Nat → Value) (w : World) (ha : at_ < al) (hx : x < n) (hn : n ≤ 64) (hy : y = if x + 1 = n then 0 else x + 1) (hl : w.cell? ⟨Lb, x, none⟩ = some (.int .i64 ((k : Int) + 1))) (hz : w.frozen? ⟨Lb, x, none⟩ = false) (hk : k ≤ 31)
    (haL : at_ < L) (hL : L ≤ 1984) (ho : w.cell? ⟨ob, at_, none⟩ = some (.int .i64 (x : Nat))) :
    Walk Try.prog true (DR (fun _ => none)) (fun g w' => (∃ u', g = G (hd6c lv sv v5 (.slice (some ⟨ob, 0, none⟩) L oc) v8 n Lb al (at_ + 1) y u') []) ∧ ∃ d, w' = (w.setCell ⟨Lb, x, none⟩ (.int .i64 (k : Nat))).at d) (G (hd6c lv sv v5 (.slice (some ⟨ob, 0, none⟩) L oc) v8 n Lb al at_ x u) []) w := by
  have hw1 : IntKind.wrap .i64 ((x : Int) + 1) = (x : Int) + 1 := by rw [IntKind.wrap_i64]; omega
  have hr := rem_next hx hy
  have hyn : y < 64 := by rw [hy]; split <;> omega
  have hw2 : IntKind.wrap .i64 (y : Int) = (y : Int) := by rw [IntKind.wrap_i64]; omega
  have hn0 : ¬ ((n : Int) = 0) := by omega
  have hn1 : ¬ (n = 0) := by omega
  have hw3 : IntKind.wrap .i64 ((at_ : Int) + 1) = (at_ : Int) + 1 := by rw [IntKind.wrap_i64]; omega
  have hw4 : IntKind.wrap .i64 ((k : Int) + 1 - 1) = (k : Int) := by rw [IntKind.wrap_i64]; omega
  have hw5 : IntKind.wrap .i64 (k : Int) = (k : Int) := by rw [IntKind.wrap_i64]; omega
  have d3 : decide ((k : Int) + 1 = 0) = false := decide_eq_false (by omega)
  have d3' : ((k : Int) + 1 == 0) = false := by simp; omega
  have d4 : decide ((L : Int) ≤ at_) = false := decide_eq_false (by omega)
  have d5 : decide (L ≤ at_) = false := decide_eq_false (by omega)
  have hf : Free (fun _ => none) ⟨Lb, x, none⟩ := (apart0 Lb).1 _ rfl
  conv => arg 5; unfold hd6c
  clear hy
  repeat (first | (refine Walk.c rfl ?_) | (refine Walk.cRet ?_) | (refine Walk.cEnd ?_) | (refine Walk.cReg ?_; simp only [size6_0, size6_1, size6_2, size6_3, size6_4, size6_5, size6_6, size6_7, size6_8, size6_9, size6_10, size6_11, size6_13, size6_14, size6_15, size6_16, size6_17, size6_12, size6_18, size6_19, size6_20, size6_22, size6_23, size6_24, size6_25, size6_26, size6_27, size6_21, size6_28, size6_29, size6_31, size6_32, size6_33, size6_34, size6_35, size6_30, size6_36, List.range, List.range.loop]) | (refine Walk.opq (ho_of (by conv => lhs; whnf) (by kernel_rfl)) (by rfl) (by decide) (fun dd e he => ?_) (fun dd K hK => ?_); (· (simp [go_sem, *] at he; try (subst he; exact evR_read _ _))); go_simp; refine hK _ ?_; clear hK K; try walk_nrm) | (refine Walk.ctl rfl (fun w => stepG_unwanted (ho_of (by conv => lhs; whnf) (by kernel_rfl)) (by rfl)) ?_; walk_nrm))
  (co_applyP Walk.opw (ho_of (by conv => lhs; whnf) (by kernel_rfl)) (by rfl) (by decide) ?wev1 ?wdr1 ?wrun1; (case' wrun1 => (intro dd K hK; go_simp; simp only [alloc_at', setCell_at']; refine hK _ ?wmore1; clear hK K)); (case wdr1 => exact fun dd es hes => DR.set' hf hl dd es hes); (case wev1 => (intro dd e he; simp [go_sem, storedEv, ev_store_bool, ev_store_int, ev_store_slice, ev_store_pointer, *] at he; subst he; exact evR_write _ _ hf)); try walk_nrm)
  clear hl ho hz
  generalize w.setCell ⟨Lb, x, none⟩ (.int .i64 (k : Nat)) = w2 at *
  repeat (first | (refine Walk.c rfl ?_) | (refine Walk.cRet ?_) | (refine Walk.cEnd ?_) | (refine Walk.cReg ?_; simp only [size6_0, size6_1, size6_2, size6_3, size6_4, size6_5, size6_6, size6_7, size6_8, size6_9, size6_10, size6_11, size6_13, size6_14, size6_15, size6_16, size6_17, size6_12, size6_18, size6_19, size6_20, size6_22, size6_23, size6_24, size6_25, size6_26, size6_27, size6_21, size6_28, size6_29, size6_31, size6_32, size6_33, size6_34, size6_35, size6_30, size6_36, List.range, List.range.loop]) | (refine Walk.opq (ho_of (by conv => lhs; whnf) (by kernel_rfl)) (by rfl) (by decide) (fun dd e he => ?_) (fun dd K hK => ?_); (· (simp [go_sem, *] at he; try (subst he; exact evR_read _ _))); go_simp; refine hK _ ?_; clear hK K; try walk_nrm) | (refine Walk.ctl rfl (fun w => stepG_unwanted (ho_of (by conv => lhs; whnf) (by kernel_rfl)) (by rfl)) ?_; walk_nrm))
  refine Walk.ctl rfl (fun w => stepG_inLoop) ?_
  refine .stop fun d' => ⟨at_slots ?_, d', rfl⟩
  have hc2 : ((at_ + 1 : Nat) : Int) = (at_ : Int) + 1 := by simp
  simp only [hd6c, hc2]
  rfl
end Go.Proofs.Ytgiiicdpbdfemaa
end

/- The row of TurnAlone out of a run from every start. -/
section
namespace Go.Proofs.Ytgiiicdpbdfemaa
open Go.Conc Go.RowKit Go.ChangeShapes Go.WideShapes Go.ChangeAt Go.Joins Go.Deep

theorem prog_own : ownKnob Try.prog.godebug = none := by kernel_rfl

/-- What a run leaves: true; what was there stands. -/
def Left (W : World) (v : Value) (w' : World) : Prop := v = .bool true ∧ w'.os = W.os ∧ w'.output = W.output ∧ ∀ b, b < W.heap.size → w'.heap[b]? = W.heap[b]?
theorem Left.kept {W w' : World} {v : Value} (h : Left W v w') (may : MemPlace → Prop) : W.keptBut w' may := by
  refine ⟨h.2.1, h.2.2.1, fun i hi => ?_⟩
  rw [h.2.2.2 i hi]
  split <;> simp_all

noncomputable def flds58 : Array Field := match Try.prog.underlying 58 with | some (.struct fs) => fs | _ => #[]
theorem und58_is : Try.prog.underlying 58 = some (.struct flds58) := by kernel_rfl
theorem flds58_three : ∃ f0 f1 f2, flds58 = #[f0, f1, f2] ∧ f0.type = 3 ∧ f1.type = 3 ∧ f2.type = 4 := by
  obtain ⟨f0, f1, f2, e⟩ := Go.Joins.array3 (show flds58.size = 3 by kernel_rfl)
  have h0 : (flds58[0]?).map (·.type) = some 3 := by kernel_rfl
  have h1 : (flds58[1]?).map (·.type) = some 3 := by kernel_rfl
  have h2 : (flds58[2]?).map (·.type) = some 4 := by kernel_rfl
  rw [e] at h0 h1 h2
  exact ⟨f0, f1, f2, e, by simpa using h0, by simpa using h1, by simpa using h2⟩
theorem und3_is : Try.prog.underlying 3 = some (.int .i64) := by kernel_rfl
theorem und4_is : Try.prog.underlying 4 = some .bool := by kernel_rfl

set_option maxRecDepth 100000 in
theorem turnAlone_lifted (run : ∀ (st af most : Int) (nl : Bool) (W : World), ∃ M last o w' t', runNT Try.prog (M + 1) (solo (G (Frame.enter Try.prog 9 #[.agg #[.int .i64 st, .int .i64 af, .bool nl], .int .i64 most] .normal) []) W) #[] = (.ended o w', t') ∧
      runN Try.prog M (solo (G (Frame.enter Try.prog 9 #[.agg #[.int .i64 st, .int .i64 af, .bool nl], .int .i64 most] .normal) []) W) = .next last ∧ step Try.prog last = .ended o w' ∧ Conc.Good Try.prog (Left W) last o w' t') (os : Os) (started : os.Started) (H : Type) (enc : TypeId × Value → H) :
    ReturnsInLeavingWide {} Try.checked os 9 .any (Rows.turnAloneSpec.pre6 enc Try.prog Try.f9 Rows.turnAloneRow.domain false) (Rows.turnAloneSpec.post enc Try.prog Try.f9 false true false false) := by
  refine returnsInLeavingWide_of_change_sized (C := Try.checked) prog_own started Try.func9
    (ChangeSpec.witness6 (enc := enc) (C := Try.checked) false ⟨#[], #[.agg #[.int .i64 0, .int .i64 0, .bool false], .int .i64 0], []⟩ 8 (by kernel_rfl) (by kernel_rfl) (by kernel_rfl) (by kernel_rfl)) ?_
  intro W base args ds gs before hval0 hW _ _ _
  have hval : ∀ (j : Nat) t v, Try.f9.params[j]? = some t → args[j]? = some v → Value.okWide Try.prog W .any base t v := hval0
  have hW' := hW
  obtain ⟨p, q, hA0, hV, rfl, _, _⟩ := hW
  have hA : DataW.TrodAll enc Try.prog W 0 (fun _ => true) true Try.f9.params.toList args.toList ds p := hA0
  rw [Try.params9] at hA hval
  obtain ⟨v0, v1, d0, d1, p0, p1, rfl, rfl, rfl, h0, h1⟩ := trodAll_two hA
  obtain ⟨rfl, rfl⟩ := trodVars_none hV
  obtain ⟨most, rfl, rfl, rfl, wm⟩ := open_int und3_is (hval 1 3 v1 rfl rfl) h1
  obtain ⟨f0, f1, f2, ef, t0, t1, t2⟩ := flds58_three
  have hs : Try.prog.underlying 58 = some (.struct #[f0, f1, f2]) := by rw [und58_is, ef]
  have hone : oneCellFields Try.prog #[f0, f1, f2] = true := by rw [← ef]; kernel_rfl
  have hC : Try.prog.cellsOf 58 = 3 := by kernel_rfl
  obtain ⟨a0, a1, a2, y0, y1, y2, n, rfl, rfl, rfl, g0, g1, g2⟩ := open_agg3 hs hone hC (hval 0 58 v0 rfl rfl) h0
  rw [t0] at g0
  rw [t1] at g1
  rw [t2] at g2
  obtain ⟨st, e0, rfl, w0⟩ := DataW.trod_int und3_is g0
  obtain ⟨af, e1, rfl, w1⟩ := DataW.trod_int und3_is g1
  obtain ⟨nl, e2, rfl⟩ := DataW.trod_bool und4_is g2
  injection e0 with e0 _
  injection e1 with e1 _
  injection e2 with e2 _
  subst e0 e1 e2
  clear hA0 hval0
  simp only [List.append_nil] at hW'
  obtain ⟨M, last, o, w', t', r1, r2, r3, r4⟩ := run st af most nl W
  refine ⟨M, last, o, w', t', r1, r2, r3, r4.mono fun v hF => ?_⟩
  obtain ⟨rfl, hk⟩ : v = .bool true ∧ Left W (.bool true) w' := ⟨hF.1, ⟨rfl, hF.2⟩⟩
  exact ⟨_, _, _, [], _, [], hW', trodAll_mk1 (shut_bool und4_is true), trodAll_mk2 (shut_agg3 (y0 := (.lit (.int .i64 st), [])) (y1 := (.lit (.int .i64 af), [])) (y2 := (.lit (.bool nl), [])) hs hone hC (by rw [t0]; exact field_of_Trod (shut_int und3_is w0) rfl) (by rw [t1]; exact field_of_Trod (shut_int und3_is w1) rfl) (by rw [t2]; exact field_of_Trod (shut_bool und4_is nl) rfl)) (shut_int und3_is wm), rfl, hk.kept _, fun h => by cases h⟩

theorem turnAlone_of (run : ∀ (st af most : Int) (nl : Bool) (W : World), ∃ M last o w' t', runNT Try.prog (M + 1) (solo (G (Frame.enter Try.prog 9 #[.agg #[.int .i64 st, .int .i64 af, .bool nl], .int .i64 most] .normal) []) W) #[] = (.ended o w', t') ∧
      runN Try.prog M (solo (G (Frame.enter Try.prog 9 #[.agg #[.int .i64 st, .int .i64 af, .bool nl], .int .i64 most] .normal) []) W) = .next last ∧ step Try.prog last = .ended o w' ∧ Conc.Good Try.prog (Left W) last o w' t') : Rows.TurnAloneSaid :=
  OpenClaim.holds_of_wide_leaving 9 Try.f9 rfl rfl rfl rfl rfl rfl rfl ⟨rfl, rfl, rfl, rfl, rfl⟩ rfl rfl rfl rfl rfl (by kernel_rfl) Try.func9 (by kernel_rfl)
    (of_decide_eq_true (by kernel_rfl)) (by unfold Func.isWrapper; first | (rw [if_pos (by decide +kernel)]; kernel_rfl) | (rw [if_neg (by decide +kernel)]; exact ⟨rfl, rfl⟩))
    (fun os started H enc _ => turnAlone_lifted run os started H enc)
end Go.Proofs.Ytgiiicdpbdfemaa
end

/- Arguments that came in: slices of numbers, of walks; and that they read behind the run as they did. -/
section
namespace Go.Proofs.Ytgiiicdpbdfemaa
open Go.Conc Go.RowKit Go.Relay Go.ChangeShapes Go.WideShapes Go.ChangeAt Go.Joins Go.Deep

theorem laid_out : laidOutB Try.prog = true := by kernel_rfl

section
variable {H : Type} {enc : TypeId × Value → H} {W w' : World}

/-- What was read reads as it did. -/
theorem Left.stays {r : Value} {t : TypeId} {v : Value} {d : DataW H} {ps : List MemPlace} (K : Left W r w') (hr : Try.prog.readableRec t = true) (hrow : t < Try.prog.types.size) (h : DataW.Trod enc Try.prog W 0 (fun _ => true) true t v d ps) (hlt : ∀ x ∈ ps, x.block < W.heap.size) :
    DataW.Trod enc Try.prog w' 0 (fun b => decide (b < W.heap.size)) true t v d ps :=
  WideElems.Trod_stays laid_out hr hrow h (fun x hx => by
    have hb := K.2.2.2 x.block (hlt x hx)
    cases x with
    | cell b o => exact World.cell?_of_block (w := W) (a := ⟨b, o, none⟩) hb
    | map b => exact hb) (fun x hx => by simpa using hlt x hx)

theorem addr_form {w : World} {a : Addr} {v : Value} (h : w.cell? a = some v) : a = ⟨a.block, a.off, none⟩ := by
  obtain ⟨b, o, s⟩ := a
  cases s with
  | none => rfl
  | some s =>
    unfold World.cell? at h
    split at h
    · simp at h
    · cases h

set_option maxHeartbeats 8000000 in
set_option maxRecDepth 100000 in
theorem open_nums {t : TypeId} {base : Nat} {v : Value} {d : DataW H} {ps : List MemPlace} (hu : Try.prog.underlying t = some (.slice 3)) (hval : Value.okWide Try.prog W .any base t v) (h : DataW.Trod enc Try.prog W 0 (fun _ => true) true t v d ps)
    {ts : List TypeId} {ds : List (DataW H)} {j : Nat} (hsz : (DataW.weightsEach Try.prog ts ds).all (· ≤ reachBytes) = true) (ht : ts[j]? = some t) (hd : ds[j]? = some d) :
    ∃ (a : Option Addr) (cap : Nat) (zs : List Int), v = .slice a zs.length cap ∧ zs.length ≤ 17592186044416 ∧ (∀ (i : Nat) (z : Int), zs[i]? = some z → ∃ s so, a = some ⟨s, so, none⟩ ∧ W.cell? ⟨s, so + i, none⟩ = some (.int .i64 z)) ∧ (a = none → zs = [] ∧ cap = 0) := by
  obtain ⟨a, len, cap, rfl⟩ := okWide_slice hu hval
  obtain ⟨fuel, hf⟩ := h
  have hc3 : Try.prog.cellsOf 3 = 1 := by kernel_rfl
  have hb3 : Try.prog.bytesOf 3 = 8 := by kernel_rfl
  rcases open_ints hu und3_is hc3 hf with ⟨e, _⟩ | ⟨a', len', cap', zs, e, _, hl, _, hzl, hx, hcell, _⟩
  · have e : [Value.slice a len cap] = [.slice none 0 0] := e
    injection e with e _
    injection e with e1 e2 e3
    subst e1 e2 e3
    exact ⟨none, 0, [], rfl, Nat.zero_le _, fun i z h => by simp at h, fun _ => ⟨rfl, rfl⟩⟩
  · have e : [Value.slice a len cap] = [.slice (some a') len' cap'] := e
    injection e with e _
    injection e with e1 e2 e3
    subst e1 e2 e3
    have hzl : zs.length = cap := by simpa using hzl
    injection hx with hx _
    subst hx
    have hs := sized_slice hsz ht hd hu
    rw [hb3] at hs
    have hs2 : ((lits .i64 (zs.take len) : List (DataW H)).length + (lits .i64 (zs.drop len) : List (DataW H)).length) = cap := by simp [lits]; omega
    rw [hs2] at hs
    have hr := reachBytes_lt
    have htl : (zs.take len).length = len := by rw [List.length_take]; omega
    refine ⟨some a', cap, zs.take len, by rw [htl], by omega, fun i z hz => ?_, fun e => by cases e⟩
    have hi : i < len := by have := (List.getElem?_eq_some_iff.1 hz).1; omega
    have h0 := hcell 0 (by omega)
    have ha : a'.add 0 = a' := by simp [Addr.add]
    rw [ha] at h0
    have hform := addr_form h0
    have hci := hcell i (by omega)
    rw [hform] at hci
    refine ⟨_, _, congrArg some hform, ?_⟩
    rw [add_none] at hci
    rw [hci]
    have : zs[i]? = some z := by
      rw [List.getElem?_take, if_pos hi] at hz
      exact hz
    rw [List.getD_eq_getElem?_getD, this]
    rfl

set_option maxHeartbeats 8000000 in
set_option maxRecDepth 100000 in
theorem open_walks {t : TypeId} {base : Nat} {v : Value} {d : DataW H} {ps : List MemPlace} (hu : Try.prog.underlying t = some (.slice 58)) (hval : Value.okWide Try.prog W .any base t v) (h : DataW.Trod enc Try.prog W 0 (fun _ => true) true t v d ps)
    {ts : List TypeId} {ds : List (DataW H)} {j : Nat} (hsz : (DataW.weightsEach Try.prog ts ds).all (· ≤ reachBytes) = true) (ht : ts[j]? = some t) (hd : ds[j]? = some d) :
    ∃ (a : Option Addr) (n cap : Nat) (st af : Nat → Int) (nl : Nat → Bool), v = .slice a n cap ∧ n ≤ 8796093022208 ∧ WalksAt a n st af nl W := by
  obtain ⟨a, len, cap, rfl⟩ := okWide_slice hu hval
  obtain ⟨fuel, hf⟩ := h
  have hC : Try.prog.cellsOf 58 = 3 := by kernel_rfl
  have hB : Try.prog.bytesOf 58 = 24 := by kernel_rfl
  obtain ⟨f0, f1, f2, ef, t0, t1, t2⟩ := flds58_three
  have hst : Try.prog.underlying 58 = some (.struct #[f0, f1, f2]) := by rw [und58_is, ef]
  have hone : oneCellFields Try.prog #[f0, f1, f2] = true := by rw [← ef]; kernel_rfl
  rcases open_slice hu hf with ⟨e, _⟩ | ⟨a', len', cap', m, n, D, Pl, e, _, hl, _, hm, hx, hel⟩
  · have e : [Value.slice a len cap] = [.slice none 0 0] := e
    injection e with e _
    injection e with e1 e2 e3
    subst e1 e2 e3
    exact ⟨none, 0, 0, fun _ => 0, fun _ => 0, fun _ => false, rfl, Nat.zero_le _, fun i h => absurd h (Nat.not_lt_zero _)⟩
  · have e : [Value.slice a len cap] = [.slice (some a') len' cap'] := e
    injection e with e _
    injection e with e1 e2 e3
    subst e1 e2 e3
    have hm : m = cap := by simpa using hm
    injection hx with hx _
    subst hx
    have hs := sized_slice hsz ht hd hu
    rw [hB] at hs
    have hr := reachBytes_lt
    simp only [List.length_map, List.length_range] at hs
    have key : ∀ i, i < len → ∃ x : Int × Int × Bool, W.cell? (a'.add (i * 3)) = some (.int .i64 x.1) ∧ W.cell? ((a'.add (i * 3)).add 1) = some (.int .i64 x.2.1) ∧ W.cell? ((a'.add (i * 3)).add 2) = some (.bool x.2.2) := fun i hi => by
      obtain ⟨cs', h1, h2⟩ := hel i (by omega)
      rw [hC] at h1
      obtain ⟨_, hlen, hcell⟩ := World.cells?_some h1
      obtain ⟨y0, y1, y2, k, _, _, u0, u1, u2⟩ := trod_struct3 hst h2
      obtain ⟨o0, k0⟩ := hone_of hone 0 f0 rfl
      obtain ⟨o1, k1⟩ := hone_of hone 1 f1 rfl
      obtain ⟨o2, k2⟩ := hone_of hone 2 f2 rfl
      match cs', hlen with
      | [c0, c1, c2], _ =>
        rw [o0, k0, t0] at u0
        rw [o1, k1, t1] at u1
        rw [o2, k2, t2] at u2
        obtain ⟨st, e0, _, _⟩ := DataW.trod_int und3_is u0
        obtain ⟨af, e1, _, _⟩ := DataW.trod_int und3_is u1
        obtain ⟨nl, e2, _⟩ := DataW.trod_bool und4_is u2
        simp at e0 e1 e2
        subst e0 e1 e2
        have c0 := hcell 0 (by omega)
        have c1 := hcell 1 (by omega)
        have c2 := hcell 2 (by omega)
        have ha : ∀ b : Addr, b.add 0 = b := fun b => by simp [Addr.add]
        rw [ha] at c0
        exact ⟨(st, af, nl), by simpa using c0, by simpa using c1, by simpa using c2⟩
    obtain ⟨f, hf'⟩ := choose_lt (α := Int × Int × Bool) key
    refine ⟨some a', len, cap, fun i => (f i).1, fun i => (f i).2.1, fun i => (f i).2.2, rfl, by omega, fun i hi => ?_⟩
    obtain ⟨h0, h1, h2⟩ := hf' i hi
    obtain ⟨z0, _, _⟩ := hf' 0 (by omega)
    have ha : a'.add (0 * 3) = a' := by simp [Addr.add]
    rw [ha] at z0
    have hform := addr_form z0
    rw [hform, add_none] at h0 h1 h2
    rw [add_none] at h1 h2
    exact ⟨_, _, congrArg some hform, h0, h1, h2⟩
end
end Go.Proofs.Ytgiiicdpbdfemaa
end
