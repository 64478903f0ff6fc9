/- Part 10. -/
import Derived.Test.YtgiiicdpbdfemaaC9
set_option linter.unusedSimpArgs false
set_option maxHeartbeats 8000000
set_option maxRecDepth 100000
namespace Go.Proofs.Ytgiiicdpbdfemaa
open Go.Conc Go.RowKit Go.Relay
open Go.ConcN (upd upd_ne upd_same)
section
variable {main : Bool} {V : Nat → Option Wait}
theorem Walk.ret2 {P : Program} {b : Frame} {a : Act} {cs : List Frame} {w : World} {fn : Func} {todo : List Item} {c : Frame} {t s : Tmp} {Post : Value → World → Prop} (hn : b.kind = .normal) (hd : a.defers = []) (hf : P.funcs[b.fn]? = some fn) (hr : fn.results = #[.tmp t, .tmp s]) (h : ∀ d, Post (.tuple #[a.tmps.getD t undef, a.tmps.getD s undef]) (w.at d)) :
    Walk P main (DR V) (fun g w' => ∃ v, Post v w' ∧ g = G (c.finish v) cs) (G { b.at a todo with mode := .returning } (c :: cs)) w :=
  Walk.ctl rfl (fun w => stepG_leave (v := .tuple #[a.tmps.getD t undef, a.tmps.getD s undef]) hn hd hf (by simp [results, hr]) (by simp [results, hr])) (.stop fun d => ⟨_, h d, rfl⟩)
def BoolsAt (a : Option Addr) (n : Nat) (f : Nat → Bool) (w : World) : Prop := ∀ i, i < n → ∃ b o, a = some ⟨b, o, none⟩ ∧ w.cell? ⟨b, o + i, none⟩ = some (.bool (f i))
noncomputable def reg50_0 : Array Oper := match Try.f50.body with | some (.seq (.region _ ops _) _) => ops | _ => #[]
theorem size50_0 : reg50_0.size = 1 := by kernel_rfl
noncomputable def reg50_1 : Array Oper := match Try.f50.body with | some (.seq _ (.seq (.seq (.region _ ops _) _) _)) => ops | _ => #[]
theorem size50_1 : reg50_1.size = 1 := by kernel_rfl
noncomputable def reg50_2 : Array Oper := match Try.f50.body with | some (.seq _ (.seq (.seq _ (.block _ (.loop (.seq (.seq (.region _ ops _) _) _)))) _)) => ops | _ => #[]
theorem size50_2 : reg50_2.size = 4 := by kernel_rfl
noncomputable def reg50_4 : Array Oper := match Try.f50.body with | some (.seq _ (.seq (.seq _ (.block _ (.loop (.seq _ (.seq (.block _ (.seq (.region _ ops _) _)) _))))) _)) => ops | _ => #[]
theorem size50_4 : reg50_4.size = 5 := by kernel_rfl
noncomputable def reg50_5 : Array Oper := match Try.f50.body with | some (.seq _ (.seq (.seq _ (.block _ (.loop (.seq _ (.seq (.block _ (.seq _ (.cond _ (.seq (.region _ ops _) _) _))) _))))) _)) => ops | _ => #[]
theorem size50_5 : reg50_5.size = 1 := by kernel_rfl
noncomputable def reg50_3 : Array Oper := match Try.f50.body with | some (.seq _ (.seq (.seq _ (.block _ (.loop (.seq _ (.seq _ (.region _ ops _)))))) _)) => ops | _ => #[]
theorem size50_3 : reg50_3.size = 3 := by kernel_rfl
noncomputable def reg50_6 : Array Oper := match Try.f50.body with | some (.seq _ (.seq _ (.seq (.region _ ops _) _))) => ops | _ => #[]
theorem size50_6 : reg50_6.size = 1 := by kernel_rfl
theorem code50_is : Try.f50.body = some (.seq (.region 0 reg50_0 false) (.seq (.seq (.region 1 reg50_1 false) (.block 0 (.loop (.seq (.seq (.region 2 reg50_2 false) (.cond (.tmp 7 ) (.skip) (.exit 0))) (.seq (.block 1 (.seq (.region 4 reg50_4 false) (.cond (.tmp 14 ) (.seq (.region 5 reg50_5 false) (.ret)) (.skip)))) (.region 3 reg50_3 false)))))) (.seq (.region 6 reg50_6 false) (.ret)))) := by kernel_rfl
noncomputable def hd50 (a : Value) (i : Nat) (u : Nat → Value) : Frame :=
  (base 50).at { tmps := #[a, u 1, .bool false, .int .i64 i, u 4, u 5, u 6, u 7, u 8, u 9, u 10, u 11, u 12, u 13, u 14], defers := [] } [.code (.seq (.seq (.region 2 reg50_2 false) (.cond (.tmp 7 ) (.skip) (.exit 0))) (.seq (.block 1 (.seq (.region 4 reg50_4 false) (.cond (.tmp 14 ) (.seq (.region 5 reg50_5 false) (.ret)) (.skip)))) (.region 3 reg50_3 false))), .inLoop (.seq (.seq (.region 2 reg50_2 false) (.cond (.tmp 7 ) (.skip) (.exit 0))) (.seq (.block 1 (.seq (.region 4 reg50_4 false) (.cond (.tmp 14 ) (.seq (.region 5 reg50_5 false) (.ret)) (.skip)))) (.region 3 reg50_3 false))), .inBlock 0, .code (.seq (.region 6 reg50_6 false) (.ret))]
theorem over50_in (a : Option Addr) (n ca : Nat) (cs : List Frame) (w : World) :
    Walk Try.prog main (DR V) (fun g w' => (∃ u, g = G (hd50 (.slice a n ca) 0 u) cs) ∧ ∃ d, w' = w.at d) (G (Frame.enter Try.prog 50 #[.slice a n ca] .normal) cs) w := by
  rw [enter_at _ Try.func50 code50_is]
  simp only [Try.ntmps50, List.size_toArray, List.length_cons, List.length_nil, Nat.reduceAdd, Nat.reduceSub, Array.replicate_succ, Array.replicate_zero, List.push_toArray, List.append_toArray, List.nil_append, List.cons_append]
  repeat (first | refine Walk.c rfl ?_ | refine Walk.cRet ?_ | refine Walk.cEnd ?_ | (refine Walk.cReg ?_; simp only [size50_0, size50_1, size50_2, size50_4, size50_5, size50_3, size50_6, List.range, List.range.loop]) | (refine Walk.oq ?_; try walk_nrm) | (refine Walk.un ?_; walk_nrm))
  refine Walk.ctl rfl (fun w => stepG_loop) ?_
  refine .stop fun d => ⟨at_slots ?_, d, rfl⟩
  simp only [hd50]
  rfl
theorem over50_out (a : Option Addr) (n ca : Nat) (u : Nat → Value) (c : Frame) (cs : List Frame) (w : World) :
    Walk Try.prog main (DR V) (fun g w' => g = G (c.finish (.bool true)) cs ∧ ∃ d, w' = w.at d) (G (hd50 (.slice a n ca) n u) (c :: cs)) w := by
  unfold hd50
  repeat (first | refine Walk.c rfl ?_ | refine Walk.cRet ?_ | refine Walk.cEnd ?_ | (refine Walk.cReg ?_; simp only [size50_0, size50_1, size50_2, size50_4, size50_5, size50_3, size50_6, List.range, List.range.loop]) | (refine Walk.oq ?_; try walk_nrm) | (refine Walk.un ?_; walk_nrm))
  exact (Walk.ret1 (Post := fun v w' => v = .bool true ∧ ∃ d, w' = w.at d) rfl rfl Try.func50 rfl fun d => ⟨rfl, d, rfl⟩).mono fun g w' ⟨v, ⟨hv, hd⟩, hg⟩ => ⟨by rw [hg, hv], hd⟩
theorem over50_no (ab ao n ca i : Nat) (u : Nat → Value) (c : Frame) (cs : List Frame) (w : World) (hi : i < n) (ha : w.cell? ⟨ab, ao + i, none⟩ = some (.bool false)) :
    Walk Try.prog main (DR V) (fun g w' => g = G (c.finish (.bool false)) cs ∧ ∃ d, w' = w.at d) (G (hd50 (.slice (some ⟨ab, ao, none⟩) n ca) i u) (c :: cs)) w := by
  unfold hd50
  repeat (first | refine Walk.c rfl ?_ | refine Walk.cRet ?_ | refine Walk.cEnd ?_ | (refine Walk.cReg ?_; simp only [size50_0, size50_1, size50_2, size50_4, size50_5, size50_3, size50_6, List.range, List.range.loop]) | (refine Walk.oq ?_; try walk_nrm) | (refine Walk.un ?_; walk_nrm))
  exact (Walk.ret1 (Post := fun v w' => v = .bool false ∧ ∃ d, w' = w.at d) rfl rfl Try.func50 rfl fun d => ⟨rfl, d, rfl⟩).mono fun g w' ⟨v, ⟨hv, hd⟩, hg⟩ => ⟨by rw [hg, hv], hd⟩
theorem over50_go (ab ao n ca i : Nat) (u : Nat → Value) (cs : List Frame) (w : World) (hi : i < n) (hn : n ≤ 17592186044416) (ha : w.cell? ⟨ab, ao + i, none⟩ = some (.bool true)) :
    Walk Try.prog main (DR V) (fun g w' => (∃ u', g = G (hd50 (.slice (some ⟨ab, ao, none⟩) n ca) (i + 1) u') cs) ∧ ∃ d, w' = w.at d) (G (hd50 (.slice (some ⟨ab, ao, none⟩) n ca) i u) cs) w := by
  have hw1 : IntKind.wrap .i64 ((i : Int) + 1) = (i : Int) + 1 := by rw [IntKind.wrap_i64]; omega
  conv => arg 5; unfold hd50
  repeat (first | refine Walk.c rfl ?_ | refine Walk.cRet ?_ | refine Walk.cEnd ?_ | (refine Walk.cReg ?_; simp only [size50_0, size50_1, size50_2, size50_4, size50_5, size50_3, size50_6, List.range, List.range.loop]) | (refine Walk.oq ?_; try walk_nrm) | (refine Walk.un ?_; walk_nrm))
  refine Walk.ctl rfl (fun w => stepG_inLoop) ?_
  refine .stop fun d' => ⟨at_slots ?_, d', rfl⟩
  have hc : ((i + 1 : Nat) : Int) = (i : Int) + 1 := by simp
  simp only [hd50, hc]
  rfl
theorem over50_loop (a : Option Addr) (n ca : Nat) (f : Nat → Bool) (hn : n ≤ 17592186044416) (c : Frame) (cs : List Frame) (w : World) (ha : BoolsAt a n f w) : ∀ (r i : Nat) (u : Nat → Value), i + r = n →
    Walk Try.prog main (DR V) (fun g w' => g = G (c.finish (.bool ((List.range' i r).all f))) cs ∧ ∃ d, w' = w.at d) (G (hd50 (.slice a n ca) i u) (c :: cs)) w := by
  intro r
  induction r with
  | zero =>
    intro i u hi
    have hi : i = n := hi
    subst hi
    exact over50_out a i ca u c cs w
  | succ r ih =>
    intro i u hi
    have hin : i < n := by omega
    obtain ⟨ab, ao, rfl, h1⟩ := ha i hin
    rw [List.range'_succ, List.all_cons]
    cases hf : f i with
    | false =>
      rw [hf] at h1
      exact over50_no ab ao n ca i u c cs w hin h1
    | true =>
      rw [hf] at h1
      refine (over50_go ab ao n ca i u (c :: cs) w hin hn h1).then ?_
      rintro g w' ⟨⟨u', rfl⟩, d, rfl⟩
      exact Walk.back (ih (i + 1) u' (by omega)) d
theorem over50_w (a : Option Addr) (n ca : Nat) (f : Nat → Bool) (hn : n ≤ 17592186044416) (w : World) (ha : BoolsAt a n f w) : CallV Try.prog main V 50 #[.slice a n ca] w (.bool ((List.range n).all f)) w := by
  intro fr cs
  refine (over50_in a n ca (fr :: cs) w).then ?_
  rintro g w1 ⟨⟨u, rfl⟩, d, rfl⟩
  refine Walk.back ?_ d
  refine (over50_loop a n ca f hn fr cs w ha n 0 u (by omega)).mono ?_
  rintro g w' ⟨rfl, d, rfl⟩
  exact ⟨_, ⟨by rw [List.range_eq_range'], d, rfl⟩, rfl⟩
end
section
variable {main : Bool} {V : Nat → Option Wait}
noncomputable def reg48_0 : Array Oper := match Try.f48.body with | some (.seq (.region _ ops _) _) => ops | _ => #[]
theorem size48_0 : reg48_0.size = 2 := by kernel_rfl
noncomputable def reg48_1 : Array Oper := match Try.f48.body with | some (.seq _ (.seq (.seq (.region _ ops _) _) _)) => ops | _ => #[]
theorem size48_1 : reg48_1.size = 14 := by kernel_rfl
noncomputable def reg48_2 : Array Oper := match Try.f48.body with | some (.seq _ (.seq (.seq _ (.cond _ (.seq (.region _ ops _) _) _)) _)) => ops | _ => #[]
theorem size48_2 : reg48_2.size = 2 := by kernel_rfl
noncomputable def reg48_3 : Array Oper := match Try.f48.body with | some (.seq _ (.seq _ (.seq (.block _ (.loop (.seq (.seq (.region _ ops _) _) _))) _))) => ops | _ => #[]
theorem size48_3 : reg48_3.size = 10 := by kernel_rfl
noncomputable def reg48_4 : Array Oper := match Try.f48.body with | some (.seq _ (.seq _ (.seq (.block _ (.loop (.seq _ (.block _ (.seq (.region _ ops _) _))))) _))) => ops | _ => #[]
theorem size48_4 : reg48_4.size = 11 := by kernel_rfl
noncomputable def reg48_5 : Array Oper := match Try.f48.body with | some (.seq _ (.seq _ (.seq (.block _ (.loop (.seq _ (.block _ (.seq _ (.seq (.region _ ops _) _)))))) _))) => ops | _ => #[]
theorem size48_5 : reg48_5.size = 8 := by kernel_rfl
noncomputable def reg48_6 : Array Oper := match Try.f48.body with | some (.seq _ (.seq _ (.seq (.block _ (.loop (.seq _ (.block _ (.seq _ (.seq _ (.seq (.region _ ops _) _))))))) _))) => ops | _ => #[]
theorem size48_6 : reg48_6.size = 15 := by kernel_rfl
noncomputable def reg48_7 : Array Oper := match Try.f48.body with | some (.seq _ (.seq _ (.seq (.block _ (.loop (.seq _ (.block _ (.seq _ (.seq _ (.seq _ (.cond _ (.seq (.region _ ops _) _) _)))))))) _))) => ops | _ => #[]
theorem size48_7 : reg48_7.size = 11 := by kernel_rfl
noncomputable def reg48_8 : Array Oper := match Try.f48.body with | some (.seq _ (.seq _ (.seq (.block _ (.loop (.seq _ (.block _ (.seq _ (.seq _ (.seq _ (.cond _ (.seq _ (.seq (.region _ ops _) _)) _)))))))) _))) => ops | _ => #[]
theorem size48_8 : reg48_8.size = 3 := by kernel_rfl
noncomputable def reg48_9 : Array Oper := match Try.f48.body with | some (.seq _ (.seq _ (.seq _ (.seq (.block _ (.loop (.seq (.seq (.region _ ops _) _) _))) _)))) => ops | _ => #[]
theorem size48_9 : reg48_9.size = 10 := by kernel_rfl
noncomputable def reg48_10 : Array Oper := match Try.f48.body with | some (.seq _ (.seq _ (.seq _ (.seq (.block _ (.loop (.seq _ (.block _ (.region _ ops _))))) _)))) => ops | _ => #[]
theorem size48_10 : reg48_10.size = 8 := by kernel_rfl
noncomputable def reg48_11 : Array Oper := match Try.f48.body with | some (.seq _ (.seq _ (.seq _ (.seq _ (.seq (.region _ ops _) _))))) => ops | _ => #[]
theorem size48_11 : reg48_11.size = 8 := by kernel_rfl
noncomputable def reg48_12 : Array Oper := match Try.f48.body with | some (.seq _ (.seq _ (.seq _ (.seq _ (.seq _ (.seq (.region _ ops _) _)))))) => ops | _ => #[]
theorem size48_12 : reg48_12.size = 6 := by kernel_rfl
noncomputable def reg48_13 : Array Oper := match Try.f48.body with | some (.seq _ (.seq _ (.seq _ (.seq _ (.seq _ (.seq _ (.seq (.region _ ops _) _))))))) => ops | _ => #[]
theorem size48_13 : reg48_13.size = 11 := by kernel_rfl
noncomputable def reg48_14 : Array Oper := match Try.f48.body with | some (.seq _ (.seq _ (.seq _ (.seq _ (.seq _ (.seq _ (.seq _ (.seq (.region _ ops _) _)))))))) => ops | _ => #[]
theorem size48_14 : reg48_14.size = 3 := by kernel_rfl
theorem code48_is : Try.f48.body = some (.seq (.region 0 reg48_0 false) (.seq (.seq (.region 1 reg48_1 true) (.cond (.tmp 21 ) (.seq (.region 2 reg48_2 false) (.ret)) (.skip))) (.seq (.block 0 (.loop (.seq (.seq (.region 3 reg48_3 true) (.cond (.tmp 31 ) (.skip) (.exit 0))) (.block 1 (.seq (.region 4 reg48_4 true) (.seq (.region 5 reg48_5 false) (.seq (.region 6 reg48_6 false) (.cond (.tmp 63 ) (.seq (.region 7 reg48_7 false) (.seq (.region 8 reg48_8 false) (.ret))) (.skip))))))))) (.seq (.block 2 (.loop (.seq (.seq (.region 9 reg48_9 false) (.cond (.tmp 84 ) (.skip) (.exit 2))) (.block 3 (.region 10 reg48_10 false))))) (.seq (.region 11 reg48_11 false) (.seq (.region 12 reg48_12 false) (.seq (.region 13 reg48_13 false) (.seq (.region 14 reg48_14 false) (.ret))))))))) := by kernel_rfl
def tuArr (lv : Value) (most : Int) (p rd : Nat) (ov : Value) : Array Value := #[lv, .int .i64 most, .int .i64 (p : Nat), .int .i64 (rd : Nat), ov]
structure Keep (B : Nat) (ov : Value) (w w' : World) : Prop where
  size : w.heap.size ≤ w'.heap.size
  same : ∀ b, b < w.heap.size → b ≠ B → ov.ownBlock ≠ some b → w'.heap[b]? = w.heap[b]?
structure Picked (B : Nat) (lv : Value) (most : Int) (p rd : Nat) (oa : Option Addr) (oc : Nat) (ord : List Nat) (x : Nat) (w w' : World) : Prop where
  all : ∃ oa' oc', w'.heap[B]? = some (.cells (tuArr lv most p rd (.slice oa' (ord ++ [x]).length oc')) 112) ∧ w'.ownsRow 0 3 1 (.slice oa' (ord ++ [x]).length oc') (ord ++ [x]).length (numbs (ord ++ [x])) ∧ (Value.slice oa' (ord ++ [x]).length oc').ownBlock ≠ some B ∧
    ∀ g, (Value.slice oa' (ord ++ [x]).length oc').ownBlock = some g → (Value.slice oa ord.length oc).ownBlock = some g ∨ w.heap.size ≤ g
  keep : Keep B (.slice oa ord.length oc) w w'
theorem picked_of {B : Nat} {lv : Value} {most : Int} {p rd : Nat} {oa : Option Addr} {oc : Nat} {ord : List Nat} {x g cap : Nat} {w wA w3 : World} (hB : w.heap[B]? = some (.cells (tuArr lv most p rd (.slice oa ord.length oc)) 112)) (hne : (Value.slice oa ord.length oc).ownBlock ≠ some B) (hO : Old w wA)
    (hown : w3.ownsRow 0 3 1 (.slice (some ⟨g, 0, none⟩) (ord.length + 1) cap) (ord.length + 1) (numbs ord ++ [.int .i64 (x : Nat)])) (hg : wA.grownBy w3 (Value.slice oa ord.length oc).ownBlock) (hat : (Value.slice oa ord.length oc).ownBlock = some g ∨ g = wA.heap.size) :
    Picked B lv most p rd oa oc ord x w (w3.setCell ⟨B, 4, none⟩ (.slice (some ⟨g, 0, none⟩) (ord.length + 1) cap)) := by
  have lB := (Array.getElem?_eq_some_iff.1 hB).1
  have hsz := hO.size
  have hgs := hg.size
  have hB3 : w3.heap[B]? = some (.cells (tuArr lv most p rd (.slice oa ord.length oc)) 112) := (hg.block B (by omega) (fun e => hne e.symm)).trans ((hO.same B lB).trans hB)
  have hgB : g ≠ B := fun e => by
    rcases hat with h | h
    · exact hne (by rw [h, e])
    · omega
  have hl : (ord ++ [x]).length = ord.length + 1 := by simp
  refine ⟨⟨some ⟨g, 0, none⟩, cap, ?_, ?_, ?_, fun g' hg' => ?_⟩, by rw [size_set]; omega, fun b hb h1 h2 => ?_⟩
  · rw [hl, heap_set_self _ _ hB3]
    simp [tuArr]
  · rw [hl]
    have : numbs (ord ++ [x]) = numbs ord ++ [.int .i64 (x : Nat)] := by simp [numbs]
    rw [this]
    exact row_same hown fun g' hg' => by
      simp only [Value.ownBlock, Option.some.injEq] at hg'
      exact heap_set_other _ _ _ _ (by rw [← hg']; exact hgB)
  · simp [Value.ownBlock, hgB]
  · simp only [Value.ownBlock, Option.some.injEq] at hg'
    subst hg'
    rcases hat with h | h
    · exact .inl h
    · exact .inr (by omega)
  · rw [heap_set_other _ _ _ _ h1]
    exact (hg.block b (by omega) (fun e => h2 e.symm)).trans (hO.same b hb)
noncomputable def hd48 (tv ev : Value) (u : Nat → Value) : Frame :=
  (base 48).at { tmps := #[tv, ev, u 2, u 3, u 4, u 5, u 6, u 7, u 8, u 9, u 10, u 11, u 12, u 13, u 14, u 15, u 16, u 17, u 18, u 19, u 20, u 21, u 22, u 23, u 24, u 25, u 26, u 27, u 28, u 29, u 30, u 31, u 32, u 33, u 34, u 35, u 36, u 37, u 38, u 39, u 40, u 41, u 42, u 43, u 44, u 45, u 46, u 47, u 48, u 49, u 50, u 51, u 52, u 53, u 54, u 55, u 56, u 57, u 58, u 59, u 60, u 61, u 62, u 63, u 64, u 65, u 66, u 67, u 68, u 69, u 70, u 71, u 72, u 73, u 74, u 75, u 76, u 77, u 78, u 79, u 80, u 81, u 82, u 83, u 84, u 85, u 86, u 87, u 88, u 89, u 90, u 91, u 92, u 93, u 94, u 95, u 96, u 97, u 98, u 99, u 100, u 101, u 102, u 103, u 104, u 105, u 106, u 107, u 108, u 109, u 110, u 111, u 112, u 113, u 114], defers := [] } [.code (.seq (.seq (.region 3 reg48_3 true) (.cond (.tmp 31 ) (.skip) (.exit 0))) (.block 1 (.seq (.region 4 reg48_4 true) (.seq (.region 5 reg48_5 false) (.seq (.region 6 reg48_6 false) (.cond (.tmp 63 ) (.seq (.region 7 reg48_7 false) (.seq (.region 8 reg48_8 false) (.ret))) (.skip))))))), .inLoop (.seq (.seq (.region 3 reg48_3 true) (.cond (.tmp 31 ) (.skip) (.exit 0))) (.block 1 (.seq (.region 4 reg48_4 true) (.seq (.region 5 reg48_5 false) (.seq (.region 6 reg48_6 false) (.cond (.tmp 63 ) (.seq (.region 7 reg48_7 false) (.seq (.region 8 reg48_8 false) (.ret))) (.skip))))))), .inBlock 0, .code (.seq (.block 2 (.loop (.seq (.seq (.region 9 reg48_9 false) (.cond (.tmp 84 ) (.skip) (.exit 2))) (.block 3 (.region 10 reg48_10 false))))) (.seq (.region 11 reg48_11 false) (.seq (.region 12 reg48_12 false) (.seq (.region 13 reg48_13 false) (.seq (.region 14 reg48_14 false) (.ret))))))]
noncomputable def hd48b (tv ev : Value) (u : Nat → Value) : Frame :=
  (base 48).at { tmps := #[tv, ev, u 2, u 3, u 4, u 5, u 6, u 7, u 8, u 9, u 10, u 11, u 12, u 13, u 14, u 15, u 16, u 17, u 18, u 19, u 20, u 21, u 22, u 23, u 24, u 25, u 26, u 27, u 28, u 29, u 30, u 31, u 32, u 33, u 34, u 35, u 36, u 37, u 38, u 39, u 40, u 41, u 42, u 43, u 44, u 45, u 46, u 47, u 48, u 49, u 50, u 51, u 52, u 53, u 54, u 55, u 56, u 57, u 58, u 59, u 60, u 61, u 62, u 63, u 64, u 65, u 66, u 67, u 68, u 69, u 70, u 71, u 72, u 73, u 74, u 75, u 76, u 77, u 78, u 79, u 80, u 81, u 82, u 83, u 84, u 85, u 86, u 87, u 88, u 89, u 90, u 91, u 92, u 93, u 94, u 95, u 96, u 97, u 98, u 99, u 100, u 101, u 102, u 103, u 104, u 105, u 106, u 107, u 108, u 109, u 110, u 111, u 112, u 113, u 114], defers := [] } [.code (.seq (.seq (.region 9 reg48_9 false) (.cond (.tmp 84 ) (.skip) (.exit 2))) (.block 3 (.region 10 reg48_10 false))), .inLoop (.seq (.seq (.region 9 reg48_9 false) (.cond (.tmp 84 ) (.skip) (.exit 2))) (.block 3 (.region 10 reg48_10 false))), .inBlock 2, .code (.seq (.region 11 reg48_11 false) (.seq (.region 12 reg48_12 false) (.seq (.region 13 reg48_13 false) (.seq (.region 14 reg48_14 false) (.ret)))))]
theorem pick48_all (B : Nat) (ea : Option Addr) (n ec : Nat) (f : Nat → Bool) (c : Frame) (cs : List Frame) (w : World) (hn : n ≤ 17592186044416) (ha : BoolsAt ea n f w) (hall : (List.range n).all f = true) :
    Walk Try.prog main (DR V) (fun g w' => g = G (c.finish (.tuple #[.int .i64 0, .bool false])) cs ∧ ∃ d, w' = w.at d) (G (Frame.enter Try.prog 48 #[.pointer (some ⟨B, 0, none⟩), .slice ea n ec] .normal) (c :: cs)) w := by
  rw [enter_at _ Try.func48 code48_is]
  simp only [Try.ntmps48, List.size_toArray, List.length_cons, List.length_nil, Nat.reduceAdd, Nat.reduceSub, Array.replicate_succ, Array.replicate_zero, List.push_toArray, List.append_toArray, List.nil_append, List.cons_append]
  repeat (first | refine Walk.c rfl ?_ | refine Walk.cRet ?_ | refine Walk.cEnd ?_ | (refine Walk.cReg ?_; simp only [size48_0, size48_1, size48_2, size48_3, size48_4, size48_5, size48_6, size48_7, size48_8, size48_9, size48_10, size48_11, size48_12, size48_13, size48_14, List.range, List.range.loop]) | (refine Walk.oq ?_; try walk_nrm) | (refine Walk.un ?_; walk_nrm))
  (refine Walk.drawnC (by kernel_rfl) size48_1 (by kernel_rfl) (by kernel_rfl) (by decide) ?_; simp only [List.range, List.range.loop]; repeat (first | (refine Cm.opqA (ho_of (by conv => lhs; whnf) (by kernel_rfl)) (by rfl) (fun dd e he => ?_) ?_; (· (simp [go_sem, *] at he; try (subst he; exact evR_read _ _))); apply Exists.intro; apply And.intro; (· (intro dd K hK; go_simp; exact hK))) | (refine Cm.unw (ho_of (by conv => lhs; whnf) (by kernel_rfl)) (by rfl) ?_; walk_nrm)))
  refine Cm.callV (x := .bool ((List.range n).all f)) ?_ (ho_of (by conv => lhs; whnf) (by kernel_rfl)) (by rfl) rfl Try.func50 (by kernel_rfl) (by rfl) ?_
  · intro w' e
    subst e
    walk_nrm
    exact over50_w ea n ec f hn w' ha
  rw [hall]
  walk_nrm
  repeat (first | (refine Cm.opqA (ho_of (by conv => lhs; whnf) (by kernel_rfl)) (by rfl) (fun dd e he => ?_) ?_; (· (simp [go_sem, *] at he; try (subst he; exact evR_read _ _))); apply Exists.intro; apply And.intro; (· (intro dd K hK; go_simp; exact hK))) | (refine Cm.unw (ho_of (by conv => lhs; whnf) (by kernel_rfl)) (by rfl) ?_; walk_nrm))
  refine Cm.done ?_
  repeat (first | refine Walk.c rfl ?_ | refine Walk.cRet ?_ | refine Walk.cEnd ?_ | (refine Walk.cReg ?_; simp only [size48_0, size48_1, size48_2, size48_3, size48_4, size48_5, size48_6, size48_7, size48_8, size48_9, size48_10, size48_11, size48_12, size48_13, size48_14, List.range, List.range.loop]) | (refine Walk.oq ?_; try walk_nrm) | (refine Walk.un ?_; walk_nrm))
  exact (Walk.ret2 (Post := fun v w' => v = .tuple #[.int .i64 0, .bool false] ∧ ∃ d, w' = w.at d) rfl rfl Try.func48 rfl fun d => ⟨rfl, d, rfl⟩).mono fun g w' ⟨v, ⟨hv, hd⟩, hg⟩ => ⟨by rw [hg, hv], hd⟩
theorem pick48_most (B : Nat) (lv : Value) (p rd : Nat) (oa : Option Addr) (ol oc : Nat) (ea : Option Addr) (n ec : Nat) (f : Nat → Bool) (c : Frame) (cs : List Frame) (w : World) (hB : w.heap[B]? = some (.cells (tuArr lv (ol : Nat) p rd (.slice oa ol oc)) 112)) (hn : n ≤ 17592186044416) (ha : BoolsAt ea n f w) (hall : (List.range n).all f = false) :
    Walk Try.prog main (DR V) (fun g w' => g = G (c.finish (.tuple #[.int .i64 0, .bool false])) cs ∧ ∃ d, w' = w.at d) (G (Frame.enter Try.prog 48 #[.pointer (some ⟨B, 0, none⟩), .slice ea n ec] .normal) (c :: cs)) w := by
  have h4 : w.cell? ⟨B, 4, none⟩ = some (.slice oa ol oc) := (cell_of hB 4).trans rfl
  have h1 : w.cell? ⟨B, 1, none⟩ = some (.int .i64 (ol : Nat)) := (cell_of hB 1).trans rfl
  rw [enter_at _ Try.func48 code48_is]
  simp only [Try.ntmps48, List.size_toArray, List.length_cons, List.length_nil, Nat.reduceAdd, Nat.reduceSub, Array.replicate_succ, Array.replicate_zero, List.push_toArray, List.append_toArray, List.nil_append, List.cons_append]
  repeat (first | refine Walk.c rfl ?_ | refine Walk.cRet ?_ | refine Walk.cEnd ?_ | (refine Walk.cReg ?_; simp only [size48_0, size48_1, size48_2, size48_3, size48_4, size48_5, size48_6, size48_7, size48_8, size48_9, size48_10, size48_11, size48_12, size48_13, size48_14, List.range, List.range.loop]) | (refine Walk.oq ?_; try walk_nrm) | (refine Walk.un ?_; walk_nrm))
  (refine Walk.drawnC (by kernel_rfl) size48_1 (by kernel_rfl) (by kernel_rfl) (by decide) ?_; simp only [List.range, List.range.loop]; repeat (first | (refine Cm.opqA (ho_of (by conv => lhs; whnf) (by kernel_rfl)) (by rfl) (fun dd e he => ?_) ?_; (· (simp [go_sem, *] at he; try (subst he; exact evR_read _ _))); apply Exists.intro; apply And.intro; (· (intro dd K hK; go_simp; exact hK))) | (refine Cm.unw (ho_of (by conv => lhs; whnf) (by kernel_rfl)) (by rfl) ?_; walk_nrm)))
  refine Cm.callV (x := .bool ((List.range n).all f)) ?_ (ho_of (by conv => lhs; whnf) (by kernel_rfl)) (by rfl) rfl Try.func50 (by kernel_rfl) (by rfl) ?_
  · intro w' e
    subst e
    walk_nrm
    exact over50_w ea n ec f hn w' ha
  rw [hall]
  walk_nrm
  repeat (first | (refine Cm.opqA (ho_of (by conv => lhs; whnf) (by kernel_rfl)) (by rfl) (fun dd e he => ?_) ?_; (· (simp [go_sem, *] at he; try (subst he; exact evR_read _ _))); apply Exists.intro; apply And.intro; (· (intro dd K hK; go_simp; exact hK))) | (refine Cm.unw (ho_of (by conv => lhs; whnf) (by kernel_rfl)) (by rfl) ?_; walk_nrm))
  refine Cm.done ?_
  repeat (first | refine Walk.c rfl ?_ | refine Walk.cRet ?_ | refine Walk.cEnd ?_ | (refine Walk.cReg ?_; simp only [size48_0, size48_1, size48_2, size48_3, size48_4, size48_5, size48_6, size48_7, size48_8, size48_9, size48_10, size48_11, size48_12, size48_13, size48_14, List.range, List.range.loop]) | (refine Walk.oq ?_; try walk_nrm) | (refine Walk.un ?_; walk_nrm))
  exact (Walk.ret2 (Post := fun v w' => v = .tuple #[.int .i64 0, .bool false] ∧ ∃ d, w' = w.at d) rfl rfl Try.func48 rfl fun d => ⟨rfl, d, rfl⟩).mono fun g w' ⟨v, ⟨hv, hd⟩, hg⟩ => ⟨by rw [hg, hv], hd⟩
theorem pick48_in (B : Nat) (lv : Value) (most : Int) (p rd : Nat) (oa : Option Addr) (ol oc : Nat) (ea : Option Addr) (n ec : Nat) (f : Nat → Bool) (cs : List Frame) (w : World) (hB : w.heap[B]? = some (.cells (tuArr lv most p rd (.slice oa ol oc)) 112)) (hn : n ≤ 17592186044416) (ha : BoolsAt ea n f w) (hall : (List.range n).all f = false) (hm : ¬ ((ol : Int) = most)) :
    Walk Try.prog main (DR V) (fun g w' => (∃ u, g = G (hd48 (.pointer (some ⟨B, 0, none⟩)) (.slice ea n ec) u) cs) ∧ ∃ d, w' = w.at d) (G (Frame.enter Try.prog 48 #[.pointer (some ⟨B, 0, none⟩), .slice ea n ec] .normal) cs) w := by
  have h4 : w.cell? ⟨B, 4, none⟩ = some (.slice oa ol oc) := (cell_of hB 4).trans rfl
  have h1 : w.cell? ⟨B, 1, none⟩ = some (.int .i64 most) := (cell_of hB 1).trans rfl
  have hm' : ((ol : Int) == most) = false := by simpa using hm
  rw [enter_at _ Try.func48 code48_is]
  simp only [Try.ntmps48, List.size_toArray, List.length_cons, List.length_nil, Nat.reduceAdd, Nat.reduceSub, Array.replicate_succ, Array.replicate_zero, List.push_toArray, List.append_toArray, List.nil_append, List.cons_append]
  repeat (first | refine Walk.c rfl ?_ | refine Walk.cRet ?_ | refine Walk.cEnd ?_ | (refine Walk.cReg ?_; simp only [size48_0, size48_1, size48_2, size48_3, size48_4, size48_5, size48_6, size48_7, size48_8, size48_9, size48_10, size48_11, size48_12, size48_13, size48_14, List.range, List.range.loop]) | (refine Walk.oq ?_; try walk_nrm) | (refine Walk.un ?_; walk_nrm))
  (refine Walk.drawnC (by kernel_rfl) size48_1 (by kernel_rfl) (by kernel_rfl) (by decide) ?_; simp only [List.range, List.range.loop]; repeat (first | (refine Cm.opqA (ho_of (by conv => lhs; whnf) (by kernel_rfl)) (by rfl) (fun dd e he => ?_) ?_; (· (simp [go_sem, *] at he; try (subst he; exact evR_read _ _))); apply Exists.intro; apply And.intro; (· (intro dd K hK; go_simp; exact hK))) | (refine Cm.unw (ho_of (by conv => lhs; whnf) (by kernel_rfl)) (by rfl) ?_; walk_nrm)))
  refine Cm.callV (x := .bool ((List.range n).all f)) ?_ (ho_of (by conv => lhs; whnf) (by kernel_rfl)) (by rfl) rfl Try.func50 (by kernel_rfl) (by rfl) ?_
  · intro w' e
    subst e
    walk_nrm
    exact over50_w ea n ec f hn w' ha
  rw [hall]
  walk_nrm
  repeat (first | (refine Cm.opqA (ho_of (by conv => lhs; whnf) (by kernel_rfl)) (by rfl) (fun dd e he => ?_) ?_; (· (simp [go_sem, *] at he; try (subst he; exact evR_read _ _))); apply Exists.intro; apply And.intro; (· (intro dd K hK; go_simp; exact hK))) | (refine Cm.unw (ho_of (by conv => lhs; whnf) (by kernel_rfl)) (by rfl) ?_; walk_nrm))
  refine Cm.done ?_
  try simp only [hm']
  repeat (first | refine Walk.c rfl ?_ | refine Walk.cRet ?_ | refine Walk.cEnd ?_ | (refine Walk.cReg ?_; simp only [size48_0, size48_1, size48_2, size48_3, size48_4, size48_5, size48_6, size48_7, size48_8, size48_9, size48_10, size48_11, size48_12, size48_13, size48_14, List.range, List.range.loop]) | (refine Walk.oq ?_; try walk_nrm) | (refine Walk.un ?_; walk_nrm))
  refine Walk.ctl rfl (fun w => stepG_loop) ?_
  refine .stop fun d => ⟨at_slots ?_, d, rfl⟩
  simp only [hd48]
  rfl
end
end Go.Proofs.Ytgiiicdpbdfemaa
namespace Go.Relay
section
open Go.Conc Go.RowKit
open Go.ConcN (upd upd_ne upd_same)
section
variable {P : Program} {main : Bool} {V : Nat → Option Wait} {ops : Array Oper} {Z : World → Prop} {w : World} {K : Act → Prop} {i : Nat} {rest : List Nat} {a : Act} {o : Oper}
theorem Cm.opqZ (ho : ops[i]? = some o) (hw : Region.wanted o (yielded ops a.tmps) = true) (he : ∀ w, Z w → ∀ d, ∀ e ∈ (execOp a.eval o).events P (w.at d) #[], EvR V e)
    (h : ∃ a', (∀ w, Z w → ∀ d, ∀ K' : Act → World → Prop, K' a' (w.at d) → uponK o a K' ((execOp a.eval o).run P (w.at d))) ∧ Cm P main V ops Z K rest a') : Cm P main V ops Z K (i :: rest) a := by
  obtain ⟨a', h1, h2⟩ := h
  exact Cm.opq ho hw he h1 h2
theorem pre_skip {q : Nat → Bool} {i : Nat} (h : q i = false) (vals : Nat → Value) (a : Act) : puts ops vals (fun j => decide (j < i + 1) && q j) a = puts ops vals (fun j => decide (j < i) && q j) a :=
  puts_congr (fun j _ => ⟨by
    by_cases e : j = i
    · subst e; simp [h]
    · have : (decide (j < i + 1) : Bool) = decide (j < i) := by by_cases hl : j < i <;> simp [hl] <;> omega
      rw [this], fun _ => rfl⟩) a
theorem pre_take {m : Nat} {q : Nat → Bool} (hc : calmB ops m = true) (hi : i < m) (h : q i = true) (vals : Nat → Value) (ho : ops[i]? = some o) (a : Act) : puts ops vals (fun j => decide (j < i + 1) && q j) a = (puts ops vals (fun j => decide (j < i) && q j) a).put o.dst (vals i) := by
  rw [← puts_upd hc hi vals (f := fun j => decide (j < i) && q j) (by simp) ho a]
  refine puts_congr (fun j _ => ⟨?_, fun _ => rfl⟩) a
  by_cases e : j = i
  · subst e; simp [h, upd_same]
  · rw [upd_ne _ _ e]
    have : (decide (j < i + 1) : Bool) = decide (j < i) := by by_cases hl : j < i <;> simp [hl] <;> omega
    rw [this]
theorem cm_valsQ {m : Nat} {q : Nat → Bool} (hz : Z w) (hc : calmB ops m = true) : ∀ (r i : Nat) (vals : Nat → Value) (a0 : Act), i + r = m → Cm P main V ops Z K ((List.range' i r).filter q) (puts ops vals (fun j => decide (j < i) && q j) a0) →
    ∃ vals', (∀ j, j < i → vals' j = vals j) ∧ (∀ j o, i ≤ j → j < m → q j = true → ops[j]? = some o → CondU P main V ops Z o (puts ops vals' (fun x => decide (x < j) && q x) a0) (vals' j)) ∧ K (puts ops vals' (fun j => decide (j < m) && q j) a0)
  | 0, i, vals, a0, hi, h => by
    have hi : i = m := hi
    refine ⟨vals, fun _ _ => rfl, fun j o hj hjm _ ho => ?_, ?_⟩
    · omega
    · rw [← hi]; exact h
  | r + 1, i, vals, a0, hi, h => by
    rw [List.range'_succ] at h
    cases hq : q i with
    | false =>
      rw [List.filter_cons_of_neg (by simp [hq]), ← pre_skip hq] at h
      obtain ⟨vals', k1, k2, k3⟩ := cm_valsQ hz hc r (i + 1) vals a0 (by omega) h
      refine ⟨vals', fun j hj => k1 j (by omega), fun j o hj hjm hqj ho => ?_, k3⟩
      by_cases e : j = i
      · rw [e, hq] at hqj; cases hqj
      · exact k2 j o (by omega) hjm hqj ho
    | true =>
      rw [List.filter_cons_of_pos hq] at h
      obtain ⟨o, a', ho, hn, hcond⟩ := h
      generalize hX : puts ops vals (fun j => decide (j < i) && q j) a0 = X at *
      obtain ⟨v, hv, hcond⟩ : ∃ v, a' = X.put o.dst v ∧ CondU P main V ops Z o X v := by
        rcases hcond with ⟨h1, h2⟩ | ⟨h1, h2, h3⟩ | ⟨h1, f, fn, args, ats, x, e1, e2, e3, e4, e5, e6⟩
        · exact ⟨undef, h2, .inl ⟨h1, rfl⟩⟩
        · have h0 := h3 w hz 0
          obtain ⟨v, hv⟩ : ∃ v, a' = X.put o.dst v := by
            revert h0
            generalize (execOp _ o).run P (w.at 0) = rr
            intro h0
            unfold uponK at h0
            split at h0
            · exact ⟨_, h0.1.symm⟩
            · exact ⟨_, h0.1.symm⟩
            · exact h0.elim
          exact ⟨v, hv, .inr (.inl ⟨h1, h2, hv ▸ h3⟩)⟩
        · exact ⟨x, e6, .inr (.inr ⟨h1, f, fn, args, ats, e1, e2, e3, e4, e5⟩)⟩
      have hpre : puts ops (upd vals i v) (fun j => decide (j < i) && q j) a0 = X := by
        rw [← hX]
        exact puts_congr (fun j _ => ⟨rfl, fun hd => upd_ne _ _ (by have := of_decide_eq_true (Bool.and_eq_true _ _ ▸ hd : _ ∧ _).1; omega)⟩) a0
      have hs := pre_take hc (by omega) hq (upd vals i v) ho a0
      rw [hpre, upd_same, ← hv] at hs
      rw [← hs] at hn
      obtain ⟨vals', k1, k2, k3⟩ := cm_valsQ hz hc r (i + 1) (upd vals i v) a0 (by omega) hn
      refine ⟨vals', fun j hj => (k1 j (by omega)).trans (upd_ne _ _ (by omega)), fun j o' hj hjm hqj ho' => ?_, k3⟩
      by_cases e : j = i
      · subst e
        rw [ho] at ho'
        cases ho'
        have e1 : puts ops vals' (fun x => decide (x < j) && q x) a0 = X := by
          rw [← hpre]
          exact puts_congr (fun x _ => ⟨rfl, fun hd => k1 x (by have := of_decide_eq_true (Bool.and_eq_true _ _ ▸ hd : _ ∧ _).1; omega)⟩) a0
        have e2 : vals' j = v := (k1 j (by omega)).trans (upd_same _ _ _)
        rw [e1, e2]
        exact hcond
      · exact k2 j o' (by omega) hjm hqj ho'
end
section
variable {P : Program} {main : Bool} {V : Nat → Option Wait} {Stop : Goroutine → World → Prop} {b : Frame} {k : List Item} {cs : List Frame} {ops : Array Oper} {w : World} {a : Act}
theorem Walk.calmOpG {Z : World → Prop} {m i : Nat} (hz : Z w) {o : Oper} {vals : Nat → Value} {f g : Nat → Bool} {rest : List Nat} (hc : calmB ops m = true) (hk : b.kind ≠ .early) (hi : i < m) (ho : ops[i]? = some o) (hd : ∀ e ∈ o.after, Region.binds .any e = true → f e.on = true)
    (hg : ∀ (j : Nat) (p : Oper) (t : Nat), ops[j]? = some p → p.dst = some t → t ∈ o.looksAt ops → j < i → g j = true)
    (hcond : CondU P main V ops Z o (puts ops vals g a) (vals i)) (hr' : Walk P main (DR V) Stop (G (b.at ((puts ops vals f a).put o.dst (vals i)) (.inRegion ops rest :: k)) cs) w) :
    Walk P main (DR V) Stop (G (b.at (puts ops vals f a) (.inRegion ops (i :: rest) :: k)) cs) w := by
  obtain ⟨hsel, ⟨t0, ht0, hself⟩, hdist⟩ := calm_at hc hi ho
  have hlook : ∀ t ∈ o.looksAt ops, (puts ops vals f a).tmps[t]? = (puts ops vals g a).tmps[t]? := fun t ht => slot_congr _ a a rfl fun j hj hjd => by
    have hjl := List.mem_range.1 hj
    have hoj := Array.getElem?_eq_getElem hjl
    have hne : j ≠ i := fun e => by
      subst e
      rw [dst_of ho, ht0] at hjd
      cases hjd
      exact hself ht
    rw [hoj] at hjd
    obtain ⟨h1, h2⟩ := (hdist j _ hoj hne).2 t hjd ht
    exact ⟨(waits_at h2 ho hd).trans (hg j _ t hoj hjd ht h1).symm, rfl⟩
  obtain ⟨s1, s2, s3⟩ := same_look hlook hsel
  have hsz : (puts ops vals f a).tmps.size = (puts ops vals g a).tmps.size := by
    unfold puts
    rw [putsL_size, putsL_size]
  have hput : ∀ v, (puts ops vals g a).put o.dst v = (puts ops vals g a).put o.dst (vals i) → (puts ops vals f a).put o.dst v = (puts ops vals f a).put o.dst (vals i) := fun v e => by
    refine act_ext (fun t => ?_) (by rw [put_defers, put_defers])
    rw [put_slot, put_slot]
    split
    · next e' =>
      have h1 : ((puts ops vals g a).put o.dst v).tmps[t]? = ((puts ops vals g a).put o.dst (vals i)).tmps[t]? := by rw [e]
      rw [put_slot, put_slot, if_pos e', if_pos e'] at h1
      by_cases hl : t < (puts ops vals f a).tmps.size
      · rw [Array.getElem?_eq_getElem (hsz ▸ hl)] at h1
        simp only [Option.map_some] at h1
        rw [Array.getElem?_eq_getElem hl]
        exact h1
      · rw [Array.getElem?_eq_none (by omega)]; rfl
    · rfl
  rcases hcond with ⟨c1, c2⟩ | ⟨c1, c2, c3⟩ | ⟨c1, f', fn, args, ats, e1, e2, e3, e4, e5⟩
  · rw [← s2] at c1
    rw [c2] at hr'
    exact Walk.ctl rfl (fun w => stepG_unwanted ho c1) hr'
  · rw [← s2] at c1
    rw [← s1] at c2 c3
    refine Walk.opq ho c1 hk (c2 w hz) fun d' K hK => ?_
    have h3 := c3 w hz d'
    revert h3
    generalize (execOp (puts ops vals f a).eval o).run P (w.at d') = rr
    intro h3
    unfold uponK at h3 ⊢
    split at h3
    · obtain ⟨x1, rfl⟩ := h3
      refine hK _ ?_
      rw [hput _ x1]; exact hr'
    · obtain ⟨x1, rfl⟩ := h3
      refine hK _ ?_
      rw [hput _ x1]; exact hr'
    · exact h3.elim
  · rw [← s2] at c1
    have hargs : args.map (puts ops vals f a).eval = args.map (puts ops vals g a).eval := Array.map_congr_left fun x hx => s3 x (by rw [e1]; simp [Op.operands, Call.operands, hx])
    rw [← hargs] at e5
    exact Walk.callV (e5 w hz) ho c1 hk e1 e2 e3 e4 hr'
def apartB (ops : Array Oper) (iA iB m : Nat) : Bool := decide (iA < iB) && decide (iB < m) && waitsB ops iB iA && (List.range m).all fun i => decide (i = iA) || decide (i = iB) || (ops[i]?).any fun o =>
  !(o.looksAt ops).any (fun t => (ops[iA]?).bind (·.dst) == some t) && !(o.looksAt ops).any (fun t => (ops[iB]?).bind (·.dst) == some t)
def quietQ (iA iB : Nat) (j : Nat) : Bool := !decide (j = iA) && !decide (j = iB)
theorem look_full {m i : Nat} {o : Oper} {vals vals' : Nat → Value} {f g : Nat → Bool} (hc : calmB ops m = true) (hi : i < m) (ho : ops[i]? = some o) (hd : ∀ e ∈ o.after, Region.binds .any e = true → f e.on = true) (hg : ∀ j, j < i → g j = true ∧ vals j = vals' j) (a : Act) :
    ∀ y ∈ o.op.operands, (puts ops vals f a).eval y = (puts ops vals' g a).eval y := by
  obtain ⟨hsel, ⟨t0, ht0, hself⟩, hdist⟩ := calm_at hc hi ho
  have hlook : ∀ t ∈ o.looksAt ops, (puts ops vals f a).tmps[t]? = (puts ops vals' g a).tmps[t]? := fun t ht => slot_congr _ a a rfl fun j hj hjd => by
    have hjl := List.mem_range.1 hj
    have hoj := Array.getElem?_eq_getElem hjl
    have hne : j ≠ i := fun e => by
      subst e
      rw [dst_of ho, ht0] at hjd
      cases hjd
      exact hself ht
    rw [hoj] at hjd
    obtain ⟨h1, h2⟩ := (hdist j _ hoj hne).2 t hjd ht
    obtain ⟨g1, g2⟩ := hg j h1
    exact ⟨(waits_at h2 ho hd).trans g1.symm, g2⟩
  exact (same_look hlook hsel).2.2
theorem Walk.drawnT {id m iA iB : Nat} {Z : World → Prop} {w1 : World} {oA oB : Oper} {vA : Value} (PB : Value → World → Prop) (hm : P.follows .mixedOrders = true) (hsz : ops.size = m + 1) (hlow : lowB ops = true) (hc : calmB ops m = true) (hl : lastB ops m = true) (hap : apartB ops iA iB m = true) (hk : b.kind ≠ .early)
    (hoA : ops[iA]? = some oA) (hoB : ops[iB]? = some oB) (hz : Z w) (hz1 : Z w1) (hz2 : ∀ v w', PB v w' → Z w')
    (h : Cm P main V ops Z (fun aF => (∀ x, (∀ y ∈ oA.op.operands, x.eval y = aF.eval y) → OpW P main V Stop b k cs ops iA (fun x' w' => x' = x.put oA.dst vA ∧ ∃ d, w' = w1.at d) x w) ∧
      (∀ x, (∀ y ∈ oB.op.operands, x.eval y = (aF.put oA.dst vA).eval y) → OpW P main V Stop b k cs ops iB (fun x' w' => ∃ v w2, PB v w2 ∧ x' = x.put oB.dst v ∧ ∃ d, w' = w2.at d) x w1) ∧
      ∀ v w2, PB v w2 → OpW P main V Stop b k cs ops m (fun a' w' => Walk P main (DR V) Stop (G (b.at a' (.inRegion ops [] :: k)) cs) w') ((aF.put oA.dst vA).put oB.dst v) w2) ((List.range m).filter (quietQ iA iB)) a) :
    Walk P main (DR V) Stop (G (b.at a (.code (.region id ops true) :: k)) cs) w := by
  unfold apartB at hap
  simp only [Bool.and_eq_true, decide_eq_true_eq] at hap
  obtain ⟨⟨⟨hAB, hBm⟩, hBA⟩, hq⟩ := hap
  rw [List.range_eq_range'] at h
  have hzero : puts ops (fun _ => undef) (fun j => decide (j < 0) && quietQ iA iB j) a = a := putsL_none _ a fun j _ => by simp
  rw [← hzero] at h
  obtain ⟨vals, _, hcond, hA, hB, hC⟩ := cm_valsQ (q := quietQ iA iB) hz hc m 0 (fun _ => undef) a (by omega) h
  clear h hzero
  generalize hvA : upd vals iA vA = va
  have hva : ∀ j, j ≠ iA → va j = vals j := fun j hj => by rw [← hvA]; exact upd_ne _ _ hj
  have hvaA : va iA = vA := by rw [← hvA]; exact upd_same _ _ _
  have qA : ∀ j, quietQ iA iB j = true ↔ j ≠ iA ∧ j ≠ iB := fun j => by simp [quietQ]
  have quiet : ∀ (vs : Nat → Value) (f : Nat → Bool) (i : Nat) (o : Oper) (rest : List Nat) (ww : World), (∀ j, j ≠ iA → j ≠ iB → vs j = vals j) → Z ww → i < m → i ≠ iA → i ≠ iB → f i = false → ops[i]? = some o → (∀ e ∈ o.after, Region.binds .any e = true → f e.on = true) →
      Walk P main (DR V) Stop (G (b.at (puts ops vs (upd f i true) a) (.inRegion ops rest :: k)) cs) ww → Walk P main (DR V) Stop (G (b.at (puts ops vs f a) (.inRegion ops (i :: rest) :: k)) cs) ww := by
    intro vs f i o rest ww hvs hzw him h1 h2 hf ho hd hr
    rw [puts_upd hc him vs hf ho a] at hr
    have hcd := hcond i o (Nat.zero_le _) him ((qA i).2 ⟨h1, h2⟩) ho
    have e : puts ops vals (fun x => decide (x < i) && quietQ iA iB x) a = puts ops vs (fun x => decide (x < i) && quietQ iA iB x) a := puts_congr (fun j _ => ⟨rfl, fun hd => by
      have := (qA j).1 (Bool.and_eq_true _ _ ▸ hd : _ ∧ _).2
      exact (hvs j this.1 this.2).symm⟩) a
    rw [e, ← hvs i h1 h2] at hcd
    refine Walk.calmOpG hzw hc hk him ho hd (fun j p t hj ht hm hji => ?_) hcd hr
    have hh := List.all_eq_true.1 hq i (List.mem_range.2 him)
    rw [ho] at hh
    simp only [decide_eq_false h1, decide_eq_false h2, Bool.false_or, Option.any_some, Bool.and_eq_true, Bool.not_eq_true'] at hh
    have hjA : j ≠ iA := fun e' => by
      subst e'
      rw [hj] at hh
      have : (o.looksAt ops).any (fun t => (some p).bind (·.dst) == some t) = true := List.any_eq_true.2 ⟨t, hm, by simp [ht]⟩
      rw [this] at hh
      exact absurd hh.1 (by simp)
    have hjB : j ≠ iB := fun e' => by
      subst e'
      rw [hj] at hh
      have : (o.looksAt ops).any (fun t => (some p).bind (·.dst) == some t) = true := List.any_eq_true.2 ⟨t, hm, by simp [ht]⟩
      rw [this] at hh
      exact absurd hh.2 (by simp)
    simp [hji, (qA j).2 ⟨hjA, hjB⟩]
  have eA : puts ops va (upd (fun j => decide (j < m) && quietQ iA iB j) iA true) a = (puts ops vals (fun j => decide (j < m) && quietQ iA iB j) a).put oA.dst vA := by
    rw [puts_upd hc (by omega) va (by simp [quietQ]) hoA a, hvaA]
    congr 1
    exact puts_congr (fun j _ => ⟨rfl, fun hd => hva j ((qA j).1 (Bool.and_eq_true _ _ ▸ hd : _ ∧ _).2).1⟩) a
  refine Walk.drawnJ (Inv := fun f x w' => (f m = true ∧ (∀ j, j < m → f j = true) ∧ Walk P main (DR V) Stop (G (b.at x (.inRegion ops [] :: k)) cs) w') ∨ (f m = false ∧ f iB = false ∧ x = puts ops va f a ∧ ∃ d, w' = (if f iA then w1 else w).at d) ∨
    (f m = false ∧ f iB = true ∧ f iA = true ∧ ∃ v w2, PB v w2 ∧ x = puts ops (upd va iB v) f a ∧ ∃ d, w' = w2.at d)) hm hlow (fun d => .inr (.inl ⟨rfl, rfl, (puts_zero va a).symm, d, rfl⟩)) ?_ ?_
  · rintro f i o x w' hI hC' hf ho hd rest hr
    have hi : i < m + 1 := by have := (Array.getElem?_eq_some_iff.1 ho).1; omega
    rcases hI with ⟨h1, h2, _⟩ | ⟨h1, h2, rfl, d, rfl⟩ | ⟨h1, h2, h3, v, w2, hPB, rfl, d, rfl⟩
    · exfalso
      by_cases e : i = m
      · rw [e, h1] at hf; cases hf
      · rw [h2 i (by omega)] at hf; cases hf
    · refine Walk.back ?_ d
      by_cases e : i = m
      · subst e
        have := last_all hl hC' ho hd (i - iB) iB (by omega) (by omega)
        rw [h2] at this; cases this
      by_cases eiA : i = iA
      · subst eiA
        rw [hoA] at ho
        cases ho
        rw [hf, if_neg (by simp)]
        refine hA _ (look_full hc (by omega) hoA hd (fun j hj => ⟨by simp [quietQ]; omega, hva j (by omega)⟩) a) rest ?_
        rintro x' w' ⟨rfl, d', rfl⟩
        refine hr _ _ (.inr (.inl ⟨by rw [upd_ne _ _ (by omega)]; exact h1, by rw [upd_ne _ _ (by omega)]; exact h2, ?_, d', by rw [upd_same]; rfl⟩))
        rw [puts_upd hc (by omega) va hf hoA a, hvaA]
      by_cases eiB : i = iB
      · subst eiB
        rw [hoB] at ho
        cases ho
        have hfA : f iA = true := waits_at hBA hoB hd
        rw [hfA, if_pos rfl]
        refine hB _ ?_ rest ?_
        · rw [← eA]
          exact look_full hc hBm hoB hd (fun j hj => ⟨by
            by_cases ej : j = iA
            · rw [ej, upd_same]
            · rw [upd_ne _ _ ej]
              simp [quietQ, ej]; omega, rfl⟩) a
        · rintro x' w' ⟨v, w2, hPB, rfl, d', rfl⟩
          refine hr _ _ (.inr (.inr ⟨by rw [upd_ne _ _ (by omega)]; exact h1, upd_same _ _ _, by rw [upd_ne _ _ (by omega)]; exact hfA, v, w2, hPB, ?_, d', rfl⟩))
          rw [puts_upd hc hBm (upd va i v) hf hoB a, upd_same]
          congr 1
          exact puts_congr (fun j _ => ⟨rfl, fun hj => (upd_ne _ _ (fun e' => by rw [e', hf] at hj; cases hj)).symm⟩) a
      · refine quiet va f i o rest _ (fun j h _ => hva j h) ?_ (by omega) eiA eiB hf ho hd ?_
        · split
          · exact hz1
          · exact hz
        · refine (hr _ (((if f iA then w1 else w)).at ((if f iA then w1 else w)).drawn) (.inr (.inl ⟨by rw [upd_ne _ _ (by omega)]; exact h1, by rw [upd_ne _ _ (Ne.symm eiB)]; exact h2, rfl, _, by rw [upd_ne _ _ (Ne.symm eiA)]⟩)))
    · refine Walk.back ?_ d
      by_cases e : i = m
      · subst e
        have hall := last_all hl hC' ho hd
        have ef : puts ops (upd va iB v) f a = ((puts ops vals (fun j => decide (j < i) && quietQ iA iB j) a).put oA.dst vA).put oB.dst v := by
          have e1 : puts ops va (upd (fun j => decide (j < i) && quietQ iA iB j) iA true) a = puts ops (upd va iB v) (upd (fun j => decide (j < i) && quietQ iA iB j) iA true) a := puts_congr (fun j _ => ⟨rfl, fun hj => (upd_ne _ _ (fun e' => by
            rw [e', upd_ne _ _ (by omega)] at hj
            simp [quietQ] at hj)).symm⟩) a
          have e2 := puts_upd hc hBm (upd va iB v) (f := upd (fun j => decide (j < i) && quietQ iA iB j) iA true) (by rw [upd_ne _ _ (by omega)]; simp [quietQ]) hoB a
          rw [upd_same, ← e1, eA] at e2
          rw [← e2]
          refine puts_congr (fun j hj => ⟨?_, fun _ => rfl⟩) a
          by_cases ej : j = iB
          · rw [ej, upd_same, h2]
          · rw [upd_ne _ _ ej]
            by_cases ej2 : j = iA
            · rw [ej2, upd_same, h3]
            · rw [upd_ne _ _ ej2]
              by_cases hji : j < i
              · rw [hall (i - j) j (by omega) (by omega)]
                simp [hji, quietQ, ej, ej2]
              · have : j = i := by omega
                rw [this, hf]; simp
        rw [ef]
        refine hC v w2 hPB rest fun a' w' hw' => hr a' w' (.inl ⟨upd_same _ _ _, fun j hj => ?_, hw'⟩)
        rw [upd_ne _ _ (by omega)]
        exact hall (i - j) j (by omega) (by omega)
      · have n1 : i ≠ iA := fun e' => by rw [e', h3] at hf; cases hf
        have n2 : i ≠ iB := fun e' => by rw [e', h2] at hf; cases hf
        refine quiet (upd va iB v) f i o rest _ (fun j h h' => (upd_ne _ _ h').trans (hva j h)) (hz2 v w2 hPB) (by omega) n1 n2 hf ho hd ?_
        exact hr _ (w2.at w2.drawn) (.inr (.inr ⟨by rw [upd_ne _ _ (by omega)]; exact h1, by rw [upd_ne _ _ (Ne.symm n2)]; exact h2, by rw [upd_ne _ _ (Ne.symm n1)]; exact h3, v, w2, hPB, rfl, _, rfl⟩))
  · rintro f x w' hI hall
    rcases hI with ⟨_, _, h3⟩ | ⟨h1, _⟩ | ⟨h1, _⟩
    · exact h3
    · rw [hall m (by omega)] at h1; cases h1
    · rw [hall m (by omega)] at h1; cases h1
end
end
end Go.Relay
namespace Go.Proofs.Ytgiiicdpbdfemaa
open Go.Conc Go.RowKit Go.Relay
open Go.ConcN (upd upd_ne upd_same)
section
variable {main : Bool}
structure RtIs (p : Nat) (cv : Value) (pc : Int) (t : Th) (e : Bool) (ta : Option Addr) (tc : Nat) (w : World) : Prop where
  blk : w.heap[p]? = some (.cells (rtArr cv pc t.regs (.slice ta t.told.length tc) e) 105)
  row : w.ownsRow 0 38 3 (.slice ta t.told.length tc) t.told.length (ansCells t.told)
  own : (Value.slice ta t.told.length tc).ownBlock ≠ some p
structure RtTo (p : Nat) (cv : Value) (pc : Int) (t' : Th) (e : Bool) (ta : Option Addr) (n tc : Nat) (w w' : World) : Prop where
  is : ∃ ta' tc', RtIs p cv pc t' e ta' tc' w' ∧ ∀ g, (Value.slice ta' t'.told.length tc').ownBlock = some g → (Value.slice ta n tc).ownBlock = some g ∨ w.heap.size ≤ g
  keep : Keep p (.slice ta n tc) w w'
section
variable {p : Nat} {cv : Value} {pc pc' : Int} {t t' : Th} {e e' : Bool} {ta : Option Addr} {n tc : Nat} {w w1 w' : World}
theorem RtIs.at (H : RtIs p cv pc t e ta tc w) (d : Nat) : RtIs p cv pc t e ta tc (w.at d) := ⟨H.blk, H.row, H.own⟩
theorem RtTo.at (H : RtTo p cv pc t' e ta n tc w w') (d : Nat) : RtTo p cv pc t' e ta n tc w (w'.at d) := by
  obtain ⟨ta', tc', h, hg⟩ := H.is
  exact ⟨⟨ta', tc', h.at d, hg⟩, H.keep.size, H.keep.same⟩
theorem RtIs.lt (H : RtIs p cv pc t e ta tc w) : p < w.heap.size := (Array.getElem?_eq_some_iff.1 H.blk).1
theorem RtTo.of (H : RtIs p cv pc t e ta tc w) (hs : w.heap.size ≤ w'.heap.size) (hsame : ∀ b, b < w.heap.size → b ≠ p → w'.heap[b]? = w.heap[b]?) (hb : w'.heap[p]? = some (.cells (rtArr cv pc' t'.regs (.slice ta t'.told.length tc) e') 105)) (ht : t'.told = t.told) : RtTo p cv pc' t' e' ta t.told.length tc w w' := by
  refine ⟨⟨ta, tc, ⟨hb, ?_, ?_⟩, fun g hg => .inl (by rw [← ht]; exact hg)⟩, hs, fun b hb' h1 _ => hsame b hb' h1⟩
  · rw [ht]
    exact row_same H.row fun g hg => hsame g (H.row.lt g hg).2 (fun e => H.own (by rw [hg, e]))
  · rw [ht]; exact H.own
theorem RtTo.trans {t1 : Th} {e1 : Bool} {pc1 : Int} {ta1 : Option Addr} {tc1 : Nat} (hk : Keep p (.slice ta n tc) w w1) (hg : ∀ g, (Value.slice ta1 t1.told.length tc1).ownBlock = some g → (Value.slice ta n tc).ownBlock = some g ∨ w.heap.size ≤ g) (H : RtTo p cv pc1 t' e1 ta1 t1.told.length tc1 w1 w') : RtTo p cv pc1 t' e1 ta n tc w w' := by
  obtain ⟨ta', tc', h, hg'⟩ := H.is
  have hs := hk.size
  refine ⟨⟨ta', tc', h, fun g hx => ?_⟩, Nat.le_trans hs H.keep.size, fun b hb h1 h2 => ?_⟩
  · rcases hg' g hx with h | h
    · exact hg g h
    · exact .inr (Nat.le_trans hs h)
  · refine (H.keep.same b (Nat.lt_of_lt_of_le hb hs) h1 fun e => ?_).trans (hk.same b hb h1 h2)
    rcases hg b e with h | h
    · exact h2 h
    · exact absurd hb (Nat.not_lt.2 h)
end
theorem own75_tell (p X kr : Nat) (hkr : kr < 4) (cv : Value) (pc : Int) (t : Th) (e : Bool) (ta : Option Addr) (tc : Nat) (a b : Int) (u : Nat → Value) (c : Frame) (cs : List Frame) (w : World) (H : RtIs p cv pc t e ta tc w) (x0 : w.cell? ⟨X, 0, none⟩ = some (.int .i64 6)) (hlen : t.told.length < 1099511627776) :
    Walk Try.prog main (DR (fun _ => none)) (fun g w' => g = G (c.finish (.tuple #[])) cs ∧ RtTo p cv pc { t with told := t.told ++ [t.regs kr] } e ta t.told.length tc w w') (G (at75 p X (kr : Nat) a b u) (c :: cs)) w := by
  have h3 : w.cell? ⟨p, 6, none⟩ = some (.slice ta t.told.length tc) := (cell_of H.blk 6).trans rfl
  have hr := (cell_of H.blk _).trans (rt_get cv pc t.regs (.slice ta t.told.length tc) e hkr)
  have hk4 : (kr : Int) < 4 := by omega
  have hia := fun (a : Addr) (w : World) (es : Array Event) => events_indexAt_array (P := Try.prog) (w := w) (es := es) 103 2 4 a .i64 (kr : Int) (by kernel_rfl) ⟨by omega, hk4⟩
  have hsz1 : (ansW w (t.regs kr)).heap.size = w.heap.size + 1 := by simp [ansW]
  have hO1 : Old w (ansW w (t.regs kr)) := old_alloc w _
  have hown' : (ansW w (t.regs kr)).ownsRow 0 38 3 (.slice ta t.told.length tc) t.told.length (ansCells t.told) := row_same H.row fun g hg => hO1.same g (H.row.lt g hg).2
  have hnews : ∀ (j : Nat) (u : Value), ([.bool true, .int .i64 (t.regs kr), .slice none 0 0] : List Value)[j]? = some u → (ansW w (t.regs kr)).cell? ((⟨w.heap.size, 0, none⟩ : Addr).add j) = some u := fun j u hu => by
    rw [add_none, Nat.zero_add]
    refine (cell_of (heap_alloc_new _ _) j).trans ?_
    simpa using hu
  unfold at75
  repeat (first | refine Walk.c rfl ?_ | refine Walk.cRet ?_ | refine Walk.cEnd ?_ | (refine Walk.cReg ?_; simp only [size75_0, size75_1, size75_2, size75_3, size75_4, size75_5, size75_6, size75_7, size75_8, size75_9, size75_10, size75_11, size75_12, size75_13, size75_14, size75_15, size75_16, size75_17, size75_18, size75_19, size75_20, size75_21, size75_22, List.range, List.range.loop]) | (refine Walk.oq ?_; try walk_nrm) | (refine Walk.un ?_; walk_nrm))
  refine Walk.drawnT (iA := 12) (iB := 13) (w1 := ansW w (t.regs kr)) (vA := .slice (some ⟨w.heap.size, 0, none⟩) 1 1) (Z := fun x => x.cell? ⟨p, 6, none⟩ = some (.slice ta t.told.length tc) ∧ x.cell? ⟨p, 2 + kr, none⟩ = some (.int .i64 (t.regs kr)))
    (fun v w2 => ∃ g cap, v = .slice (some ⟨g, 0, none⟩) (t.told.length + 1) cap ∧ App 0 w (t.regs kr) ta t.told.length tc (ansCells t.told) g cap w2) (by kernel_rfl) size75_18 (by kernel_rfl) (by kernel_rfl) (by kernel_rfl) (by kernel_rfl) (by decide) (ho_of (by conv => lhs; whnf) (by kernel_rfl)) (ho_of (by conv => lhs; whnf) (by kernel_rfl)) ⟨h3, hr⟩ ⟨old_cell hO1 h3, old_cell hO1 hr⟩ ?_ ?_
  · rintro v w2 ⟨g, cap, _, hA⟩
    have hb : w2.heap[p]? = w.heap[p]? := (hA.grown.block p (by have := H.lt; omega) (fun e => H.own e.symm)).trans (hO1.same p H.lt)
    exact ⟨(World.cell?_of_block (a := ⟨p, 6, none⟩) hb).trans h3, (World.cell?_of_block (a := ⟨p, 2 + kr, none⟩) hb).trans hr⟩
  rw [show List.filter (quietQ 12 13) (List.range 16) = [0, 1, 2, 3, 4, 5, 6, 7, 8, 9, 10, 11, 14, 15] from by decide]
  repeat (first | (refine Cm.opqZ (ho_of (by conv => lhs; whnf) (by kernel_rfl)) (by rfl) (fun wz hz dd e he => ?_) ?_; (· (obtain ⟨z1, z2⟩ := hz; simp [go_sem, *] at he; try (subst he; exact evR_read _ _))); apply Exists.intro; apply And.intro; (· (intro wz hz dd K hK; obtain ⟨z1, z2⟩ := hz; go_simp; exact hK))) | (refine Cm.unw (ho_of (by conv => lhs; whnf) (by kernel_rfl)) (by rfl) ?_; walk_nrm))
  refine Cm.done ⟨?_, ?_, ?_⟩
  · intro x hev rest hr'
    have e86 : x.eval (.tmp 86) = .agg #[.bool true, .int .i64 (t.regs kr), .slice none 0 0] := (hev (.tmp 86) (by simp [Op.operands])).trans rfl
    have e86' : x.tmps[86]?.getD undef = .agg #[.bool true, .int .i64 (t.regs kr), .slice none 0 0] := by
      rw [← Array.getD_eq_getD_getElem?]
      exact e86
    clear e86 hev
    (refine Walk.oa ?_; try walk_nrm)
    exact hr' _ _ ⟨rfl, _, rfl⟩
  · intro x hev rest hr'
    have e79 : x.eval (.tmp 79) = .slice ta t.told.length tc := (hev (.tmp 79) (by simp [Op.operands, Call.operands])).trans rfl
    have e87 : x.eval (.tmp 87) = .slice (some ⟨w.heap.size, 0, none⟩) 1 1 := (hev (.tmp 87) (by simp [Op.operands, Call.operands])).trans rfl
    have hi38 := Option.some_get (show (Try.prog.info? 38).isSome = true by kernel_rfl)
    refine Walk.append (.tmp 79) (.tmp 87) 36 (ho_of (by conv => lhs; whnf) (by kernel_rfl)) (by rfl) (by decide) rfl 0 38 _ (.agg #[.bool false, .int .i64 0, .slice none 0 0]) 3 40 (by kernel_rfl) hi38.symm (by rfl) (by rfl) (by rfl) (by rfl) (by decide) (.slice ta t.told.length tc) t.told.length (ansCells t.told) e79 hown' ⟨w.heap.size, 0, none⟩ 1 1 [.bool true, .int .i64 (t.regs kr), .slice none 0 0] e87 (by rfl) hnews (by simp [Value.oneCell']) (by decide) (by simp [maxLen]; omega) (by omega) (Nat.zero_le _) (fun g _ => apart0 g) (fun g cap w3 hown hg hat hlt => ?_)
    exact hr' _ _ ⟨_, w3, ⟨g, cap, rfl, hown, hg, hat, hlt⟩, rfl, w3.drawn, rfl⟩
  rintro v w2 ⟨g, cap, rfl, hA⟩ rest hr'
  have hb : w2.heap[p]? = w.heap[p]? := (hA.grown.block p (by have := H.lt; omega) (fun e => H.own e.symm)).trans (hO1.same p H.lt)
  have h6 : w2.cell? ⟨p, 6, none⟩ = some (.slice ta t.told.length tc) := (World.cell?_of_block (a := ⟨p, 6, none⟩) hb).trans h3
  have hz6 : w2.frozen? ⟨p, 6, none⟩ = false := frozen_of (hb.trans H.blk) 6
  have hf6 : Free (fun _ => none) ⟨p, 6, none⟩ := (apart0 p).1 _ rfl
  (refine Walk.os hf6 h6 ?_; try walk_nrm)
  refine hr' _ _ ?_
  have hT : RtTo p cv pc { t with told := t.told ++ [t.regs kr] } e ta t.told.length tc w (w2.setCell ⟨p, 6, none⟩ (.slice (some ⟨g, 0, none⟩) (t.told.length + 1) cap)) := by
    have hl : (t.told ++ [t.regs kr]).length = t.told.length + 1 := by simp
    have hgp : g ≠ p := fun e => by
      rcases hA.hat with h | h
      · exact H.own (by rw [h, e])
      · have := H.lt; omega
    have hgs := hA.grown.size
    refine ⟨⟨some ⟨g, 0, none⟩, cap, ⟨?_, ?_, ?_⟩, fun g' hg' => ?_⟩, by rw [size_set]; omega, fun b hb h1 h2 => ?_⟩
    · rw [heap_set_self _ _ (hb.trans H.blk)]
      simp [rtArr]
    · simp only [hl]
      rw [ansCells_snoc]
      exact row_same hA.own fun g' hg' => by
        simp only [Value.ownBlock, Option.some.injEq] at hg'
        exact heap_set_other _ _ _ _ (by rw [← hg']; exact hgp)
    · simp [Value.ownBlock, hgp]
    · simp only [Value.ownBlock, Option.some.injEq] at hg'
      subst hg'
      rcases hA.hat with h | h
      · exact .inl h
      · exact .inr (by omega)
    · rw [heap_set_other _ _ _ _ h1]
      exact (hA.grown.block b (by omega) (fun e => h2 e.symm)).trans (hO1.same b hb)
  generalize w2.setCell ⟨p, 6, none⟩ (.slice (some ⟨g, 0, none⟩) (t.told.length + 1) cap) = w3 at *
  walk_nrm
  repeat (first | refine Walk.c rfl ?_ | refine Walk.cRet ?_ | refine Walk.cEnd ?_ | (refine Walk.cReg ?_; simp only [size75_0, size75_1, size75_2, size75_3, size75_4, size75_5, size75_6, size75_7, size75_8, size75_9, size75_10, size75_11, size75_12, size75_13, size75_14, size75_15, size75_16, size75_17, size75_18, size75_19, size75_20, size75_21, size75_22, List.range, List.range.loop]) | (refine Walk.oq ?_; try walk_nrm) | (refine Walk.un ?_; walk_nrm))
  exact (Walk.ret0 (Post := fun v w' => v = .tuple #[] ∧ ∃ d, w' = w3.at d) rfl rfl Try.func75 rfl fun d => ⟨rfl, d, rfl⟩).mono fun g w' ⟨v, ⟨hv, d, hd⟩, hg⟩ => ⟨by rw [hg, hv], by rw [hd]; exact hT.at d⟩
end
section
variable {main : Bool}
def AtOf (L : Nat) (pc at_ : Int) : Prop := at_ = pc ∨ (at_ = -1 ∧ ¬ (0 ≤ pc ∧ pc < L))
theorem own75_w (p k L cc : Nat) (ca : Option Addr) (t : Th) (e : Bool) (ta : Option Addr) (tc : Nat) (c : Cd) (w : World) (H : RtIs p (.slice ca L cc) (k : Nat) t e ta tc w) (hpc : t.pc = k) (hk : k < L) (hL : L ≤ 4398046511104) (hlen : t.told.length < 1099511627776) :
    CallW Try.prog main (fun _ => none) 75 #[.pointer (some ⟨p, 0, none⟩), .agg (cdArr c)] w (fun v w' => v = .tuple #[] ∧ ∃ at_, AtOf L (reckonX c t).pc at_ ∧ RtTo p (.slice ca L cc) at_ (reckonX c t) e ta t.told.length tc w w') := by
  intro fr cs
  refine (own75_in p k (.slice ca L cc) t.regs _ e c (fr :: cs) w H.blk (by omega)).then ?_
  rintro g w1 ⟨⟨u, rfl⟩, d, rfl⟩
  refine Walk.back ?_ d
  have hlt := H.lt
  have hO := old_alloc w (.cells (cdArr c) 96)
  have hX := heap_alloc_new w (.cells (cdArr c) 96)
  have hb1 : (w.alloc (.cells (cdArr c) 96)).heap[p]? = some (.cells (rtArr (.slice ca L cc) (k : Nat) t.regs (.slice ta t.told.length tc) e) 105) := (hO.same p hlt).trans H.blk
  generalize w.alloc (.cells (cdArr c) 96) = w1 at *
  have hXp : w.heap.size ≠ p := by omega
  have hb2 : (w1.setCell ⟨p, 1, none⟩ (.int .i64 ((k + 1 : Nat) : Int))).heap[p]? = some (.cells (rtArr (.slice ca L cc) ((k + 1 : Nat) : Int) t.regs (.slice ta t.told.length tc) e) 105) := by
    rw [heap_set_self _ _ hb1]
    simp [rtArr]
  have hX2 : (w1.setCell ⟨p, 1, none⟩ (.int .i64 ((k + 1 : Nat) : Int))).heap[w.heap.size]? = some (.cells (cdArr c) 96) := (heap_set_other _ _ _ _ hXp).trans hX
  have hsame : ∀ b, b < w.heap.size → b ≠ p → (w1.setCell ⟨p, 1, none⟩ (.int .i64 ((k + 1 : Nat) : Int))).heap[b]? = w.heap[b]? := fun b hb hne => (heap_set_other _ _ _ _ hne).trans (hO.same b hb)
  have hsz : w.heap.size ≤ (w1.setCell ⟨p, 1, none⟩ (.int .i64 ((k + 1 : Nat) : Int))).heap.size := by rw [size_set]; exact hO.size
  clear hX hb1 hO
  generalize w1.setCell ⟨p, 1, none⟩ (.int .i64 ((k + 1 : Nat) : Int)) = w2 at *
  generalize w.heap.size = X at hX2 hXp ⊢
  have x0 : w2.cell? ⟨X, 0, none⟩ = some (.int .i64 c.d) := (cell_of hX2 0).trans rfl
  have x4 : w2.cell? ⟨X, 4, none⟩ = some (.int .i64 c.v) := (cell_of hX2 4).trans rfl
  have hp1 : ((k + 1 : Nat) : Int) = t.pc + 1 := by rw [hpc]; simp
  have lr := regN_lt c.r
  have setr : ∀ (x : Int) (g : Goroutine) (w' : World), (g = G (fr.finish (.tuple #[])) cs ∧ ∃ d, w' = (w2.setCell ⟨p, 2 + regN c.r, none⟩ (.int .i64 x)).at d) → reckonX c t = { t with regs := upd t.regs (regN c.r) x, pc := t.pc + 1 } →
      ∃ v, (v = .tuple #[] ∧ ∃ at_, AtOf L (reckonX c t).pc at_ ∧ RtTo p (.slice ca L cc) at_ (reckonX c t) e ta t.told.length tc w w') ∧ g = G (fr.finish v) cs := by
    rintro x g w' ⟨hg, d, rfl⟩ hr
    refine ⟨_, ⟨rfl, ((k + 1 : Nat) : Int), .inl (by rw [hr]; exact hp1), ?_⟩, hg⟩
    rw [hr]
    refine (RtTo.of (t' := { t with regs := upd t.regs (regN c.r) x, pc := t.pc + 1 }) H (by rw [size_set]; exact hsz) (fun b hb hne => (heap_set_other _ _ _ _ hne).trans (hsame b hb hne)) ?_ rfl).at d
    rw [heap_set_self _ _ hb2]
    exact congrArg (fun a => some (Obj.cells a 105)) (rt_set _ _ _ _ _ lr x)
  have plain : ∀ (g : Goroutine) (w' : World), (g = G (fr.finish (.tuple #[])) cs ∧ ∃ d, w' = w2.at d) → reckonX c t = { t with pc := t.pc + 1 } →
      ∃ v, (v = .tuple #[] ∧ ∃ at_, AtOf L (reckonX c t).pc at_ ∧ RtTo p (.slice ca L cc) at_ (reckonX c t) e ta t.told.length tc w w') ∧ g = G (fr.finish v) cs := by
    rintro g w' ⟨hg, d, rfl⟩ hr
    refine ⟨_, ⟨rfl, ((k + 1 : Nat) : Int), .inl (by rw [hr]; exact hp1), ?_⟩, hg⟩
    rw [hr]
    exact (RtTo.of (t' := { t with pc := t.pc + 1 }) H hsz hsame hb2 rfl).at d
  have jump : ∀ (g : Goroutine) (w' : World), (g = G (fr.finish (.tuple #[])) cs ∧ ∃ d, w' = (if 0 ≤ c.v ∧ c.v < L then (w2.setCell ⟨p, 1, none⟩ (.int .i64 (-1))).setCell ⟨p, 1, none⟩ (.int .i64 c.v) else w2.setCell ⟨p, 1, none⟩ (.int .i64 (-1))).at d) → reckonX c t = { t with pc := c.v } →
      ∃ v, (v = .tuple #[] ∧ ∃ at_, AtOf L (reckonX c t).pc at_ ∧ RtTo p (.slice ca L cc) at_ (reckonX c t) e ta t.told.length tc w w') ∧ g = G (fr.finish v) cs := by
    rintro g w' ⟨hg, d, rfl⟩ hr
    have hb3 : (w2.setCell ⟨p, 1, none⟩ (.int .i64 (-1))).heap[p]? = some (.cells (rtArr (.slice ca L cc) (-1) t.regs (.slice ta t.told.length tc) e) 105) := by
      rw [heap_set_self _ _ hb2]
      simp [rtArr]
    have hs3 : ∀ b, b < w.heap.size → b ≠ p → (w2.setCell ⟨p, 1, none⟩ (.int .i64 (-1))).heap[b]? = w.heap[b]? := fun b hb hne => (heap_set_other _ _ _ _ hne).trans (hsame b hb hne)
    have hz3 : w.heap.size ≤ (w2.setCell ⟨p, 1, none⟩ (.int .i64 (-1))).heap.size := by rw [size_set]; exact hsz
    generalize w2.setCell ⟨p, 1, none⟩ (.int .i64 (-1)) = w3 at *
    rw [hr]
    by_cases hv : 0 ≤ c.v ∧ c.v < L
    · rw [if_pos hv]
      refine ⟨_, ⟨rfl, c.v, .inl rfl, ?_⟩, hg⟩
      refine (RtTo.of (t' := { t with pc := c.v }) H (by rw [size_set]; exact hz3) (fun b hb hne => (heap_set_other _ _ _ _ hne).trans (hs3 b hb hne)) ?_ rfl).at d
      rw [heap_set_self _ _ hb3]
      simp [rtArr]
    · rw [if_neg hv]
      exact ⟨_, ⟨rfl, -1, .inr ⟨rfl, hv⟩, (RtTo.of (t' := { t with pc := c.v }) H hz3 hs3 hb3 rfl).at d⟩, hg⟩
  obtain ⟨cd, cr, ca', cb, cvv⟩ := c
  simp only at *
  by_cases h1 : cd = 1
  · subst h1
    refine (own75_set p X (k + 1) _ t.regs _ e (regN cr) lr _ _ cvv u fr cs w2 hb2 x0 x4).mono fun g w' h => setr cvv g w' h ?_
    simp [reckonX]
  by_cases h2 : cd = 2
  · subst h2
    refine (own75_move p X (k + 1) _ t.regs _ e (regN cr) lr _ _ u fr cs w2 hb2 x0).mono fun g w' h => setr _ g w' h ?_
    simp [reckonX]
  by_cases h3 : cd = 3
  · subst h3
    refine (own75_sum p X (k + 1) _ t.regs _ e (regN cr) lr _ _ u fr cs w2 hb2 x0).mono fun g w' h => setr _ g w' h ?_
    simp [reckonX]
  by_cases h6 : cd = 6
  · subst h6
    have H2 : RtIs p (.slice ca L cc) ((k + 1 : Nat) : Int) t e ta tc w2 := ⟨hb2, row_same H.row fun g hg => hsame g (H.row.lt g hg).2 (fun e => H.own (by rw [hg, e])), H.own⟩
    refine (own75_tell p X (regN cr) lr _ _ t e ta tc _ _ u fr cs w2 H2 x0 hlen).mono fun g w' h => ?_
    obtain ⟨hg, hT⟩ := h
    refine ⟨_, ⟨rfl, ((k + 1 : Nat) : Int), .inl (by simp [reckonX, hpc]), ?_⟩, hg⟩
    have : reckonX ⟨6, cr, ca', cb, cvv⟩ t = { t with told := t.told ++ [t.regs (regN cr)], pc := t.pc + 1 } := by simp [reckonX]
    rw [this]
    have hT' : RtTo p (.slice ca L cc) ((k + 1 : Nat) : Int) { t with told := t.told ++ [t.regs (regN cr)], pc := t.pc + 1 } e ta t.told.length tc w2 w' := by
      obtain ⟨⟨ta', tc', ⟨b1, b2, b3⟩, b4⟩, b5⟩ := hT
      exact ⟨⟨ta', tc', ⟨b1, b2, b3⟩, b4⟩, b5⟩
    exact RtTo.trans ⟨hsz, fun b hb hne _ => hsame b hb hne⟩ (fun g hg => .inl hg) hT'
  by_cases hj : (cd = 4 ∧ t.regs (regN ca') = t.regs (regN cb)) ∨ (cd = 5 ∧ t.regs (regN ca') < t.regs (regN cb))
  · refine (own75_jump p X (k + 1) L cc ca t.regs _ e (regN cr) _ _ cd cvv u fr cs w2 hb2 x0 x4 hXp hj).mono fun g w' h => jump g w' h ?_
    rcases hj with ⟨rfl, hj⟩ | ⟨rfl, hj⟩
    · simp [reckonX, hj]
    · simp [reckonX, hj]
  · refine (own75_none p X (regN cr) _ _ cd u fr cs w2 x0 h1 h2 h3 h6 ?_).mono fun g w' h => plain g w' h ?_
    · by_cases h4 : cd = 4
      · exact .inl ⟨h4, fun h => hj (.inl ⟨h4, h⟩)⟩
      · by_cases h5 : cd = 5
        · exact .inr (.inl ⟨h5, fun h => hj (.inr ⟨h5, h⟩)⟩)
        · exact .inr (.inr ⟨h4, h5⟩)
    · simp only [not_or, not_and] at hj
      unfold reckonX
      simp only [h1, h2, h3, h6, if_false]
      by_cases h4 : cd = 4
      · simp [h4, hj.1 h4]
      · by_cases h5 : cd = 5
        · have := hj.2 h5
          simp [h5, this]
        · simp [h4, h5]
end
section
variable {main : Bool}
noncomputable def reg46_0 : Array Oper := match Try.f46.body with | some (.seq (.region _ ops _) _) => ops | _ => #[]
theorem size46_0 : reg46_0.size = 1 := by kernel_rfl
noncomputable def reg46_2 : Array Oper := match Try.f46.body with | some (.seq _ (.block _ (.loop (.seq (.block _ (.seq (.seq (.region _ ops _) _) _)) _)))) => ops | _ => #[]
theorem size46_2 : reg46_2.size = 17 := by kernel_rfl
noncomputable def reg46_3 : Array Oper := match Try.f46.body with | some (.seq _ (.block _ (.loop (.seq (.block _ (.seq (.seq _ (.cond _ (.seq (.region _ ops _) _) _)) _)) _)))) => ops | _ => #[]
theorem size46_3 : reg46_3.size = 4 := by kernel_rfl
noncomputable def reg46_4 : Array Oper := match Try.f46.body with | some (.seq _ (.block _ (.loop (.seq (.block _ (.seq _ (.seq (.seq (.region _ ops _) _) _))) _)))) => ops | _ => #[]
theorem size46_4 : reg46_4.size = 3 := by kernel_rfl
noncomputable def reg46_5 : Array Oper := match Try.f46.body with | some (.seq _ (.block _ (.loop (.seq (.block _ (.seq _ (.seq _ (.seq (.seq (.region _ ops _) _) _)))) _)))) => ops | _ => #[]
theorem size46_5 : reg46_5.size = 2 := by kernel_rfl
noncomputable def reg46_6 : Array Oper := match Try.f46.body with | some (.seq _ (.block _ (.loop (.seq (.block _ (.seq _ (.seq _ (.seq (.seq _ (.cond _ (.seq (.region _ ops _) _) _)) _)))) _)))) => ops | _ => #[]
theorem size46_6 : reg46_6.size = 4 := by kernel_rfl
noncomputable def reg46_7 : Array Oper := match Try.f46.body with | some (.seq _ (.block _ (.loop (.seq (.block _ (.seq _ (.seq _ (.seq _ (.region _ ops _))))) _)))) => ops | _ => #[]
theorem size46_7 : reg46_7.size = 12 := by kernel_rfl
noncomputable def reg46_1 : Array Oper := match Try.f46.body with | some (.seq _ (.block _ (.loop (.seq _ (.region _ ops _))))) => ops | _ => #[]
theorem size46_1 : reg46_1.size = 3 := by kernel_rfl
theorem code46_is : Try.f46.body = some (.seq (.region 0 reg46_0 false) (.block 0 (.loop (.seq (.block 1 (.seq (.seq (.region 2 reg46_2 true) (.cond (.tmp 23 ) (.seq (.region 3 reg46_3 false) (.ret)) (.skip))) (.seq (.seq (.region 4 reg46_4 false) (.cond (.tmp 29 ) (.ret) (.skip))) (.seq (.seq (.region 5 reg46_5 false) (.cond (.tmp 31 ) (.seq (.region 6 reg46_6 false) (.ret)) (.skip))) (.region 7 reg46_7 true))))) (.region 1 reg46_1 false))))) := by kernel_rfl
noncomputable def hd46 (p nw n : Nat) (u : Nat → Value) : Frame :=
  (base 46).at { tmps := #[.pointer (some ⟨p, 0, none⟩), .int .i64 nw, u 2, u 3, .int .i64 n, u 5, u 6, u 7, u 8, u 9, u 10, u 11, u 12, u 13, u 14, u 15, u 16, u 17, u 18, u 19, u 20, u 21, u 22, u 23, u 24, u 25, u 26, u 27, u 28, u 29, u 30, u 31, u 32, u 33, u 34, u 35, u 36, u 37, u 38, u 39, u 40, u 41, u 42, u 43, u 44, u 45, u 46], defers := [] } [.code (.seq (.block 1 (.seq (.seq (.region 2 reg46_2 true) (.cond (.tmp 23 ) (.seq (.region 3 reg46_3 false) (.ret)) (.skip))) (.seq (.seq (.region 4 reg46_4 false) (.cond (.tmp 29 ) (.ret) (.skip))) (.seq (.seq (.region 5 reg46_5 false) (.cond (.tmp 31 ) (.seq (.region 6 reg46_6 false) (.ret)) (.skip))) (.region 7 reg46_7 true))))) (.region 1 reg46_1 false)), .inLoop (.seq (.block 1 (.seq (.seq (.region 2 reg46_2 true) (.cond (.tmp 23 ) (.seq (.region 3 reg46_3 false) (.ret)) (.skip))) (.seq (.seq (.region 4 reg46_4 false) (.cond (.tmp 29 ) (.ret) (.skip))) (.seq (.seq (.region 5 reg46_5 false) (.cond (.tmp 31 ) (.seq (.region 6 reg46_6 false) (.ret)) (.skip))) (.region 7 reg46_7 true))))) (.region 1 reg46_1 false)), .inBlock 0]
theorem go46_in (p nw : Nat) (cs : List Frame) (w : World) :
    Walk Try.prog main (DR (fun _ => none)) (fun g w' => (∃ u, g = G (hd46 p nw 0 u) cs) ∧ ∃ d, w' = w.at d) (G (Frame.enter Try.prog 46 #[.pointer (some ⟨p, 0, none⟩), .int .i64 nw] .normal) cs) w := by
  rw [enter_at _ Try.func46 code46_is]
  simp only [Try.ntmps46, List.size_toArray, List.length_cons, List.length_nil, Nat.reduceAdd, Nat.reduceSub, Array.replicate_succ, Array.replicate_zero, List.push_toArray, List.append_toArray, List.nil_append, List.cons_append]
  repeat (first | refine Walk.c rfl ?_ | refine Walk.cRet ?_ | refine Walk.cEnd ?_ | (refine Walk.cReg ?_; simp only [size46_0, size46_2, size46_3, size46_4, size46_5, size46_6, size46_7, size46_1, List.range, List.range.loop]) | (refine Walk.oq ?_; try walk_nrm) | (refine Walk.un ?_; walk_nrm))
  refine Walk.ctl rfl (fun w => stepG_loop) ?_
  refine .stop fun d => ⟨at_slots ?_, d, rfl⟩
  simp only [hd46]
  rfl
theorem go46_off (p nw n L cc : Nat) (ca : Option Addr) (at_ : Int) (R : Nat → Int) (tv : Value) (e : Bool) (u : Nat → Value) (c : Frame) (cs : List Frame) (w : World) (hp : w.heap[p]? = some (.cells (rtArr (.slice ca L cc) at_ R tv e) 105)) (hno : ¬ (0 ≤ at_ ∧ at_ < L)) :
    Walk Try.prog main (DR (fun _ => none)) (fun g w' => g = G (c.finish (.tuple #[])) cs ∧ ∃ d, w' = (w.setCell ⟨p, 7, none⟩ (.bool true)).at d) (G (hd46 p nw n u) (c :: cs)) w := by
  have h0 : w.cell? ⟨p, 0, none⟩ = some (.slice ca L cc) := (cell_of hp 0).trans rfl
  have h1 : w.cell? ⟨p, 1, none⟩ = some (.int .i64 at_) := (cell_of hp 1).trans rfl
  have hy : w.cell? ⟨p, 7, none⟩ = some (.bool e) := (cell_of hp 7).trans rfl
  have hz := frozen_of hp 7
  have hf : Free (fun _ => none) ⟨p, 7, none⟩ := (apart0 p).1 _ rfl
  unfold hd46
  by_cases k0 : at_ < 0
  · repeat (first | refine Walk.c rfl ?_ | refine Walk.cRet ?_ | refine Walk.cEnd ?_ | (refine Walk.cReg ?_; simp only [size46_0, size46_2, size46_3, size46_4, size46_5, size46_6, size46_7, size46_1, List.range, List.range.loop]) | (refine Walk.oq ?_; try walk_nrm) | (refine Walk.un ?_; walk_nrm))
    (refine Walk.drawnC (by kernel_rfl) size46_2 (by kernel_rfl) (by kernel_rfl) (by decide) ?_; simp only [List.range, List.range.loop]; repeat (first | (refine Cm.opqA (ho_of (by conv => lhs; whnf) (by kernel_rfl)) (by rfl) (fun dd e he => ?_) ?_; (· (simp [go_sem, *] at he; try (subst he; exact evR_read _ _))); apply Exists.intro; apply And.intro; (· (intro dd K hK; go_simp; exact hK))) | (refine Cm.unw (ho_of (by conv => lhs; whnf) (by kernel_rfl)) (by rfl) ?_; walk_nrm)))
    refine Cm.done ?_
    repeat (first | refine Walk.c rfl ?_ | refine Walk.cRet ?_ | refine Walk.cEnd ?_ | (refine Walk.cReg ?_; simp only [size46_0, size46_2, size46_3, size46_4, size46_5, size46_6, size46_7, size46_1, List.range, List.range.loop]) | (refine Walk.oq ?_; try walk_nrm) | (refine Walk.un ?_; walk_nrm))
    (refine Walk.os hf hy ?_; try walk_nrm)
    generalize w.setCell ⟨p, 7, none⟩ (.bool true) = w1 at *
    repeat (first | refine Walk.c rfl ?_ | refine Walk.cRet ?_ | refine Walk.cEnd ?_ | (refine Walk.cReg ?_; simp only [size46_0, size46_2, size46_3, size46_4, size46_5, size46_6, size46_7, size46_1, List.range, List.range.loop]) | (refine Walk.oq ?_; try walk_nrm) | (refine Walk.un ?_; walk_nrm))
    exact (Walk.ret0 (Post := fun v w' => v = .tuple #[] ∧ ∃ d, w' = w1.at d) rfl rfl Try.func46 rfl fun d => ⟨rfl, d, rfl⟩).mono fun g w' ⟨v, ⟨hv, hd⟩, hg⟩ => ⟨by rw [hg, hv], hd⟩
  · have k1 : (L : Int) ≤ at_ := by omega
    repeat (first | refine Walk.c rfl ?_ | refine Walk.cRet ?_ | refine Walk.cEnd ?_ | (refine Walk.cReg ?_; simp only [size46_0, size46_2, size46_3, size46_4, size46_5, size46_6, size46_7, size46_1, List.range, List.range.loop]) | (refine Walk.oq ?_; try walk_nrm) | (refine Walk.un ?_; walk_nrm))
    (refine Walk.drawnC (by kernel_rfl) size46_2 (by kernel_rfl) (by kernel_rfl) (by decide) ?_; simp only [List.range, List.range.loop]; repeat (first | (refine Cm.opqA (ho_of (by conv => lhs; whnf) (by kernel_rfl)) (by rfl) (fun dd e he => ?_) ?_; (· (simp [go_sem, *] at he; try (subst he; exact evR_read _ _))); apply Exists.intro; apply And.intro; (· (intro dd K hK; go_simp; exact hK))) | (refine Cm.unw (ho_of (by conv => lhs; whnf) (by kernel_rfl)) (by rfl) ?_; walk_nrm)))
    refine Cm.done ?_
    repeat (first | refine Walk.c rfl ?_ | refine Walk.cRet ?_ | refine Walk.cEnd ?_ | (refine Walk.cReg ?_; simp only [size46_0, size46_2, size46_3, size46_4, size46_5, size46_6, size46_7, size46_1, List.range, List.range.loop]) | (refine Walk.oq ?_; try walk_nrm) | (refine Walk.un ?_; walk_nrm))
    (refine Walk.os hf hy ?_; try walk_nrm)
    generalize w.setCell ⟨p, 7, none⟩ (.bool true) = w1 at *
    repeat (first | refine Walk.c rfl ?_ | refine Walk.cRet ?_ | refine Walk.cEnd ?_ | (refine Walk.cReg ?_; simp only [size46_0, size46_2, size46_3, size46_4, size46_5, size46_6, size46_7, size46_1, List.range, List.range.loop]) | (refine Walk.oq ?_; try walk_nrm) | (refine Walk.un ?_; walk_nrm))
    exact (Walk.ret0 (Post := fun v w' => v = .tuple #[] ∧ ∃ d, w' = w1.at d) rfl rfl Try.func46 rfl fun d => ⟨rfl, d, rfl⟩).mono fun g w' ⟨v, ⟨hv, hd⟩, hg⟩ => ⟨by rw [hg, hv], hd⟩
theorem go46_stop (p nw n cb co L cc k : Nat) (t : Th) (e : Bool) (ta : Option Addr) (tc : Nat) (cd : Cd) (u : Nat → Value) (c : Frame) (cs : List Frame) (w : World) (H : RtIs p (.slice (some ⟨cb, co, none⟩) L cc) (k : Nat) t e ta tc w) (hk : k < L) (hc : ∀ m v, (cdCells cd)[m]? = some v → w.cell? ⟨cb, co + k * 5 + m, none⟩ = some v) (hs : isStepX nw cd = true) :
    Walk Try.prog main (DR (fun _ => none)) (fun g w' => g = G (c.finish (.tuple #[])) cs ∧ ∃ d, w' = (w.alloc (.cells (cdArr cd) 96)).at d) (G (hd46 p nw n u) (c :: cs)) w := by
  have h0 : w.cell? ⟨p, 0, none⟩ = some (.slice (some ⟨cb, co, none⟩) L cc) := (cell_of H.blk 0).trans rfl
  have h1 : w.cell? ⟨p, 1, none⟩ = some (.int .i64 (k : Nat)) := (cell_of H.blk 1).trans rfl
  have hk0 : ¬ ((k : Int) < 0) := by omega
  have hk1 : ¬ ((L : Int) ≤ (k : Int)) := by omega
  have hO := old_alloc w (.cells (cdArr cd) 96)
  have hq := stands74_w (main := main) p cb co L cc k nw cd w h0 h1 hk hc
  have hb1 : (w.alloc (.cells (cdArr cd) 96)).heap[p]? = some (.cells (rtArr (.slice (some ⟨cb, co, none⟩) L cc) (k : Nat) t.regs (.slice ta t.told.length tc) e) 105) := (hO.same p H.lt).trans H.blk
  clear hb1 hO
  unfold hd46
  repeat (first | refine Walk.c rfl ?_ | refine Walk.cRet ?_ | refine Walk.cEnd ?_ | (refine Walk.cReg ?_; simp only [size46_0, size46_2, size46_3, size46_4, size46_5, size46_6, size46_7, size46_1, List.range, List.range.loop]) | (refine Walk.oq ?_; try walk_nrm) | (refine Walk.un ?_; walk_nrm))
  (refine Walk.drawnC (by kernel_rfl) size46_2 (by kernel_rfl) (by kernel_rfl) (by decide) ?_; simp only [List.range, List.range.loop]; repeat (first | (refine Cm.opqA (ho_of (by conv => lhs; whnf) (by kernel_rfl)) (by rfl) (fun dd e he => ?_) ?_; (· (simp [go_sem, *] at he; try (subst he; exact evR_read _ _))); apply Exists.intro; apply And.intro; (· (intro dd K hK; go_simp; exact hK))) | (refine Cm.unw (ho_of (by conv => lhs; whnf) (by kernel_rfl)) (by rfl) ?_; walk_nrm)))
  refine Cm.done ?_
  repeat (first | refine Walk.c rfl ?_ | refine Walk.cRet ?_ | refine Walk.cEnd ?_ | (refine Walk.cReg ?_; simp only [size46_0, size46_2, size46_3, size46_4, size46_5, size46_6, size46_7, size46_1, List.range, List.range.loop]) | (refine Walk.oq ?_; try walk_nrm) | (refine Walk.un ?_; walk_nrm))
  refine Walk.callV (x := .bool (isStepX nw cd)) (W := w.alloc (.cells (cdArr cd) 96)) ?_ (ho_of (by conv => lhs; whnf) (by kernel_rfl)) (by rfl) (by decide) rfl Try.func74 (by kernel_rfl) (by rfl) ?_
  · walk_nrm
    exact hq
  rw [hs]
  walk_nrm
  generalize w.alloc (.cells (cdArr cd) 96) = w1 at *
  repeat (first | refine Walk.c rfl ?_ | refine Walk.cRet ?_ | refine Walk.cEnd ?_ | (refine Walk.cReg ?_; simp only [size46_0, size46_2, size46_3, size46_4, size46_5, size46_6, size46_7, size46_1, List.range, List.range.loop]) | (refine Walk.oq ?_; try walk_nrm) | (refine Walk.un ?_; walk_nrm))
  exact (Walk.ret0 (Post := fun v w' => v = .tuple #[] ∧ ∃ d, w' = w1.at d) rfl rfl Try.func46 rfl fun d => ⟨rfl, d, rfl⟩).mono fun g w' ⟨v, ⟨hv, hd⟩, hg⟩ => ⟨by rw [hg, hv], hd⟩
theorem go46_most (p nw n cb co L cc k : Nat) (t : Th) (e : Bool) (ta : Option Addr) (tc : Nat) (cd : Cd) (u : Nat → Value) (c : Frame) (cs : List Frame) (w : World) (H : RtIs p (.slice (some ⟨cb, co, none⟩) L cc) (k : Nat) t e ta tc w) (hk : k < L) (hc : ∀ m v, (cdCells cd)[m]? = some v → w.cell? ⟨cb, co + k * 5 + m, none⟩ = some v) (hs : isStepX nw cd = false) (hn : n = 4096) :
    Walk Try.prog main (DR (fun _ => none)) (fun g w' => g = G (c.finish (.tuple #[])) cs ∧ ∃ d, w' = ((w.alloc (.cells (cdArr cd) 96)).setCell ⟨p, 7, none⟩ (.bool true)).at d) (G (hd46 p nw n u) (c :: cs)) w := by
  have h0 : w.cell? ⟨p, 0, none⟩ = some (.slice (some ⟨cb, co, none⟩) L cc) := (cell_of H.blk 0).trans rfl
  have h1 : w.cell? ⟨p, 1, none⟩ = some (.int .i64 (k : Nat)) := (cell_of H.blk 1).trans rfl
  have hk0 : ¬ ((k : Int) < 0) := by omega
  have hk1 : ¬ ((L : Int) ≤ (k : Int)) := by omega
  have hO := old_alloc w (.cells (cdArr cd) 96)
  have hq := stands74_w (main := main) p cb co L cc k nw cd w h0 h1 hk hc
  have hb1 : (w.alloc (.cells (cdArr cd) 96)).heap[p]? = some (.cells (rtArr (.slice (some ⟨cb, co, none⟩) L cc) (k : Nat) t.regs (.slice ta t.told.length tc) e) 105) := (hO.same p H.lt).trans H.blk
  have hn' : ((n : Int) == 4096) = true := by simp [hn]
  unfold hd46
  repeat (first | refine Walk.c rfl ?_ | refine Walk.cRet ?_ | refine Walk.cEnd ?_ | (refine Walk.cReg ?_; simp only [size46_0, size46_2, size46_3, size46_4, size46_5, size46_6, size46_7, size46_1, List.range, List.range.loop]) | (refine Walk.oq ?_; try walk_nrm) | (refine Walk.un ?_; walk_nrm))
  (refine Walk.drawnC (by kernel_rfl) size46_2 (by kernel_rfl) (by kernel_rfl) (by decide) ?_; simp only [List.range, List.range.loop]; repeat (first | (refine Cm.opqA (ho_of (by conv => lhs; whnf) (by kernel_rfl)) (by rfl) (fun dd e he => ?_) ?_; (· (simp [go_sem, *] at he; try (subst he; exact evR_read _ _))); apply Exists.intro; apply And.intro; (· (intro dd K hK; go_simp; exact hK))) | (refine Cm.unw (ho_of (by conv => lhs; whnf) (by kernel_rfl)) (by rfl) ?_; walk_nrm)))
  refine Cm.done ?_
  repeat (first | refine Walk.c rfl ?_ | refine Walk.cRet ?_ | refine Walk.cEnd ?_ | (refine Walk.cReg ?_; simp only [size46_0, size46_2, size46_3, size46_4, size46_5, size46_6, size46_7, size46_1, List.range, List.range.loop]) | (refine Walk.oq ?_; try walk_nrm) | (refine Walk.un ?_; walk_nrm))
  refine Walk.callV (x := .bool (isStepX nw cd)) (W := w.alloc (.cells (cdArr cd) 96)) ?_ (ho_of (by conv => lhs; whnf) (by kernel_rfl)) (by rfl) (by decide) rfl Try.func74 (by kernel_rfl) (by rfl) ?_
  · walk_nrm
    exact hq
  rw [hs]
  walk_nrm
  clear h0 h1 hq hO
  generalize w.alloc (.cells (cdArr cd) 96) = w1 at *
  have hy : w1.cell? ⟨p, 7, none⟩ = some (.bool e) := (cell_of hb1 7).trans rfl
  have hz := frozen_of hb1 7
  have hf : Free (fun _ => none) ⟨p, 7, none⟩ := (apart0 p).1 _ rfl
  repeat (first | refine Walk.c rfl ?_ | refine Walk.cRet ?_ | refine Walk.cEnd ?_ | (refine Walk.cReg ?_; simp only [size46_0, size46_2, size46_3, size46_4, size46_5, size46_6, size46_7, size46_1, List.range, List.range.loop]) | (refine Walk.oq ?_; try walk_nrm) | (refine Walk.un ?_; walk_nrm))
  (refine Walk.os hf hy ?_; try walk_nrm)
  generalize w1.setCell ⟨p, 7, none⟩ (.bool true) = w2 at *
  repeat (first | refine Walk.c rfl ?_ | refine Walk.cRet ?_ | refine Walk.cEnd ?_ | (refine Walk.cReg ?_; simp only [size46_0, size46_2, size46_3, size46_4, size46_5, size46_6, size46_7, size46_1, List.range, List.range.loop]) | (refine Walk.oq ?_; try walk_nrm) | (refine Walk.un ?_; walk_nrm))
  exact (Walk.ret0 (Post := fun v w' => v = .tuple #[] ∧ ∃ d, w' = w2.at d) rfl rfl Try.func46 rfl fun d => ⟨rfl, d, rfl⟩).mono fun g w' ⟨v, ⟨hv, hd⟩, hg⟩ => ⟨by rw [hg, hv], hd⟩
end
section
variable {main : Bool}
theorem go46_next (p nw n cb co L cc k : Nat) (t : Th) (e : Bool) (ta : Option Addr) (tc : Nat) (cd : Cd) (u : Nat → Value) (c : Frame) (cs : List Frame) (w : World) (H : RtIs p (.slice (some ⟨cb, co, none⟩) L cc) (k : Nat) t e ta tc w) (hk : k < L) (hc : ∀ m v, (cdCells cd)[m]? = some v → w.cell? ⟨cb, co + k * 5 + m, none⟩ = some v) (hs : isStepX nw cd = false) (hn : n < 4096) (hpc : t.pc = k) (hL : L ≤ 4398046511104) (hlen : t.told.length < 1099511627776) :
    Walk Try.prog main (DR (fun _ => none)) (fun g w' => (∃ u', g = G (hd46 p nw (n + 1) u') (c :: cs)) ∧ ∃ at_, AtOf L (reckonX cd t).pc at_ ∧ RtTo p (.slice (some ⟨cb, co, none⟩) L cc) at_ (reckonX cd t) e ta t.told.length tc w w') (G (hd46 p nw n u) (c :: cs)) w := by
  have h0 : w.cell? ⟨p, 0, none⟩ = some (.slice (some ⟨cb, co, none⟩) L cc) := (cell_of H.blk 0).trans rfl
  have h1 : w.cell? ⟨p, 1, none⟩ = some (.int .i64 (k : Nat)) := (cell_of H.blk 1).trans rfl
  have hk0 : ¬ ((k : Int) < 0) := by omega
  have hk1 : ¬ ((L : Int) ≤ (k : Int)) := by omega
  have hO := old_alloc w (.cells (cdArr cd) 96)
  have hq := stands74_w (main := main) p cb co L cc k nw cd w h0 h1 hk hc
  have hb1 : (w.alloc (.cells (cdArr cd) 96)).heap[p]? = some (.cells (rtArr (.slice (some ⟨cb, co, none⟩) L cc) (k : Nat) t.regs (.slice ta t.told.length tc) e) 105) := (hO.same p H.lt).trans H.blk
  have hn' : ((n : Int) == 4096) = false := by
    cases e : ((n : Int) == 4096) with
    | false => rfl
    | true => have := eq_of_beq e; omega
  have hw1 : IntKind.wrap .i64 ((n : Int) + 1) = (n : Int) + 1 := by rw [IntKind.wrap_i64]; omega
  have hcn : ((n + 1 : Nat) : Int) = (n : Int) + 1 := by simp
  obtain ⟨t96, hu96⟩ : ∃ t96, Try.prog.underlying 96 = some (.struct t96) := by
    have h : (match Try.prog.underlying 96 with | some (.struct _) => true | _ => false) = true := by kernel_rfl
    cases e : Try.prog.underlying 96 with
    | none => rw [e] at h; cases h
    | some x => rw [e] at h; cases x <;> first | exact ⟨_, rfl⟩ | cases h
  conv => arg 5; unfold hd46
  repeat (first | refine Walk.c rfl ?_ | refine Walk.cRet ?_ | refine Walk.cEnd ?_ | (refine Walk.cReg ?_; simp only [size46_0, size46_2, size46_3, size46_4, size46_5, size46_6, size46_7, size46_1, List.range, List.range.loop]) | (refine Walk.oq ?_; try walk_nrm) | (refine Walk.un ?_; walk_nrm))
  (refine Walk.drawnC (by kernel_rfl) size46_2 (by kernel_rfl) (by kernel_rfl) (by decide) ?_; simp only [List.range, List.range.loop]; repeat (first | (refine Cm.opqA (ho_of (by conv => lhs; whnf) (by kernel_rfl)) (by rfl) (fun dd e he => ?_) ?_; (· (simp [go_sem, *] at he; try (subst he; exact evR_read _ _))); apply Exists.intro; apply And.intro; (· (intro dd K hK; go_simp; exact hK))) | (refine Cm.unw (ho_of (by conv => lhs; whnf) (by kernel_rfl)) (by rfl) ?_; walk_nrm)))
  refine Cm.done ?_
  repeat (first | refine Walk.c rfl ?_ | refine Walk.cRet ?_ | refine Walk.cEnd ?_ | (refine Walk.cReg ?_; simp only [size46_0, size46_2, size46_3, size46_4, size46_5, size46_6, size46_7, size46_1, List.range, List.range.loop]) | (refine Walk.oq ?_; try walk_nrm) | (refine Walk.un ?_; walk_nrm))
  refine Walk.callV (x := .bool (isStepX nw cd)) (W := w.alloc (.cells (cdArr cd) 96)) ?_ (ho_of (by conv => lhs; whnf) (by kernel_rfl)) (by rfl) (by decide) rfl Try.func74 (by kernel_rfl) (by rfl) ?_
  · walk_nrm
    exact hq
  rw [hs]
  walk_nrm
  have hH1 : RtIs p (.slice (some ⟨cb, co, none⟩) L cc) (k : Nat) t e ta tc (w.alloc (.cells (cdArr cd) 96)) := ⟨hb1, row_same H.row fun g hg => hO.same g (H.row.lt g hg).2, H.own⟩
  have hc1 : ∀ m v, (cdCells cd)[m]? = some v → (w.alloc (.cells (cdArr cd) 96)).cell? ⟨cb, co + k * 5 + m, none⟩ = some v := fun m v hv => old_cell hO (hc m v hv)
  have hK : Keep p (.slice ta t.told.length tc) w (w.alloc (.cells (cdArr cd) 96)) := ⟨hO.size, fun b hb _ _ => hO.same b hb⟩
  clear h0 h1 hq hO hc hb1
  generalize w.alloc (.cells (cdArr cd) 96) = w1 at *
  have h0 : w1.cell? ⟨p, 0, none⟩ = some (.slice (some ⟨cb, co, none⟩) L cc) := (cell_of hH1.blk 0).trans rfl
  have h1 : w1.cell? ⟨p, 1, none⟩ = some (.int .i64 (k : Nat)) := (cell_of hH1.blk 1).trans rfl
  repeat (first | refine Walk.c rfl ?_ | refine Walk.cRet ?_ | refine Walk.cEnd ?_ | (refine Walk.cReg ?_; simp only [size46_0, size46_2, size46_3, size46_4, size46_5, size46_6, size46_7, size46_1, List.range, List.range.loop]) | (refine Walk.oq ?_; try walk_nrm) | (refine Walk.un ?_; walk_nrm))
  (refine Walk.drawnL (by kernel_rfl) size46_7 (by kernel_rfl) (by kernel_rfl) (by kernel_rfl) (by decide) ?_; simp only [List.range, List.range.loop]; repeat (first | (refine Cm.opqA (ho_of (by conv => lhs; whnf) (by kernel_rfl)) (by rfl) (fun dd e he => ?_) ?_; (· (simp [go_sem, *] at he; try (subst he; exact evR_read _ _))); apply Exists.intro; apply And.intro; (· (intro dd K hK; go_simp; exact hK))) | (refine Cm.unw (ho_of (by conv => lhs; whnf) (by kernel_rfl)) (by rfl) ?_; walk_nrm)))
  refine Cm.loadS 96 (.tmp 44) (ho_of (by conv => lhs; whnf) (by kernel_rfl)) (by rfl) rfl cb (co + k * 5) (cdCells cd) _ rfl (fun x hx => hx ▸ hc1) hu96 rfl (by kernel_rfl) ?_
  walk_nrm
  refine Cm.done ?_
  intro rest hr
  have hown := own75_w (main := main) p k L cc (some ⟨cb, co, none⟩) t e ta tc cd w1 hH1 hpc hk hL hlen
  have ecd : (cdCells cd).toArray = cdArr cd := rfl
  rw [ecd]
  generalize hZ : Value.agg (cdArr cd) = zv at *
  refine Walk.callW (Post := fun v w' => v = .tuple #[] ∧ ∃ at_, AtOf L (reckonX cd t).pc at_ ∧ RtTo p (.slice (some ⟨cb, co, none⟩) L cc) at_ (reckonX cd t) e ta t.told.length tc w1 w') ?_ (ho_of (by conv => lhs; whnf) (by kernel_rfl)) (by rfl) (by decide) rfl Try.func75 (by kernel_rfl) (by rfl) ?_
  · walk_nrm
    exact hown
  rintro v w2 ⟨rfl, at_, hat, hT⟩
  refine hr _ _ ?_
  walk_nrm
  have hT' := RtTo.trans hK (fun g hg => .inl hg) hT
  clear hT h0 h1 hH1 hc1 hK H
  repeat (first | refine Walk.c rfl ?_ | refine Walk.cRet ?_ | refine Walk.cEnd ?_ | (refine Walk.cReg ?_; simp only [size46_0, size46_2, size46_3, size46_4, size46_5, size46_6, size46_7, size46_1, List.range, List.range.loop]) | (refine Walk.oq ?_; try walk_nrm) | (refine Walk.un ?_; walk_nrm))
  refine Walk.ctl rfl (fun w => stepG_inLoop) ?_
  refine .stop fun d => ⟨at_slots ?_, at_, hat, hT'.at d⟩
  simp only [hd46, hcn]
  rfl
end
section
variable {main : Bool}
theorem codeAt_some {codes : List Cd} {pc : Int} {cd : Cd} (h : codeAt codes pc = some cd) : ∃ k : Nat, pc = k ∧ k < codes.length ∧ codes[k]? = some cd := by
  unfold codeAt at h
  split at h
  · cases h
  · exact ⟨pc.toNat, by omega, (List.getElem?_eq_some_iff.1 h).1, h⟩
theorem codeAt_none {codes : List Cd} {pc : Int} (h : codeAt codes pc = none) : ¬ (0 ≤ pc ∧ pc < codes.length) := by
  unfold codeAt at h
  split at h
  · omega
  · have := List.getElem?_eq_none_iff.1 h
    omega
theorem go46_run {ca : Option Addr} {codes : List Cd} (p nw cc : Nat) (c : Frame) (cs : List Frame) (hL : codes.length ≤ 4398046511104) : ∀ (r n : Nat) {t : Th} {ta : Option Addr} {tc : Nat} {at_ : Int} {u : Nat → Value} {w : World}, n + r = 4096 → RtIs p (.slice ca codes.length cc) at_ t false ta tc w → AtOf codes.length t.pc at_ → CodesIn ca codes w →
    (0 < codes.length → ∀ cb co, ca = some ⟨cb, co, none⟩ → cb < w.heap.size ∧ cb ≠ p ∧ (Value.slice ta t.told.length tc).ownBlock ≠ some cb) → t.told.length + r < 1099511627776 →
    Walk Try.prog main (DR (fun _ => none)) (fun g w' => g = G (c.finish (.tuple #[])) cs ∧ ∃ at', AtOf codes.length (ownX codes nw r t).2.pc at' ∧ RtTo p (.slice ca codes.length cc) at' (ownX codes nw r t).2 (ownX codes nw r t).1 ta t.told.length tc w w') (G (hd46 p nw n u) (c :: cs)) w := by
  intro r
  have off : ∀ (n : Nat) {t : Th} {ta : Option Addr} {tc : Nat} {at_ : Int} {u : Nat → Value} {w : World}, RtIs p (.slice ca codes.length cc) at_ t false ta tc w → AtOf codes.length t.pc at_ → codeAt codes t.pc = none →
      Walk Try.prog main (DR (fun _ => none)) (fun g w' => g = G (c.finish (.tuple #[])) cs ∧ ∃ at', AtOf codes.length t.pc at' ∧ RtTo p (.slice ca codes.length cc) at' t true ta t.told.length tc w w') (G (hd46 p nw n u) (c :: cs)) w := by
    intro n t ta tc at_ u w H hat hn
    have h0 := codeAt_none hn
    have h1 : ¬ (0 ≤ at_ ∧ at_ < codes.length) := by
      rcases hat with h | ⟨h, _⟩
      · rw [h]; exact h0
      · omega
    refine (go46_off p nw n codes.length cc ca at_ t.regs _ false u c cs w H.blk h1).mono ?_
    rintro g w' ⟨hg, d, rfl⟩
    refine ⟨hg, at_, hat, (RtTo.of (t' := t) H (by rw [size_set]; exact Nat.le_refl _) (fun b hb hne => heap_set_other _ _ _ _ hne) ?_ rfl).at d⟩
    rw [heap_set_self _ _ H.blk]
    simp [rtArr]
  have stand : ∀ (n : Nat) {t : Th} {ta : Option Addr} {tc : Nat} {at_ : Int} {u : Nat → Value} {w : World} {cd : Cd}, RtIs p (.slice ca codes.length cc) at_ t false ta tc w → AtOf codes.length t.pc at_ → CodesIn ca codes w → codeAt codes t.pc = some cd → isStepX nw cd = true →
      Walk Try.prog main (DR (fun _ => none)) (fun g w' => g = G (c.finish (.tuple #[])) cs ∧ ∃ at', AtOf codes.length t.pc at' ∧ RtTo p (.slice ca codes.length cc) at' t false ta t.told.length tc w w') (G (hd46 p nw n u) (c :: cs)) w := by
    intro n t ta tc at_ u w cd H hat hc hn hs
    obtain ⟨k, hk, hkl, hck⟩ := codeAt_some hn
    have hat' : at_ = k := by
      rcases hat with h | ⟨_, h⟩
      · rw [h, hk]
      · omega
    obtain ⟨cb, co, rfl, hcell⟩ := hc k cd hck
    subst hat'
    refine (go46_stop p nw n cb co codes.length cc k t false ta tc cd u c cs w H hkl hcell hs).mono ?_
    rintro g w' ⟨hg, d, rfl⟩
    have hO := old_alloc w (.cells (cdArr cd) 96)
    exact ⟨hg, k, hat, (RtTo.of (t' := t) H hO.size (fun b hb _ => hO.same b hb) ((hO.same p H.lt).trans H.blk) rfl).at d⟩
  induction r with
  | zero =>
    intro n t ta tc at_ u w hn H hat hc hcb hlen
    unfold ownX
    cases hcd : codeAt codes t.pc with
    | none => exact off n H hat hcd
    | some cd =>
      cases hs : isStepX nw cd with
      | true =>
        simp only [hs]
        exact stand n H hat hc hcd hs
      | false =>
        simp only [hs]
        obtain ⟨k, hk, hkl, hck⟩ := codeAt_some hcd
        have hat' : at_ = k := by
          rcases hat with h | ⟨_, h⟩
          · rw [h, hk]
          · omega
        obtain ⟨cb, co, rfl, hcell⟩ := hc k cd hck
        subst hat'
        refine (go46_most p nw n cb co codes.length cc k t false ta tc cd u c cs w H hkl hcell hs (by omega)).mono ?_
        rintro g w' ⟨hg, d, rfl⟩
        have hO := old_alloc w (.cells (cdArr cd) 96)
        have hb1 := (hO.same p H.lt).trans H.blk
        refine ⟨hg, k, hat, (RtTo.of (t' := t) H (by rw [size_set]; exact hO.size) (fun b hb hne => (heap_set_other _ _ _ _ hne).trans (hO.same b hb)) ?_ rfl).at d⟩
        rw [heap_set_self _ _ hb1]
        simp [rtArr]
  | succ r ih =>
    intro n t ta tc at_ u w hn H hat hc hcb hlen
    unfold ownX
    cases hcd : codeAt codes t.pc with
    | none => exact off n H hat hcd
    | some cd =>
      cases hs : isStepX nw cd with
      | true =>
        simp only [hs, if_true]
        exact stand n H hat hc hcd hs
      | false =>
        simp only [hs, Bool.false_eq_true, if_false]
        obtain ⟨k, hk, hkl, hck⟩ := codeAt_some hcd
        have hat' : at_ = k := by
          rcases hat with h | ⟨_, h⟩
          · rw [h, hk]
          · omega
        obtain ⟨cb, co, e, hcell⟩ := hc k cd hck
        obtain ⟨hb1, hb2, hb3⟩ := hcb (by omega) cb co e
        subst hat' e
        refine (go46_next p nw n cb co codes.length cc k t false ta tc cd u c cs w H hkl hcell hs (by omega) hk hL (by omega)).then ?_
        rintro g w1 ⟨⟨u1, rfl⟩, at1, hat1, hT⟩
        obtain ⟨ta1, tc1, H1, hg1⟩ := hT.is
        have hsame : ∀ cb' co', some (⟨cb, co, none⟩ : Addr) = some ⟨cb', co', none⟩ → cb' = cb := fun cb' co' e => by cases e; rfl
        have hwb : w1.heap[cb]? = w.heap[cb]? := hT.keep.same cb hb1 hb2 hb3
        have hc1 : CodesIn (some ⟨cb, co, none⟩) codes w1 := fun j c' hj => by
          obtain ⟨cb', co', e, hh⟩ := hc j c' hj
          cases e
          exact ⟨cb, co, rfl, fun m v hv => (World.cell?_of_block (a := ⟨cb, co + j * 5 + m, none⟩) hwb).trans (hh m v hv)⟩
        have hlen1 : (reckonX cd t).told.length ≤ t.told.length + 1 := by
          unfold reckonX
          repeat' split
          all_goals simp
        refine (ih (n + 1) (by omega) H1 hat1 hc1 ?_ (by omega)).mono ?_
        · intro _ cb' co' e
          cases e
          refine ⟨Nat.lt_of_lt_of_le hb1 hT.keep.size, hb2, fun e => ?_⟩
          rcases hg1 _ e with h | h
          · exact hb3 h
          · omega
        · rintro g w' ⟨hg, at', hat', hT'⟩
          exact ⟨hg, at', hat', RtTo.trans hT.keep hg1 hT'⟩
theorem go46_w {ca : Option Addr} {codes : List Cd} (p nw cc : Nat) (hL : codes.length ≤ 4398046511104) {t : Th} {ta : Option Addr} {tc : Nat} {at_ : Int} {w : World} (H : RtIs p (.slice ca codes.length cc) at_ t false ta tc w) (hat : AtOf codes.length t.pc at_) (hc : CodesIn ca codes w)
    (hcb : 0 < codes.length → ∀ cb co, ca = some ⟨cb, co, none⟩ → cb < w.heap.size ∧ cb ≠ p ∧ (Value.slice ta t.told.length tc).ownBlock ≠ some cb) (hlen : t.told.length + 4096 < 1099511627776) :
    CallW Try.prog main (fun _ => none) 46 #[.pointer (some ⟨p, 0, none⟩), .int .i64 nw] w (fun v w' => v = .tuple #[] ∧ ∃ at', AtOf codes.length (ownX codes nw 4096 t).2.pc at' ∧ RtTo p (.slice ca codes.length cc) at' (ownX codes nw 4096 t).2 (ownX codes nw 4096 t).1 ta t.told.length tc w w') := by
  intro fr cs
  refine (go46_in p nw (fr :: cs) w).then ?_
  rintro g w1 ⟨⟨u, rfl⟩, d, rfl⟩
  refine Walk.back ?_ d
  refine (go46_run p nw cc fr cs hL 4096 0 (by omega) H hat hc hcb hlen).mono ?_
  rintro g w' ⟨hg, h⟩
  exact ⟨_, ⟨rfl, h⟩, hg⟩
end
section
variable {main : Bool}
noncomputable def reg49_0 : Array Oper := match Try.f49.body with | some (.seq (.region _ ops _) _) => ops | _ => #[]
theorem size49_0 : reg49_0.size = 12 := by kernel_rfl
noncomputable def reg49_1 : Array Oper := match Try.f49.body with | some (.seq _ (.seq (.region _ ops _) _)) => ops | _ => #[]
theorem size49_1 : reg49_1.size = 8 := by kernel_rfl
noncomputable def reg49_2 : Array Oper := match Try.f49.body with | some (.seq _ (.seq _ (.seq (.region _ ops _) _))) => ops | _ => #[]
theorem size49_2 : reg49_2.size = 4 := by kernel_rfl
noncomputable def reg49_3 : Array Oper := match Try.f49.body with | some (.seq _ (.seq _ (.seq _ (.seq (.seq (.region _ ops _) _) _)))) => ops | _ => #[]
theorem size49_3 : reg49_3.size = 2 := by kernel_rfl
noncomputable def reg49_4 : Array Oper := match Try.f49.body with | some (.seq _ (.seq _ (.seq _ (.seq (.seq _ (.block _ (.seq (.region _ ops _) _))) _)))) => ops | _ => #[]
theorem size49_4 : reg49_4.size = 2 := by kernel_rfl
noncomputable def reg49_5 : Array Oper := match Try.f49.body with | some (.seq _ (.seq _ (.seq _ (.seq (.seq _ (.block _ (.seq _ (.cond _ (.region _ ops _) _)))) _)))) => ops | _ => #[]
theorem size49_5 : reg49_5.size = 11 := by kernel_rfl
noncomputable def reg49_6 : Array Oper := match Try.f49.body with | some (.seq _ (.seq _ (.seq _ (.seq (.seq _ (.block _ (.seq _ (.cond _ _ (.seq (.region _ ops _) _))))) _)))) => ops | _ => #[]
theorem size49_6 : reg49_6.size = 2 := by kernel_rfl
noncomputable def reg49_7 : Array Oper := match Try.f49.body with | some (.seq _ (.seq _ (.seq _ (.seq (.seq _ (.block _ (.seq _ (.cond _ _ (.seq _ (.cond _ (.region _ ops _) _)))))) _)))) => ops | _ => #[]
theorem size49_7 : reg49_7.size = 11 := by kernel_rfl
noncomputable def reg49_8 : Array Oper := match Try.f49.body with | some (.seq _ (.seq _ (.seq _ (.seq (.seq _ (.block _ (.seq _ (.cond _ _ (.seq _ (.cond _ _ (.seq (.region _ ops _) _))))))) _)))) => ops | _ => #[]
theorem size49_8 : reg49_8.size = 2 := by kernel_rfl
noncomputable def reg49_9 : Array Oper := match Try.f49.body with | some (.seq _ (.seq _ (.seq _ (.seq (.seq _ (.block _ (.seq _ (.cond _ _ (.seq _ (.cond _ _ (.seq _ (.cond _ (.seq (.region _ ops _) _) _)))))))) _)))) => ops | _ => #[]
theorem size49_9 : reg49_9.size = 13 := by kernel_rfl
noncomputable def reg49_10 : Array Oper := match Try.f49.body with | some (.seq _ (.seq _ (.seq _ (.seq (.seq _ (.block _ (.seq _ (.cond _ _ (.seq _ (.cond _ _ (.seq _ (.cond _ (.seq _ (.region _ ops _)) _)))))))) _)))) => ops | _ => #[]
theorem size49_10 : reg49_10.size = 11 := by kernel_rfl
noncomputable def reg49_11 : Array Oper := match Try.f49.body with | some (.seq _ (.seq _ (.seq _ (.seq (.seq _ (.block _ (.seq _ (.cond _ _ (.seq _ (.cond _ _ (.seq _ (.cond _ _ (.seq (.region _ ops _) _))))))))) _)))) => ops | _ => #[]
theorem size49_11 : reg49_11.size = 2 := by kernel_rfl
noncomputable def reg49_12 : Array Oper := match Try.f49.body with | some (.seq _ (.seq _ (.seq _ (.seq (.seq _ (.block _ (.seq _ (.cond _ _ (.seq _ (.cond _ _ (.seq _ (.cond _ _ (.seq _ (.cond _ (.seq (.region _ ops _) _) _)))))))))) _)))) => ops | _ => #[]
theorem size49_12 : reg49_12.size = 6 := by kernel_rfl
noncomputable def reg49_13 : Array Oper := match Try.f49.body with | some (.seq _ (.seq _ (.seq _ (.seq (.seq _ (.block _ (.seq _ (.cond _ _ (.seq _ (.cond _ _ (.seq _ (.cond _ _ (.seq _ (.cond _ (.seq _ (.seq (.region _ ops _) _)) _)))))))))) _)))) => ops | _ => #[]
theorem size49_13 : reg49_13.size = 11 := by kernel_rfl
noncomputable def reg49_14 : Array Oper := match Try.f49.body with | some (.seq _ (.seq _ (.seq _ (.seq (.seq _ (.block _ (.seq _ (.cond _ _ (.seq _ (.cond _ _ (.seq _ (.cond _ _ (.seq _ (.cond _ (.seq _ (.seq _ (.region _ ops _))) _)))))))))) _)))) => ops | _ => #[]
theorem size49_14 : reg49_14.size = 7 := by kernel_rfl
noncomputable def reg49_15 : Array Oper := match Try.f49.body with | some (.seq _ (.seq _ (.seq _ (.seq (.seq _ (.block _ (.seq _ (.cond _ _ (.seq _ (.cond _ _ (.seq _ (.cond _ _ (.seq _ (.cond _ _ (.seq (.region _ ops _) _))))))))))) _)))) => ops | _ => #[]
theorem size49_15 : reg49_15.size = 2 := by kernel_rfl
noncomputable def reg49_16 : Array Oper := match Try.f49.body with | some (.seq _ (.seq _ (.seq _ (.seq (.seq _ (.block _ (.seq _ (.cond _ _ (.seq _ (.cond _ _ (.seq _ (.cond _ _ (.seq _ (.cond _ _ (.seq _ (.cond _ (.seq (.region _ ops _) _) _)))))))))))) _)))) => ops | _ => #[]
theorem size49_16 : reg49_16.size = 14 := by kernel_rfl
noncomputable def reg49_17 : Array Oper := match Try.f49.body with | some (.seq _ (.seq _ (.seq _ (.seq (.seq _ (.block _ (.seq _ (.cond _ _ (.seq _ (.cond _ _ (.seq _ (.cond _ _ (.seq _ (.cond _ _ (.seq _ (.cond _ (.seq _ (.cond _ (.seq (.region _ ops _) _) _)) _)))))))))))) _)))) => ops | _ => #[]
theorem size49_17 : reg49_17.size = 7 := by kernel_rfl
noncomputable def reg49_18 : Array Oper := match Try.f49.body with | some (.seq _ (.seq _ (.seq _ (.seq (.seq _ (.block _ (.seq _ (.cond _ _ (.seq _ (.cond _ _ (.seq _ (.cond _ _ (.seq _ (.cond _ _ (.seq _ (.cond _ (.seq _ (.cond _ (.seq _ (.region _ ops _)) _)) _)))))))))))) _)))) => ops | _ => #[]
theorem size49_18 : reg49_18.size = 6 := by kernel_rfl
noncomputable def reg49_19 : Array Oper := match Try.f49.body with | some (.seq _ (.seq _ (.seq _ (.seq (.seq _ (.block _ (.seq _ (.cond _ _ (.seq _ (.cond _ _ (.seq _ (.cond _ _ (.seq _ (.cond _ _ (.seq _ (.cond _ (.seq _ (.cond _ _ (.region _ ops _))) _)))))))))))) _)))) => ops | _ => #[]
theorem size49_19 : reg49_19.size = 6 := by kernel_rfl
noncomputable def reg49_20 : Array Oper := match Try.f49.body with | some (.seq _ (.seq _ (.seq _ (.seq _ (.region _ ops _))))) => ops | _ => #[]
theorem size49_20 : reg49_20.size = 4 := by kernel_rfl
theorem code49_is : Try.f49.body = some (.seq (.region 0 reg49_0 true) (.seq (.region 1 reg49_1 false) (.seq (.region 2 reg49_2 false) (.seq (.seq (.region 3 reg49_3 false) (.block 0 (.seq (.region 4 reg49_4 false) (.cond (.tmp 29 ) (.region 5 reg49_5 true) (.seq (.region 6 reg49_6 false) (.cond (.tmp 41 ) (.region 7 reg49_7 true) (.seq (.region 8 reg49_8 false) (.cond (.tmp 53 ) (.seq (.region 9 reg49_9 true) (.region 10 reg49_10 true)) (.seq (.region 11 reg49_11 false) (.cond (.tmp 77 ) (.seq (.region 12 reg49_12 false) (.seq (.region 13 reg49_13 true) (.region 14 reg49_14 false))) (.seq (.region 15 reg49_15 false) (.cond (.tmp 100 ) (.seq (.region 16 reg49_16 true) (.cond (.tmp 115 ) (.seq (.region 17 reg49_17 false) (.region 18 reg49_18 false)) (.region 19 reg49_19 false))) (.skip))))))))))))) (.region 20 reg49_20 false))))) := by kernel_rfl
noncomputable def at49 (p X : Nat) (ws : Value) (kr : Nat) (u : Nat → Value) : Frame :=
  (base 49).at { tmps := #[.pointer (some ⟨p, 0, none⟩), ws, u 2, u 3, .pointer (some ⟨X, 0, none⟩), .int .i64 kr, u 6, u 7, u 8, u 9, u 10, u 11, u 12, u 13, u 14, u 15, u 16, u 17, u 18, u 19, u 20, u 21, u 22, u 23, u 24, u 25, u 26, u 27, u 28, u 29, u 30, u 31, u 32, u 33, u 34, u 35, u 36, u 37, u 38, u 39, u 40, u 41, u 42, u 43, u 44, u 45, u 46, u 47, u 48, u 49, u 50, u 51, u 52, u 53, u 54, u 55, u 56, u 57, u 58, u 59, u 60, u 61, u 62, u 63, u 64, u 65, u 66, u 67, u 68, u 69, u 70, u 71, u 72, u 73, u 74, u 75, u 76, u 77, u 78, u 79, u 80, u 81, u 82, u 83, u 84, u 85, u 86, u 87, u 88, u 89, u 90, u 91, u 92, u 93, u 94, u 95, u 96, u 97, u 98, u 99, u 100, u 101, u 102, u 103, u 104, u 105, u 106, u 107, u 108, u 109, u 110, u 111, u 112, u 113, u 114, u 115, u 116, u 117, u 118, u 119, u 120, u 121, u 122, u 123, u 124, u 125, u 126, u 127, u 128, u 129, u 130, u 131, u 132, u 133, u 134, u 135], defers := [] } [.code (.seq (.seq (.region 3 reg49_3 false) (.block 0 (.seq (.region 4 reg49_4 false) (.cond (.tmp 29 ) (.region 5 reg49_5 true) (.seq (.region 6 reg49_6 false) (.cond (.tmp 41 ) (.region 7 reg49_7 true) (.seq (.region 8 reg49_8 false) (.cond (.tmp 53 ) (.seq (.region 9 reg49_9 true) (.region 10 reg49_10 true)) (.seq (.region 11 reg49_11 false) (.cond (.tmp 77 ) (.seq (.region 12 reg49_12 false) (.seq (.region 13 reg49_13 true) (.region 14 reg49_14 false))) (.seq (.region 15 reg49_15 false) (.cond (.tmp 100 ) (.seq (.region 16 reg49_16 true) (.cond (.tmp 115 ) (.seq (.region 17 reg49_17 false) (.region 18 reg49_18 false)) (.region 19 reg49_19 false))) (.skip))))))))))))) (.region 20 reg49_20 false))]
noncomputable def at49b (p : Nat) (ws : Value) (u : Nat → Value) : Frame :=
  (base 49).at { tmps := #[.pointer (some ⟨p, 0, none⟩), ws, u 2, u 3, u 4, u 5, u 6, u 7, u 8, u 9, u 10, u 11, u 12, u 13, u 14, u 15, u 16, u 17, u 18, u 19, u 20, u 21, u 22, u 23, u 24, u 25, u 26, u 27, u 28, u 29, u 30, u 31, u 32, u 33, u 34, u 35, u 36, u 37, u 38, u 39, u 40, u 41, u 42, u 43, u 44, u 45, u 46, u 47, u 48, u 49, u 50, u 51, u 52, u 53, u 54, u 55, u 56, u 57, u 58, u 59, u 60, u 61, u 62, u 63, u 64, u 65, u 66, u 67, u 68, u 69, u 70, u 71, u 72, u 73, u 74, u 75, u 76, u 77, u 78, u 79, u 80, u 81, u 82, u 83, u 84, u 85, u 86, u 87, u 88, u 89, u 90, u 91, u 92, u 93, u 94, u 95, u 96, u 97, u 98, u 99, u 100, u 101, u 102, u 103, u 104, u 105, u 106, u 107, u 108, u 109, u 110, u 111, u 112, u 113, u 114, u 115, u 116, u 117, u 118, u 119, u 120, u 121, u 122, u 123, u 124, u 125, u 126, u 127, u 128, u 129, u 130, u 131, u 132, u 133, u 134, u 135], defers := [] } [.code (.region 20 reg49_20 false)]
theorem step49_in (p cb co L cc k : Nat) (R : Nat → Int) (tv : Value) (e : Bool) (ws : Value) (c : Cd) (cs : List Frame) (w : World) (hp : w.heap[p]? = some (.cells (rtArr (.slice (some ⟨cb, co, none⟩) L cc) (k : Nat) R tv e) 105)) (hk : k < L) (hL : L ≤ 4398046511104)
    (hc : ∀ m v, (cdCells c)[m]? = some v → w.cell? ⟨cb, co + k * 5 + m, none⟩ = some v) :
    Walk Try.prog main (DR (fun _ => none)) (fun g w' => (∃ u, g = G (at49 p w.heap.size ws (regN c.r) u) cs) ∧ ∃ d, w' = ((w.alloc (.cells (cdArr c) 96)).setCell ⟨p, 1, none⟩ (.int .i64 ((k + 1 : Nat) : Int))).at d)
      (G (Frame.enter Try.prog 49 #[.pointer (some ⟨p, 0, none⟩), ws] .normal) cs) w := by
  have h0 : w.cell? ⟨p, 0, none⟩ = some (.slice (some ⟨cb, co, none⟩) L cc) := (cell_of hp 0).trans rfl
  have h1 : w.cell? ⟨p, 1, none⟩ = some (.int .i64 (k : Nat)) := (cell_of hp 1).trans rfl
  have h0' := cell_alloc w zeros5 h0
  have h1' := cell_alloc w zeros5 h1
  have hl := (Array.getElem?_eq_some_iff.1 hp).1
  have hw1 : IntKind.wrap .i64 ((k : Int) + 1) = (k : Int) + 1 := by rw [IntKind.wrap_i64]; omega
  have hck : ((k + 1 : Nat) : Int) = (k : Int) + 1 := by simp
  have hf : Free (fun _ => none) ⟨p, 1, none⟩ := (apart0 p).1 _ rfl
  have hc' : ∀ w', w' = w ∨ w' = w.alloc zeros5 → ∀ m v, (cdCells c)[m]? = some v → w'.cell? ⟨cb, co + k * 5 + m, none⟩ = some v := fun w' e m v hv => by
    rcases e with rfl | rfl
    · exact hc m v hv
    · exact cell_alloc w _ (hc m v hv)
  obtain ⟨t96, hu96⟩ : ∃ t96, Try.prog.underlying 96 = some (.struct t96) := by
    have h : (match Try.prog.underlying 96 with | some (.struct _) => true | _ => false) = true := by kernel_rfl
    cases e : Try.prog.underlying 96 with
    | none => rw [e] at h; cases h
    | some x => rw [e] at h; cases x <;> first | exact ⟨_, rfl⟩ | cases h
  rw [hck]
  rw [enter_at _ Try.func49 code49_is]
  simp only [Try.ntmps49, List.size_toArray, List.length_cons, List.length_nil, Nat.reduceAdd, Nat.reduceSub, Array.replicate_succ, Array.replicate_zero, List.push_toArray, List.append_toArray, List.nil_append, List.cons_append]
  repeat (first | refine Walk.c rfl ?_ | refine Walk.cRet ?_ | refine Walk.cEnd ?_ | (refine Walk.cReg ?_; simp only [size49_0, size49_1, size49_2, size49_3, size49_4, size49_5, size49_6, size49_7, size49_8, size49_9, size49_10, size49_11, size49_12, size49_13, size49_14, size49_15, size49_16, size49_17, size49_18, size49_19, size49_20, List.range, List.range.loop]) | (refine Walk.oq ?_; try walk_nrm) | (refine Walk.un ?_; walk_nrm))
  refine Walk.drawnB (w1 := w.alloc (zeros5)) (vm := .pointer (some ⟨w.heap.size, 0, none⟩)) (by kernel_rfl) size49_0 (by kernel_rfl) (by kernel_rfl) (by kernel_rfl) (by decide) (ho_of (by conv => lhs; whnf) (by kernel_rfl)) ?_ ?_
  · intro x rest hr
    (refine Walk.oa ?_; try walk_nrm)
    exact hr _ _ ⟨rfl, _, rfl⟩
  simp only [List.range, List.range.loop]
  repeat (first | (refine Cm.opqB (ho_of (by conv => lhs; whnf) (by kernel_rfl)) (by rfl) (fun dd e he => ?_) (fun dd e he => ?_) ?_; (· (simp [go_sem, *] at he; try (subst he; exact evR_read _ _))); (· (simp [go_sem, *] at he; try (subst he; exact evR_read _ _))); apply Exists.intro; apply And.intro; (· (intro dd K hK; go_simp; exact hK)); apply And.intro; (· (intro dd K hK; go_simp; exact hK))) | (refine Cm.unw (ho_of (by conv => lhs; whnf) (by kernel_rfl)) (by rfl) ?_; walk_nrm))
  refine Cm.loadS 96 (.tmp 15) (ho_of (by conv => lhs; whnf) (by kernel_rfl)) (by rfl) rfl cb (co + k * 5) (cdCells c) _ rfl hc' hu96 rfl (by kernel_rfl) ?_
  clear hc' hc h0 h1 h0' h1'
  walk_nrm
  refine Cm.done ?_
  intro rest hr
  refine Walk.storeS 96 (.tmp 4) (.tmp 16) (ho_of (by conv => lhs; whnf) (by kernel_rfl)) (by rfl) (by decide) rfl w.heap.size (cdArr c) #[.int .i64 0, .int .i64 0, .int .i64 0, .int .i64 0, .int .i64 0] 96 rfl rfl (heap_alloc_new _ _) (by kernel_rfl) rfl (by simp [cdArr, Value.oneCell']) (apart0 _) ?_
  refine hr _ _ ?_
  walk_nrm
  unfold zeros5
  rw [setRow_alloc]
  try walk_nrm
  have hp1 : (w.alloc (.cells (cdArr c) 96)).heap[p]? = some (.cells (rtArr (.slice (some ⟨cb, co, none⟩) L cc) (k : Nat) R tv e) 105) := (heap_new_lt w _ hl).trans hp
  have hX := heap_alloc_new w (.cells (cdArr c) 96)
  generalize w.alloc (.cells (cdArr c) 96) = w1 at *
  generalize w.heap.size = X at *
  have hXp : X ≠ p := by omega
  have h1 : w1.cell? ⟨p, 1, none⟩ = some (.int .i64 (k : Nat)) := (cell_of hp1 1).trans rfl
  have hz1 := frozen_of hp1 1
  repeat (first | refine Walk.c rfl ?_ | refine Walk.cRet ?_ | refine Walk.cEnd ?_ | (refine Walk.cReg ?_; simp only [size49_0, size49_1, size49_2, size49_3, size49_4, size49_5, size49_6, size49_7, size49_8, size49_9, size49_10, size49_11, size49_12, size49_13, size49_14, size49_15, size49_16, size49_17, size49_18, size49_19, size49_20, List.range, List.range.loop]) | (refine Walk.oq ?_; try walk_nrm) | (refine Walk.un ?_; walk_nrm))
  (refine Walk.os hf h1 ?_; try walk_nrm)
  have hX2 : (w1.setCell ⟨p, 1, none⟩ (.int .i64 ((k : Int) + 1))).heap[X]? = some (.cells (cdArr c) 96) := (heap_set_other _ _ _ _ hXp).trans hX
  clear h1 hz1 hp1 hX hp hl
  generalize w1.setCell ⟨p, 1, none⟩ (.int .i64 ((k : Int) + 1)) = w2 at *
  have x1 : w2.cell? ⟨X, 1, none⟩ = some (.int .i64 c.r) := (cell_of hX2 1).trans rfl
  have hq := reg76_k (main := main) c.r w2
  repeat (first | refine Walk.c rfl ?_ | refine Walk.cRet ?_ | refine Walk.cEnd ?_ | (refine Walk.cReg ?_; simp only [size49_0, size49_1, size49_2, size49_3, size49_4, size49_5, size49_6, size49_7, size49_8, size49_9, size49_10, size49_11, size49_12, size49_13, size49_14, size49_15, size49_16, size49_17, size49_18, size49_19, size49_20, List.range, List.range.loop]) | (refine Walk.oq ?_; try walk_nrm) | (refine Walk.un ?_; walk_nrm))
  refine Walk.callV (x := .int .i64 ((regN c.r : Nat) : Int)) (W := w2) ?_ (ho_of (by conv => lhs; whnf) (by kernel_rfl)) (by rfl) (by decide) rfl Try.func76 (by kernel_rfl) (by rfl) ?_
  · walk_nrm
    exact hq
  try walk_nrm
  repeat (first | (refine Walk.oq ?_; try walk_nrm) | (refine Walk.un ?_; walk_nrm))
  refine Walk.ctl rfl (fun w => stepG_region_end) ?_
  refine .stop fun d => ⟨at_slots ?_, d, rfl⟩
  simp only [at49]
  rfl
end
end Go.Proofs.Ytgiiicdpbdfemaa
