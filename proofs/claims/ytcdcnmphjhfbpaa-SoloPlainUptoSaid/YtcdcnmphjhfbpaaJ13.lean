/- Part 13. -/
import Derived.Test.YtcdcnmphjhfbpaaJ6
import Derived.Test.YtcdcnmphjhfbpaaJ7
import Derived.Test.YtcdcnmphjhfbpaaJ11
set_option linter.unusedSimpArgs false
set_option linter.unusedVariables false
set_option linter.unusedVariables false
set_option maxHeartbeats 8000000
set_option maxRecDepth 100000
namespace Go.Proofs.Ytcdcnmphjhfbpaa
open Go.Conc Go.RowKit Go.Relay
open Go.ConcN (upd upd_ne upd_same)
section
def NumB (w : World) (B : Nat) (xs : List Int) : Prop := w.heap[B]? = some (.cells (xs.map fun z => Value.int .i64 z).toArray 2)
theorem NumB.cell {w : World} {B : Nat} {xs : List Int} (h : NumB w B xs) {j : Nat} {z : Int} (hj : xs[j]? = some z) : w.cell? ⟨B, j, none⟩ = some (.int .i64 z) := by
  refine (cell_of h j).trans ?_
  simp [hj]
theorem NumB.frozen {w : World} {B : Nat} {xs : List Int} (h : NumB w B xs) (j : Nat) : w.frozen? ⟨B, j, none⟩ = false := frozen_of h j
theorem NumB.set {w : World} {B : Nat} {xs : List Int} (h : NumB w B xs) (j : Nat) (z : Int) : NumB (w.setCell ⟨B, j, none⟩ (.int .i64 z)) B (xs.set j z) := by
  unfold NumB
  rw [heap_set_self _ _ h]
  simp [List.map_set]
theorem NumB.same {w w' : World} {B : Nat} {xs : List Int} (h : NumB w B xs) (hb : w'.heap[B]? = w.heap[B]?) : NumB w' B xs := hb.trans h
theorem NumB.lt {w : World} {B : Nat} {xs : List Int} (h : NumB w B xs) : B < w.heap.size := (Array.getElem?_eq_some_iff.1 h).1
theorem NumB.row {w : World} {B : Nat} {xs : List Int} (h : NumB w B xs) {base : Nat} (hb : base ≤ B) (hn : xs.length ≤ maxLen) : w.ownsRow base 2 1 (.slice (some ⟨B, 0, none⟩) xs.length xs.length) xs.length (xs.map fun z => .int .i64 z) :=
  ⟨by simp, .inr ⟨B, xs.length, _, rfl, hb, h, Nat.le_refl _, hn, by simp, by simpa using List.take_of_length_le (by simp)⟩⟩
theorem NumB.lsR {w : World} {B : Nat} {xs : List Int} (h : NumB w B xs) : LsR (.slice (some ⟨B, 0, none⟩) xs.length xs.length) xs w :=
  ⟨_, _, rfl, Nat.le_refl _, fun e => (by cases e), fun j z hj => ⟨B, 0, rfl, by rw [Nat.zero_add]; exact h.cell hj⟩⟩
theorem made_zero (n : Nat) : madeCells #[Value.int .i64 0] n = ((List.replicate n (0 : Int)).map fun z => Value.int .i64 z).toArray := by
  apply Array.ext'
  rw [toList_madeCells_one]
  simp
def padL (l : List Int) (n : Nat) : List Int := l ++ List.replicate (n - l.length) 0
theorem padL_nil (n : Nat) : padL [] n = List.replicate n 0 := rfl
theorem padL_full {l : List Int} {n : Nat} (h : l.length = n) : padL l n = l := by simp [padL, h]
theorem padL_set {l : List Int} {n : Nat} (h : l.length < n) (v : Int) : (padL l n).set l.length v = padL (l ++ [v]) n := by
  unfold padL
  obtain ⟨m, hm⟩ : ∃ m, n - l.length = m + 1 := ⟨n - l.length - 1, by omega⟩
  have hm2 : n - (l ++ [v]).length = m := by simp; omega
  rw [hm, hm2, List.replicate_succ, List.set_append_right _ _ (Nat.le_refl _)]
  simp
theorem range_snoc (f : Nat → Int) (j : Nat) : (List.range (j + 1)).map f = (List.range j).map f ++ [f j] := by simp [List.range_succ]
section
variable {P : Program} {main : Bool} {V : Nat → Option Wait} {Stop : Goroutine → World → Prop} {b : Frame} {a : Act} {cs : List Frame} {w : World} {fn : Func} {todo : List Item} {c : Frame} {t s r : Tmp}
theorem Walk.on3 (hn : b.kind = .normal) (hd : a.defers = []) (hf : P.funcs[b.fn]? = some fn) (hr : fn.results = #[.tmp t, .tmp s, .tmp r]) (h : Walk P main (DR V) Stop (G (c.finish (.tuple #[a.tmps.getD t undef, a.tmps.getD s undef, a.tmps.getD r undef])) cs) w) : Walk P main (DR V) Stop (G { b.at a todo with mode := .returning } (c :: cs)) w :=
  Walk.ctl rfl (fun w => stepG_leave (v := .tuple #[a.tmps.getD t undef, a.tmps.getD s undef, a.tmps.getD r undef]) hn hd hf (by simp [results, hr]) (by simp [results, hr])) h
end
section
variable {main : Bool} {V : Nat → Option Wait}
theorem step_nil (w : World) : CallV Try.prog main V 120 #[.nilIface] w (.tuple #[]) w := by
  obtain ⟨ms, hu⟩ := undStepperN
  have hn1 := fun w => run_neq_nilIface (P := Try.prog) (w := w) 137 hu
  have hn2 := fun w es => ev_neq_nilIface (P := Try.prog) (w := w) 137 es hu
  refine callW_in Try.func120 code120_is fun fr cs => ?_
  simp only [Try.ntmps120, ez, Nat.reduceAdd, Nat.reduceSub]
  repeat (first | refine Walk.cx ?_ | (refine Walk.cReg ?_; simp only [z120]) | (refine Walk.oq ?_; try walk_nrm) | (refine Walk.un ?_; walk_nrm))
  exact Walk.ret0 rfl rfl Try.func120 rfl fun d => ⟨rfl, d, rfl⟩
theorem holds_nil (b q : Nat) (v : Int) (w : World) (hc : w.cell? ⟨b, q, none⟩ = some (.int .i64 v)) : CallV Try.prog main V 133 #[.nilIface, .pointer (some ⟨b, q, none⟩)] w (.int .i64 v) w := by
  have hi1 := run_ifaceAtomic
  have hi2 := ev_ifaceAtomic
  refine callW_in Try.func133 code133_is fun fr cs => ?_
  simp only [Try.ntmps133, ez, Nat.reduceAdd, Nat.reduceSub]
  repeat (first | refine Walk.cx ?_ | (refine Walk.cReg ?_; simp only [z133]) | (refine Walk.oq ?_; try walk_nrm) | (refine Walk.un ?_; walk_nrm))
  refine Walk.callV (x := .tuple #[]) (W := w) ?_ (ho_of (by conv => lhs; whnf) (by kernel_rfl)) (by rfl) (by decide) rfl Try.func120 (by kernel_rfl) (by rfl) ?_
  · walk_nrm
    exact step_nil w
  walk_nrm
  repeat (first | refine Walk.cx ?_ | (refine Walk.cReg ?_; simp only [z133]) | (refine Walk.oq ?_; try walk_nrm) | (refine Walk.un ?_; walk_nrm))
  refine Walk.invokeLoad b q (ho_of (by conv => lhs; whnf) (by kernel_rfl)) (by rfl) (by decide) rfl rfl ?_
  refine (atLoad b q _ w hc _ _).then ?_
  rintro g' w' ⟨v', ⟨rfl, dd, rfl⟩, rfl⟩
  refine Walk.back ?_ dd
  refine Walk.finish (ho_of (by conv => lhs; whnf) (by kernel_rfl)) ?_
  walk_nrm
  repeat (first | refine Walk.cx ?_ | (refine Walk.cReg ?_; simp only [z133]) | (refine Walk.oq ?_; try walk_nrm) | (refine Walk.un ?_; walk_nrm))
  exact Walk.ret1 rfl rfl Try.func133 rfl fun d => ⟨rfl, d, rfl⟩
theorem load_nil (b q : Nat) (v : Int) (w : World) (hc : w.cell? ⟨b, q, none⟩ = some (.int .i64 v)) : CallV Try.prog main V 100 #[.pointer (some ⟨b, q, none⟩), .nilIface] w (.int .i64 v) w := by
  have hp1 := fun w => run_eql_ptr (P := Try.prog) 193 undWord (some ⟨b, q, none⟩) w
  have hp2 := fun w es => ev_eql_ptr (P := Try.prog) 193 undWord (some ⟨b, q, none⟩) w es
  simp only [Option.isNone_some] at hp1
  refine callW_in Try.func100 code100_is fun fr cs => ?_
  simp only [Try.ntmps100, ez, Nat.reduceAdd, Nat.reduceSub]
  repeat (first | refine Walk.cx ?_ | (refine Walk.cReg ?_; simp only [z100]) | (refine Walk.oq ?_; try walk_nrm) | (refine Walk.un ?_; walk_nrm))
  refine Walk.callV (x := .int .i64 v) (W := w) ?_ (ho_of (by conv => lhs; whnf) (by kernel_rfl)) (by rfl) (by decide) rfl Try.func133 (by kernel_rfl) (by rfl) ?_
  · walk_nrm
    exact holds_nil b q v w hc
  walk_nrm
  repeat (first | refine Walk.cx ?_ | (refine Walk.cReg ?_; simp only [z100]) | (refine Walk.oq ?_; try walk_nrm) | (refine Walk.un ?_; walk_nrm))
  exact Walk.ret1 rfl rfl Try.func100 rfl fun d => ⟨rfl, d, rfl⟩
noncomputable def reg78_0 := rg Try.f78.body [0]
noncomputable def reg78_1 := rg Try.f78.body [1, 0]
theorem z78 : List.range reg78_0.size = [0] ∧ List.range reg78_1.size = [0, 1, 2] := by refine ⟨?_, ?_⟩ <;> kernel_rfl
theorem code78_is : Try.f78.body = some (.seq (.region 0 reg78_0 false) (.seq (.region 1 reg78_1 false) (.ret))) := by kernel_rfl
theorem value_nil (b q : Nat) (v : Int) (w : World) (hc : w.cell? ⟨b, q, none⟩ = some (.int .i64 v)) : CallV Try.prog main V 78 #[.pointer (some ⟨b, q, none⟩)] w (.int .i64 v) w := by
  refine callW_in Try.func78 code78_is fun fr cs => ?_
  simp only [Try.ntmps78, ez, Nat.reduceAdd, Nat.reduceSub]
  repeat (first | refine Walk.cx ?_ | (refine Walk.cReg ?_; simp only [z78]) | (refine Walk.oq ?_; try walk_nrm) | (refine Walk.un ?_; walk_nrm))
  refine Walk.callV (x := .int .i64 v) (W := w) ?_ (ho_of (by conv => lhs; whnf) (by kernel_rfl)) (by rfl) (by decide) rfl Try.func100 (by kernel_rfl) (by rfl) ?_
  · walk_nrm
    exact load_nil b q v w hc
  walk_nrm
  repeat (first | refine Walk.cx ?_ | (refine Walk.cReg ?_; simp only [z78]) | (refine Walk.oq ?_; try walk_nrm) | (refine Walk.un ?_; walk_nrm))
  exact Walk.ret1 rfl rfl Try.func78 rfl fun d => ⟨rfl, d, rfl⟩
end
end
section
structure EaI (w0 : World) (N n : Nat) (g : Nat → Int) (j : Nat) (w : World) : Prop where
  row : NumB w N (padL ((List.range j).map g) n)
  old : ∀ b, b < N → w.heap[b]? = w0.heap[b]?
  size : N < w.heap.size
section
variable {main : Bool} {V : Nat → Option Wait} {rb sb n : Nat} {s : Rg}
theorem EaI.at {w0 w : World} {N j : Nat} {g : Nat → Int} (h : EaI w0 N n g j w) (d : Nat) : EaI w0 N n g j (w.at d) := ⟨h.row, h.old, h.size⟩
def NewN (n : Nat) (g : Nat → Int) (w : World) (v : Value) (w' : World) : Prop := v = .slice (some ⟨w.heap.size, 0, none⟩) n n ∧ NumB w' w.heap.size ((List.range n).map g) ∧ (∀ b, b < w.heap.size → w'.heap[b]? = w.heap[b]?) ∧ w.heap.size < w'.heap.size
end
end
section
section
variable {main : Bool} {V : Nat → Option Wait}
theorem store_nil (b q : Nat) (u : Value) (v : Int) (w : World) (hc : w.cell? ⟨b, q, none⟩ = some u) (hz : w.frozen? ⟨b, q, none⟩ = false) (hf : Free V ⟨b, q, none⟩) : CallV Try.prog main V 71 #[.pointer (some ⟨b, q, none⟩), .nilIface, .int .i64 v] w (.tuple #[]) (w.setCell ⟨b, q, none⟩ (.int .i64 v)) := by
  have hp1 := fun w => run_eql_ptr (P := Try.prog) 193 undWord (some ⟨b, q, none⟩) w
  have hp2 := fun w es => ev_eql_ptr (P := Try.prog) 193 undWord (some ⟨b, q, none⟩) w es
  simp only [Option.isNone_some] at hp1
  refine callW_in Try.func71 code71_is fun fr cs => ?_
  simp only [Try.ntmps71, ez, Nat.reduceAdd, Nat.reduceSub]
  repeat (first | refine Walk.cx ?_ | (refine Walk.cReg ?_; simp only [z71]) | (refine Walk.oq ?_; try walk_nrm) | (refine Walk.un ?_; walk_nrm))
  refine Walk.callV (x := .tuple #[]) (W := w) ?_ (ho_of (by conv => lhs; whnf) (by kernel_rfl)) (by rfl) (by decide) rfl Try.func120 (by kernel_rfl) (by rfl) ?_
  · walk_nrm
    exact step_nil w
  walk_nrm
  repeat (first | refine Walk.cx ?_ | (refine Walk.cReg ?_; simp only [z71]) | (refine Walk.oq ?_; try walk_nrm) | (refine Walk.un ?_; walk_nrm))
  refine Walk.callV (x := .tuple #[]) (W := w.setCell ⟨b, q, none⟩ (.int .i64 v)) ?_ (ho_of (by conv => lhs; whnf) (by kernel_rfl)) (by rfl) (by decide) rfl Try.func121 (by kernel_rfl) (by rfl) ?_
  · walk_nrm
    exact atStore b q u v w hc hz hf
  walk_nrm
  repeat (first | refine Walk.cx ?_ | (refine Walk.cReg ?_; simp only [z71]) | (refine Walk.oq ?_; try walk_nrm) | (refine Walk.un ?_; walk_nrm))
  exact Walk.ret0 rfl rfl Try.func71 rfl fun d => ⟨rfl, d, rfl⟩
end
theorem made2 (n j : Nat) (hj : j < n * 2) : (madeCells #[.int .i64 0, .int .i64 0] (n * 2))[j]? = some (.int .i64 0) := by
  unfold madeCells
  simp [hj]
  have : j % 2 = 0 ∨ j % 2 = 1 := by omega
  rcases this with h | h <;> simp [h]
noncomputable def reg17_0 := rg Try.f17.body [0]
noncomputable def reg17_1 := rg Try.f17.body [1, 0, 0]
noncomputable def reg17_2 := rg Try.f17.body [1, 0, 1, 0, 0]
noncomputable def reg17_3 := rg Try.f17.body [1, 1, 0]
noncomputable def reg17_4 := rg Try.f17.body [1, 1, 1, 0, 0]
noncomputable def reg17_5 := rg Try.f17.body [1, 1, 1, 0, 1, 0, 0, 0]
noncomputable def reg17_6 := rg Try.f17.body [1, 1, 1, 0, 1, 0, 0, 1, 1, 0, 0, 0]
noncomputable def reg17_7 := rg Try.f17.body [1, 1, 1, 0, 1, 0, 0, 1, 1, 0, 0, 1]
noncomputable def reg17_8 := rg Try.f17.body [1, 1, 1, 0, 1, 0, 0, 1, 1, 1]
noncomputable def reg17_9 := rg Try.f17.body [1, 1, 1, 1, 0]
theorem z17 : List.range reg17_0.size = [0, 1] ∧ List.range reg17_1.size = [0, 1, 2, 3, 4, 5, 6, 7, 8, 9, 10, 11, 12] ∧ List.range reg17_2.size = [0, 1] ∧ List.range reg17_3.size = [0, 1, 2, 3, 4] ∧ List.range reg17_4.size = [0, 1, 2, 3, 4, 5] ∧ List.range reg17_5.size = [0] ∧ List.range reg17_6.size = [0, 1] ∧ List.range reg17_7.size = [0, 1, 2, 3, 4, 5, 6, 7] ∧ List.range reg17_8.size = [0, 1] ∧ List.range reg17_9.size = [0, 1, 2] := by refine ⟨?_, ?_, ?_, ?_, ?_, ?_, ?_, ?_, ?_, ?_⟩ <;> kernel_rfl
theorem code17_is : Try.f17.body = some (.seq (.region 0 reg17_0 false) (.seq (.seq (.region 1 reg17_1 false) (.cond (.tmp 18 ) (.seq (.region 2 reg17_2 false) (.ret)) (.skip))) (.seq (.region 3 reg17_3 false) (.seq (.seq (.region 4 reg17_4 false) (.block 0 (.loop (.seq (.region 5 reg17_5 false) (.seq (.cond (.tmp 29 ) (.skip) (.exit 0)) (.seq (.block 1 (.seq (.region 6 reg17_6 false) (.region 7 reg17_7 false))) (.region 8 reg17_8 false))))))) (.seq (.region 9 reg17_9 false) (.ret)))))) := by kernel_rfl
noncomputable def hdNw (rb n j : Nat) (u : Nat → Value) : Frame :=
  (base 17).at { tmps := #[u 0, u 1, .pointer none, .int .i64 0, .pointer (some ⟨rb, 0, none⟩), u 5, u 6, u 7, u 8, u 9, u 10, u 11, u 12, u 13, u 14, u 15, u 16, u 17, u 18, u 19, u 20, u 21, u 22, u 23, u 24, u 25, u 26, .int .i64 n, .int .i64 j, u 29, u 30, u 31, u 32, u 33, u 34, u 35, u 36, u 37, u 38, u 39, u 40], defers := [] } [.code (.seq (.region 5 reg17_5 false) (.seq (.cond (.tmp 29 ) (.skip) (.exit 0)) (.seq (.block 1 (.seq (.region 6 reg17_6 false) (.region 7 reg17_7 false))) (.region 8 reg17_8 false)))), .inLoop (.seq (.region 5 reg17_5 false) (.seq (.cond (.tmp 29 ) (.skip) (.exit 0)) (.seq (.block 1 (.seq (.region 6 reg17_6 false) (.region 7 reg17_7 false))) (.region 8 reg17_8 false)))), .inBlock 0, .code (.seq (.region 9 reg17_9 false) (.ret))]
def okS (sz : Int) : Prop := 1 ≤ sz ∧ sz ≤ 65536 ∧ bits .and .i64 sz (sz - 1) = 0
instance (sz : Int) : Decidable (okS sz) := inferInstanceAs (Decidable (_ ∧ _ ∧ _))
def rgJ (j : Nat) : Rg := ⟨fun i => if i < j then -2 else 0, fun _ => 0⟩
theorem rgJ_put (j : Nat) : rgPutS (rgJ j) j (-2) = rgJ (j + 1) := by
  unfold rgPutS rgJ
  congr 1
  funext i
  simp only [upd]
  by_cases e : i = j
  · rw [if_pos e, if_pos (by omega)]
  · rw [if_neg e]
    by_cases h : i < j
    · rw [if_pos h, if_pos (by omega)]
    · rw [if_neg h, if_neg (by omega)]
end
section
section
variable {main : Bool} {V : Nat → Option Wait} {n : Nat}
structure NwR (w0 : World) (rb sb n j : Nat) (w : World) : Prop where
  I : RgI rb sb n (rgJ j) w
  old : ∀ b, b < w0.heap.size → w.heap[b]? = w0.heap[b]?
  size : w0.heap.size ≤ w.heap.size
theorem NwR.at {w0 w : World} {rb sb j : Nat} (h : NwR w0 rb sb n j w) (d : Nat) : NwR w0 rb sb n j (w.at d) := ⟨⟨h.I.hd, h.I.sl, h.I.pos⟩, h.old, h.size⟩
theorem new_in (sz : Int) (hz : sz = (n : Nat)) (hok : okS sz) (cs : List Frame) (w : World) :
    Walk Try.prog main (DR V) (fun gr w' => (∃ u, gr = G (hdNw (w.heap.size + 1) n 0 u) cs) ∧ NwR w (w.heap.size + 1) w.heap.size n 0 w') (G (Frame.enter Try.prog 17 #[.int .i64 sz] .normal) cs) w := by
  have hi1 := Option.some_get (show (Try.prog.info? 134).isSome = true by kernel_rfl)
  subst hz
  obtain ⟨h1, h2, h3⟩ := hok
  have hw1 : IntKind.wrap .i64 ((n : Int) - 1) = (n : Int) - 1 := by rw [IntKind.wrap_i64]; omega
  have g1 : decide ((n : Int) < 1) = false := decide_eq_false (by omega)
  have g2 : decide (65536 < (n : Int)) = false := decide_eq_false (by omega)
  have g3 : (bits .and .i64 (n : Int) ((n : Int) - 1) != 0) = false := by rw [h3]; rfl
  rw [enter_at _ Try.func17 code17_is]
  simp only [Try.ntmps17, ez, Nat.reduceAdd, Nat.reduceSub]
  repeat (first | refine Walk.cx ?_ | (refine Walk.cReg ?_; simp only [z17]) | (refine Walk.oq ?_; try walk_nrm) | (refine Walk.un ?_; walk_nrm))
  clear g1 g2 g3 h3 hw1
  refine Walk.make 130 (.tmp 19) (.tmp 19) (ho_of (by conv => lhs; whnf) (by kernel_rfl)) (by rfl) (by decide) rfl 134 _ (.agg #[.int .i64 0, .int .i64 0]) 2 16 (by kernel_rfl) hi1.symm (by rfl) (by rfl) (by rfl) n (by rfl) (by rfl) (by omega) (by omega) ?_
  walk_nrm
  simp only [Value.cells]
  have s1 : (w.alloc (.cells (madeCells #[.int .i64 0, .int .i64 0] (n * 2)) 134)).heap.size = w.heap.size + 1 := by simp
  have o1 : ∀ b, b < w.heap.size → (w.alloc (.cells (madeCells #[.int .i64 0, .int .i64 0] (n * 2)) 134)).heap[b]? = w.heap[b]? := fun b hb => heap_new_lt _ _ hb
  have d1 := heap_alloc_new w (.cells (madeCells #[.int .i64 0, .int .i64 0] (n * 2)) 134)
  generalize hN : w.heap.size = N at *
  generalize w.alloc (.cells (madeCells #[.int .i64 0, .int .i64 0] (n * 2)) 134) = w1 at *
  repeat (first | (refine Walk.oq ?_; try walk_nrm) | (refine Walk.un ?_; walk_nrm))
  (refine Walk.oa ?_; try walk_nrm)
  have s2 : (w1.alloc (.cells #[.slice (some ⟨N, 0, none⟩) n n] 132)).heap.size = w1.heap.size + 1 := by simp
  have o2 : ∀ b, b < w1.heap.size → (w1.alloc (.cells #[.slice (some ⟨N, 0, none⟩) n n] 132)).heap[b]? = w1.heap[b]? := fun b hb => heap_new_lt _ _ hb
  have d2 := heap_alloc_new w1 (.cells #[.slice (some ⟨N, 0, none⟩) n n] 132)
  try simp only [s1]
  rw [s1] at d2
  generalize w1.alloc (.cells #[.slice (some ⟨N, 0, none⟩) n n] 132) = w2 at *
  have I : RgI (N + 1) N n (rgJ 0) w2 := ⟨d2, ⟨_, (o2 N (by omega)).trans d1, by rw [size_madeCells]; omega, fun i hi => ⟨(made2 n (i * 2) (by omega)).trans (by simp [rgJ]), (made2 n (i * 2 + 1) (by omega)).trans (by simp [rgJ])⟩⟩, by omega⟩
  have c1 := I.size
  repeat (first | refine Walk.cx ?_ | (refine Walk.cReg ?_; simp only [z17]) | (refine Walk.oq ?_; try walk_nrm) | (refine Walk.un ?_; walk_nrm))
  refine Walk.ctl rfl (fun w => stepG_loop) ?_
  refine .stop fun d => ⟨at_slots ?_, NwR.at ⟨I, fun b hb => (o2 b (by omega)).trans (o1 b (by omega)), by omega⟩ d⟩
  simp only [hdNw]
  rfl
theorem new_go (w0 : World) (rb sb j : Nat) (hj : j < n) (u : Nat → Value) (cs : List Frame) (w : World) (hap : Apart V sb) (E : NwR w0 rb sb n j w) (hsb : w0.heap.size ≤ sb) :
    Walk Try.prog main (DR V) (fun gr w' => (∃ u, gr = G (hdNw rb n (j + 1) u) cs) ∧ NwR w0 rb sb n (j + 1) w') (G (hdNw rb n j u) cs) w := by
  have hn := E.I.pos
  have c1 := E.I.size
  obtain ⟨hc0, hz0⟩ := E.I.rdS hj
  have hst := store_nil (main := main) (V := V) sb (j * 2) _ (-2) w hc0 hz0 (hap.1 _ rfl)
  have I2 := E.I.wrS hj (-2)
  rw [rgJ_put] at I2
  have E2 : NwR w0 rb sb n (j + 1) (w.setCell ⟨sb, j * 2, none⟩ (.int .i64 (-2))) := ⟨I2, fun b hb => (heap_set_other _ _ _ _ (fun e : b = sb => by omega)).trans (E.old b hb), by rw [size_set]; exact E.size⟩
  have hj0 : (0 : Int) ≤ j := by omega
  have hj1 : decide ((j : Int) < n) = true := by simp; omega
  have hj3 : decide (j < n) = true := by simp; omega
  have hj4 : (j : Int) < n := by omega
  have hw1 : IntKind.wrap .i64 ((j : Int) + 1) = (j : Int) + 1 := by rw [IntKind.wrap_i64]; omega
  have hc : ((j + 1 : Nat) : Int) = (j : Int) + 1 := by simp
  clear E I2 hc0 hz0
  conv => arg 5; unfold hdNw
  repeat (first | refine Walk.cx ?_ | (refine Walk.cReg ?_; simp only [z17]) | (refine Walk.oq ?_; try walk_nrm) | (refine Walk.un ?_; walk_nrm))
  refine Walk.callV (x := .tuple #[]) (W := w.setCell ⟨sb, j * 2, none⟩ (.int .i64 (-2))) ?_ (ho_of (by conv => lhs; whnf) (by kernel_rfl)) (by rfl) (by decide) rfl Try.func71 (by kernel_rfl) (by rfl) ?_
  · walk_nrm
    exact hst
  clear hst c1
  generalize w.setCell ⟨sb, j * 2, none⟩ (.int .i64 (-2)) = w2 at *
  walk_nrm
  repeat (first | refine Walk.cx ?_ | (refine Walk.cReg ?_; simp only [z17]) | (refine Walk.oq ?_; try walk_nrm) | (refine Walk.un ?_; walk_nrm))
  refine Walk.ctl rfl (fun w => stepG_inLoop) ?_
  refine .stop fun d' => ⟨at_slots ?_, E2.at d'⟩
  simp only [hdNw, hc]
  rfl
theorem new_out (rb : Nat) (u : Nat → Value) (c : Frame) (cs : List Frame) (w : World) :
    Walk Try.prog main (DR V) (fun gr w' => gr = G (c.finish (.tuple #[.pointer (some ⟨rb, 0, none⟩), .int .i64 0])) cs ∧ ∃ d, w' = w.at d) (G (hdNw rb n n u) (c :: cs)) w := by
  have hj1 : decide ((n : Int) < n) = false := by simp
  have hj3 : decide (n < n) = false := by simp
  conv => arg 5; unfold hdNw
  repeat (first | refine Walk.cx ?_ | (refine Walk.cReg ?_; simp only [z17]) | (refine Walk.oq ?_; try walk_nrm) | (refine Walk.un ?_; walk_nrm))
  exact Walk.on2 rfl rfl Try.func17 rfl (.stop fun d => ⟨rfl, d, rfl⟩)
theorem new_loop (w0 : World) (rb sb : Nat) (cs : List Frame) (hap : Apart V sb) (hsb : w0.heap.size ≤ sb) :
    ∀ (r j : Nat) (u : Nat → Value) (w : World), j + r = n → NwR w0 rb sb n j w → Walk Try.prog main (DR V) (fun gr w' => (∃ u, gr = G (hdNw rb n n u) cs) ∧ NwR w0 rb sb n n w') (G (hdNw rb n j u) cs) w := by
  intro r
  induction r with
  | zero =>
    intro j u w hj E
    have hj : j = n := hj
    subst hj
    exact .stop fun d => ⟨⟨u, rfl⟩, E.at d⟩
  | succ r ih =>
    intro j u w hj E
    refine (new_go w0 rb sb j (by omega) u cs w hap E hsb).then ?_
    rintro _ w2 ⟨⟨u2, rfl⟩, E2⟩
    exact ih (j + 1) u2 w2 (by omega) E2
theorem new_w (sz : Int) (hok : okS sz) (w : World) (hA : ∀ b, w.heap.size ≤ b → Apart V b) : CallW Try.prog main V 17 #[.int .i64 sz] w (fun v w' => v = .tuple #[.pointer (some ⟨w.heap.size + 1, 0, none⟩), .int .i64 0] ∧ NwR w (w.heap.size + 1) w.heap.size sz.toNat sz.toNat w') := fun fr cs => by
  have hz : sz = ((sz.toNat : Nat) : Int) := by have := hok.1; omega
  refine (new_in sz hz hok (fr :: cs) w).then ?_
  rintro _ w1 ⟨⟨u, rfl⟩, E1⟩
  refine (new_loop w (w.heap.size + 1) w.heap.size (fr :: cs) (hA _ (Nat.le_refl _)) (Nat.le_refl _) sz.toNat 0 u w1 (Nat.zero_add _) E1).then ?_
  rintro _ w2 ⟨⟨u2, rfl⟩, E2⟩
  refine (new_out (w.heap.size + 1) u2 fr cs w2).mono ?_
  rintro _ _ ⟨rfl, d, rfl⟩
  exact ⟨_, ⟨rfl, E2.at d⟩, rfl⟩
end
end
end Go.Proofs.Ytcdcnmphjhfbpaa
