/- Part 24. -/
import Derived.Test.YtbmijpkdghkbbaaJ14
import Derived.Test.YtbmijpkdghkbbaaJ23
set_option linter.unusedSimpArgs false
set_option linter.unusedVariables false
set_option linter.unusedVariables false
set_option maxHeartbeats 8000000
set_option maxRecDepth 100000
namespace Go.Proofs.Ytbmijpkdghkbbaa
open Go.Conc Go.RowKit Go.Relay
open Go.ConcN (upd upd_ne upd_same)
section
def NumB (w : World) (B : Nat) (xs : List Int) : Prop := w.heap[B]? = some (.cells (xs.map fun z => Value.int .i64 z).toArray 2)
theorem NumB.cell {w : World} {B : Nat} {xs : List Int} (h : NumB w B xs) {j : Nat} {z : Int} (hj : xs[j]? = some z) : w.cell? ⟨B, j, none⟩ = some (.int .i64 z) := by
  refine (cell_of h j).trans ?_
  simp [hj]
theorem NumB.frozen {w : World} {B : Nat} {xs : List Int} (h : NumB w B xs) (j : Nat) : w.frozen? ⟨B, j, none⟩ = false := frozen_of h j
theorem NumB.set {w : World} {B : Nat} {xs : List Int} (h : NumB w B xs) (j : Nat) (z : Int) : NumB (w.setCell ⟨B, j, none⟩ (.int .i64 z)) B (xs.set j z) := by
  unfold NumB
  rw [heap_set_self _ _ h]
  simp [List.map_set]
theorem NumB.same {w w' : World} {B : Nat} {xs : List Int} (h : NumB w B xs) (hb : w'.heap[B]? = w.heap[B]?) : NumB w' B xs := hb.trans h
theorem NumB.lt {w : World} {B : Nat} {xs : List Int} (h : NumB w B xs) : B < w.heap.size := (Array.getElem?_eq_some_iff.1 h).1
theorem NumB.row {w : World} {B : Nat} {xs : List Int} (h : NumB w B xs) {base : Nat} (hb : base ≤ B) (hn : xs.length ≤ maxLen) : w.ownsRow base 2 1 (.slice (some ⟨B, 0, none⟩) xs.length xs.length) xs.length (xs.map fun z => .int .i64 z) :=
  ⟨by simp, .inr ⟨B, xs.length, _, rfl, hb, h, Nat.le_refl _, hn, by simp, by simpa using List.take_of_length_le (by simp)⟩⟩
theorem NumB.lsR {w : World} {B : Nat} {xs : List Int} (h : NumB w B xs) : LsR (.slice (some ⟨B, 0, none⟩) xs.length xs.length) xs w :=
  ⟨_, _, rfl, Nat.le_refl _, fun e => (by cases e), fun j z hj => ⟨B, 0, rfl, by rw [Nat.zero_add]; exact h.cell hj⟩⟩
theorem made_zero (n : Nat) : madeCells #[Value.int .i64 0] n = ((List.replicate n (0 : Int)).map fun z => Value.int .i64 z).toArray := by
  apply Array.ext'
  rw [toList_madeCells_one]
  simp
def padL (l : List Int) (n : Nat) : List Int := l ++ List.replicate (n - l.length) 0
theorem padL_nil (n : Nat) : padL [] n = List.replicate n 0 := rfl
theorem padL_full {l : List Int} {n : Nat} (h : l.length = n) : padL l n = l := by simp [padL, h]
theorem padL_set {l : List Int} {n : Nat} (h : l.length < n) (v : Int) : (padL l n).set l.length v = padL (l ++ [v]) n := by
  unfold padL
  obtain ⟨m, hm⟩ : ∃ m, n - l.length = m + 1 := ⟨n - l.length - 1, by omega⟩
  have hm2 : n - (l ++ [v]).length = m := by simp; omega
  rw [hm, hm2, List.replicate_succ, List.set_append_right _ _ (Nat.le_refl _)]
  simp
theorem range_snoc (f : Nat → Int) (j : Nat) : (List.range (j + 1)).map f = (List.range j).map f ++ [f j] := by simp [List.range_succ]
section
variable {main : Bool} {V : Nat → Option Wait}
theorem step_nil (w : World) : CallV Try.prog main V 101 #[.nilIface] w (.tuple #[]) w := by
  obtain ⟨ms, hu⟩ := undStepperN
  have hn1 := fun w => run_neq_nilIface (P := Try.prog) (w := w) 134 hu
  have hn2 := fun w es => ev_neq_nilIface (P := Try.prog) (w := w) 134 es hu
  refine callW_in Try.func101 code101_is fun fr cs => ?_
  simp only [Try.ntmps101, ez, Nat.reduceAdd, Nat.reduceSub]
  repeat (first | refine Walk.cx ?_ | (refine Walk.cReg ?_; simp only [z101]) | (refine Walk.oq ?_; try walk_nrm) | (refine Walk.un ?_; walk_nrm))
  exact Walk.ret0 rfl rfl Try.func101 rfl fun d => ⟨rfl, d, rfl⟩
theorem holds_nil (b q : Nat) (v : Int) (w : World) (hc : w.cell? ⟨b, q, none⟩ = some (.int .i64 v)) : CallV Try.prog main V 104 #[.nilIface, .pointer (some ⟨b, q, none⟩)] w (.int .i64 v) w := by
  have hi1 := run_ifaceAtomic
  have hi2 := ev_ifaceAtomic
  refine callW_in Try.func104 code104_is fun fr cs => ?_
  simp only [Try.ntmps104, ez, Nat.reduceAdd, Nat.reduceSub]
  repeat (first | refine Walk.cx ?_ | (refine Walk.cReg ?_; simp only [z104]) | (refine Walk.oq ?_; try walk_nrm) | (refine Walk.un ?_; walk_nrm))
  refine Walk.callV (x := .tuple #[]) (W := w) ?_ (ho_of (by conv => lhs; whnf) (by kernel_rfl)) (by rfl) (by decide) rfl Try.func101 (by kernel_rfl) (by rfl) ?_
  · walk_nrm
    exact step_nil w
  walk_nrm
  repeat (first | refine Walk.cx ?_ | (refine Walk.cReg ?_; simp only [z104]) | (refine Walk.oq ?_; try walk_nrm) | (refine Walk.un ?_; walk_nrm))
  refine Walk.invokeLoad b q (ho_of (by conv => lhs; whnf) (by kernel_rfl)) (by rfl) (by decide) rfl rfl ?_
  refine (atLoad b q _ w hc _ _).then ?_
  rintro g' w' ⟨v', ⟨rfl, dd, rfl⟩, rfl⟩
  refine Walk.back ?_ dd
  refine Walk.finish (ho_of (by conv => lhs; whnf) (by kernel_rfl)) ?_
  walk_nrm
  repeat (first | refine Walk.cx ?_ | (refine Walk.cReg ?_; simp only [z104]) | (refine Walk.oq ?_; try walk_nrm) | (refine Walk.un ?_; walk_nrm))
  exact Walk.ret1 rfl rfl Try.func104 rfl fun d => ⟨rfl, d, rfl⟩
theorem load_nil (b q : Nat) (v : Int) (w : World) (hc : w.cell? ⟨b, q, none⟩ = some (.int .i64 v)) : CallV Try.prog main V 73 #[.pointer (some ⟨b, q, none⟩), .nilIface] w (.int .i64 v) w := by
  have hp1 := fun w => run_eql_ptr (P := Try.prog) 175 undWord (some ⟨b, q, none⟩) w
  have hp2 := fun w es => ev_eql_ptr (P := Try.prog) 175 undWord (some ⟨b, q, none⟩) w es
  simp only [Option.isNone_some] at hp1
  refine callW_in Try.func73 code73_is fun fr cs => ?_
  simp only [Try.ntmps73, ez, Nat.reduceAdd, Nat.reduceSub]
  repeat (first | refine Walk.cx ?_ | (refine Walk.cReg ?_; simp only [z73]) | (refine Walk.oq ?_; try walk_nrm) | (refine Walk.un ?_; walk_nrm))
  refine Walk.callV (x := .int .i64 v) (W := w) ?_ (ho_of (by conv => lhs; whnf) (by kernel_rfl)) (by rfl) (by decide) rfl Try.func104 (by kernel_rfl) (by rfl) ?_
  · walk_nrm
    exact holds_nil b q v w hc
  walk_nrm
  repeat (first | refine Walk.cx ?_ | (refine Walk.cReg ?_; simp only [z73]) | (refine Walk.oq ?_; try walk_nrm) | (refine Walk.un ?_; walk_nrm))
  exact Walk.ret1 rfl rfl Try.func73 rfl fun d => ⟨rfl, d, rfl⟩
noncomputable def reg69_0 := rg Try.f69.body [0]
noncomputable def reg69_1 := rg Try.f69.body [1, 0]
theorem z69 : List.range reg69_0.size = [0] ∧ List.range reg69_1.size = [0, 1, 2] := by refine ⟨?_, ?_⟩ <;> kernel_rfl
theorem code69_is : Try.f69.body = some (.seq (.region 0 reg69_0 false) (.seq (.region 1 reg69_1 false) (.ret))) := by kernel_rfl
theorem value_nil (b q : Nat) (v : Int) (w : World) (hc : w.cell? ⟨b, q, none⟩ = some (.int .i64 v)) : CallV Try.prog main V 69 #[.pointer (some ⟨b, q, none⟩)] w (.int .i64 v) w := by
  refine callW_in Try.func69 code69_is fun fr cs => ?_
  simp only [Try.ntmps69, ez, Nat.reduceAdd, Nat.reduceSub]
  repeat (first | refine Walk.cx ?_ | (refine Walk.cReg ?_; simp only [z69]) | (refine Walk.oq ?_; try walk_nrm) | (refine Walk.un ?_; walk_nrm))
  refine Walk.callV (x := .int .i64 v) (W := w) ?_ (ho_of (by conv => lhs; whnf) (by kernel_rfl)) (by rfl) (by decide) rfl Try.func73 (by kernel_rfl) (by rfl) ?_
  · walk_nrm
    exact load_nil b q v w hc
  walk_nrm
  repeat (first | refine Walk.cx ?_ | (refine Walk.cReg ?_; simp only [z69]) | (refine Walk.oq ?_; try walk_nrm) | (refine Walk.un ?_; walk_nrm))
  exact Walk.ret1 rfl rfl Try.func69 rfl fun d => ⟨rfl, d, rfl⟩
end
noncomputable def reg67_0 := rg Try.f67.body [0]
noncomputable def reg67_1 := rg Try.f67.body [1, 0]
noncomputable def reg67_2 := rg Try.f67.body [1, 1, 0, 0]
noncomputable def reg67_3 := rg Try.f67.body [1, 1, 0, 1, 0, 0, 0]
noncomputable def reg67_4 := rg Try.f67.body [1, 1, 0, 1, 0, 0, 1, 1, 0, 0, 0]
noncomputable def reg67_5 := rg Try.f67.body [1, 1, 0, 1, 0, 0, 1, 1, 0, 0, 1]
noncomputable def reg67_6 := rg Try.f67.body [1, 1, 0, 1, 0, 0, 1, 1, 1]
noncomputable def reg67_7 := rg Try.f67.body [1, 1, 1, 0]
theorem z67 : List.range reg67_0.size = [0] ∧ List.range reg67_1.size = [0, 1, 2, 3] ∧ List.range reg67_2.size = [0, 1, 2] ∧ List.range reg67_3.size = [0] ∧ List.range reg67_4.size = [0, 1] ∧ List.range reg67_5.size = [0, 1, 2, 3, 4, 5, 6, 7, 8, 9, 10, 11] ∧ List.range reg67_6.size = [0, 1] ∧ List.range reg67_7.size = [0, 1] := by refine ⟨?_, ?_, ?_, ?_, ?_, ?_, ?_, ?_⟩ <;> kernel_rfl
theorem code67_is : Try.f67.body = some (.seq (.region 0 reg67_0 false) (.seq (.region 1 reg67_1 false) (.seq (.seq (.region 2 reg67_2 false) (.block 0 (.loop (.seq (.region 3 reg67_3 false) (.seq (.cond (.tmp 13 ) (.skip) (.exit 0)) (.seq (.block 1 (.seq (.region 4 reg67_4 false) (.region 5 reg67_5 false))) (.region 6 reg67_6 false))))))) (.seq (.region 7 reg67_7 false) (.ret))))) := by kernel_rfl
noncomputable def reg27_0 := rg Try.f27.body [0]
noncomputable def reg27_1 := rg Try.f27.body [1, 0]
theorem z27 : List.range reg27_0.size = [0] ∧ List.range reg27_1.size = [0, 1, 2] := by refine ⟨?_, ?_⟩ <;> kernel_rfl
theorem code27_is : Try.f27.body = some (.seq (.region 0 reg27_0 false) (.seq (.region 1 reg27_1 false) (.ret))) := by kernel_rfl
noncomputable def reg28_0 := rg Try.f28.body [0]
noncomputable def reg28_1 := rg Try.f28.body [1, 0]
theorem z28 : List.range reg28_0.size = [0] ∧ List.range reg28_1.size = [0, 1, 2] := by refine ⟨?_, ?_⟩ <;> kernel_rfl
theorem code28_is : Try.f28.body = some (.seq (.region 0 reg28_0 false) (.seq (.region 1 reg28_1 false) (.ret))) := by kernel_rfl
noncomputable def reg68_0 := rg Try.f68.body [0]
noncomputable def reg68_1 := rg Try.f68.body [1, 0]
theorem z68 : List.range reg68_0.size = [0] ∧ List.range reg68_1.size = [0, 1, 2, 3, 4] := by refine ⟨?_, ?_⟩ <;> kernel_rfl
theorem code68_is : Try.f68.body = some (.seq (.region 0 reg68_0 false) (.seq (.region 1 reg68_1 false) (.ret))) := by kernel_rfl
noncomputable def reg70_0 := rg Try.f70.body [0]
noncomputable def reg70_1 := rg Try.f70.body [1, 0]
theorem z70 : List.range reg70_0.size = [0] ∧ List.range reg70_1.size = [0, 1, 2, 3, 4] := by refine ⟨?_, ?_⟩ <;> kernel_rfl
theorem code70_is : Try.f70.body = some (.seq (.region 0 reg70_0 false) (.seq (.region 1 reg70_1 false) (.ret))) := by kernel_rfl
noncomputable def hdEa (rb f N n j : Nat) (u : Nat → Value) : Frame :=
  (base 67).at { tmps := #[.pointer (some ⟨rb, 0, none⟩), .func (.func f) #[] #[], u 2, u 3, .slice none 0 0, .slice (some ⟨N, 0, none⟩) n n, u 6, u 7, u 8, u 9, u 10, .int .i64 n, .int .i64 j, u 13, u 14, u 15, u 16, u 17, u 18, u 19, u 20, u 21, u 22, u 23, u 24, u 25, u 26, u 27], defers := [] } [.code (.seq (.region 3 reg67_3 false) (.seq (.cond (.tmp 13 ) (.skip) (.exit 0)) (.seq (.block 1 (.seq (.region 4 reg67_4 false) (.region 5 reg67_5 false))) (.region 6 reg67_6 false)))), .inLoop (.seq (.region 3 reg67_3 false) (.seq (.cond (.tmp 13 ) (.skip) (.exit 0)) (.seq (.block 1 (.seq (.region 4 reg67_4 false) (.region 5 reg67_5 false))) (.region 6 reg67_6 false)))), .inBlock 0, .code (.seq (.region 7 reg67_7 false) (.ret))]
section
variable {main : Bool} {V : Nat → Option Wait} {rb sb n : Nat} {s : Rg}
theorem stamps1_w (w : World) (I : RgI rb sb n s w) (i : Nat) (hi : i < n) : CallV Try.prog main V 68 #[.pointer (some ⟨sb, i * 2, none⟩)] w (.int .i64 (s.st i)) w := by
  have hv := value_nil (main := main) (V := V) sb (i * 2) (s.st i) w (I.rdS hi).1
  refine callW_in Try.func68 code68_is fun fr cs => ?_
  simp only [Try.ntmps68, ez, Nat.reduceAdd, Nat.reduceSub]
  repeat (first | refine Walk.cx ?_ | (refine Walk.cReg ?_; simp only [z68]) | (refine Walk.oq ?_; try walk_nrm) | (refine Walk.un ?_; walk_nrm))
  refine Walk.callV (x := .int .i64 (s.st i)) (W := w) ?_ (ho_of (by conv => lhs; whnf) (by kernel_rfl)) (by rfl) (by decide) rfl Try.func69 (by kernel_rfl) (by rfl) ?_
  · walk_nrm
    exact hv
  walk_nrm
  repeat (first | refine Walk.cx ?_ | (refine Walk.cReg ?_; simp only [z68]) | (refine Walk.oq ?_; try walk_nrm) | (refine Walk.un ?_; walk_nrm))
  exact Walk.ret1 rfl rfl Try.func68 rfl fun d => ⟨rfl, d, rfl⟩
theorem values1_w (w : World) (I : RgI rb sb n s w) (i : Nat) (hi : i < n) : CallV Try.prog main V 70 #[.pointer (some ⟨sb, i * 2, none⟩)] w (.int .i64 (s.va i)) w := by
  have hv := value_nil (main := main) (V := V) sb (i * 2 + 1) (s.va i) w (I.rdV hi).1
  refine callW_in Try.func70 code70_is fun fr cs => ?_
  simp only [Try.ntmps70, ez, Nat.reduceAdd, Nat.reduceSub]
  repeat (first | refine Walk.cx ?_ | (refine Walk.cReg ?_; simp only [z70]) | (refine Walk.oq ?_; try walk_nrm) | (refine Walk.un ?_; walk_nrm))
  refine Walk.callV (x := .int .i64 (s.va i)) (W := w) ?_ (ho_of (by conv => lhs; whnf) (by kernel_rfl)) (by rfl) (by decide) rfl Try.func69 (by kernel_rfl) (by rfl) ?_
  · walk_nrm
    exact hv
  walk_nrm
  repeat (first | refine Walk.cx ?_ | (refine Walk.cReg ?_; simp only [z70]) | (refine Walk.oq ?_; try walk_nrm) | (refine Walk.un ?_; walk_nrm))
  exact Walk.ret1 rfl rfl Try.func70 rfl fun d => ⟨rfl, d, rfl⟩
end
end
section
structure EaI (w0 : World) (N n : Nat) (g : Nat → Int) (j : Nat) (w : World) : Prop where
  row : NumB w N (padL ((List.range j).map g) n)
  old : ∀ b, b < N → w.heap[b]? = w0.heap[b]?
  size : N < w.heap.size
section
variable {main : Bool} {V : Nat → Option Wait} {rb sb n : Nat} {s : Rg}
theorem EaI.at {w0 w : World} {N j : Nat} {g : Nat → Int} (h : EaI w0 N n g j w) (d : Nat) : EaI w0 N n g j (w.at d) := ⟨h.row, h.old, h.size⟩
theorem each_in (f : Nat) (g : Nat → Int) (cs : List Frame) (w : World) (I : RgI rb sb n s w) (hA : ∀ b, w.heap.size ≤ b → Apart V b) :
    Walk Try.prog main (DR V) (fun gr w' => (∃ u, gr = G (hdEa rb f w.heap.size n 0 u) cs) ∧ EaI w w.heap.size n g 0 w') (G (Frame.enter Try.prog 67 #[.pointer (some ⟨rb, 0, none⟩), .func (.func f) #[] #[]] .normal) cs) w := by
  have hsz := size_w (main := main) (V := V) w I
  have hn := I.pos
  have hi1 := Option.some_get (show (Try.prog.info? 2).isSome = true by kernel_rfl)
  clear I
  rw [enter_at _ Try.func67 code67_is]
  simp only [Try.ntmps67, ez, Nat.reduceAdd, Nat.reduceSub]
  repeat (first | refine Walk.cx ?_ | (refine Walk.cReg ?_; simp only [z67]) | (refine Walk.oq ?_; try walk_nrm) | (refine Walk.un ?_; walk_nrm))
  refine Walk.callV (x := .int .i64 (n : Nat)) (W := w) ?_ (ho_of (by conv => lhs; whnf) (by kernel_rfl)) (by rfl) (by decide) rfl Try.func20 (by kernel_rfl) (by rfl) ?_
  · walk_nrm
    exact hsz
  walk_nrm
  repeat (first | refine Walk.cx ?_ | (refine Walk.cReg ?_; simp only [z67]) | (refine Walk.oq ?_; try walk_nrm) | (refine Walk.un ?_; walk_nrm))
  refine Walk.make 22 (.tmp 8) (.tmp 8) (ho_of (by conv => lhs; whnf) (by kernel_rfl)) (by rfl) (by decide) rfl 2 _ (.int .i64 0) 1 8 (by kernel_rfl) hi1.symm (by rfl) (by rfl) (by rfl) n (by rfl) (by rfl) (by omega) (by omega) ?_
  walk_nrm
  simp only [Value.cells, Nat.mul_one, made_zero]
  have s1 : (w.alloc (.cells ((List.replicate n (0 : Int)).map fun z => Value.int .i64 z).toArray 2)).heap.size = w.heap.size + 1 := by simp
  have o1 : ∀ b, b < w.heap.size → (w.alloc (.cells ((List.replicate n (0 : Int)).map fun z => Value.int .i64 z).toArray 2)).heap[b]? = w.heap[b]? := fun b hb => heap_new_lt _ _ hb
  have d1 := heap_alloc_new w (.cells ((List.replicate n (0 : Int)).map fun z => Value.int .i64 z).toArray 2)
  generalize hN : w.heap.size = N at *
  generalize w.alloc (.cells ((List.replicate n (0 : Int)).map fun z => Value.int .i64 z).toArray 2) = w1 at *
  repeat (first | refine Walk.cx ?_ | (refine Walk.cReg ?_; simp only [z67]) | (refine Walk.oq ?_; try walk_nrm) | (refine Walk.un ?_; walk_nrm))
  refine Walk.ctl rfl (fun w => stepG_loop) ?_
  refine .stop fun d => ⟨at_slots ?_, EaI.at ⟨by rw [show padL ((List.range 0).map g) n = List.replicate n 0 from padL_nil n]; exact d1, o1, by omega⟩ d⟩
  simp only [hdEa]
  rfl
theorem each_go (f : Nat) {fn : Func} (hf : Try.prog.funcs[f]? = some fn) (hname : (fn.name == "runtime.NumGoroutine") = false) (hb : fn.body.isNone = false) (g : Nat → Int) (N j : Nat) (hj : j < n) (u : Nat → Value) (cs : List Frame) (w0 w : World) (I : RgI rb sb n s w) (hap : Apart V N) (E : EaI w0 N n g j w)
    (hask : CallV Try.prog main V f #[.pointer (some ⟨sb, j * 2, none⟩)] w (.int .i64 (g j)) w) :
    Walk Try.prog main (DR V) (fun gr w' => (∃ u, gr = G (hdEa rb f N n (j + 1) u) cs) ∧ EaI w0 N n g (j + 1) w') (G (hdEa rb f N n j u) cs) w := by
  have hn := I.pos
  have c1 := I.size
  have hlen : ((List.range j).map g).length = j := by simp
  have hcell : w.cell? ⟨N, j, none⟩ = some (.int .i64 0) := E.row.cell (by
    unfold padL
    rw [List.getElem?_append_right (by omega), hlen, Nat.sub_self, List.getElem?_replicate, if_pos (by omega)])
  have hfz := E.row.frozen j
  have hfree : Free V ⟨N, j, none⟩ := hap.1 _ rfl
  have hrow : NumB (w.setCell ⟨N, j, none⟩ (.int .i64 (g j))) N (padL ((List.range (j + 1)).map g) n) := by
    have h := E.row.set j (g j)
    have h2 := padL_set (l := (List.range j).map g) (n := n) (by omega) (g j)
    rw [hlen] at h2
    rw [h2] at h
    rw [range_snoc]
    exact h
  have hold : ∀ b, b < N → (w.setCell ⟨N, j, none⟩ (.int .i64 (g j))).heap[b]? = w0.heap[b]? := fun b hb => (heap_set_other _ _ _ _ (fun e : b = N => by omega)).trans (E.old b hb)
  have hsz : N < (w.setCell ⟨N, j, none⟩ (.int .i64 (g j))).heap.size := by rw [size_set]; exact E.size
  have hj0 : (0 : Int) ≤ j := by omega
  have hj1 : decide ((j : Int) < n) = true := by simp; omega
  have hj3 : decide (j < n) = true := by simp; omega
  have hj4 : (j : Int) < n := by omega
  have hw1 : IntKind.wrap .i64 ((j : Int) + 1) = (j : Int) + 1 := by rw [IntKind.wrap_i64]; omega
  have hc : ((j + 1 : Nat) : Int) = (j : Int) + 1 := by simp
  clear E I hlen
  generalize g j = x at *
  conv => arg 5; unfold hdEa
  repeat (first | refine Walk.cx ?_ | (refine Walk.cReg ?_; simp only [z67]) | (refine Walk.oq ?_; try walk_nrm) | (refine Walk.un ?_; walk_nrm))
  refine Walk.ctl rfl (fun w' => stepG_callValue (ho_of (by conv => lhs; whnf) (by kernel_rfl)) (by rfl) (by decide) rfl rfl hf hname hb) ?_
  walk_nrm
  generalize hX : Frame.at _ _ _ = X
  refine (hask X cs).then ?_
  rintro _ _ ⟨v, ⟨rfl, d, rfl⟩, rfl⟩
  refine Walk.back ?_ d
  rw [← hX]
  clear hX hask
  refine Walk.finish (ho_of (by conv => lhs; whnf) (by kernel_rfl)) ?_
  walk_nrm
  repeat (first | refine Walk.cx ?_ | (refine Walk.cReg ?_; simp only [z67]) | (refine Walk.oq ?_; try walk_nrm) | (refine Walk.un ?_; walk_nrm))
  (refine Walk.os hfree hcell ?_; try walk_nrm)
  generalize w.setCell ⟨N, j, none⟩ (.int .i64 x) = w2 at *
  clear hcell hfz hfree c1
  repeat (first | refine Walk.cx ?_ | (refine Walk.cReg ?_; simp only [z67]) | (refine Walk.oq ?_; try walk_nrm) | (refine Walk.un ?_; walk_nrm))
  refine Walk.ctl rfl (fun w => stepG_inLoop) ?_
  refine .stop fun d' => ⟨at_slots ?_, EaI.at ⟨hrow, hold, hsz⟩ d'⟩
  simp only [hdEa, hc]
  rfl
theorem each_out (f N : Nat) (u : Nat → Value) (c : Frame) (cs : List Frame) (w : World) :
    Walk Try.prog main (DR V) (fun gr w' => gr = G (c.finish (.slice (some ⟨N, 0, none⟩) n n)) cs ∧ ∃ d, w' = w.at d) (G (hdEa rb f N n n u) (c :: cs)) w := by
  have hj1 : decide ((n : Int) < n) = false := by simp
  have hj3 : decide (n < n) = false := by simp
  conv => arg 5; unfold hdEa
  repeat (first | refine Walk.cx ?_ | (refine Walk.cReg ?_; simp only [z67]) | (refine Walk.oq ?_; try walk_nrm) | (refine Walk.un ?_; walk_nrm))
  exact Walk.on1 rfl rfl Try.func67 rfl (.stop fun d => ⟨rfl, d, rfl⟩)
theorem each_loop (f : Nat) {fn : Func} (hf : Try.prog.funcs[f]? = some fn) (hname : (fn.name == "runtime.NumGoroutine") = false) (hb : fn.body.isNone = false) (g : Nat → Int) (cs : List Frame) (w0 : World) (I0 : RgI rb sb n s w0) (hap : Apart V w0.heap.size)
    (hask : ∀ w i, RgI rb sb n s w → i < n → CallV Try.prog main V f #[.pointer (some ⟨sb, i * 2, none⟩)] w (.int .i64 (g i)) w) :
    ∀ (r j : Nat) (u : Nat → Value) (w : World), j + r = n → EaI w0 w0.heap.size n g j w → Walk Try.prog main (DR V) (fun gr w' => (∃ u, gr = G (hdEa rb f w0.heap.size n n u) cs) ∧ EaI w0 w0.heap.size n g n w') (G (hdEa rb f w0.heap.size n j u) cs) w := by
  intro r
  induction r with
  | zero =>
    intro j u w hj E
    have hj : j = n := hj
    subst hj
    exact .stop fun d => ⟨⟨u, rfl⟩, E.at d⟩
  | succ r ih =>
    intro j u w hj E
    have I : RgI rb sb n s w := I0.old (E.old _ I0.lt.1) (E.old _ I0.lt.2)
    refine (each_go f hf hname hb g w0.heap.size j (by omega) u cs w0 w I hap E (hask w j I (by omega))).then ?_
    rintro _ w2 ⟨⟨u2, rfl⟩, E2⟩
    exact ih (j + 1) u2 w2 (by omega) E2
def NewN (n : Nat) (g : Nat → Int) (w : World) (v : Value) (w' : World) : Prop := v = .slice (some ⟨w.heap.size, 0, none⟩) n n ∧ NumB w' w.heap.size ((List.range n).map g) ∧ (∀ b, b < w.heap.size → w'.heap[b]? = w.heap[b]?) ∧ w.heap.size < w'.heap.size
theorem each_w (f : Nat) {fn : Func} (hf : Try.prog.funcs[f]? = some fn) (hname : (fn.name == "runtime.NumGoroutine") = false) (hb : fn.body.isNone = false) (g : Nat → Int) (w : World) (I : RgI rb sb n s w) (hA : ∀ b, w.heap.size ≤ b → Apart V b)
    (hask : ∀ w i, RgI rb sb n s w → i < n → CallV Try.prog main V f #[.pointer (some ⟨sb, i * 2, none⟩)] w (.int .i64 (g i)) w) : CallW Try.prog main V 67 #[.pointer (some ⟨rb, 0, none⟩), .func (.func f) #[] #[]] w (NewN n g w) := fun fr cs => by
  refine (each_in f g (fr :: cs) w I hA).then ?_
  rintro _ w1 ⟨⟨u, rfl⟩, E1⟩
  refine (each_loop f hf hname hb g (fr :: cs) w I (hA _ (Nat.le_refl _)) hask n 0 u w1 (Nat.zero_add _) E1).then ?_
  rintro _ w2 ⟨⟨u2, rfl⟩, E2⟩
  refine (each_out f w.heap.size u2 fr cs w2).mono ?_
  rintro _ _ ⟨rfl, d, rfl⟩
  refine ⟨_, ⟨rfl, ?_, E2.old, E2.size⟩, rfl⟩
  have h := E2.row
  rw [padL_full (by simp)] at h
  exact h
theorem stamps_w (w : World) (I : RgI rb sb n s w) (hA : ∀ b, w.heap.size ≤ b → Apart V b) : CallW Try.prog main V 27 #[.pointer (some ⟨rb, 0, none⟩)] w (NewN n s.st w) := by
  have he := each_w (main := main) (V := V) 68 Try.func68 (by kernel_rfl) (by rfl) s.st w I hA fun w i I hi => stamps1_w w I i hi
  refine callW_in Try.func27 code27_is fun fr cs => ?_
  simp only [Try.ntmps27, ez, Nat.reduceAdd, Nat.reduceSub]
  repeat (first | refine Walk.cx ?_ | (refine Walk.cReg ?_; simp only [z27]) | (refine Walk.oq ?_; try walk_nrm) | (refine Walk.un ?_; walk_nrm))
  refine Walk.callW (Post := NewN n s.st w) ?_ (ho_of (by conv => lhs; whnf) (by kernel_rfl)) (by rfl) (by decide) rfl Try.func67 (by kernel_rfl) (by rfl) ?_
  · walk_nrm
    exact he
  rintro v w1 ⟨rfl, h1, h2, h3⟩
  walk_nrm
  repeat (first | refine Walk.cx ?_ | (refine Walk.cReg ?_; simp only [z27]) | (refine Walk.oq ?_; try walk_nrm) | (refine Walk.un ?_; walk_nrm))
  exact Walk.ret1 rfl rfl Try.func27 rfl fun d => ⟨rfl, h1, h2, h3⟩
theorem values_w (w : World) (I : RgI rb sb n s w) (hA : ∀ b, w.heap.size ≤ b → Apart V b) : CallW Try.prog main V 28 #[.pointer (some ⟨rb, 0, none⟩)] w (NewN n s.va w) := by
  have he := each_w (main := main) (V := V) 70 Try.func70 (by kernel_rfl) (by rfl) s.va w I hA fun w i I hi => values1_w w I i hi
  refine callW_in Try.func28 code28_is fun fr cs => ?_
  simp only [Try.ntmps28, ez, Nat.reduceAdd, Nat.reduceSub]
  repeat (first | refine Walk.cx ?_ | (refine Walk.cReg ?_; simp only [z28]) | (refine Walk.oq ?_; try walk_nrm) | (refine Walk.un ?_; walk_nrm))
  refine Walk.callW (Post := NewN n s.va w) ?_ (ho_of (by conv => lhs; whnf) (by kernel_rfl)) (by rfl) (by decide) rfl Try.func67 (by kernel_rfl) (by rfl) ?_
  · walk_nrm
    exact he
  rintro v w1 ⟨rfl, h1, h2, h3⟩
  walk_nrm
  repeat (first | refine Walk.cx ?_ | (refine Walk.cReg ?_; simp only [z28]) | (refine Walk.oq ?_; try walk_nrm) | (refine Walk.un ?_; walk_nrm))
  exact Walk.ret1 rfl rfl Try.func28 rfl fun d => ⟨rfl, h1, h2, h3⟩
end
end
section
noncomputable def reg60_0 := rg Try.f60.body [0]
noncomputable def reg60_1 := rg Try.f60.body [1, 0]
theorem z60 : List.range reg60_0.size = [0] ∧ List.range reg60_1.size = [0, 1, 2, 3, 4, 5] := by refine ⟨?_, ?_⟩ <;> kernel_rfl
theorem code60_is : Try.f60.body = some (.seq (.region 0 reg60_0 false) (.seq (.region 1 reg60_1 false) (.ret))) := by kernel_rfl
def stR (n : Nat) (s : Rg) : List Int := (List.range n).map s.st ++ (List.range n).map s.va
theorem stR_len (n : Nat) (s : Rg) : (stR n s).length = n + n := by simp [stR]
section
variable {main : Bool} {V : Nat → Option Wait} {rb sb n : Nat} {s : Rg}
def StR (n : Nat) (s : Rg) (w : World) (v : Value) (w' : World) : Prop := ∃ B c, v = .slice (some ⟨B, 0, none⟩) (n + n) c ∧ w'.ownsRow w.heap.size 2 1 (.slice (some ⟨B, 0, none⟩) (n + n) c) (n + n) ((stR n s).map fun z => .int .i64 z) ∧ (∀ b, b < w.heap.size → w'.heap[b]? = w.heap[b]?) ∧ w.heap.size ≤ w'.heap.size
theorem rstate_w (w : World) (I : RgI rb sb n s w) (hA : ∀ b, w.heap.size ≤ b → Apart V b) : CallW Try.prog main V 60 #[.pointer (some ⟨rb, 0, none⟩)] w (StR n s w) := by
  have hi1 := Option.some_get (show (Try.prog.info? 2).isSome = true by kernel_rfl)
  have hn := I.pos
  have hst := stamps_w (main := main) (V := V) w I hA
  have hl1 : ((List.range n).map s.st).length = n := by simp
  have hl2 : ((List.range n).map s.va).length = n := by simp
  refine callW_in Try.func60 code60_is fun fr cs => ?_
  simp only [Try.ntmps60, ez, Nat.reduceAdd, Nat.reduceSub]
  repeat (first | refine Walk.cx ?_ | (refine Walk.cReg ?_; simp only [z60]) | (refine Walk.oq ?_; try walk_nrm) | (refine Walk.un ?_; walk_nrm))
  refine Walk.callW (Post := NewN n s.st w) ?_ (ho_of (by conv => lhs; whnf) (by kernel_rfl)) (by rfl) (by decide) rfl Try.func27 (by kernel_rfl) (by rfl) ?_
  · walk_nrm
    exact hst
  rintro v w1 ⟨rfl, h1, h2, h3⟩
  have hva := values_w (main := main) (V := V) w1 (I.old (h2 _ I.lt.1) (h2 _ I.lt.2)) (fun b hb => hA b (by omega))
  clear hst
  walk_nrm
  repeat (first | refine Walk.cx ?_ | (refine Walk.cReg ?_; simp only [z60]) | (refine Walk.oq ?_; try walk_nrm) | (refine Walk.un ?_; walk_nrm))
  refine Walk.callW (Post := NewN n s.va w1) ?_ (ho_of (by conv => lhs; whnf) (by kernel_rfl)) (by rfl) (by decide) rfl Try.func28 (by kernel_rfl) (by rfl) ?_
  · walk_nrm
    exact hva
  rintro v w2 ⟨rfl, k1, k2, k3⟩
  clear hva
  walk_nrm
  have hN : NumB w2 w.heap.size ((List.range n).map s.st) := h1.same (k2 _ (by omega))
  have hrow := hN.row (base := w.heap.size) (Nat.le_refl _) (by rw [hl1]; simp [maxLen]; omega)
  rw [hl1] at hrow
  have hap := hA w.heap.size (Nat.le_refl _)
  repeat (first | (refine Walk.oq ?_; try walk_nrm) | (refine Walk.un ?_; walk_nrm))
  refine Walk.append (.tmp 4) (.tmp 6) 22 (ho_of (by conv => lhs; whnf) (by kernel_rfl)) (by rfl) (by decide) rfl w.heap.size 2 _ (.int .i64 0) 1 8 (by kernel_rfl) hi1.symm (by rfl) (by rfl) (by rfl) (by rfl) (by decide) (.slice (some ⟨w.heap.size, 0, none⟩) n n) n _ rfl hrow ⟨w1.heap.size, 0, none⟩ n n (((List.range n).map s.va).map fun z => .int .i64 z) rfl (by simp) (fun j x hx => ?_) (fun x hx => by obtain ⟨y, _, rfl⟩ := List.mem_map.1 hx; rfl) (by omega) (by simp [maxLen]; omega) (by omega) (by omega) (fun g hg => by
    have hg : some w.heap.size = some g := hg
    cases hg
    exact hap) (fun g cap w3 r3 hg3 at3 lt3 => ?_)
  · rw [add_none, Nat.zero_add]
    rw [List.getElem?_map, Option.map_eq_some_iff] at hx
    obtain ⟨y, hy, rfl⟩ := hx
    exact k1.cell hy
  have z3 := hg3.size
  have o3 : ∀ b, b < w.heap.size → w3.heap[b]? = w.heap[b]? := fun b hb => (hg3.block b (by omega) fun e => by
    have e : some b = some w.heap.size := e
    injection e with e
    omega).trans ((k2 b (by omega)).trans (h2 b hb))
  have r3' : w3.ownsRow w.heap.size 2 1 (.slice (some ⟨g, 0, none⟩) (n + n) cap) (n + n) ((stR n s).map fun z => .int .i64 z) := by
    unfold stR
    rw [List.map_append]
    exact r3
  clear r3 hrow hg3 at3 hN h1 h2 k1 k2
  walk_nrm
  repeat (first | refine Walk.cx ?_ | (refine Walk.cReg ?_; simp only [z60]) | (refine Walk.oq ?_; try walk_nrm) | (refine Walk.un ?_; walk_nrm))
  exact Walk.ret1 rfl rfl Try.func60 rfl fun d => ⟨g, cap, rfl, r3', o3, by show w.heap.size ≤ w3.heap.size; omega⟩
end
end
end Go.Proofs.Ytbmijpkdghkbbaa
