/- Part 28. -/
import Derived.Test.YtbmijpkdghkbbaaJ14
import Derived.Test.YtbmijpkdghkbbaaJ27
set_option linter.unusedSimpArgs false
set_option linter.unusedVariables false
set_option linter.unusedVariables false
set_option maxHeartbeats 8000000
set_option maxRecDepth 100000
namespace Go.Proofs.Ytbmijpkdghkbbaa
open Go.Conc Go.RowKit Go.Relay
open Go.ConcN (upd upd_ne upd_same)
section
def NoR (rv : Value) (w : World) : Prop := rv = .pointer none ∨ ∃ zb, rv = .pointer (some ⟨zb, 0, none⟩) ∧ w.heap[zb]? = some (.cells #[.slice none 0 0] 72)
theorem NoR.old {rv : Value} {w w' : World} (h : NoR rv w) (hb : ∀ b, b < w.heap.size → w'.heap[b]? = w.heap[b]?) : NoR rv w' := by
  rcases h with h | ⟨zb, h1, h2⟩
  · exact .inl h
  · exact .inr ⟨zb, h1, (hb zb (Array.getElem?_eq_some_iff.1 h2).1).trans h2⟩
def NlR (w : World) (v : Value) (w' : World) : Prop := (∃ B, v = .slice (some ⟨B, 0, none⟩) 0 0) ∧ w.heap.size ≤ w'.heap.size ∧ ∀ b, b < w.heap.size → w'.heap[b]? = w.heap[b]?
section
variable {main : Bool} {V : Nat → Option Wait}
theorem size_zero (zb : Nat) (w : World) (h : w.heap[zb]? = some (.cells #[.slice none 0 0] 72)) : CallV Try.prog main V 20 #[.pointer (some ⟨zb, 0, none⟩)] w (.int .i64 0) w := by
  have c1 : w.cell? ⟨zb, 0, none⟩ = some (.slice none 0 0) := (cell_of h 0).trans rfl
  have hp1 := fun w => run_eql_ptr (P := Try.prog) 35 undRing (some ⟨zb, 0, none⟩) w
  have hp2 := fun w es => ev_eql_ptr (P := Try.prog) 35 undRing (some ⟨zb, 0, none⟩) w es
  simp only [Option.isNone_some] at hp1
  clear h
  refine callW_in Try.func20 code20_is fun fr cs => ?_
  simp only [Try.ntmps20, ez, Nat.reduceAdd, Nat.reduceSub]
  repeat (first | refine Walk.cx ?_ | (refine Walk.cReg ?_; simp only [z20]) | (refine Walk.oq ?_; try walk_nrm) | (refine Walk.un ?_; walk_nrm))
  exact Walk.ret1 rfl rfl Try.func20 rfl fun d => ⟨rfl, d, rfl⟩
theorem size_z (rv : Value) (w : World) (h : NoR rv w) : CallV Try.prog main V 20 #[rv] w (.int .i64 0) w := by
  rcases h with rfl | ⟨zb, rfl, h2⟩
  · exact size_nil w
  · exact size_zero zb w h2
theorem holds_z (rv : Value) (w : World) (h : NoR rv w) (q : Int) : CallV Try.prog main V 65 #[rv, .int .i64 q] w (.bool false) w := by
  by_cases hq : good q
  · have hg := good_w (main := main) (V := V) q w
    have hsz := size_z (main := main) (V := V) rv w h
    have e : decide (good q) = true := by simp [hq]
    rw [e] at hg
    clear h
    intro fr cs
    rw [enter_at _ Try.func65 code65_is]
    simp only [Try.ntmps65, ez, Nat.reduceAdd, Nat.reduceSub]
    repeat (first | refine Walk.cx ?_ | (refine Walk.cReg ?_; simp only [z65]) | (refine Walk.oq ?_; try walk_nrm) | (refine Walk.un ?_; walk_nrm))
    refine Walk.callV (x := .bool true) (W := w) ?_ (ho_of (by conv => lhs; whnf) (by kernel_rfl)) (by rfl) (by decide) rfl Try.func66 (by kernel_rfl) (by rfl) ?_
    · walk_nrm
      exact hg
    walk_nrm
    repeat (first | refine Walk.cx ?_ | (refine Walk.cReg ?_; simp only [z65]) | (refine Walk.oq ?_; try walk_nrm) | (refine Walk.un ?_; walk_nrm))
    refine Walk.callV (x := .int .i64 0) (W := w) ?_ (ho_of (by conv => lhs; whnf) (by kernel_rfl)) (by rfl) (by decide) rfl Try.func20 (by kernel_rfl) (by rfl) ?_
    · walk_nrm
      exact hsz
    walk_nrm
    repeat (first | refine Walk.cx ?_ | (refine Walk.cReg ?_; simp only [z65]) | (refine Walk.oq ?_; try walk_nrm) | (refine Walk.un ?_; walk_nrm))
    exact Walk.on1 rfl rfl Try.func65 rfl (.stop fun d => ⟨_, ⟨rfl, d, rfl⟩, rfl⟩)
  · exact holds_no rv w q hq
theorem put_z (rv sv : Value) (w : World) (h : NoR rv w) (q v : Int) : CallV Try.prog main V 33 #[rv, sv, .int .i64 q, .int .i64 v] w (.int .i64 1) w := by
  have hno := holds_z (main := main) (V := V) rv w h q
  clear h
  refine callW_in Try.func33 code33_is fun fr cs => ?_
  simp only [Try.ntmps33, ez, Nat.reduceAdd, Nat.reduceSub]
  repeat (first | refine Walk.cx ?_ | (refine Walk.cReg ?_; simp only [z33]) | (refine Walk.oq ?_; try walk_nrm) | (refine Walk.un ?_; walk_nrm))
  refine Walk.callV (x := .bool false) (W := w) ?_ (ho_of (by conv => lhs; whnf) (by kernel_rfl)) (by rfl) (by decide) rfl Try.func65 (by kernel_rfl) (by rfl) ?_
  · walk_nrm
    exact hno
  walk_nrm
  repeat (first | refine Walk.cx ?_ | (refine Walk.cReg ?_; simp only [z33]) | (refine Walk.oq ?_; try walk_nrm) | (refine Walk.un ?_; walk_nrm))
  exact Walk.ret1 rfl rfl Try.func33 rfl fun d => ⟨rfl, d, rfl⟩
theorem there_z (rv sv : Value) (w : World) (h : NoR rv w) (q : Int) : CallV Try.prog main V 35 #[rv, sv, .int .i64 q] w (.bool false) w := by
  have hno := holds_z (main := main) (V := V) rv w h q
  clear h
  refine callW_in Try.func35 code35_is fun fr cs => ?_
  simp only [Try.ntmps35, ez, Nat.reduceAdd, Nat.reduceSub]
  repeat (first | refine Walk.cx ?_ | (refine Walk.cReg ?_; simp only [z35]) | (refine Walk.oq ?_; try walk_nrm) | (refine Walk.un ?_; walk_nrm))
  refine Walk.callV (x := .bool false) (W := w) ?_ (ho_of (by conv => lhs; whnf) (by kernel_rfl)) (by rfl) (by decide) rfl Try.func65 (by kernel_rfl) (by rfl) ?_
  · walk_nrm
    exact hno
  walk_nrm
  repeat (first | refine Walk.cx ?_ | (refine Walk.cReg ?_; simp only [z35]) | (refine Walk.oq ?_; try walk_nrm) | (refine Walk.un ?_; walk_nrm))
  exact Walk.ret1 rfl rfl Try.func35 rfl fun d => ⟨rfl, d, rfl⟩
theorem get_z (rv sv : Value) (w : World) (h : NoR rv w) (q : Int) : CallV Try.prog main V 34 #[rv, sv, .int .i64 q] w (.tuple #[.int .i64 0, .int .i64 1]) w := by
  have hno := holds_z (main := main) (V := V) rv w h q
  clear h
  refine callW_in Try.func34 code34_is fun fr cs => ?_
  simp only [Try.ntmps34, ez, Nat.reduceAdd, Nat.reduceSub]
  repeat (first | refine Walk.cx ?_ | (refine Walk.cReg ?_; simp only [z34]) | (refine Walk.oq ?_; try walk_nrm) | (refine Walk.un ?_; walk_nrm))
  refine Walk.callV (x := .bool false) (W := w) ?_ (ho_of (by conv => lhs; whnf) (by kernel_rfl)) (by rfl) (by decide) rfl Try.func65 (by kernel_rfl) (by rfl) ?_
  · walk_nrm
    exact hno
  walk_nrm
  repeat (first | refine Walk.cx ?_ | (refine Walk.cReg ?_; simp only [z34]) | (refine Walk.oq ?_; try walk_nrm) | (refine Walk.un ?_; walk_nrm))
  exact Walk.on2 rfl rfl Try.func34 rfl (.stop fun d => ⟨_, ⟨rfl, d, rfl⟩, rfl⟩)
theorem gather_z (rv sv : Value) (w : World) (h : NoR rv w) (q m : Int) : CallV Try.prog main V 37 #[rv, sv, .int .i64 q, .int .i64 m] w (.tuple #[.slice none 0 0, .int .i64 1]) w := by
  have hno := holds_z (main := main) (V := V) rv w h q
  clear h
  refine callW_in Try.func37 code37_is fun fr cs => ?_
  simp only [Try.ntmps37, ez, Nat.reduceAdd, Nat.reduceSub]
  repeat (first | refine Walk.cx ?_ | (refine Walk.cReg ?_; simp only [z37]) | (refine Walk.oq ?_; try walk_nrm) | (refine Walk.un ?_; walk_nrm))
  refine Walk.callV (x := .bool false) (W := w) ?_ (ho_of (by conv => lhs; whnf) (by kernel_rfl)) (by rfl) (by decide) rfl Try.func65 (by kernel_rfl) (by rfl) ?_
  · walk_nrm
    exact hno
  walk_nrm
  repeat (first | refine Walk.cx ?_ | (refine Walk.cReg ?_; simp only [z37]) | (refine Walk.oq ?_; try walk_nrm) | (refine Walk.un ?_; walk_nrm))
  exact Walk.on2 rfl rfl Try.func37 rfl (.stop fun d => ⟨_, ⟨rfl, d, rfl⟩, rfl⟩)
def bef (q : Int) : Int := if q = -9223372036854775808 then q else IntKind.i64.wrap (q - 1)
theorem high_z (rv sv : Value) (w : World) (h : NoR rv w) (q t : Int) : CallV Try.prog main V 36 #[rv, sv, .int .i64 q, .int .i64 t] w (.int .i64 (bef q)) w := by
  have hno := holds_z (main := main) (V := V) rv w h q
  clear h
  unfold bef
  refine callW_in Try.func36 code36_is fun fr cs => ?_
  simp only [Try.ntmps36, ez, Nat.reduceAdd, Nat.reduceSub]
  by_cases h1 : q = -9223372036854775808
  · subst h1
    rw [if_pos rfl]
    repeat (first | refine Walk.cx ?_ | (refine Walk.cReg ?_; simp only [z36]) | (refine Walk.oq ?_; try walk_nrm) | (refine Walk.un ?_; walk_nrm))
    exact Walk.ret1 rfl rfl Try.func36 rfl fun d => ⟨rfl, d, rfl⟩
  · rw [if_neg h1]
    have h1' : (q == -9223372036854775808) = false := by simp [h1]
    repeat (first | refine Walk.cx ?_ | (refine Walk.cReg ?_; simp only [z36]) | (refine Walk.oq ?_; try walk_nrm) | (refine Walk.un ?_; walk_nrm))
    refine Walk.callV (x := .bool false) (W := w) ?_ (ho_of (by conv => lhs; whnf) (by kernel_rfl)) (by rfl) (by decide) rfl Try.func65 (by kernel_rfl) (by rfl) ?_
    · walk_nrm
      exact hno
    walk_nrm
    repeat (first | refine Walk.cx ?_ | (refine Walk.cReg ?_; simp only [z36]) | (refine Walk.oq ?_; try walk_nrm) | (refine Walk.un ?_; walk_nrm))
    exact Walk.ret1 rfl rfl Try.func36 rfl fun d => ⟨rfl, d, rfl⟩
theorem each_z (rv fv : Value) (w : World) (h : NoR rv w) : CallW Try.prog main V 67 #[rv, fv] w (NlR w) := by
  intro c cs
  have k1 := size_z (main := main) (V := V) rv w h
  have hi1 := Option.some_get (show (Try.prog.info? 2).isSome = true by kernel_rfl)
  clear h
  rw [enter_at _ Try.func67 code67_is]
  simp only [Try.ntmps67, ez, Nat.reduceAdd, Nat.reduceSub]
  repeat (first | refine Walk.cx ?_ | (refine Walk.cReg ?_; simp only [z67]) | (refine Walk.oq ?_; try walk_nrm) | (refine Walk.un ?_; walk_nrm))
  refine Walk.callV (x := .int .i64 0) (W := w) ?_ (ho_of (by conv => lhs; whnf) (by kernel_rfl)) (by rfl) (by decide) rfl Try.func20 (by kernel_rfl) (by rfl) ?_
  · walk_nrm
    exact k1
  walk_nrm
  repeat (first | refine Walk.cx ?_ | (refine Walk.cReg ?_; simp only [z67]) | (refine Walk.oq ?_; try walk_nrm) | (refine Walk.un ?_; walk_nrm))
  refine Walk.make 22 (.tmp 8) (.tmp 8) (ho_of (by conv => lhs; whnf) (by kernel_rfl)) (by rfl) (by decide) rfl 2 _ (.int .i64 0) 1 8 (by kernel_rfl) hi1.symm (by rfl) (by rfl) (by rfl) 0 (by rfl) (by rfl) (by omega) (by omega) ?_
  walk_nrm
  generalize hob : Obj.cells _ _ = ob
  have o1 : ∀ b, b < w.heap.size → (w.alloc ob).heap[b]? = w.heap[b]? := fun b hb => heap_new_lt _ _ hb
  have s1 : (w.alloc ob).heap.size = w.heap.size + 1 := by simp
  clear hob k1
  generalize hR : w.heap.size = R at *
  generalize w.alloc ob = w1 at *
  repeat (first | refine Walk.cx ?_ | (refine Walk.cReg ?_; simp only [z67]) | (refine Walk.oq ?_; try walk_nrm) | (refine Walk.un ?_; walk_nrm))
  refine Walk.ctl rfl (fun w => stepG_loop) ?_
  repeat (first | refine Walk.cx ?_ | (refine Walk.cReg ?_; simp only [z67]) | (refine Walk.oq ?_; try walk_nrm) | (refine Walk.un ?_; walk_nrm))
  exact Walk.on1 rfl rfl Try.func67 rfl (.stop fun d => ⟨_, ⟨⟨R, rfl⟩, (by show w.heap.size ≤ w1.heap.size; omega), fun b hb => o1 b (by omega)⟩, rfl⟩)
theorem stamps_z (rv : Value) (w : World) (h : NoR rv w) : CallW Try.prog main V 27 #[rv] w (NlR w) := by
  intro c cs
  have hE := fun fv => each_z (main := main) (V := V) rv fv w h
  clear h
  rw [enter_at _ Try.func27 code27_is]
  simp only [Try.ntmps27, ez, Nat.reduceAdd, Nat.reduceSub]
  repeat (first | refine Walk.cx ?_ | (refine Walk.cReg ?_; simp only [z27]) | (refine Walk.oq ?_; try walk_nrm) | (refine Walk.un ?_; walk_nrm))
  refine Walk.callW (Post := NlR w) ?_ (ho_of (by conv => lhs; whnf) (by kernel_rfl)) (by rfl) (by decide) rfl Try.func67 (by kernel_rfl) (by rfl) ?_
  · walk_nrm
    exact hE _
  rintro v w2 ⟨⟨B, rfl⟩, z2, o2⟩
  walk_nrm
  repeat (first | refine Walk.cx ?_ | (refine Walk.cReg ?_; simp only [z27]) | (refine Walk.oq ?_; try walk_nrm) | (refine Walk.un ?_; walk_nrm))
  exact Walk.on1 rfl rfl Try.func27 rfl (.stop fun d => ⟨_, ⟨⟨B, rfl⟩, z2, o2⟩, rfl⟩)
theorem values_z (rv : Value) (w : World) (h : NoR rv w) : CallW Try.prog main V 28 #[rv] w (NlR w) := by
  intro c cs
  have hE := fun fv => each_z (main := main) (V := V) rv fv w h
  clear h
  rw [enter_at _ Try.func28 code28_is]
  simp only [Try.ntmps28, ez, Nat.reduceAdd, Nat.reduceSub]
  repeat (first | refine Walk.cx ?_ | (refine Walk.cReg ?_; simp only [z28]) | (refine Walk.oq ?_; try walk_nrm) | (refine Walk.un ?_; walk_nrm))
  refine Walk.callW (Post := NlR w) ?_ (ho_of (by conv => lhs; whnf) (by kernel_rfl)) (by rfl) (by decide) rfl Try.func67 (by kernel_rfl) (by rfl) ?_
  · walk_nrm
    exact hE _
  rintro v w2 ⟨⟨B, rfl⟩, z2, o2⟩
  walk_nrm
  repeat (first | refine Walk.cx ?_ | (refine Walk.cReg ?_; simp only [z28]) | (refine Walk.oq ?_; try walk_nrm) | (refine Walk.un ?_; walk_nrm))
  exact Walk.on1 rfl rfl Try.func28 rfl (.stop fun d => ⟨_, ⟨⟨B, rfl⟩, z2, o2⟩, rfl⟩)
end
end
structure Closing (f : FuncId) (t : Tmp) (v : Value) (g : Goroutine) : Prop where
  all : ∃ fr, g = G fr [] ∧ fr.mode = .returning ∧ fr.kind = .normal ∧ fr.defers = [] ∧ fr.fn = f ∧ fr.tmps.getD t undef = v
section
noncomputable def reg7_0 := rg Try.f7.body [0]
noncomputable def reg7_1 := rg Try.f7.body [1, 0, 0]
noncomputable def reg7_2 := rg Try.f7.body [1, 0, 1, 0, 0]
noncomputable def reg7_3 := rg Try.f7.body [1, 1, 0]
noncomputable def reg7_4 := rg Try.f7.body [1, 1, 1, 0]
noncomputable def reg7_5 := rg Try.f7.body [1, 1, 1, 1, 0, 0]
noncomputable def reg7_6 := rg Try.f7.body [1, 1, 1, 1, 0, 1, 0, 0, 0, 0]
noncomputable def reg7_8 := rg Try.f7.body [1, 1, 1, 1, 0, 1, 0, 0, 1, 0, 0, 0]
noncomputable def reg7_9 := rg Try.f7.body [1, 1, 1, 1, 0, 1, 0, 0, 1, 0, 0, 1, 0, 0]
noncomputable def reg7_10 := rg Try.f7.body [1, 1, 1, 1, 0, 1, 0, 0, 1, 0, 0, 1, 0, 1, 0, 0]
noncomputable def reg7_11 := rg Try.f7.body [1, 1, 1, 1, 0, 1, 0, 0, 1, 0, 0, 1, 1, 0]
noncomputable def reg7_12 := rg Try.f7.body [1, 1, 1, 1, 0, 1, 0, 0, 1, 0, 0, 1, 1, 1, 0, 0, 0, 0]
noncomputable def reg7_14 := rg Try.f7.body [1, 1, 1, 1, 0, 1, 0, 0, 1, 0, 0, 1, 1, 1, 0, 0, 1, 0, 0, 0]
noncomputable def reg7_15 := rg Try.f7.body [1, 1, 1, 1, 0, 1, 0, 0, 1, 0, 0, 1, 1, 1, 0, 0, 1, 0, 0, 1, 0]
noncomputable def reg7_16 := rg Try.f7.body [1, 1, 1, 1, 0, 1, 0, 0, 1, 0, 0, 1, 1, 1, 0, 0, 1, 0, 0, 1, 1, 0]
noncomputable def reg7_17 := rg Try.f7.body [1, 1, 1, 1, 0, 1, 0, 0, 1, 0, 0, 1, 1, 1, 0, 0, 1, 0, 0, 1, 1, 1, 0]
noncomputable def reg7_18 := rg Try.f7.body [1, 1, 1, 1, 0, 1, 0, 0, 1, 0, 0, 1, 1, 1, 0, 0, 1, 0, 0, 1, 1, 1, 1, 0, 0]
noncomputable def reg7_19 := rg Try.f7.body [1, 1, 1, 1, 0, 1, 0, 0, 1, 0, 0, 1, 1, 1, 0, 0, 1, 0, 0, 1, 1, 1, 1, 0, 1, 0]
noncomputable def reg7_20 := rg Try.f7.body [1, 1, 1, 1, 0, 1, 0, 0, 1, 0, 0, 1, 1, 1, 0, 0, 1, 0, 0, 1, 1, 1, 1, 1, 0]
noncomputable def reg7_21 := rg Try.f7.body [1, 1, 1, 1, 0, 1, 0, 0, 1, 0, 0, 1, 1, 1, 0, 0, 1, 0, 0, 1, 1, 1, 1, 1, 1, 0, 0]
noncomputable def reg7_13 := rg Try.f7.body [1, 1, 1, 1, 0, 1, 0, 0, 1, 0, 0, 1, 1, 1, 0, 0, 1, 1]
noncomputable def reg7_7 := rg Try.f7.body [1, 1, 1, 1, 0, 1, 0, 0, 1, 1]
noncomputable def reg7_22 := rg Try.f7.body [1, 1, 1, 1, 1, 0]
theorem z7 : List.range reg7_0.size = [0] ∧ List.range reg7_1.size = [0, 1] ∧ List.range reg7_2.size = [0] ∧ List.range reg7_3.size = [0] ∧ List.range reg7_4.size = [0, 1, 2, 3, 4] ∧ List.range reg7_5.size = [0] ∧ List.range reg7_6.size = [0, 1, 2, 3] ∧ List.range reg7_7.size = [0, 1, 2] ∧ List.range reg7_8.size = [0, 1, 2, 3, 4] ∧ List.range reg7_9.size = [0, 1, 2, 3, 4, 5, 6, 7, 8, 9, 10, 11, 12, 13, 14] ∧ List.range reg7_10.size = [0] ∧ List.range reg7_11.size = [0] ∧ List.range reg7_12.size = [0, 1, 2, 3] ∧ List.range reg7_13.size = [0, 1, 2] ∧ List.range reg7_14.size = [0, 1, 2, 3, 4, 5] ∧ List.range reg7_15.size = [0, 1, 2, 3, 4, 5, 6, 7] ∧ List.range reg7_16.size = [0, 1, 2, 3, 4, 5, 6, 7, 8, 9, 10, 11, 12] ∧ List.range reg7_17.size = [0, 1] ∧ List.range reg7_18.size = [0, 1] ∧ List.range reg7_19.size = [0, 1, 2] ∧ List.range reg7_20.size = [0, 1, 2, 3, 4, 5, 6, 7, 8, 9, 10, 11, 12, 13, 14, 15, 16, 17, 18, 19, 20, 21, 22, 23, 24, 25, 26, 27, 28, 29, 30, 31, 32, 33] ∧ List.range reg7_21.size = [0] ∧ List.range reg7_22.size = [0] := by refine ⟨?_, ?_, ?_, ?_, ?_, ?_, ?_, ?_, ?_, ?_, ?_, ?_, ?_, ?_, ?_, ?_, ?_, ?_, ?_, ?_, ?_, ?_, ?_⟩ <;> kernel_rfl
theorem code7_is : Try.f7.body = some (.seq (.region 0 reg7_0 false) (.seq (.seq (.region 1 reg7_1 false) (.cond (.tmp 15 ) (.seq (.region 2 reg7_2 false) (.ret)) (.skip))) (.seq (.region 3 reg7_3 false) (.seq (.region 4 reg7_4 false) (.seq (.seq (.region 5 reg7_5 false) (.block 0 (.loop (.seq (.seq (.region 6 reg7_6 false) (.cond (.tmp 23 ) (.skip) (.exit 0))) (.seq (.block 1 (.seq (.region 8 reg7_8 false) (.seq (.seq (.region 9 reg7_9 false) (.cond (.tmp 44 ) (.seq (.region 10 reg7_10 false) (.ret)) (.skip))) (.seq (.region 11 reg7_11 false) (.block 2 (.loop (.seq (.seq (.region 12 reg7_12 false) (.cond (.tmp 48 ) (.skip) (.exit 2))) (.seq (.block 3 (.seq (.region 14 reg7_14 false) (.seq (.region 15 reg7_15 false) (.seq (.region 16 reg7_16 false) (.seq (.region 17 reg7_17 false) (.seq (.seq (.region 18 reg7_18 false) (.cond (.tmp 75 ) (.region 19 reg7_19 false) (.skip))) (.seq (.region 20 reg7_20 false) (.cond (.tmp 111 ) (.seq (.region 21 reg7_21 false) (.ret)) (.skip))))))))) (.region 13 reg7_13 false))))))))) (.region 7 reg7_7 false)))))) (.seq (.region 22 reg7_22 false) (.ret))))))) := by kernel_rfl
noncomputable def hdNo (ov : Value) (lb i : Nat) (u : Nat → Value) : Frame :=
  (base 7).at { tmps := #[ov, u 1, .bool false, u 3, .slice (some ⟨lb, 0, none⟩) 2 2, .int .i64 i, u 6, u 7, u 8, u 9, u 10, u 11, u 12, u 13, u 14, u 15, u 16, u 17, u 18, u 19, u 20, u 21, u 22, u 23, u 24, u 25, u 26, u 27, u 28, u 29, u 30, u 31, u 32, u 33, u 34, u 35, u 36, u 37, u 38, u 39, u 40, u 41, u 42, u 43, u 44, u 45, u 46, u 47, u 48, u 49, u 50, u 51, u 52, u 53, u 54, u 55, u 56, u 57, u 58, u 59, u 60, u 61, u 62, u 63, u 64, u 65, u 66, u 67, u 68, u 69, u 70, u 71, u 72, u 73, u 74, u 75, u 76, u 77, u 78, u 79, u 80, u 81, u 82, u 83, u 84, u 85, u 86, u 87, u 88, u 89, u 90, u 91, u 92, u 93, u 94, u 95, u 96, u 97, u 98, u 99, u 100, u 101, u 102, u 103, u 104, u 105, u 106, u 107, u 108, u 109, u 110, u 111], defers := [] } [.code (.seq (.seq (.region 6 reg7_6 false) (.cond (.tmp 23 ) (.skip) (.exit 0))) (.seq (.block 1 (.seq (.region 8 reg7_8 false) (.seq (.seq (.region 9 reg7_9 false) (.cond (.tmp 44 ) (.seq (.region 10 reg7_10 false) (.ret)) (.skip))) (.seq (.region 11 reg7_11 false) (.block 2 (.loop (.seq (.seq (.region 12 reg7_12 false) (.cond (.tmp 48 ) (.skip) (.exit 2))) (.seq (.block 3 (.seq (.region 14 reg7_14 false) (.seq (.region 15 reg7_15 false) (.seq (.region 16 reg7_16 false) (.seq (.region 17 reg7_17 false) (.seq (.seq (.region 18 reg7_18 false) (.cond (.tmp 75 ) (.region 19 reg7_19 false) (.skip))) (.seq (.region 20 reg7_20 false) (.cond (.tmp 111 ) (.seq (.region 21 reg7_21 false) (.ret)) (.skip))))))))) (.region 13 reg7_13 false))))))))) (.region 7 reg7_7 false))), .inLoop (.seq (.seq (.region 6 reg7_6 false) (.cond (.tmp 23 ) (.skip) (.exit 0))) (.seq (.block 1 (.seq (.region 8 reg7_8 false) (.seq (.seq (.region 9 reg7_9 false) (.cond (.tmp 44 ) (.seq (.region 10 reg7_10 false) (.ret)) (.skip))) (.seq (.region 11 reg7_11 false) (.block 2 (.loop (.seq (.seq (.region 12 reg7_12 false) (.cond (.tmp 48 ) (.skip) (.exit 2))) (.seq (.block 3 (.seq (.region 14 reg7_14 false) (.seq (.region 15 reg7_15 false) (.seq (.region 16 reg7_16 false) (.seq (.region 17 reg7_17 false) (.seq (.seq (.region 18 reg7_18 false) (.cond (.tmp 75 ) (.region 19 reg7_19 false) (.skip))) (.seq (.region 20 reg7_20 false) (.cond (.tmp 111 ) (.seq (.region 21 reg7_21 false) (.ret)) (.skip))))))))) (.region 13 reg7_13 false))))))))) (.region 7 reg7_7 false))), .inBlock 0, .code (.seq (.region 22 reg7_22 false) (.ret))]
noncomputable def hdNi (ov rv : Value) (lb i k : Nat) (u : Nat → Value) : Frame :=
  (base 7).at { tmps := #[ov, u 1, .bool false, u 3, .slice (some ⟨lb, 0, none⟩) 2 2, .int .i64 i, rv, .int .i64 k, u 8, u 9, u 10, u 11, u 12, u 13, u 14, u 15, u 16, u 17, u 18, u 19, u 20, u 21, u 22, u 23, u 24, u 25, u 26, u 27, u 28, u 29, u 30, u 31, u 32, u 33, u 34, u 35, u 36, u 37, u 38, u 39, u 40, u 41, u 42, u 43, u 44, u 45, u 46, u 47, u 48, u 49, u 50, u 51, u 52, u 53, u 54, u 55, u 56, u 57, u 58, u 59, u 60, u 61, u 62, u 63, u 64, u 65, u 66, u 67, u 68, u 69, u 70, u 71, u 72, u 73, u 74, u 75, u 76, u 77, u 78, u 79, u 80, u 81, u 82, u 83, u 84, u 85, u 86, u 87, u 88, u 89, u 90, u 91, u 92, u 93, u 94, u 95, u 96, u 97, u 98, u 99, u 100, u 101, u 102, u 103, u 104, u 105, u 106, u 107, u 108, u 109, u 110, u 111], defers := [] } [.code (.seq (.seq (.region 12 reg7_12 false) (.cond (.tmp 48 ) (.skip) (.exit 2))) (.seq (.block 3 (.seq (.region 14 reg7_14 false) (.seq (.region 15 reg7_15 false) (.seq (.region 16 reg7_16 false) (.seq (.region 17 reg7_17 false) (.seq (.seq (.region 18 reg7_18 false) (.cond (.tmp 75 ) (.region 19 reg7_19 false) (.skip))) (.seq (.region 20 reg7_20 false) (.cond (.tmp 111 ) (.seq (.region 21 reg7_21 false) (.ret)) (.skip))))))))) (.region 13 reg7_13 false))), .inLoop (.seq (.seq (.region 12 reg7_12 false) (.cond (.tmp 48 ) (.skip) (.exit 2))) (.seq (.block 3 (.seq (.region 14 reg7_14 false) (.seq (.region 15 reg7_15 false) (.seq (.region 16 reg7_16 false) (.seq (.region 17 reg7_17 false) (.seq (.seq (.region 18 reg7_18 false) (.cond (.tmp 75 ) (.region 19 reg7_19 false) (.skip))) (.seq (.region 20 reg7_20 false) (.cond (.tmp 111 ) (.seq (.region 21 reg7_21 false) (.ret)) (.skip))))))))) (.region 13 reg7_13 false))), .inBlock 2, .inBlock 1, .code (.region 7 reg7_7 false), .inLoop (.seq (.seq (.region 6 reg7_6 false) (.cond (.tmp 23 ) (.skip) (.exit 0))) (.seq (.block 1 (.seq (.region 8 reg7_8 false) (.seq (.seq (.region 9 reg7_9 false) (.cond (.tmp 44 ) (.seq (.region 10 reg7_10 false) (.ret)) (.skip))) (.seq (.region 11 reg7_11 false) (.block 2 (.loop (.seq (.seq (.region 12 reg7_12 false) (.cond (.tmp 48 ) (.skip) (.exit 2))) (.seq (.block 3 (.seq (.region 14 reg7_14 false) (.seq (.region 15 reg7_15 false) (.seq (.region 16 reg7_16 false) (.seq (.region 17 reg7_17 false) (.seq (.seq (.region 18 reg7_18 false) (.cond (.tmp 75 ) (.region 19 reg7_19 false) (.skip))) (.seq (.region 20 reg7_20 false) (.cond (.tmp 111 ) (.seq (.region 21 reg7_21 false) (.ret)) (.skip))))))))) (.region 13 reg7_13 false))))))))) (.region 7 reg7_7 false))), .inBlock 0, .code (.seq (.region 22 reg7_22 false) (.ret))]
def rvL (zb i : Nat) : Value := if i = 0 then .pointer none else .pointer (some ⟨zb, 0, none⟩)
structure NoW (zb lb : Nat) (W w : World) : Prop where
  z : w.heap[zb]? = some (.cells #[.slice none 0 0] 72)
  l : w.heap[lb]? = some (.cells #[.pointer none, .pointer (some ⟨zb, 0, none⟩)] 35)
  old : ∀ b, b < W.heap.size → w.heap[b]? = W.heap[b]?
  size : W.heap.size ≤ w.heap.size
section
variable {zb lb : Nat}
theorem NoW.next {W w w' : World} (h : NoW zb lb W w) (k : w.heap.size ≤ w'.heap.size) (ho : ∀ b, b < w.heap.size → w'.heap[b]? = w.heap[b]?) : NoW zb lb W w' :=
  ⟨(ho _ (Array.getElem?_eq_some_iff.1 h.z).1).trans h.z, (ho _ (Array.getElem?_eq_some_iff.1 h.l).1).trans h.l, fun b hb => (ho b (Nat.lt_of_lt_of_le hb h.size)).trans (h.old b hb), Nat.le_trans h.size k⟩
theorem NoW.at {W w : World} (h : NoW zb lb W w) (d : Nat) : NoW zb lb W (w.at d) := ⟨h.z, h.l, h.old, h.size⟩
theorem NoW.nor {W w : World} (h : NoW zb lb W w) (i : Nat) : NoR (rvL zb i) w := by
  unfold rvL
  by_cases e : i = 0
  · rw [if_pos e]; exact .inl rfl
  · rw [if_neg e]; exact .inr ⟨zb, rfl, h.z⟩
theorem NoW.item {W w : World} (h : NoW zb lb W w) {i : Nat} (hi : i < 2) : w.cell? ⟨lb, i, none⟩ = some (rvL zb i) := by
  refine (cell_of h.l i).trans ?_
  match i, hi with
  | 0, _ => rfl
  | 1, _ => rfl
end
end
end Go.Proofs.Ytbmijpkdghkbbaa
