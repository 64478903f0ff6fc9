/- Part 10. -/
import Derived.Test.YtdcjgmlgmjjogaaJ1
import Derived.Test.YtdcjgmlgmjjogaaJ2
import Derived.Test.YtdcjgmlgmjjogaaJ3
import Derived.Test.YtdcjgmlgmjjogaaJ4
import Derived.Test.YtdcjgmlgmjjogaaJ5
import Derived.Test.YtdcjgmlgmjjogaaJ6
import Derived.Test.YtdcjgmlgmjjogaaJ8
import Derived.Test.YtdcjgmlgmjjogaaJ11
import Derived.Test.YtdcjgmlgmjjogaaJ12
import Derived.Test.YtdcjgmlgmjjogaaJ13
import Derived.Test.YtdcjgmlgmjjogaaJ15
import Derived.Test.YtdcjgmlgmjjogaaJ16
import Derived.Test.YtdcjgmlgmjjogaaJ17
import Derived.Test.YtdcjgmlgmjjogaaJ18
import Derived.Test.YtdcjgmlgmjjogaaJ20
import Derived.Test.YtdcjgmlgmjjogaaJ22
import Derived.Test.YtdcjgmlgmjjogaaJ23
import Derived.Test.YtdcjgmlgmjjogaaJ24
import Derived.Test.YtdcjgmlgmjjogaaJ25
set_option linter.unusedSimpArgs false
set_option linter.unusedVariables false
set_option maxHeartbeats 8000000
set_option maxRecDepth 100000
namespace Go.Proofs.Ytdcjgmlgmjjogaa
open Go.Conc Go.RowKit Go.Relay
open Go.ConcN (upd upd_ne upd_same)
section
def seOps : Nat → List OpV := fun i => ([[⟨2, 0, 7, 0⟩], [⟨2, 0, 9, 0⟩]] : List (List OpV)).getD i []
def seSl : List Int := [0, 1, 1, 0, 0]
def sePlay (cb : Nat) : OX (onLa cb 1) × List Nat := playO (onLa cb 1) oz0 seOps 2 100 seSl
theorem se_run (cb : Nat) : (ozState (sePlay cb).1.s 1, stuckO 2 (sePlay cb).1, ((sePlay cb).1.th 0).ans, ((sePlay cb).1.th 1).ans, (sePlay cb).2.length) = ([2, 7, 0], false, [(true, 7)], [(false, 0)], 5) := by kernel_rfl
theorem cellsN1 : cellsN 1 = 1 := by decide
def seA : Array Value := #[.int .i64 2, .int .i64 0, .int .i64 7, .int .i64 0]
def seB : Array Value := #[.int .i64 2, .int .i64 0, .int .i64 9, .int .i64 0]
def seH (T : Nat) : Array Value := #[.slice (some ⟨T, 0, none⟩) 1 1, .slice (some ⟨T + 1, 0, none⟩) 1 1]
def seS : Array Value := #[.int .i64 0, .int .i64 1, .int .i64 1, .int .i64 0, .int .i64 0]
def seOa (T : Nat) (i : Nat) : Option Addr := some ⟨T + i, 0, none⟩
theorem se_ops {T : Nat} {w : World} (h1 : w.heap[T]? = some (.cells seA 34)) (h2 : w.heap[T + 1]? = some (.cells seB 34)) (h4 : w.heap[T + 2]? = some (.cells (seH T) 32)) : OpsIn (T + 2) 0 2 (seOa T) (fun _ => 1) (fun _ => 1) seOps w := by
  refine ⟨fun i hi => ?_, fun i hi => Nat.le_refl _, fun i hi => .inr ⟨_, rfl⟩, fun i hi => ?_, fun i hi j o ho => ?_⟩
  · rw [Nat.zero_add]
    refine (cell_of h4 i).trans ?_
    match i, hi with
    | 0, _ => rfl
    | 1, _ => rfl
  · match i, hi with
    | 0, _ => rfl
    | 1, _ => rfl
  · refine ⟨T + i, 0, rfl, ?_⟩
    simp only [Nat.zero_add]
    match i, hi, ho with
    | 0, _, ho =>
      match j, ho with
      | 0, ho => cases ho; exact ⟨(cell_of h1 _).trans rfl, (cell_of h1 _).trans rfl, (cell_of h1 _).trans rfl, (cell_of h1 _).trans rfl⟩
      | j + 1, ho => exact absurd ho (by simp [seOps])
    | 1, _, ho =>
      match j, ho with
      | 0, ho => cases ho; exact ⟨(cell_of h2 _).trans rfl, (cell_of h2 _).trans rfl, (cell_of h2 _).trans rfl, (cell_of h2 _).trans rfl⟩
      | j + 1, ho => exact absurd ho (by simp [seOps])
noncomputable def reg13_0 : Array Oper := match Try.f13.body with | some (.seq (.region _ ops _) _) => ops | _ => #[]
theorem size13_0 : reg13_0.size = 1 := by kernel_rfl
noncomputable def reg13_1 : Array Oper := match Try.f13.body with | some (.seq _ (.seq (.region _ ops _) _)) => ops | _ => #[]
theorem size13_1 : reg13_1.size = 3 := by kernel_rfl
theorem code13_is : Try.f13.body = some (.seq (.region 0 reg13_0 false) (.seq (.region 1 reg13_1 false) (.ret))) := by kernel_rfl
noncomputable def reg25_0 : Array Oper := match Try.f25.body with | some (.seq (.region _ ops _) _) => ops | _ => #[]
theorem size25_0 : reg25_0.size = 1 := by kernel_rfl
noncomputable def reg25_1 : Array Oper := match Try.f25.body with | some (.seq _ (.seq (.region _ ops _) _)) => ops | _ => #[]
theorem size25_1 : reg25_1.size = 3 := by kernel_rfl
theorem code25_is : Try.f25.body = some (.seq (.region 0 reg25_0 false) (.seq (.region 1 reg25_1 false) (.ret))) := by kernel_rfl
noncomputable def reg26_0 : Array Oper := match Try.f26.body with | some (.seq (.region _ ops _) _) => ops | _ => #[]
theorem size26_0 : reg26_0.size = 1 := by kernel_rfl
noncomputable def reg26_1 : Array Oper := match Try.f26.body with | some (.seq _ (.seq (.region _ ops _) _)) => ops | _ => #[]
theorem size26_1 : reg26_1.size = 4 := by kernel_rfl
theorem code26_is : Try.f26.body = some (.seq (.region 0 reg26_0 false) (.seq (.region 1 reg26_1 false) (.ret))) := by kernel_rfl
section
variable {main : Bool} {V : Nat → Option Wait}
def NewOut (w : World) (v : Value) (w' : World) : Prop := v = .pointer (some ⟨w.heap.size, 0, none⟩) ∧ (∀ b, b < w.heap.size → w'.heap[b]? = w.heap[b]?) ∧ w.heap.size ≤ w'.heap.size
theorem once_new (w : World) : CallW Try.prog main V 13 #[] w (NewOut w) := by
  intro c cs
  rw [enter_at _ Try.func13 code13_is]
  simp only [Try.ntmps13, List.size_toArray, List.length_cons, List.length_nil, Nat.reduceAdd, Nat.reduceSub, Array.replicate_succ, Array.replicate_zero, List.push_toArray, List.append_toArray, List.nil_append, List.cons_append]
  repeat (first | refine Walk.c rfl ?_ | refine Walk.cRet ?_ | refine Walk.cEnd ?_ | (refine Walk.cReg ?_; simp only [size13_0, size13_1, List.range, List.range.loop]) | (refine Walk.oq ?_; try walk_nrm) | (refine Walk.un ?_; walk_nrm))
  (refine Walk.oa ?_; try walk_nrm)
  repeat (first | refine Walk.c rfl ?_ | refine Walk.cRet ?_ | refine Walk.cEnd ?_ | (refine Walk.cReg ?_; simp only [size13_0, size13_1, List.range, List.range.loop]) | (refine Walk.oq ?_; try walk_nrm) | (refine Walk.un ?_; walk_nrm))
  refine Walk.on1 rfl rfl Try.func13 rfl (.stop fun d => ⟨_, ⟨rfl, fun b hb => heap_new_lt _ _ hb, ?_⟩, rfl⟩)
  simp [World.at]
theorem once_box (w : World) : CallW Try.prog main V 25 #[] w (NewOut w) := by
  intro c cs
  rw [enter_at _ Try.func25 code25_is]
  simp only [Try.ntmps25, List.size_toArray, List.length_cons, List.length_nil, Nat.reduceAdd, Nat.reduceSub, Array.replicate_succ, Array.replicate_zero, List.push_toArray, List.append_toArray, List.nil_append, List.cons_append]
  repeat (first | refine Walk.c rfl ?_ | refine Walk.cRet ?_ | refine Walk.cEnd ?_ | (refine Walk.cReg ?_; simp only [size25_0, size25_1, List.range, List.range.loop]) | (refine Walk.oq ?_; try walk_nrm) | (refine Walk.un ?_; walk_nrm))
  (refine Walk.oa ?_; try walk_nrm)
  repeat (first | refine Walk.c rfl ?_ | refine Walk.cRet ?_ | refine Walk.cEnd ?_ | (refine Walk.cReg ?_; simp only [size25_0, size25_1, List.range, List.range.loop]) | (refine Walk.oq ?_; try walk_nrm) | (refine Walk.un ?_; walk_nrm))
  refine Walk.on1 rfl rfl Try.func25 rfl (.stop fun d => ⟨_, ⟨rfl, fun b hb => heap_new_lt _ _ hb, ?_⟩, rfl⟩)
  simp [World.at]
theorem once_lazy (w : World) : CallW Try.prog main V 26 #[.nilFunc] w (NewOut w) := by
  intro c cs
  rw [enter_at _ Try.func26 code26_is]
  simp only [Try.ntmps26, List.size_toArray, List.length_cons, List.length_nil, Nat.reduceAdd, Nat.reduceSub, Array.replicate_succ, Array.replicate_zero, List.push_toArray, List.append_toArray, List.nil_append, List.cons_append]
  repeat (first | refine Walk.c rfl ?_ | refine Walk.cRet ?_ | refine Walk.cEnd ?_ | (refine Walk.cReg ?_; simp only [size26_0, size26_1, List.range, List.range.loop]) | (refine Walk.oq ?_; try walk_nrm) | (refine Walk.un ?_; walk_nrm))
  (refine Walk.oa ?_; try walk_nrm)
  repeat (first | refine Walk.c rfl ?_ | refine Walk.cRet ?_ | refine Walk.cEnd ?_ | (refine Walk.cReg ?_; simp only [size26_0, size26_1, List.range, List.range.loop]) | (refine Walk.oq ?_; try walk_nrm) | (refine Walk.un ?_; walk_nrm))
  refine Walk.on1 rfl rfl Try.func26 rfl (.stop fun d => ⟨_, ⟨rfl, fun b hb => heap_new_lt _ _ hb, ?_⟩, rfl⟩)
  simp [World.at]
end
end
end Go.Proofs.Ytdcjgmlgmjjogaa
