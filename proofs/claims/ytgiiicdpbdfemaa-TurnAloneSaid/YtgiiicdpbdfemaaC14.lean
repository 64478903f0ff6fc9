/- Part 14. -/
import Derived.Test.YtgiiicdpbdfemaaC13
set_option linter.unusedSimpArgs false
/- The statement's side: awake's last part. -/
section
namespace Go.Proofs.Ytgiiicdpbdfemaa
open Go.Conc Go.RowKit Go.Relay
open Go.ConcN (upd upd_ne upd_same)

theorem apart0 (b : Nat) : Apart (fun _ => none) b := ⟨fun _ _ _ _ h => (by cases h), fun _ _ h => (by cases h)⟩
theorem Runs.go {Post : Goroutine → World → Prop} {g : Goroutine} {w : World} (h : Walk Try.prog true (DR (fun _ => none)) (fun g w => Runs Post g w) g w) : Runs Post g w := Runs.walk h fun _ _ h => h
theorem old_alloc (w : World) (o : Obj) : Old w (w.alloc o) := ⟨by simp, fun _ hb => heap_new_lt w o hb⟩
theorem Old.at {w w' : World} (h : Old w w') (d : Nat) : Old w (w'.at d) := ⟨h.size, h.same⟩
theorem Old.un {w w' : World} (d : Nat) (h : Old (w.at d) w') : Old w w' := ⟨h.size, h.same⟩

theorem Walk.slots {P : Program} {main : Bool} {D : World → World → Array Event → Prop} {Stop : Goroutine → World → Prop} {b : Frame} {A : Array Value} {todo : List Item} {cs : List Frame} {w : World} {F : (Nat → Value) → Goroutine} (h : ∀ u, Walk P main D Stop (F u) w) (e : G (b.at ⟨A, []⟩ todo) cs = F (fun k => A.getD k undef)) : Walk P main D Stop (G (b.at ⟨A, []⟩ todo) cs) w := e ▸ h _

noncomputable def tail13 : Code := match Try.f13.body with | some (.seq _ (.seq _ (.seq _ (.seq _ (.seq _ c))))) => c | _ => .skip
noncomputable def opsA13 : Array Oper := match tail13 with | .seq (.seq (.region _ ops _) _) _ => ops | _ => #[]
noncomputable def no13 : Code := match tail13 with | .seq (.seq _ (.cond _ c _)) _ => c | _ => .skip
noncomputable def opsB13 : Array Oper := match tail13 with | .seq _ (.seq (.region _ ops _) _) => ops | _ => #[]
theorem tail13_is : tail13 = .seq (.seq (.region 5 opsA13 false) (.cond (.tmp 41) no13 .skip)) (.seq (.region 7 opsB13 false) .ret) := by kernel_rfl
theorem sizeA13 : opsA13.size = 22 := by kernel_rfl
theorem sizeB13 : opsB13.size = 34 := by kernel_rfl
noncomputable def hd13 (pv : Value) (TA TB TC : Nat) (u : Nat → Value) : Frame :=
  (base 13).at { tmps := #[.bool false, pv, .pointer (some ⟨TA, 0, none⟩), .pointer (some ⟨TB, 0, none⟩), .pointer (some ⟨TC, 0, none⟩), u 5, u 6, u 7, u 8, u 9, u 10, u 11, u 12, u 13, u 14, u 15, u 16, u 17, u 18, u 19, u 20, u 21, u 22, u 23, u 24, u 25, u 26, u 27, u 28, u 29, u 30, u 31, u 32, u 33, u 34, u 35, u 36, u 37, u 38, u 39, u 40, u 41, u 42, u 43, u 44, u 45, u 46, u 47, u 48, u 49, u 50, u 51, u 52, u 53, u 54, u 55, u 56, u 57, u 58, u 59, u 60, u 61, u 62, u 63, u 64, u 65, u 66, u 67, u 68, u 69, u 70, u 71, u 72, u 73, u 74], defers := [] } [.code tail13]

set_option maxHeartbeats 8000000 in
set_option maxRecDepth 100000 in
theorem awake_tail (pv : Value) (TA TB TC a1 a2 s1 s2 oc1 oc3 : Nat) (oa1 oa3 : Option Addr) (u : Nat → Value) (c : Frame) (cs : List Frame) (w : World)
    (u10 : w.cell? ⟨TA, 0, none⟩ = some (.slice (some ⟨a1, 0, none⟩) 2 2)) (u11 : w.cell? ⟨TA, 1, none⟩ = some (.slice oa1 4 oc1)) (u12 : w.cell? ⟨TA, 2, none⟩ = some (.slice (some ⟨s1, 0, none⟩) 1 1)) (u13 : w.cell? ⟨TA, 3, none⟩ = some (.bool false))
    (u20 : w.cell? ⟨TB, 0, none⟩ = some (.slice (some ⟨a2, 0, none⟩) 2 2)) (u22 : w.cell? ⟨TB, 2, none⟩ = some (.slice (some ⟨s2, 0, none⟩) 1 1))
    (u31 : w.cell? ⟨TC, 1, none⟩ = some (.slice oa3 3 oc3)) (u33 : w.cell? ⟨TC, 3, none⟩ = some (.bool true)) (hs1 : w.cell? ⟨s1, 0, none⟩ = some (.int .i64 1)) (hs2 : w.cell? ⟨s2, 0, none⟩ = some (.int .i64 2)) :
    Walk Try.prog true (DR (fun _ => none)) (fun g w' => g = G (c.finish (.bool true)) cs ∧ ∃ d, w' = w.at d) (G (hd13 pv TA TB TC u) (c :: cs)) w := by
  unfold hd13
  rw [tail13_is]
  refine Walk.ctl rfl (fun w => stepG_seq) ?_
  refine Walk.ctl rfl (fun w => stepG_seq) ?_
  refine Walk.ctl rfl (fun w => stepG_region) ?_
  rw [sizeA13]
  simp only [List.range, List.range.loop]
  repeat (first | (refine Walk.opq (ho_of (by conv => lhs; whnf) (by kernel_rfl)) (by rfl) (by decide) (fun dd e he => ?_) (fun dd K hK => ?_); (· (simp [go_sem, *] at he; try (subst he; exact evR_read _ _))); go_simp; refine hK _ ?_; clear hK K; try walk_nrm) | (refine Walk.ctl rfl (fun w => stepG_unwanted (ho_of (by conv => lhs; whnf) (by kernel_rfl)) (by rfl)) ?_; walk_nrm))
  refine Walk.ctl rfl (fun w => stepG_region_end) ?_
  refine Walk.ctl rfl (fun w => stepG_cond (t := false) rfl) ?_
  simp only [Bool.false_eq_true, if_false]
  refine Walk.ctl rfl (fun w => stepG_skip) ?_
  refine Walk.ctl rfl (fun w => stepG_seq) ?_
  refine Walk.ctl rfl (fun w => stepG_region) ?_
  rw [sizeB13]
  simp only [List.range, List.range.loop]
  repeat (first | (refine Walk.opq (ho_of (by conv => lhs; whnf) (by kernel_rfl)) (by rfl) (by decide) (fun dd e he => ?_) (fun dd K hK => ?_); (· (simp [go_sem, *] at he; try (subst he; exact evR_read _ _))); go_simp; refine hK _ ?_; clear hK K; try walk_nrm) | (refine Walk.ctl rfl (fun w => stepG_unwanted (ho_of (by conv => lhs; whnf) (by kernel_rfl)) (by rfl)) ?_; walk_nrm))
  repeat (first | (refine Walk.c rfl ?_) | (refine Walk.cReg ?_; simp only [List.size_toArray, List.length_cons, List.length_nil, Nat.reduceAdd, Nat.zero_add, List.range, List.range.loop]) | (refine Walk.cRet ?_) | (refine Walk.cEnd ?_) | (refine Walk.opq (ho_of (by conv => lhs; whnf) (by kernel_rfl)) (by rfl) (by decide) (fun dd e he => ?_) (fun dd K hK => ?_); (· (simp [go_sem, *] at he; try (subst he; exact evR_read _ _))); go_simp; refine hK _ ?_; clear hK K; try walk_nrm) | (refine Walk.ctl rfl (fun w => stepG_unwanted (ho_of (by conv => lhs; whnf) (by kernel_rfl)) (by rfl)) ?_; walk_nrm))
  exact (Walk.ret1 (Post := fun v w' => v = .bool true ∧ ∃ d, w' = w.at d) rfl rfl Try.func13 rfl fun d => ⟨rfl, d, rfl⟩).mono fun g w' ⟨v, ⟨hv, hd⟩, hg⟩ => ⟨by rw [hg, hv], hd⟩
end Go.Proofs.Ytgiiicdpbdfemaa
end

/- Package turn's Stepper: a call of Step by the interface comes to the Counter's Step. -/
section
namespace Go.Proofs.Ytgiiicdpbdfemaa
open Go.Conc Go.RowKit Go.Relay
open Go.ConcN (upd upd_ne upd_same)

variable {main : Bool} {V : Nat → Option Wait}

noncomputable def row63B : Bool := match Try.prog.info? 63 with
  | some ti => (match ti.methods.find? (·.name == "Step") with
    | some m => m.path.isEmpty && (m.func == some (31, true))
    | none => false)
  | none => false
theorem row63 : ∃ ti m, Try.prog.info? 63 = some ti ∧ ti.methods.find? (·.name == "Step") = some m ∧ m.path = #[] ∧ m.func = some (31, true) := by
  have h : row63B = true := by kernel_rfl
  unfold row63B at h
  revert h
  cases h1 : Try.prog.info? 63 with
  | none => simp
  | some ti =>
    simp only []
    cases h2 : ti.methods.find? (·.name == "Step") with
    | none => simp
    | some m =>
      simp only [Bool.and_eq_true, Array.isEmpty_iff, beq_iff_eq]
      exact fun h => ⟨ti, m, rfl, h2, h.1, h.2⟩

theorem method_step63 (p : Nat) (w : World) (es : Array Event) : (method (Try.prog.types.size + Made.depth) 63 (.pointer (some ⟨p, 0, none⟩)) "Step").run Try.prog w = .ok (31, .pointer (some ⟨p, 0, none⟩)) w ∧ (method (Try.prog.types.size + Made.depth) 63 (.pointer (some ⟨p, 0, none⟩)) "Step").events Try.prog w es = es := by
  obtain ⟨ti, m, h1, h2, h3, h4⟩ := row63
  obtain ⟨k, hk⟩ : ∃ k, Try.prog.types.size + Made.depth = k + 1 := ⟨Try.prog.types.size + (Made.depth - 1), by have : 1 ≤ Made.depth := by decide
                                                                                                                omega⟩
  rw [hk]
  unfold method
  refine ⟨?_, ?_⟩
  · simp [typeInfo, h1, h2, h3, h4, follow, receiverAt, run_underlying und63, Place.get]
  · simp [typeInfo, h1, h2, h3, h4, follow, receiverAt, run_underlying und63, Place.get]

section
variable {Stop : Goroutine → World → Prop} {w : World} {b : Frame} {a : Act} {k : List Item} {cs : List Frame} {ops : Array Oper} {i : Nat} {rest : List Nat} {o : Oper}
theorem stepG_invoke63 {x : Operand} {ats : Array TypeId} (p : Nat) (ho : ops[i]? = some o) (hw : Region.wanted o (yielded ops a.tmps) = true) (hk : b.kind ≠ .early) (hop : o.op = .call { callee := .invoke x "Step", args := #[], argTypes := ats }) (hx : a.eval x = .iface 63 (.pointer (some ⟨p, 0, none⟩))) :
    stepG Try.prog main (G (b.at a (.inRegion ops (i :: rest) :: k)) cs) w = .go (G (Frame.enter Try.prog 31 #[.pointer (some ⟨p, 0, none⟩)] .normal) (b.at a (.inRegion ops (i :: rest) :: k) :: cs)) w := by
  have h1 : ¬ Try.f31.name = "runtime.NumGoroutine" := by decide
  have h2 : ¬ Try.f31.body = none := by simp [Try.f31]
  have hm := method_step63 p w #[]
  rw [show Try.prog.types.size = 216 from by kernel_rfl] at hm
  have hr : (execOp a.eval o).run Try.prog w = .ok (.enter 31 #[.pointer (some ⟨p, 0, none⟩)]) w := by
    unfold execOp
    simp [hop, resolve, invoke, callMethod, callFunc, hm.1, Try.func31, h1, h2, hx]
  have he : (execOp a.eval o).events Try.prog w #[] = #[] := by
    unfold execOp
    simp [hop, resolve, invoke, callMethod, callFunc, hm.1, hm.2, Try.func31, h1, h2, hx]
  rw [stepG_enter ho hw hk hr]
  have : listed Try.prog b.fn a o w = #[] := by unfold listed; rw [he]; exact seen_none Try.prog _
  rw [this]

theorem Walk.invoke63 {x : Operand} {ats : Array TypeId} (p : Nat) (ho : ops[i]? = some o) (hw : Region.wanted o (yielded ops a.tmps) = true) (hk : b.kind ≠ .early) (hop : o.op = .call { callee := .invoke x "Step", args := #[], argTypes := ats }) (hx : a.eval x = .iface 63 (.pointer (some ⟨p, 0, none⟩)))
    (h : Walk Try.prog main (DR V) Stop (G (Frame.enter Try.prog 31 #[.pointer (some ⟨p, 0, none⟩)] .normal) (b.at a (.inRegion ops (i :: rest) :: k) :: cs)) w) : Walk Try.prog main (DR V) Stop (G (b.at a (.inRegion ops (i :: rest) :: k)) cs) w :=
  Walk.ctl rfl (fun _ => stepG_invoke63 p ho hw hk hop hx) h
end

/-- A walker under a Counter: its block, the board's, the Counter's; the list has i numbers. -/
structure Und (w0 : World) (W B C : Nat) (num steps after m : Int) (i : Nat) (la : Option Addr) (cap : Nat) (xs : List Value) (w : World) : Prop where
  bW : w.heap[W]? = some (.cells #[.pointer (some ⟨B, 0, none⟩), .int .i64 num, .int .i64 steps, .int .i64 after] 127)
  bB : w.heap[B]? = some (.cells #[.slice la i cap] 49)
  bC : w.heap[C]? = some (.cells #[.int .i64 m, .int .i64 i] 145)
  row : w.ownsRow w0.heap.size 3 1 (.slice la i cap) i xs
  size : w0.heap.size ≤ w.heap.size
  lW : W < w0.heap.size
  lB : B < w0.heap.size
  lC : C < w0.heap.size
  nWB : W ≠ B
  nWC : W ≠ C
  nBC : B ≠ C
  same : ∀ b, b < w0.heap.size → b ≠ B → b ≠ C → w.heap[b]? = w0.heap[b]?

/-- What a walk does alone: the steps it would do, whether it breaks then. -/
def badW (steps after : Int) : Bool := decide (0 ≤ after) && decide (after ≤ steps)
def numW (steps after : Int) : Int := if badW steps after then after else steps

theorem walk_alone {w0 : World} {W B C : Nat} {num steps after m : Int} (hs0 : 0 ≤ steps) (hs1 : steps < 32) (hm0 : 0 ≤ m) (hm1 : m ≤ 1048576) (c : Frame) (cs : List Frame) :
    ∀ (r i : Nat) (la : Option Addr) (cap : Nat) (xs : List Value) (u : Nat → Value) (w : World), ((i + r : Nat) : Int) = min (numW steps after) m → Und w0 W B C num steps after m i la cap xs w →
      Walk Try.prog true (DR (fun _ => none)) (fun g w' => ∃ (j : Nat) (la' : Option Addr) (cap' : Nat) (xs' : List Value), (j : Int) = min (numW steps after) m ∧ Und w0 W B C num steps after m j la' cap' xs' w' ∧
        ((numW steps after ≤ m ∧ badW steps after = true ∧ ∃ t v, t ≠ 147 ∧ g = G (c.raise [{ v := .iface t v, recovered := false }]) cs) ∨ (numW steps after ≤ m ∧ badW steps after = false ∧ g = G (c.finish (.tuple #[])) cs) ∨
         (m < numW steps after ∧ g = G (c.raise [{ v := .iface 147 (.agg #[]), recovered := false }]) cs)))
        (G (hd57 W (.iface 63 (.pointer (some ⟨C, 0, none⟩))) i u) (c :: cs)) w := by
  intro r
  have hn : numW steps after ≤ steps := by
    unfold numW badW; split
    · next h => simp at h; omega
    · omega
  have hn0 : 0 ≤ numW steps after := by
    unfold numW badW; split
    · next h => simp at h; omega
    · omega
  induction r with
  | zero =>
    intro i la cap xs u w hi U
    have hi : (i : Int) = min (numW steps after) m := by simpa using hi
    have h1 := (cell_of U.bW 1).trans rfl
    have h2 := (cell_of U.bW 2).trans rfl
    have h3 := (cell_of U.bW 3).trans rfl
    by_cases hle : numW steps after ≤ m
    · have hin : (i : Int) = numW steps after := by omega
      cases hb : badW steps after with
      | true =>
        have ha : after = i := by unfold numW at hin; rw [hb] at hin; simpa using hin.symm
        by_cases hlt : (i : Int) < steps
        · rw [ha] at h3
          refine (walk57_break W _ i steps num u c cs w h1 h2 h3 hlt).mono ?_
          rintro g w' ⟨⟨t, v, ht, rfl⟩, d, rfl⟩
          exact ⟨i, la, cap, xs, hi, ⟨U.bW, U.bB, U.bC, U.row, U.size, U.lW, U.lB, U.lC, U.nWB, U.nWC, U.nBC, U.same⟩, .inl ⟨hle, rfl, t, v, ht, rfl⟩⟩
        · refine (walk57_end W _ i steps after num u c cs w h1 h2 h3 (by omega)).mono ?_
          rintro g w' ⟨h, d, rfl⟩
          refine ⟨i, la, cap, xs, hi, ⟨U.bW, U.bB, U.bC, U.row, U.size, U.lW, U.lB, U.lC, U.nWB, U.nWC, U.nBC, U.same⟩, .inl ⟨hle, rfl, ?_⟩⟩
          rcases h with ⟨_, t, v, ht, rfl⟩ | ⟨hne, _⟩
          · exact ⟨t, v, ht, rfl⟩
          · omega
      | false =>
        have hst : steps = i := by unfold numW at hin; rw [hb] at hin; simpa using hin.symm
        have hna : after ≠ steps := fun e => by
          unfold badW at hb
          rw [e] at hb
          simp at hb; omega
        refine (walk57_end W _ i steps after num u c cs w h1 h2 h3 (by omega)).mono ?_
        rintro g w' ⟨h, d, rfl⟩
        refine ⟨i, la, cap, xs, hi, ⟨U.bW, U.bB, U.bC, U.row, U.size, U.lW, U.lB, U.lC, U.nWB, U.nWC, U.nBC, U.same⟩, .inr (.inl ⟨hle, rfl, ?_⟩)⟩
        rcases h with ⟨he, _⟩ | ⟨_, rfl⟩
        · exact absurd he hna
        · rfl
    · have him : (i : Int) = m := by omega
      have hlt : (i : Int) < steps := by omega
      have hna : (i : Int) ≠ after := fun e => by
        have : numW steps after = after := by unfold numW badW; rw [if_pos]; simp; omega
        omega
      refine (walk57_more W 63 (.pointer (some ⟨C, 0, none⟩)) i steps after u (c :: cs) w h2 h3 hlt hna).then ?_
      rintro g w1 ⟨⟨u', rfl⟩, d, rfl⟩
      refine Walk.back ?_ d
      refine Walk.invoke63 (a := at57 W (.iface 63 (.pointer (some ⟨C, 0, none⟩))) i u') C (ho_of (by conv => lhs; whnf) (by kernel_rfl)) (by rfl) (by decide) rfl rfl ?_
      have hc0 := (cell_of U.bC 0).trans rfl
      have hc1 := (cell_of U.bC 1).trans rfl
      refine (step31_stop C i m w hc0 hc1 (by omega) _ _).then ?_
      rintro g w' ⟨rfl, d, rfl⟩
      refine Walk.back ?_ d
      rw [Frame.raise_at]
      refine Walk.ctl rfl (fun w => stepG_pop rfl rfl (by kernel_rfl)) ?_
      exact .stop fun d => ⟨i, la, cap, xs, hi, ⟨U.bW, U.bB, U.bC, U.row, U.size, U.lW, U.lB, U.lC, U.nWB, U.nWC, U.nBC, U.same⟩, .inr (.inr ⟨by omega, rfl⟩)⟩
  | succ r ih =>
    intro i la cap xs u w hi U
    have h2 := (cell_of U.bW 2).trans rfl
    have h3 := (cell_of U.bW 3).trans rfl
    have hlt : (i : Int) < steps := by omega
    have hna : (i : Int) ≠ after := fun e => by
      have : numW steps after = after := by unfold numW badW; rw [if_pos]; simp; omega
      omega
    refine (walk57_more W 63 (.pointer (some ⟨C, 0, none⟩)) i steps after u (c :: cs) w h2 h3 hlt hna).then ?_
    rintro g w1 ⟨⟨u', rfl⟩, d, rfl⟩
    refine Walk.back ?_ d
    refine Walk.invoke63 (a := at57 W (.iface 63 (.pointer (some ⟨C, 0, none⟩))) i u') C (ho_of (by conv => lhs; whnf) (by kernel_rfl)) (by rfl) (by decide) rfl rfl ?_
    have hc0 := (cell_of U.bC 0).trans rfl
    have hc1 := (cell_of U.bC 1).trans rfl
    refine ((step31_go C i m w hc0 hc1 (frozen_of U.bC 1) ((apart0 C).1 _ rfl) (by omega) hm1 (by omega)) _ _).then ?_
    rintro g w' ⟨v, ⟨rfl, d, rfl⟩, rfl⟩
    refine Walk.back ?_ d
    have e1 : (w.setCell ⟨C, 1, none⟩ (.int .i64 ((i : Int) + 1))).heap[W]? = w.heap[W]? := heap_set_other _ _ _ _ U.nWC
    have e2 : (w.setCell ⟨C, 1, none⟩ (.int .i64 ((i : Int) + 1))).heap[B]? = w.heap[B]? := heap_set_other _ _ _ _ U.nBC
    have hrow : (w.setCell ⟨C, 1, none⟩ (.int .i64 ((i : Int) + 1))).ownsRow w0.heap.size 3 1 (.slice la i cap) i xs := row_same U.row fun g hg => heap_set_other _ _ _ _ (by have := (row_at U.row hg).1; have := U.lC; show g ≠ C; omega)
    have hsz : (w.setCell ⟨C, 1, none⟩ (.int .i64 ((i : Int) + 1))).heap.size = w.heap.size := size_set _ _ _
    have hown : ∀ b, b < w0.heap.size → (Value.slice la i cap).ownBlock ≠ some b := fun b hb e => by have := (row_at U.row e).1; omega
    have hN : Note (fun _ => none) W B w0.heap.size num la i cap xs (w.setCell ⟨C, 1, none⟩ (.int .i64 ((i : Int) + 1))) :=
      ⟨(cell_of (e1.trans U.bW) 0).trans rfl, (cell_of (e1.trans U.bW) 1).trans rfl, (cell_of (e2.trans U.bB) 0).trans rfl, frozen_of (e2.trans U.bB) 0, hrow, (apart0 B).1 _ rfl, fun g _ => apart0 g, hown W U.lW, hown B U.lB, by omega, by rw [hsz]; exact U.size⟩
    refine (walk57_back W B w0.heap.size num la i cap xs (.iface 63 (.pointer (some ⟨C, 0, none⟩))) i u' (c :: cs) _ hN (by omega) (by omega)).then ?_
    rintro g' w' ⟨g, cap', w3, A, ⟨u2, rfl⟩, d, rfl⟩
    refine Walk.back ?_ d
    have hg : w0.heap.size ≤ g := by
      rcases A.row.2 with ⟨h, _⟩ | ⟨g', _, _, h, h', _⟩
      · cases h
      · cases h; exact h'
    have k3 : ∀ b, b < w0.heap.size → w3.heap[b]? = (w.setCell ⟨C, 1, none⟩ (.int .i64 ((i : Int) + 1))).heap[b]? := fun b hb => hN.keep A (by rw [hsz]; have := U.size; omega) (hown b hb)
    have kB : ∀ b, b < w0.heap.size → b ≠ B → (w3.setCell ⟨B, 0, none⟩ (.slice (some ⟨g, 0, none⟩) (i + 1) cap')).heap[b]? = (w.setCell ⟨C, 1, none⟩ (.int .i64 ((i : Int) + 1))).heap[b]? := fun b hb hne => (heap_set_other _ _ _ _ hne).trans (k3 b hb)
    have hcast : ((i : Int) + 1) = ((i + 1 : Nat) : Int) := by omega
    rw [hcast]
    refine ih (i + 1) (some ⟨g, 0, none⟩) cap' (xs ++ [.int .i64 num]) u2 _ (by omega) ⟨(kB W U.lW U.nWB).trans (e1.trans U.bW), ?_, ?_, ?_, ?_, U.lW, U.lB, U.lC, U.nWB, U.nWC, U.nBC, fun b hb hB hC => ?_⟩
    · exact (heap_set_self _ _ ((k3 B U.lB).trans (e2.trans U.bB))).trans (by simp)
    · rw [kB C U.lC (Ne.symm U.nBC)]
      refine (heap_set_self _ _ U.bC).trans ?_
      rw [hcast]
      simp
    · refine row_same A.row fun b hb => heap_set_other _ _ _ _ ?_
      have : g = b := by simpa [Value.ownBlock] using hb
      have := U.lB
      show b ≠ B
      omega
    · rw [size_set]
      have := A.grown.size
      have : (((w.setCell ⟨C, 1, none⟩ (.int .i64 ((i : Int) + 1))).alloc (.cells #[.int .i64 num] 3))).heap.size = w.heap.size + 1 := by simp [hsz]
      have := U.size
      omega
    · exact (kB b hb hB).trans ((heap_set_other _ _ _ _ hC).trans (U.same b hb hB hC))
end Go.Proofs.Ytgiiicdpbdfemaa
end

/- The statement's side: does. -/
section
namespace Go.Proofs.Ytgiiicdpbdfemaa
open Go.Conc Go.RowKit Go.Relay
open Go.ConcN (upd upd_ne upd_same)

variable {main : Bool} {V : Nat → Option Wait}

theorem bits_and31 (n : Int) : bits .and .i64 n 31 = n % 32 := by
  have h3 : BitVec.ofInt 64 31 = 31#64 := by decide
  have hx : (BitVec.ofInt 64 n).toNat = (n % 18446744073709551616).toNat := by rw [BitVec.toNat_ofInt]; rfl
  have hb : (BitVec.ofInt 64 n &&& 31#64).toNat = (BitVec.ofInt 64 n).toNat % 32 := by
    rw [BitVec.toNat_and]
    exact Nat.and_two_pow_sub_one_eq_mod _ 5
  show IntKind.i64.wrap ((BitVec.ofInt 64 n &&& BitVec.ofInt 64 31).toNat : Int) = n % 32
  rw [h3, hb, hx]
  simp [IntKind.wrap, IntKind.bits, IntKind.signed]
  omega

noncomputable def reg26_0 : Array Oper := match Try.f26.body with | some (.seq (.region _ ops _) _) => ops | _ => #[]
theorem size26_0 : reg26_0.size = 3 := by kernel_rfl
noncomputable def reg26_1 : Array Oper := match Try.f26.body with | some (.seq _ (.seq (.region _ ops _) _)) => ops | _ => #[]
theorem size26_1 : reg26_1.size = 4 := by kernel_rfl
noncomputable def reg26_2 : Array Oper := match Try.f26.body with | some (.seq _ (.seq _ (.seq (.block _ (.seq (.region _ ops _) _)) _))) => ops | _ => #[]
theorem size26_2 : reg26_2.size = 3 := by kernel_rfl
noncomputable def reg26_3 : Array Oper := match Try.f26.body with | some (.seq _ (.seq _ (.seq (.block _ (.seq _ (.cond _ (.seq (.region _ ops _) _) _))) _))) => ops | _ => #[]
theorem size26_3 : reg26_3.size = 2 := by kernel_rfl
noncomputable def reg26_4 : Array Oper := match Try.f26.body with | some (.seq _ (.seq _ (.seq (.block _ (.seq _ (.cond _ _ (.seq (.region _ ops _) _)))) _))) => ops | _ => #[]
theorem size26_4 : reg26_4.size = 10 := by kernel_rfl
noncomputable def reg26_5 : Array Oper := match Try.f26.body with | some (.seq _ (.seq _ (.seq (.block _ (.seq _ (.cond _ _ (.seq _ (.cond _ (.seq (.region _ ops _) _) _))))) _))) => ops | _ => #[]
theorem size26_5 : reg26_5.size = 4 := by kernel_rfl
noncomputable def reg26_6 : Array Oper := match Try.f26.body with | some (.seq _ (.seq _ (.seq _ (.seq (.region _ ops _) _)))) => ops | _ => #[]
theorem size26_6 : reg26_6.size = 3 := by kernel_rfl
theorem code26_is : Try.f26.body = some (.seq (.region 0 reg26_0 false) (.seq (.region 1 reg26_1 false) (.seq (.block 0 (.seq (.region 2 reg26_2 false) (.cond (.tmp 8 ) (.seq (.region 3 reg26_3 false) (.ret)) (.seq (.region 4 reg26_4 false) (.cond (.tmp 11 ) (.seq (.region 5 reg26_5 false) (.ret)) (.skip)))))) (.seq (.region 6 reg26_6 false) (.ret))))) := by kernel_rfl

set_option maxHeartbeats 8000000 in
set_option maxRecDepth 100000 in
theorem does_w (st af : Int) (w : World) : CallW Try.prog main V 26 #[.agg #[.int .i64 st, .int .i64 af, .bool false]] w (fun v w' => v = .tuple #[.int .i64 (numW (st % 32) af), .bool (badW (st % 32) af)] ∧ ∃ d, w' = (w.alloc (.cells #[.int .i64 st, .int .i64 af, .bool false] 58)).at d) := by
  refine callW_in Try.func26 code26_is fun fr cs => ?_
  simp only [Try.ntmps26, List.size_toArray, List.length_cons, List.length_nil, Nat.reduceAdd, Nat.reduceSub, Array.replicate_succ, Array.replicate_zero, List.push_toArray, List.append_toArray, List.nil_append, List.cons_append]
  repeat (first | (refine Walk.c rfl ?_) | (refine Walk.cRet ?_) | (refine Walk.cEnd ?_) | (refine Walk.cReg ?_; simp only [size26_0, size26_1, size26_2, size26_3, size26_4, size26_5, size26_6, List.range, List.range.loop]) | (refine Walk.opq (ho_of (by conv => lhs; whnf) (by kernel_rfl)) (by rfl) (by decide) (fun dd e he => ?_) (fun dd K hK => ?_); (· (simp [go_sem, *] at he; try (subst he; exact evR_read _ _))); go_simp; refine hK _ ?_; clear hK K; try walk_nrm) | (refine Walk.ctl rfl (fun w => stepG_unwanted (ho_of (by conv => lhs; whnf) (by kernel_rfl)) (by rfl)) ?_; walk_nrm))
  (co_applyP Walk.opw (ho_of (by conv => lhs; whnf) (by kernel_rfl)) (by rfl) (by decide) ?wev1 ?wdr1 ?wrun1; (case' wrun1 => (intro dd K hK; go_simp; simp only [alloc_at', setCell_at']; refine hK _ ?wmore1; clear hK K)); (case wdr1 => exact fun dd es hes => DR.alloc' dd es hes); (case wev1 => (intro dd e he; simp [go_sem, *] at he)); try walk_nrm)
  have hb := heap_alloc_new w (.cells #[.int .i64 st, .int .i64 af, .bool false] 58)
  have c0 : (w.alloc (.cells #[.int .i64 st, .int .i64 af, .bool false] 58)).cell? ⟨w.heap.size, 0, none⟩ = some (.int .i64 st) := (cell_of hb 0).trans rfl
  have c1 : (w.alloc (.cells #[.int .i64 st, .int .i64 af, .bool false] 58)).cell? ⟨w.heap.size, 1, none⟩ = some (.int .i64 af) := (cell_of hb 1).trans rfl
  have c2 : (w.alloc (.cells #[.int .i64 st, .int .i64 af, .bool false] 58)).cell? ⟨w.heap.size, 2, none⟩ = some (.bool false) := (cell_of hb 2).trans rfl
  clear hb
  generalize w.heap.size = X at *
  generalize w.alloc (.cells #[.int .i64 st, .int .i64 af, .bool false] 58) = w1 at *
  have hbk := bits_and31 st
  generalize st % 32 = k at *
  by_cases h0 : 0 ≤ af
  · have d0 : decide (0 ≤ af) = true := decide_eq_true h0
    by_cases h1 : af ≤ k
    · have d1 : decide (af ≤ k) = true := decide_eq_true h1
      repeat (first | (refine Walk.c rfl ?_) | (refine Walk.cRet ?_) | (refine Walk.cEnd ?_) | (refine Walk.cReg ?_; simp only [size26_0, size26_1, size26_2, size26_3, size26_4, size26_5, size26_6, List.range, List.range.loop]) | (refine Walk.opq (ho_of (by conv => lhs; whnf) (by kernel_rfl)) (by rfl) (by decide) (fun dd e he => ?_) (fun dd K hK => ?_); (· (simp [go_sem, *] at he; try (subst he; exact evR_read _ _))); go_simp; refine hK _ ?_; clear hK K; try walk_nrm) | (refine Walk.ctl rfl (fun w => stepG_unwanted (ho_of (by conv => lhs; whnf) (by kernel_rfl)) (by rfl)) ?_; walk_nrm))
      refine Walk.ctl rfl (fun w => stepG_leave rfl rfl Try.func26 (results_tmp2 rfl _ _ w) (events_results_tmp2 rfl _ _)) (.stop fun d => ⟨_, ⟨?_, d, rfl⟩, rfl⟩)
      simp [numW, badW, h0, h1]
    · have d1 : decide (af ≤ k) = false := decide_eq_false h1
      repeat (first | (refine Walk.c rfl ?_) | (refine Walk.cRet ?_) | (refine Walk.cEnd ?_) | (refine Walk.cReg ?_; simp only [size26_0, size26_1, size26_2, size26_3, size26_4, size26_5, size26_6, List.range, List.range.loop]) | (refine Walk.opq (ho_of (by conv => lhs; whnf) (by kernel_rfl)) (by rfl) (by decide) (fun dd e he => ?_) (fun dd K hK => ?_); (· (simp [go_sem, *] at he; try (subst he; exact evR_read _ _))); go_simp; refine hK _ ?_; clear hK K; try walk_nrm) | (refine Walk.ctl rfl (fun w => stepG_unwanted (ho_of (by conv => lhs; whnf) (by kernel_rfl)) (by rfl)) ?_; walk_nrm))
      refine Walk.ctl rfl (fun w => stepG_leave rfl rfl Try.func26 (results_tmp2 rfl _ _ w) (events_results_tmp2 rfl _ _)) (.stop fun d => ⟨_, ⟨?_, d, rfl⟩, rfl⟩)
      simp [numW, badW, h1]
  · have d0 : decide (0 ≤ af) = false := decide_eq_false h0
    repeat (first | (refine Walk.c rfl ?_) | (refine Walk.cRet ?_) | (refine Walk.cEnd ?_) | (refine Walk.cReg ?_; simp only [size26_0, size26_1, size26_2, size26_3, size26_4, size26_5, size26_6, List.range, List.range.loop]) | (refine Walk.opq (ho_of (by conv => lhs; whnf) (by kernel_rfl)) (by rfl) (by decide) (fun dd e he => ?_) (fun dd K hK => ?_); (· (simp [go_sem, *] at he; try (subst he; exact evR_read _ _))); go_simp; refine hK _ ?_; clear hK K; try walk_nrm) | (refine Walk.ctl rfl (fun w => stepG_unwanted (ho_of (by conv => lhs; whnf) (by kernel_rfl)) (by rfl)) ?_; walk_nrm))
    refine Walk.ctl rfl (fun w => stepG_leave rfl rfl Try.func26 (results_tmp2 rfl _ _ w) (events_results_tmp2 rfl _ _)) (.stop fun d => ⟨_, ⟨?_, d, rfl⟩, rfl⟩)
    simp [numW, badW, h0]
end Go.Proofs.Ytgiiicdpbdfemaa
end

/- The statement's side: walkers. -/
section
namespace Go.Proofs.Ytgiiicdpbdfemaa
open Go.Conc Go.RowKit Go.Relay
open Go.ConcN (upd upd_ne upd_same)

variable {main : Bool} {V : Nat → Option Wait}

noncomputable def reg24_0 : Array Oper := match Try.f24.body with | some (.seq (.region _ ops _) _) => ops | _ => #[]
theorem size24_0 : reg24_0.size = 1 := by kernel_rfl
noncomputable def reg24_1 : Array Oper := match Try.f24.body with | some (.seq _ (.seq (.region _ ops _) _)) => ops | _ => #[]
theorem size24_1 : reg24_1.size = 1 := by kernel_rfl
noncomputable def reg24_2 : Array Oper := match Try.f24.body with | some (.seq _ (.seq _ (.seq (.seq (.region _ ops _) _) _))) => ops | _ => #[]
theorem size24_2 : reg24_2.size = 1 := by kernel_rfl
noncomputable def reg24_3 : Array Oper := match Try.f24.body with | some (.seq _ (.seq _ (.seq (.seq _ (.block _ (.loop (.seq (.seq (.region _ ops _) _) _)))) _))) => ops | _ => #[]
theorem size24_3 : reg24_3.size = 4 := by kernel_rfl
noncomputable def reg24_5 : Array Oper := match Try.f24.body with | some (.seq _ (.seq _ (.seq (.seq _ (.block _ (.loop (.seq _ (.seq (.block _ (.seq (.seq (.region _ ops _) _) _)) _))))) _))) => ops | _ => #[]
theorem size24_5 : reg24_5.size = 5 := by kernel_rfl
noncomputable def reg24_6 : Array Oper := match Try.f24.body with | some (.seq _ (.seq _ (.seq (.seq _ (.block _ (.loop (.seq _ (.seq (.block _ (.seq (.seq _ (.cond _ (.seq (.region _ ops _) _) _)) _)) _))))) _))) => ops | _ => #[]
theorem size24_6 : reg24_6.size = 4 := by kernel_rfl
noncomputable def reg24_7 : Array Oper := match Try.f24.body with | some (.seq _ (.seq _ (.seq (.seq _ (.block _ (.loop (.seq _ (.seq (.block _ (.seq _ (.seq (.region _ ops _) _))) _))))) _))) => ops | _ => #[]
theorem size24_7 : reg24_7.size = 16 := by kernel_rfl
noncomputable def reg24_8 : Array Oper := match Try.f24.body with | some (.seq _ (.seq _ (.seq (.seq _ (.block _ (.loop (.seq _ (.seq (.block _ (.seq _ (.seq _ (.region _ ops _)))) _))))) _))) => ops | _ => #[]
theorem size24_8 : reg24_8.size = 6 := by kernel_rfl
noncomputable def reg24_4 : Array Oper := match Try.f24.body with | some (.seq _ (.seq _ (.seq (.seq _ (.block _ (.loop (.seq _ (.seq _ (.region _ ops _)))))) _))) => ops | _ => #[]
theorem size24_4 : reg24_4.size = 3 := by kernel_rfl
noncomputable def reg24_9 : Array Oper := match Try.f24.body with | some (.seq _ (.seq _ (.seq _ (.seq (.region _ ops _) _)))) => ops | _ => #[]
theorem size24_9 : reg24_9.size = 2 := by kernel_rfl
theorem code24_is : Try.f24.body = some (.seq (.region 0 reg24_0 false) (.seq (.region 1 reg24_1 false) (.seq (.seq (.region 2 reg24_2 false) (.block 0 (.loop (.seq (.seq (.region 3 reg24_3 false) (.cond (.tmp 11 ) (.skip) (.exit 0))) (.seq (.block 1 (.seq (.seq (.region 5 reg24_5 false) (.cond (.tmp 18 ) (.seq (.region 6 reg24_6 false) (.exit 1)) (.skip))) (.seq (.region 7 reg24_7 true) (.region 8 reg24_8 false)))) (.region 4 reg24_4 false)))))) (.seq (.region 9 reg24_9 false) (.ret))))) := by kernel_rfl

noncomputable def hd24 (B : Nat) (lv : Value) (oa : Option Addr) (oc i : Nat) (u : Nat → Value) : Frame :=
  (base 24).at { tmps := #[.pointer (some ⟨B, 0, none⟩), lv, u 2, u 3, .slice none 0 0, .slice oa i oc, .int .i64 i, u 7, u 8, u 9, u 10, u 11, u 12, u 13, u 14, u 15, u 16, u 17, u 18, u 19, u 20, u 21, u 22, u 23, u 24, u 25, u 26, u 27, u 28, u 29, u 30, u 31, u 32, u 33, u 34, u 35, u 36, u 37, u 38, u 39, u 40, u 41, u 42], defers := [] } [.code (.seq (.seq (.region 3 reg24_3 false) (.cond (.tmp 11 ) (.skip) (.exit 0))) (.seq (.block 1 (.seq (.seq (.region 5 reg24_5 false) (.cond (.tmp 18 ) (.seq (.region 6 reg24_6 false) (.exit 1)) (.skip))) (.seq (.region 7 reg24_7 true) (.region 8 reg24_8 false)))) (.region 4 reg24_4 false))), .inLoop (.seq (.seq (.region 3 reg24_3 false) (.cond (.tmp 11 ) (.skip) (.exit 0))) (.seq (.block 1 (.seq (.seq (.region 5 reg24_5 false) (.cond (.tmp 18 ) (.seq (.region 6 reg24_6 false) (.exit 1)) (.skip))) (.seq (.region 7 reg24_7 true) (.region 8 reg24_8 false)))) (.region 4 reg24_4 false))), .inBlock 0, .code (.seq (.region 9 reg24_9 false) (.ret))]
def tm24 (B : Nat) (lv : Value) (oa : Option Addr) (oc i : Nat) (u : Nat → Value) : Array Value := #[.pointer (some ⟨B, 0, none⟩), lv, u 2, u 3, .slice none 0 0, .slice oa i oc, .int .i64 i, u 7, u 8, u 9, u 10, u 11, u 12, u 13, u 14, u 15, u 16, u 17, u 18, u 19, u 20, u 21, u 22, u 23, u 24, u 25, u 26, u 27, u 28, u 29, u 30, u 31, u 32, u 33, u 34, u 35, u 36, u 37, u 38, u 39, u 40, u 41, u 42]
def wkr (B i : Nat) (st af : Int) : Array Value := #[.pointer (some ⟨B, 0, none⟩), .int .i64 i, .int .i64 (st % 32), .int .i64 af]

set_option maxHeartbeats 8000000 in
set_option maxRecDepth 100000 in
theorem new24 {Stop : Goroutine → World → Prop} (B L n cap i : Nat) (oa : Option Addr) (oc : Nat) (st af : Int) (k : List Item) (cs : List Frame) (u0 : Nat → Value) (w : World) (hi : i < n) (hc0 : w.cell? ⟨L, i * 3, none⟩ = some (.int .i64 st)) (hc1 : w.cell? ⟨L, i * 3 + 1, none⟩ = some (.int .i64 af))
    (hk : ∀ u, u 7 = .pointer (some ⟨w.heap.size, 0, none⟩) → Walk Try.prog main (DR V) Stop (G ((base 24).at ⟨tm24 B (.slice (some ⟨L, 0, none⟩) n cap) oa oc i u, []⟩ (.inRegion reg24_7 [] :: k)) cs) (w.alloc (.cells (wkr B i st af) 127))) :
    Walk Try.prog main (DR V) Stop (G ((base 24).at ⟨tm24 B (.slice (some ⟨L, 0, none⟩) n cap) oa oc i u0, []⟩ (.code (.region 7 reg24_7 true) :: k)) cs) w := by
  have hbk := bits_and31 st
  refine Walk.drawnJ (Inv := fun f a w' => ∃ u, a = ⟨tm24 B (.slice (some ⟨L, 0, none⟩) n cap) oa oc i u, []⟩ ∧ Facts [22, 23, 24, 25, 26, 27, 28, 29, 30, 31, 32, 33, 34, 35, 36, 7] [.pointer (some ⟨B, 0, none⟩), .int .i64 i, .slice (some ⟨L, 0, none⟩) n cap, .int .i64 i, .pointer (some ⟨L, i * 3, none⟩), .pointer (some ⟨L, i * 3, none⟩), .int .i64 st, .int .i64 (st % 32), .slice (some ⟨L, 0, none⟩) n cap, .int .i64 i, .pointer (some ⟨L, i * 3, none⟩), .pointer (some ⟨L, i * 3 + 1, none⟩), .int .i64 af, .agg (wkr B i st af), .pointer (some ⟨w.heap.size, 0, none⟩), .pointer (some ⟨w.heap.size, 0, none⟩)] f u ∧ ((f 14 = false ∧ ∃ d, w' = w.at d) ∨ (f 14 = true ∧ ∃ d, w' = (w.alloc (.cells (wkr B i st af) 127)).at d))) (by kernel_rfl) (by kernel_rfl) (fun d => ⟨u0, rfl, Facts.none _ _ _, .inl ⟨rfl, d, rfl⟩⟩) ?_ ?_
  · rintro f j o a w' ⟨u, rfl, F, hp⟩ hC hfi ho hdeps rest hr
    have hj : j < 16 := by have := (Array.getElem?_eq_some_iff.1 ho).1; rw [size24_7] at this; exact this
    have hall : f 14 = true → ∀ j, j < 14 → f j = true := fun h14 j hj => by
      have d14 := hC.deps h14 (show depB reg24_7 14 [13] = true by kernel_rfl)
      have h13 := d14 13 (by simp)
      have d13 := hC.deps h13 (show depB reg24_7 13 [0, 1, 7, 12] = true by kernel_rfl)
      have h0 := d13 0 (by simp)
      have h1 := d13 1 (by simp)
      have h7 := d13 7 (by simp)
      have h12 := d13 12 (by simp)
      have d7 := hC.deps h7 (show depB reg24_7 7 [6] = true by kernel_rfl)
      have h6 := d7 6 (by simp)
      have d12 := hC.deps h12 (show depB reg24_7 12 [11] = true by kernel_rfl)
      have h11 := d12 11 (by simp)
      have d6 := hC.deps h6 (show depB reg24_7 6 [5] = true by kernel_rfl)
      have h5 := d6 5 (by simp)
      have d11 := hC.deps h11 (show depB reg24_7 11 [10] = true by kernel_rfl)
      have h10 := d11 10 (by simp)
      have d5 := hC.deps h5 (show depB reg24_7 5 [4] = true by kernel_rfl)
      have h4 := d5 4 (by simp)
      have d10 := hC.deps h10 (show depB reg24_7 10 [8, 9] = true by kernel_rfl)
      have h8 := d10 8 (by simp)
      have h9 := d10 9 (by simp)
      have d4 := hC.deps h4 (show depB reg24_7 4 [2, 3] = true by kernel_rfl)
      have h2 := d4 2 (by simp)
      have h3 := d4 3 (by simp)
      match j, hj with
      | 0, _ => exact h0
      | 1, _ => exact h1
      | 2, _ => exact h2
      | 3, _ => exact h3
      | 4, _ => exact h4
      | 5, _ => exact h5
      | 6, _ => exact h6
      | 7, _ => exact h7
      | 8, _ => exact h8
      | 9, _ => exact h9
      | 10, _ => exact h10
      | 11, _ => exact h11
      | 12, _ => exact h12
      | 13, _ => exact h13
      | j + 14, hj => exact absurd hj (by omega)
    match j, hj with
    | 0, _ =>
      obtain ⟨d, rfl⟩ : ∃ d, w' = w.at d := by
        rcases hp with ⟨_, h⟩ | ⟨h, _⟩
        · exact h
        · have := hall h 0 (by decide); rw [this] at hfi; cases hfi
      refine Walk.back ?_ d
      have h14 : f 14 = false := by
        cases h : f 14 with
        | false => rfl
        | true => have := hall h 0 (by decide); rw [this] at hfi; cases hfi
      clear hdeps ho hC
      simp only [tm24] at hr ⊢
      (refine Walk.opq (ho_of (by conv => lhs; whnf) (by kernel_rfl)) (by rfl) (by decide) (fun dd e he => ?_) (fun dd K hK => ?_); (· (simp [go_sem, *] at he; try (subst he; exact evR_read _ _))); go_simp; refine hK _ ?_; clear hK K; try walk_nrm)
      refine hr _ _ ⟨upd u 22 (.pointer (some ⟨B, 0, none⟩)), ?_, F.set (by decide) rfl rfl, (.inl ⟨by simpa [upd] using h14, w.drawn, rfl⟩)⟩
      simp [upd]
    | 1, _ =>
      obtain ⟨d, rfl⟩ : ∃ d, w' = w.at d := by
        rcases hp with ⟨_, h⟩ | ⟨h, _⟩
        · exact h
        · have := hall h 1 (by decide); rw [this] at hfi; cases hfi
      refine Walk.back ?_ d
      have h14 : f 14 = false := by
        cases h : f 14 with
        | false => rfl
        | true => have := hall h 1 (by decide); rw [this] at hfi; cases hfi
      clear hdeps ho hC
      simp only [tm24] at hr ⊢
      (refine Walk.opq (ho_of (by conv => lhs; whnf) (by kernel_rfl)) (by rfl) (by decide) (fun dd e he => ?_) (fun dd K hK => ?_); (· (simp [go_sem, *] at he; try (subst he; exact evR_read _ _))); go_simp; refine hK _ ?_; clear hK K; try walk_nrm)
      refine hr _ _ ⟨upd u 23 (.int .i64 i), ?_, F.set (by decide) rfl rfl, (.inl ⟨by simpa [upd] using h14, w.drawn, rfl⟩)⟩
      simp [upd]
    | 2, _ =>
      obtain ⟨d, rfl⟩ : ∃ d, w' = w.at d := by
        rcases hp with ⟨_, h⟩ | ⟨h, _⟩
        · exact h
        · have := hall h 2 (by decide); rw [this] at hfi; cases hfi
      refine Walk.back ?_ d
      have h14 : f 14 = false := by
        cases h : f 14 with
        | false => rfl
        | true => have := hall h 2 (by decide); rw [this] at hfi; cases hfi
      clear hdeps ho hC
      simp only [tm24] at hr ⊢
      (refine Walk.opq (ho_of (by conv => lhs; whnf) (by kernel_rfl)) (by rfl) (by decide) (fun dd e he => ?_) (fun dd K hK => ?_); (· (simp [go_sem, *] at he; try (subst he; exact evR_read _ _))); go_simp; refine hK _ ?_; clear hK K; try walk_nrm)
      refine hr _ _ ⟨upd u 24 (.slice (some ⟨L, 0, none⟩) n cap), ?_, F.set (by decide) rfl rfl, (.inl ⟨by simpa [upd] using h14, w.drawn, rfl⟩)⟩
      simp [upd]
    | 3, _ =>
      obtain ⟨d, rfl⟩ : ∃ d, w' = w.at d := by
        rcases hp with ⟨_, h⟩ | ⟨h, _⟩
        · exact h
        · have := hall h 3 (by decide); rw [this] at hfi; cases hfi
      refine Walk.back ?_ d
      have h14 : f 14 = false := by
        cases h : f 14 with
        | false => rfl
        | true => have := hall h 3 (by decide); rw [this] at hfi; cases hfi
      clear hdeps ho hC
      simp only [tm24] at hr ⊢
      (refine Walk.opq (ho_of (by conv => lhs; whnf) (by kernel_rfl)) (by rfl) (by decide) (fun dd e he => ?_) (fun dd K hK => ?_); (· (simp [go_sem, *] at he; try (subst he; exact evR_read _ _))); go_simp; refine hK _ ?_; clear hK K; try walk_nrm)
      refine hr _ _ ⟨upd u 25 (.int .i64 i), ?_, F.set (by decide) rfl rfl, (.inl ⟨by simpa [upd] using h14, w.drawn, rfl⟩)⟩
      simp [upd]
    | 4, _ =>
      have hd := deps_of (l := [2, 3]) (by kernel_rfl) ho hdeps
      have e24 := F 2 24 _ (hd 2 (by simp)) rfl rfl
      have e25 := F 3 25 _ (hd 3 (by simp)) rfl rfl
      obtain ⟨d, rfl⟩ : ∃ d, w' = w.at d := by
        rcases hp with ⟨_, h⟩ | ⟨h, _⟩
        · exact h
        · have := hall h 4 (by decide); rw [this] at hfi; cases hfi
      refine Walk.back ?_ d
      have h14 : f 14 = false := by
        cases h : f 14 with
        | false => rfl
        | true => have := hall h 4 (by decide); rw [this] at hfi; cases hfi
      clear hdeps ho hC
      simp only [tm24] at hr ⊢
      (refine Walk.opq (ho_of (by conv => lhs; whnf) (by kernel_rfl)) (by rfl) (by decide) (fun dd e he => ?_) (fun dd K hK => ?_); (· (simp [go_sem, *] at he; try (subst he; exact evR_read _ _))); go_simp; refine hK _ ?_; clear hK K; try walk_nrm)
      refine hr _ _ ⟨upd u 26 (.pointer (some ⟨L, i * 3, none⟩)), ?_, F.set (by decide) rfl rfl, (.inl ⟨by simpa [upd] using h14, w.drawn, rfl⟩)⟩
      simp [upd, e24, e25]
    | 5, _ =>
      have hd := deps_of (l := [4]) (by kernel_rfl) ho hdeps
      have e26 := F 4 26 _ (hd 4 (by simp)) rfl rfl
      obtain ⟨d, rfl⟩ : ∃ d, w' = w.at d := by
        rcases hp with ⟨_, h⟩ | ⟨h, _⟩
        · exact h
        · have := hall h 5 (by decide); rw [this] at hfi; cases hfi
      refine Walk.back ?_ d
      have h14 : f 14 = false := by
        cases h : f 14 with
        | false => rfl
        | true => have := hall h 5 (by decide); rw [this] at hfi; cases hfi
      clear hdeps ho hC
      simp only [tm24] at hr ⊢
      (refine Walk.opq (ho_of (by conv => lhs; whnf) (by kernel_rfl)) (by rfl) (by decide) (fun dd e he => ?_) (fun dd K hK => ?_); (· (simp [go_sem, *] at he; try (subst he; exact evR_read _ _))); go_simp; refine hK _ ?_; clear hK K; try walk_nrm)
      refine hr _ _ ⟨upd u 27 (.pointer (some ⟨L, i * 3, none⟩)), ?_, F.set (by decide) rfl rfl, (.inl ⟨by simpa [upd] using h14, w.drawn, rfl⟩)⟩
      simp [upd, e26]
    | 6, _ =>
      have hd := deps_of (l := [5]) (by kernel_rfl) ho hdeps
      have e27 := F 5 27 _ (hd 5 (by simp)) rfl rfl
      obtain ⟨d, rfl⟩ : ∃ d, w' = w.at d := by
        rcases hp with ⟨_, h⟩ | ⟨h, _⟩
        · exact h
        · have := hall h 6 (by decide); rw [this] at hfi; cases hfi
      refine Walk.back ?_ d
      have h14 : f 14 = false := by
        cases h : f 14 with
        | false => rfl
        | true => have := hall h 6 (by decide); rw [this] at hfi; cases hfi
      clear hdeps ho hC
      simp only [tm24] at hr ⊢
      (refine Walk.opq (ho_of (by conv => lhs; whnf) (by kernel_rfl)) (by rfl) (by decide) (fun dd e he => ?_) (fun dd K hK => ?_); (· (simp [go_sem, *] at he; try (subst he; exact evR_read _ _))); go_simp; refine hK _ ?_; clear hK K; try walk_nrm)
      refine hr _ _ ⟨upd u 28 (.int .i64 st), ?_, F.set (by decide) rfl rfl, (.inl ⟨by simpa [upd] using h14, w.drawn, rfl⟩)⟩
      simp [upd, e27]
    | 7, _ =>
      have hd := deps_of (l := [6]) (by kernel_rfl) ho hdeps
      have e28 := F 6 28 _ (hd 6 (by simp)) rfl rfl
      obtain ⟨d, rfl⟩ : ∃ d, w' = w.at d := by
        rcases hp with ⟨_, h⟩ | ⟨h, _⟩
        · exact h
        · have := hall h 7 (by decide); rw [this] at hfi; cases hfi
      refine Walk.back ?_ d
      have h14 : f 14 = false := by
        cases h : f 14 with
        | false => rfl
        | true => have := hall h 7 (by decide); rw [this] at hfi; cases hfi
      clear hdeps ho hC
      simp only [tm24] at hr ⊢
      (refine Walk.opq (ho_of (by conv => lhs; whnf) (by kernel_rfl)) (by rfl) (by decide) (fun dd e he => ?_) (fun dd K hK => ?_); (· (simp [go_sem, *] at he; try (subst he; exact evR_read _ _))); go_simp; refine hK _ ?_; clear hK K; try walk_nrm)
      refine hr _ _ ⟨upd u 29 (.int .i64 (st % 32)), ?_, F.set (by decide) rfl rfl, (.inl ⟨by simpa [upd] using h14, w.drawn, rfl⟩)⟩
      simp [upd, e28]
    | 8, _ =>
      obtain ⟨d, rfl⟩ : ∃ d, w' = w.at d := by
        rcases hp with ⟨_, h⟩ | ⟨h, _⟩
        · exact h
        · have := hall h 8 (by decide); rw [this] at hfi; cases hfi
      refine Walk.back ?_ d
      have h14 : f 14 = false := by
        cases h : f 14 with
        | false => rfl
        | true => have := hall h 8 (by decide); rw [this] at hfi; cases hfi
      clear hdeps ho hC
      simp only [tm24] at hr ⊢
      (refine Walk.opq (ho_of (by conv => lhs; whnf) (by kernel_rfl)) (by rfl) (by decide) (fun dd e he => ?_) (fun dd K hK => ?_); (· (simp [go_sem, *] at he; try (subst he; exact evR_read _ _))); go_simp; refine hK _ ?_; clear hK K; try walk_nrm)
      refine hr _ _ ⟨upd u 30 (.slice (some ⟨L, 0, none⟩) n cap), ?_, F.set (by decide) rfl rfl, (.inl ⟨by simpa [upd] using h14, w.drawn, rfl⟩)⟩
      simp [upd]
    | 9, _ =>
      obtain ⟨d, rfl⟩ : ∃ d, w' = w.at d := by
        rcases hp with ⟨_, h⟩ | ⟨h, _⟩
        · exact h
        · have := hall h 9 (by decide); rw [this] at hfi; cases hfi
      refine Walk.back ?_ d
      have h14 : f 14 = false := by
        cases h : f 14 with
        | false => rfl
        | true => have := hall h 9 (by decide); rw [this] at hfi; cases hfi
      clear hdeps ho hC
      simp only [tm24] at hr ⊢
      (refine Walk.opq (ho_of (by conv => lhs; whnf) (by kernel_rfl)) (by rfl) (by decide) (fun dd e he => ?_) (fun dd K hK => ?_); (· (simp [go_sem, *] at he; try (subst he; exact evR_read _ _))); go_simp; refine hK _ ?_; clear hK K; try walk_nrm)
      refine hr _ _ ⟨upd u 31 (.int .i64 i), ?_, F.set (by decide) rfl rfl, (.inl ⟨by simpa [upd] using h14, w.drawn, rfl⟩)⟩
      simp [upd]
    | 10, _ =>
      have hd := deps_of (l := [8, 9]) (by kernel_rfl) ho hdeps
      have e30 := F 8 30 _ (hd 8 (by simp)) rfl rfl
      have e31 := F 9 31 _ (hd 9 (by simp)) rfl rfl
      obtain ⟨d, rfl⟩ : ∃ d, w' = w.at d := by
        rcases hp with ⟨_, h⟩ | ⟨h, _⟩
        · exact h
        · have := hall h 10 (by decide); rw [this] at hfi; cases hfi
      refine Walk.back ?_ d
      have h14 : f 14 = false := by
        cases h : f 14 with
        | false => rfl
        | true => have := hall h 10 (by decide); rw [this] at hfi; cases hfi
      clear hdeps ho hC
      simp only [tm24] at hr ⊢
      (refine Walk.opq (ho_of (by conv => lhs; whnf) (by kernel_rfl)) (by rfl) (by decide) (fun dd e he => ?_) (fun dd K hK => ?_); (· (simp [go_sem, *] at he; try (subst he; exact evR_read _ _))); go_simp; refine hK _ ?_; clear hK K; try walk_nrm)
      refine hr _ _ ⟨upd u 32 (.pointer (some ⟨L, i * 3, none⟩)), ?_, F.set (by decide) rfl rfl, (.inl ⟨by simpa [upd] using h14, w.drawn, rfl⟩)⟩
      simp [upd, e30, e31]
    | 11, _ =>
      have hd := deps_of (l := [10]) (by kernel_rfl) ho hdeps
      have e32 := F 10 32 _ (hd 10 (by simp)) rfl rfl
      obtain ⟨d, rfl⟩ : ∃ d, w' = w.at d := by
        rcases hp with ⟨_, h⟩ | ⟨h, _⟩
        · exact h
        · have := hall h 11 (by decide); rw [this] at hfi; cases hfi
      refine Walk.back ?_ d
      have h14 : f 14 = false := by
        cases h : f 14 with
        | false => rfl
        | true => have := hall h 11 (by decide); rw [this] at hfi; cases hfi
      clear hdeps ho hC
      simp only [tm24] at hr ⊢
      (refine Walk.opq (ho_of (by conv => lhs; whnf) (by kernel_rfl)) (by rfl) (by decide) (fun dd e he => ?_) (fun dd K hK => ?_); (· (simp [go_sem, *] at he; try (subst he; exact evR_read _ _))); go_simp; refine hK _ ?_; clear hK K; try walk_nrm)
      refine hr _ _ ⟨upd u 33 (.pointer (some ⟨L, i * 3 + 1, none⟩)), ?_, F.set (by decide) rfl rfl, (.inl ⟨by simpa [upd] using h14, w.drawn, rfl⟩)⟩
      simp [upd, e32]
    | 12, _ =>
      have hd := deps_of (l := [11]) (by kernel_rfl) ho hdeps
      have e33 := F 11 33 _ (hd 11 (by simp)) rfl rfl
      obtain ⟨d, rfl⟩ : ∃ d, w' = w.at d := by
        rcases hp with ⟨_, h⟩ | ⟨h, _⟩
        · exact h
        · have := hall h 12 (by decide); rw [this] at hfi; cases hfi
      refine Walk.back ?_ d
      have h14 : f 14 = false := by
        cases h : f 14 with
        | false => rfl
        | true => have := hall h 12 (by decide); rw [this] at hfi; cases hfi
      clear hdeps ho hC
      simp only [tm24] at hr ⊢
      (refine Walk.opq (ho_of (by conv => lhs; whnf) (by kernel_rfl)) (by rfl) (by decide) (fun dd e he => ?_) (fun dd K hK => ?_); (· (simp [go_sem, *] at he; try (subst he; exact evR_read _ _))); go_simp; refine hK _ ?_; clear hK K; try walk_nrm)
      refine hr _ _ ⟨upd u 34 (.int .i64 af), ?_, F.set (by decide) rfl rfl, (.inl ⟨by simpa [upd] using h14, w.drawn, rfl⟩)⟩
      simp [upd, e33]
    | 13, _ =>
      have hd := deps_of (l := [0, 1, 7, 12]) (by kernel_rfl) ho hdeps
      have e22 := F 0 22 _ (hd 0 (by simp)) rfl rfl
      have e23 := F 1 23 _ (hd 1 (by simp)) rfl rfl
      have e29 := F 7 29 _ (hd 7 (by simp)) rfl rfl
      have e34 := F 12 34 _ (hd 12 (by simp)) rfl rfl
      obtain ⟨d, rfl⟩ : ∃ d, w' = w.at d := by
        rcases hp with ⟨_, h⟩ | ⟨h, _⟩
        · exact h
        · have := hall h 13 (by decide); rw [this] at hfi; cases hfi
      refine Walk.back ?_ d
      have h14 : f 14 = false := by
        cases h : f 14 with
        | false => rfl
        | true => have := hall h 13 (by decide); rw [this] at hfi; cases hfi
      clear hdeps ho hC
      simp only [tm24] at hr ⊢
      (refine Walk.opq (ho_of (by conv => lhs; whnf) (by kernel_rfl)) (by rfl) (by decide) (fun dd e he => ?_) (fun dd K hK => ?_); (· (simp [go_sem, *] at he; try (subst he; exact evR_read _ _))); go_simp; refine hK _ ?_; clear hK K; try walk_nrm)
      refine hr _ _ ⟨upd u 35 (.agg (wkr B i st af)), ?_, F.set (by decide) rfl rfl, (.inl ⟨by simpa [upd] using h14, w.drawn, rfl⟩)⟩
      simp [upd, e22, e23, e29, e34, wkr]
    | 14, _ =>
      have hd := deps_of (l := [13]) (by kernel_rfl) ho hdeps
      have e35 := F 13 35 _ (hd 13 (by simp)) rfl rfl
      rcases hp with ⟨h14, d, rfl⟩ | ⟨h14, _⟩
      · refine Walk.back ?_ d
        clear hdeps ho hC
        simp only [tm24] at hr ⊢
        simp only [e35, wkr]
        (co_applyP Walk.opw (ho_of (by conv => lhs; whnf) (by kernel_rfl)) (by rfl) (by decide) ?wev1 ?wdr1 ?wrun1; (case' wrun1 => (intro dd K hK; go_simp; simp only [alloc_at', setCell_at']; refine hK _ ?wmore1; clear hK K)); (case wdr1 => exact fun dd es hes => DR.alloc' dd es hes); (case wev1 => (intro dd e he; simp [go_sem, *] at he)); try walk_nrm)
        refine hr _ _ ⟨upd u 36 (.pointer (some ⟨w.heap.size, 0, none⟩)), ?_, F.set (by decide) rfl rfl, .inr ⟨by simp [upd], _, rfl⟩⟩
        simp [upd, e35, wkr]
      · rw [h14] at hfi; cases hfi
    | 15, _ =>
      have hd := deps_of (l := [0, 1, 2, 3, 4, 5, 6, 7, 8, 9, 10, 11, 12, 13, 14]) (by kernel_rfl) ho hdeps
      have e36 := F 14 36 _ (hd 14 (by simp)) rfl rfl
      have h14 := hd 14 (by simp)
      clear hdeps ho hC
      simp only [tm24] at hr ⊢
      simp only [e36]
      (refine Walk.opq (ho_of (by conv => lhs; whnf) (by kernel_rfl)) (by rfl) (by decide) (fun dd e he => ?_) (fun dd K hK => ?_); (· (simp [go_sem, *] at he; try (subst he; exact evR_read _ _))); go_simp; refine hK _ ?_; clear hK K; try walk_nrm)
      refine hr _ _ ⟨upd u 7 (.pointer (some ⟨w.heap.size, 0, none⟩)), ?_, F.set (by decide) rfl rfl, by simpa [upd] using hp⟩
      simp [upd, e36]
  · rintro f a w' ⟨u, rfl, F, hp⟩ hall
    have h14 := hall 14 (by rw [size24_7]; decide)
    rcases hp with ⟨h, _⟩ | ⟨_, d, rfl⟩
    · rw [h14] at h; cases h
    · exact (hk u (F 15 7 _ (hall 15 (by rw [size24_7]; decide)) rfl rfl)).back d

set_option maxHeartbeats 8000000 in
set_option maxRecDepth 100000 in
theorem walkers24_in (B : Nat) (lv : Value) (cs : List Frame) (w : World) :
    Walk Try.prog main (DR V) (fun g w' => (∃ u, g = G (hd24 B lv none 0 0 u) cs) ∧ ∃ d, w' = w.at d) (G (Frame.enter Try.prog 24 #[.pointer (some ⟨B, 0, none⟩), lv] .normal) cs) w := by
  rw [enter_at _ Try.func24 code24_is]
  simp only [Try.ntmps24, List.size_toArray, List.length_cons, List.length_nil, Nat.reduceAdd, Nat.reduceSub, Array.replicate_succ, Array.replicate_zero, List.push_toArray, List.append_toArray, List.nil_append, List.cons_append]
  repeat (first | (refine Walk.c rfl ?_) | (refine Walk.cRet ?_) | (refine Walk.cEnd ?_) | (refine Walk.cReg ?_; simp only [size24_0, size24_1, size24_2, size24_3, size24_5, size24_6, size24_7, size24_8, size24_4, size24_9, List.range, List.range.loop]) | (refine Walk.opq (ho_of (by conv => lhs; whnf) (by kernel_rfl)) (by rfl) (by decide) (fun dd e he => ?_) (fun dd K hK => ?_); (· (simp [go_sem, *] at he; try (subst he; exact evR_read _ _))); go_simp; refine hK _ ?_; clear hK K; try walk_nrm) | (refine Walk.ctl rfl (fun w => stepG_unwanted (ho_of (by conv => lhs; whnf) (by kernel_rfl)) (by rfl)) ?_; walk_nrm))
  refine Walk.ctl rfl (fun w => stepG_loop) ?_
  refine .stop fun d => ⟨at_slots ?_, d, rfl⟩
  simp only [hd24]
  rfl

set_option maxHeartbeats 8000000 in
set_option maxRecDepth 100000 in
theorem walkers24_out (B : Nat) (la : Option Addr) (n cap : Nat) (oa : Option Addr) (oc : Nat) (u : Nat → Value) (c : Frame) (cs : List Frame) (w : World) :
    Walk Try.prog main (DR V) (fun g w' => g = G (c.finish (.slice oa n oc)) cs ∧ ∃ d, w' = w.at d) (G (hd24 B (.slice la n cap) oa oc n u) (c :: cs)) w := by
  unfold hd24
  repeat (first | (refine Walk.c rfl ?_) | (refine Walk.cRet ?_) | (refine Walk.cEnd ?_) | (refine Walk.cReg ?_; simp only [size24_0, size24_1, size24_2, size24_3, size24_5, size24_6, size24_7, size24_8, size24_4, size24_9, List.range, List.range.loop]) | (refine Walk.opq (ho_of (by conv => lhs; whnf) (by kernel_rfl)) (by rfl) (by decide) (fun dd e he => ?_) (fun dd K hK => ?_); (· (simp [go_sem, *] at he; try (subst he; exact evR_read _ _))); go_simp; refine hK _ ?_; clear hK K; try walk_nrm) | (refine Walk.ctl rfl (fun w => stepG_unwanted (ho_of (by conv => lhs; whnf) (by kernel_rfl)) (by rfl)) ?_; walk_nrm))
  exact (Walk.ret1 (Post := fun v w' => v = .slice oa n oc ∧ ∃ d, w' = w.at d) rfl rfl Try.func24 rfl fun d => ⟨rfl, d, rfl⟩).mono fun g w' ⟨v, ⟨hv, hd⟩, hg⟩ => ⟨by rw [hg, hv], hd⟩

def thrV (W : Nat) : Value := .func (.func 57) #[.pointer (some ⟨W, 0, none⟩)] #[]
def wkrW (w : World) (B i : Nat) (st af : Int) : World := (w.alloc (.cells (wkr B i st af) 127)).alloc (.cells #[thrV w.heap.size] 67)

set_option maxHeartbeats 8000000 in
set_option maxRecDepth 100000 in
theorem walkers24_go (B L n cap i : Nat) (oa : Option Addr) (oc n0 : Nat) (xs : List Value) (st af : Int) (u : Nat → Value) (cs : List Frame) (w : World) (hi : i < n) (hn : n ≤ 1099511627776) (hc0 : w.cell? ⟨L, i * 3, none⟩ = some (.int .i64 st)) (hc1 : w.cell? ⟨L, i * 3 + 1, none⟩ = some (.int .i64 af)) (hc2 : w.cell? ⟨L, i * 3 + 2, none⟩ = some (.bool false))
    (hrow : w.ownsRow n0 67 1 (.slice oa i oc) i xs) (hb : n0 ≤ w.heap.size) (hap : ∀ g, (Value.slice oa i oc).ownBlock = some g → Apart V g) :
    Walk Try.prog main (DR V) (fun g' w' => ∃ g cap' w3, (∃ u', g' = G (hd24 B (.slice (some ⟨L, 0, none⟩) n cap) (some ⟨g, 0, none⟩) cap' (i + 1) u') cs) ∧ (∃ d, w' = w3.at d) ∧ w3.ownsRow n0 67 1 (.slice (some ⟨g, 0, none⟩) (i + 1) cap') (i + 1) (xs ++ [thrV w.heap.size]) ∧ (wkrW w B i st af).grownBy w3 (Value.slice oa i oc).ownBlock ∧ ((Value.slice oa i oc).ownBlock = some g ∨ g = (wkrW w B i st af).heap.size) ∧ g < w3.heap.size)
      (G (hd24 B (.slice (some ⟨L, 0, none⟩) n cap) oa oc i u) cs) w := by
  have hw1 : IntKind.wrap .i64 ((i : Int) + 1) = (i : Int) + 1 := by rw [IntKind.wrap_i64]; omega
  conv => arg 5; unfold hd24
  repeat (first | (refine Walk.c rfl ?_) | (refine Walk.cRet ?_) | (refine Walk.cEnd ?_) | (refine Walk.cReg ?_; simp only [size24_0, size24_1, size24_2, size24_3, size24_5, size24_6, size24_7, size24_8, size24_4, size24_9, List.range, List.range.loop]) | (refine Walk.opq (ho_of (by conv => lhs; whnf) (by kernel_rfl)) (by rfl) (by decide) (fun dd e he => ?_) (fun dd K hK => ?_); (· (simp [go_sem, *] at he; try (subst he; exact evR_read _ _))); go_simp; refine hK _ ?_; clear hK K; try walk_nrm) | (refine Walk.ctl rfl (fun w => stepG_unwanted (ho_of (by conv => lhs; whnf) (by kernel_rfl)) (by rfl)) ?_; walk_nrm))
  refine slots_walk (F := fun u => G ((base 24).at ⟨tm24 B (.slice (some ⟨L, 0, none⟩) n cap) oa oc i u, []⟩ (.code (.region 7 reg24_7 true) :: ([.code (.region 8 reg24_8 false), .inBlock 1, .code (.region 4 reg24_4 false)] ++ ([.code (.seq (.seq (.region 3 reg24_3 false) (.cond (.tmp 11 ) (.skip) (.exit 0))) (.seq (.block 1 (.seq (.seq (.region 5 reg24_5 false) (.cond (.tmp 18 ) (.seq (.region 6 reg24_6 false) (.exit 1)) (.skip))) (.seq (.region 7 reg24_7 true) (.region 8 reg24_8 false)))) (.region 4 reg24_4 false))), .inLoop (.seq (.seq (.region 3 reg24_3 false) (.cond (.tmp 11 ) (.skip) (.exit 0))) (.seq (.block 1 (.seq (.seq (.region 5 reg24_5 false) (.cond (.tmp 18 ) (.seq (.region 6 reg24_6 false) (.exit 1)) (.skip))) (.seq (.region 7 reg24_7 true) (.region 8 reg24_8 false)))) (.region 4 reg24_4 false))), .inBlock 0, .code (.seq (.region 9 reg24_9 false) (.ret))] : List Item).drop 1))) cs) (fun u => new24 B L n cap i oa oc st af _ cs u w hi hc0 hc1 fun u e7 => ?_) (by simp only [tm24]; rfl)
  simp only [tm24]
  rw [e7]
  clear e7
  simp only [List.cons_append, List.nil_append, List.drop_succ_cons, List.drop_zero]
  repeat (first | (refine Walk.c rfl ?_) | (refine Walk.cRet ?_) | (refine Walk.cEnd ?_) | (refine Walk.cReg ?_; simp only [size24_0, size24_1, size24_2, size24_3, size24_5, size24_6, size24_7, size24_8, size24_4, size24_9, List.range, List.range.loop]) | (refine Walk.opq (ho_of (by conv => lhs; whnf) (by kernel_rfl)) (by rfl) (by decide) (fun dd e he => ?_) (fun dd K hK => ?_); (· (simp [go_sem, *] at he; try (subst he; exact evR_read _ _))); go_simp; refine hK _ ?_; clear hK K; try walk_nrm) | (refine Walk.ctl rfl (fun w => stepG_unwanted (ho_of (by conv => lhs; whnf) (by kernel_rfl)) (by rfl)) ?_; walk_nrm))
  (co_applyP Walk.opw (ho_of (by conv => lhs; whnf) (by kernel_rfl)) (by rfl) (by decide) ?wev2 ?wdr2 ?wrun2; (case' wrun2 => (intro dd K hK; go_simp; simp only [alloc_at', setCell_at']; refine hK _ ?wmore2; clear hK K)); (case wdr2 => exact fun dd es hes => DR.alloc' dd es hes); (case wev2 => (intro dd e he; simp [go_sem, *] at he)); try walk_nrm)
  have hsA : (w.alloc (.cells (wkr B i st af) 127)).heap.size = w.heap.size + 1 := by simp
  have hs2 : (wkrW w B i st af).heap.size = w.heap.size + 2 := by simp [wkrW]
  have hrow2 : (wkrW w B i st af).ownsRow n0 67 1 (.slice oa i oc) i xs := (hrow.kept (World.grownBy_alloc w _ none) (by cases (Value.slice oa i oc).ownBlock <;> simp)).kept (World.grownBy_alloc _ _ none) (by cases (Value.slice oa i oc).ownBlock <;> simp)
  have hnew : ∀ y v, ([thrV w.heap.size] : List Value)[y]? = some v → (wkrW w B i st af).cell? ((⟨w.heap.size + 1, 0, none⟩ : Addr).add y) = some v := fun y v hv => by
    rw [add_none, Nat.zero_add, ← hsA]
    refine (cell_of (heap_alloc_new _ _) y).trans ?_
    simpa using hv
  have hcW : (w.alloc (.cells (wkr B i st af) 127)).alloc (.cells #[.func (.func 57) #[.pointer (some ⟨w.heap.size, 0, none⟩)] #[]] 67) = wkrW w B i st af := rfl
  rw [hcW]
  have hi67 := Option.some_get (show (Try.prog.info? 67).isSome = true by kernel_rfl)
  refine Walk.append (.tmp 37) (.tmp 40) 53 (ho_of (by conv => lhs; whnf) (by kernel_rfl)) (by rfl) (by decide) rfl n0 67 _ .nilFunc 1 8 (by kernel_rfl) hi67.symm (by rfl) (by rfl) (by rfl) (by rfl) (by decide) (.slice oa i oc) i xs rfl hrow2 ⟨w.heap.size + 1, 0, none⟩ 1 1 [thrV w.heap.size] ?_ (by rfl) hnew (by simp [thrV, Value.oneCell']) (by decide) (by simp [maxLen]; omega) (by omega) (by omega) hap (fun g cap' w3 hown hg hat hlt => ?_)
  · simp [Act.eval, hsA]
  clear hi67
  walk_nrm
  repeat (first | (refine Walk.c rfl ?_) | (refine Walk.cRet ?_) | (refine Walk.cEnd ?_) | (refine Walk.cReg ?_; simp only [size24_0, size24_1, size24_2, size24_3, size24_5, size24_6, size24_7, size24_8, size24_4, size24_9, List.range, List.range.loop]) | (refine Walk.opq (ho_of (by conv => lhs; whnf) (by kernel_rfl)) (by rfl) (by decide) (fun dd e he => ?_) (fun dd K hK => ?_); (· (simp [go_sem, *] at he; try (subst he; exact evR_read _ _))); go_simp; refine hK _ ?_; clear hK K; try walk_nrm) | (refine Walk.ctl rfl (fun w => stepG_unwanted (ho_of (by conv => lhs; whnf) (by kernel_rfl)) (by rfl)) ?_; walk_nrm))
  refine Walk.ctl rfl (fun w => stepG_inLoop) ?_
  refine .stop fun d' => ⟨g, cap', w3, at_slots ?_, ⟨d', rfl⟩, hown, hg, hat, hlt⟩
  have hc : ((i + 1 : Nat) : Int) = (i : Int) + 1 := by simp
  simp only [hd24, hc]
  rfl
end Go.Proofs.Ytgiiicdpbdfemaa
end

/- The statement's side: Alone. -/
section
namespace Go.Proofs.Ytgiiicdpbdfemaa
open Go.Conc Go.RowKit Go.Relay
open Go.ConcN (upd upd_ne upd_same)

set_option maxHeartbeats 8000000 in
set_option maxRecDepth 100000 in
theorem ride_nil (S : Value) (c : Frame) (cs : List Frame) (w : World) :
    Walk Try.prog true (DR (fun _ => none)) (fun g w' => g = G (c.finish (.tuple #[.bool true, .bool false])) cs ∧ ∃ d, w' = ((w.alloc (.cells #[.bool false] 4)).setCell ⟨w.heap.size, 0, none⟩ (.bool false)).at d) (G (Frame.enter Try.prog 60 #[.nilFunc, S] .normal) (c :: cs)) w := by
  obtain ⟨ms, h20⟩ := und20
  have hn1 := fun w => run_neq_nilIface (P := Try.prog) (w := w) 20 h20
  have hn2 := fun w es => ev_neq_nilIface (P := Try.prog) (w := w) 20 es h20
  have hn3 := fun w => run_neq_nilFunc (P := Try.prog) (w := w) 67 (by kernel_rfl : Try.prog.underlying 67 = some (.func #[115] #[] false))
  have hn4 := fun w es => ev_neq_nilFunc (P := Try.prog) (w := w) 67 es (by kernel_rfl : Try.prog.underlying 67 = some (.func #[115] #[] false))
  rw [enter_at _ Try.func60 rfl]
  simp only [Try.f60, List.size_toArray, List.length_cons, List.length_nil, Nat.reduceAdd, Nat.reduceSub, Array.replicate_succ, Array.replicate_zero, List.push_toArray, List.append_toArray, List.nil_append, List.cons_append]
  repeat (first | (refine Walk.c rfl ?_) | (refine Walk.cReg ?_; simp only [List.size_toArray, List.length_cons, List.length_nil, Nat.reduceAdd, Nat.zero_add, List.range, List.range.loop]) | (refine Walk.cRet ?_) | (refine Walk.cEnd ?_) | (refine Walk.opq (ho_of (by conv => lhs; whnf) (by kernel_rfl)) (by rfl) (by decide) (fun dd e he => ?_) (fun dd K hK => ?_); (· (simp [go_sem, *] at he; try (subst he; exact evR_read _ _))); go_simp; refine hK _ ?_; clear hK K; try walk_nrm) | (refine Walk.ctl rfl (fun w => stepG_unwanted (ho_of (by conv => lhs; whnf) (by kernel_rfl)) (by rfl)) ?_; walk_nrm))
  (co_applyP Walk.opw (ho_of (by conv => lhs; whnf) (by kernel_rfl)) (by rfl) (by decide) ?wev1 ?wdr1 ?wrun1; (case' wrun1 => (intro dd K hK; go_simp; simp only [alloc_at', setCell_at']; refine hK _ ?wmore1; clear hK K)); (case wdr1 => exact fun dd es hes => DR.alloc' dd es hes); (case wev1 => (intro dd e he; simp [go_sem, *] at he)); try walk_nrm)
  have hN : (w.alloc (.cells #[.bool false] 4)).cell? ⟨w.heap.size, 0, none⟩ = some (.bool false) := (cell_of (heap_alloc_new w _) 0).trans rfl
  have hz : (w.alloc (.cells #[.bool false] 4)).frozen? ⟨w.heap.size, 0, none⟩ = false := frozen_of (heap_alloc_new w _) 0
  generalize w.heap.size = N at *
  generalize w.alloc (.cells #[.bool false] 4) = w1 at *
  have hfr : Free (fun _ => none) ⟨N, 0, none⟩ := (apart0 N).1 _ rfl
  repeat (first | (refine Walk.c rfl ?_) | (refine Walk.cReg ?_; simp only [List.size_toArray, List.length_cons, List.length_nil, Nat.reduceAdd, Nat.zero_add, List.range, List.range.loop]) | (refine Walk.cRet ?_) | (refine Walk.cEnd ?_) | (refine Walk.opq (ho_of (by conv => lhs; whnf) (by kernel_rfl)) (by rfl) (by decide) (fun dd e he => ?_) (fun dd K hK => ?_); (· (simp [go_sem, *] at he; try (subst he; exact evR_read _ _))); go_simp; refine hK _ ?_; clear hK K; try walk_nrm) | (refine Walk.ctl rfl (fun w => stepG_unwanted (ho_of (by conv => lhs; whnf) (by kernel_rfl)) (by rfl)) ?_; walk_nrm))
  refine Walk.ctl rfl (fun w' => stepG_deferOp (d := def60 N) rfl (by rfl) (by decide) (by simp [go_sem, execOp, Deferred.ofValue, def60]) (by simp [go_sem, execOp, Deferred.ofValue])) ?_
  walk_nrm
  repeat (first | (refine Walk.c rfl ?_) | (refine Walk.cReg ?_; simp only [List.size_toArray, List.length_cons, List.length_nil, Nat.reduceAdd, Nat.zero_add, List.range, List.range.loop]) | (refine Walk.cRet ?_) | (refine Walk.cEnd ?_) | (refine Walk.opq (ho_of (by conv => lhs; whnf) (by kernel_rfl)) (by rfl) (by decide) (fun dd e he => ?_) (fun dd K hK => ?_); (· (simp [go_sem, *] at he; try (subst he; exact evR_read _ _))); go_simp; refine hK _ ?_; clear hK K; try walk_nrm) | (refine Walk.ctl rfl (fun w => stepG_unwanted (ho_of (by conv => lhs; whnf) (by kernel_rfl)) (by rfl)) ?_; walk_nrm))
  (co_applyP Walk.opw (ho_of (by conv => lhs; whnf) (by kernel_rfl)) (by rfl) (by decide) ?wev2 ?wdr2 ?wrun2; (case' wrun2 => (intro dd K hK; go_simp; simp only [alloc_at', setCell_at']; refine hK _ ?wmore2; clear hK K)); (case wdr2 => exact fun dd es hes => DR.set' hfr hN dd es hes); (case wev2 => (intro dd e he; simp [go_sem, storedEv, ev_store_bool, ev_store_int, ev_store_slice, ev_store_pointer, *] at he; subst he; exact evR_write _ _ hfr)); try walk_nrm)
  repeat (first | (refine Walk.c rfl ?_) | (refine Walk.cReg ?_; simp only [List.size_toArray, List.length_cons, List.length_nil, Nat.reduceAdd, Nat.zero_add, List.range, List.range.loop]) | (refine Walk.cRet ?_) | (refine Walk.cEnd ?_) | (refine Walk.opq (ho_of (by conv => lhs; whnf) (by kernel_rfl)) (by rfl) (by decide) (fun dd e he => ?_) (fun dd K hK => ?_); (· (simp [go_sem, *] at he; try (subst he; exact evR_read _ _))); go_simp; refine hK _ ?_; clear hK K; try walk_nrm) | (refine Walk.ctl rfl (fun w => stepG_unwanted (ho_of (by conv => lhs; whnf) (by kernel_rfl)) (by rfl)) ?_; walk_nrm))
  have hN' := World.cell?_setCell_same w1 ⟨N, 0, none⟩ (.bool false) hN
  refine Walk.ctl rfl (fun w => stepG_deferred (d := def60 N) (ds := []) (by simp [Frame.at]) rfl rfl Try.func87 (by kernel_rfl) (by rfl)) ?_
  simp only [def60, List.append_toArray, List.nil_append]
  rw [enter_atD _ Try.func87 rfl]
  simp only [Try.f87, List.size_toArray, List.length_cons, List.length_nil, Nat.reduceAdd, Nat.reduceSub, Array.replicate_succ, Array.replicate_zero, List.push_toArray, List.append_toArray, List.nil_append, List.cons_append]
  repeat (first | (refine Walk.c rfl ?_) | (refine Walk.cReg ?_; simp only [List.size_toArray, List.length_cons, List.length_nil, Nat.reduceAdd, Nat.zero_add, List.range, List.range.loop]) | (refine Walk.cRet ?_) | (refine Walk.cEnd ?_) | (refine Walk.opq (ho_of (by conv => lhs; whnf) (by kernel_rfl)) (by rfl) (by decide) (fun dd e he => ?_) (fun dd K hK => ?_); (· (simp [go_sem, *] at he; try (subst he; exact evR_read _ _))); go_simp; refine hK _ ?_; clear hK K; try walk_nrm) | (refine Walk.ctl rfl (fun w => stepG_unwanted (ho_of (by conv => lhs; whnf) (by kernel_rfl)) (by rfl)) ?_; walk_nrm))
  refine Walk.ctl rfl (fun w => stepG_recoverNone rfl (by rfl) rfl rfl rfl) ?_
  walk_nrm
  repeat (first | (refine Walk.c rfl ?_) | (refine Walk.cReg ?_; simp only [List.size_toArray, List.length_cons, List.length_nil, Nat.reduceAdd, Nat.zero_add, List.range, List.range.loop]) | (refine Walk.cRet ?_) | (refine Walk.cEnd ?_) | (refine Walk.opq (ho_of (by conv => lhs; whnf) (by kernel_rfl)) (by rfl) (by decide) (fun dd e he => ?_) (fun dd K hK => ?_); (· (simp [go_sem, *] at he; try (subst he; exact evR_read _ _))); go_simp; refine hK _ ?_; clear hK K; try walk_nrm) | (refine Walk.ctl rfl (fun w => stepG_unwanted (ho_of (by conv => lhs; whnf) (by kernel_rfl)) (by rfl)) ?_; walk_nrm))
  refine Walk.ctl rfl (fun w => stepG_leaveReturning rfl rfl Try.func87 (results_none rfl _ _ w) (events_results_none rfl _ _) rfl) ?_
  exact leave60 rfl rfl rfl rfl rfl rfl hN'

theorem run_iface63 (a : Option Addr) (w : World) : (Instr.makeInterface 63 (.pointer a)).run Try.prog w = .ok (.iface 63 (.pointer a)) w := by simp [Instr.makeInterface, run_underlying und63]
theorem ev_iface63 (a : Option Addr) (w : World) (es : Array Event) : (Instr.makeInterface 63 (.pointer a)).events Try.prog w es = es := by simp [Instr.makeInterface, run_underlying und63]

noncomputable def reg30_0 : Array Oper := match Try.f30.body with | some (.seq (.region _ ops _) _) => ops | _ => #[]
theorem size30_0 : reg30_0.size = 1 := by kernel_rfl
noncomputable def reg30_1 : Array Oper := match Try.f30.body with | some (.seq _ (.seq (.region _ ops _) _)) => ops | _ => #[]
theorem size30_1 : reg30_1.size = 9 := by kernel_rfl
noncomputable def reg30_2 : Array Oper := match Try.f30.body with | some (.seq _ (.seq _ (.seq (.region _ ops _) _))) => ops | _ => #[]
theorem size30_2 : reg30_2.size = 2 := by kernel_rfl
theorem code30_is : Try.f30.body = some (.seq (.region 0 reg30_0 false) (.seq (.region 1 reg30_1 false) (.seq (.region 2 reg30_2 false) (.ret)))) := by kernel_rfl

/-- What Alone leaves. -/
structure Aloned (w : World) (B C : Nat) (m : Int) (j : Nat) (w' : World) : Prop where
  bC : w'.heap[C]? = some (.cells #[.int .i64 m, .int .i64 j] 145)
  bB : ∃ la cap, w'.heap[B]? = some (.cells #[.slice la j cap] 49)
  size : w.heap.size ≤ w'.heap.size
  same : ∀ b, b < w.heap.size → b ≠ B → b ≠ C → w'.heap[b]? = w.heap[b]?

theorem Aloned.set {w : World} {B C : Nat} {m : Int} {j : Nat} {w' : World} (H : Aloned w B C m j w') (hB : B < w.heap.size) (hC : C < w.heap.size) (v : Value) : Aloned w B C m j (w'.setCell ⟨w.heap.size, 0, none⟩ v) := by
  have k : ∀ b, b < w.heap.size → (w'.setCell ⟨w.heap.size, 0, none⟩ v).heap[b]? = w'.heap[b]? := fun b hb => heap_set_other _ _ _ _ (by show b ≠ w.heap.size; omega)
  obtain ⟨la, cap, h⟩ := H.bB
  exact ⟨(k C hC).trans H.bC, ⟨la, cap, (k B hB).trans h⟩, by rw [size_set]; exact H.size, fun b hb h1 h2 => (k b hb).trans (H.same b hb h1 h2)⟩
theorem Aloned.alloc {w : World} {B C : Nat} {m : Int} {j : Nat} {w' : World} (H : Aloned w B C m j w') (hB : B < w.heap.size) (hC : C < w.heap.size) (o : Obj) : Aloned w B C m j (w'.alloc o) := by
  have k : ∀ b, b < w.heap.size → (w'.alloc o).heap[b]? = w'.heap[b]? := fun b hb => heap_new_lt _ _ (Nat.lt_of_lt_of_le hb H.size)
  obtain ⟨la, cap, h⟩ := H.bB
  exact ⟨(k C hC).trans H.bC, ⟨la, cap, (k B hB).trans h⟩, by have := H.size; simp; omega, fun b hb h1 h2 => (k b hb).trans (H.same b hb h1 h2)⟩
theorem Aloned.at {w : World} {B C : Nat} {m : Int} {j : Nat} {w' : World} (H : Aloned w B C m j w') (d : Nat) : Aloned w B C m j (w'.at d) := ⟨H.bC, H.bB, H.size, H.same⟩

/-- ride of a walker under a Counter. -/
theorem ride_alone {w : World} {W B C : Nat} {num steps after m : Int} (hs0 : 0 ≤ steps) (hs1 : steps < 32) (hm0 : 0 ≤ m) (hm1 : m ≤ 1048576) (hW : w.heap[W]? = some (.cells #[.pointer (some ⟨B, 0, none⟩), .int .i64 num, .int .i64 steps, .int .i64 after] 127))
    (hB : w.heap[B]? = some (.cells #[.slice none 0 0] 49)) (hC : w.heap[C]? = some (.cells #[.int .i64 m, .int .i64 0] 145)) (nWB : W ≠ B) (nWC : W ≠ C) (nBC : B ≠ C) (c : Frame) (cs : List Frame) :
    Walk Try.prog true (DR (fun _ => none)) (fun g w' => ∃ (j : Nat) (br : Bool), (j : Int) = min (numW steps after) m ∧ g = G (c.finish (.tuple #[.bool (decide (numW steps after ≤ m) && !badW steps after), .bool br])) cs ∧ Aloned w B C m j w')
      (G (Frame.enter Try.prog 60 #[.func (.func 57) #[.pointer (some ⟨W, 0, none⟩)] #[], .iface 63 (.pointer (some ⟨C, 0, none⟩))] .normal) (c :: cs)) w := by
  have lt : ∀ {b o}, w.heap[b]? = some o → b < w.heap.size := fun h => (Array.getElem?_eq_some_iff.1 h).1
  refine ride_in 57 Try.f57 #[.pointer (some ⟨W, 0, none⟩)] #[] _ (c :: cs) w Try.func57 (by kernel_rfl) (by rfl) ?_
  have hs1' : (w.alloc (.cells #[.bool false] 4)).heap.size = w.heap.size + 1 := by simp
  have hNb := heap_alloc_new w (.cells #[.bool false] 4)
  have old : ∀ b, b < w.heap.size → (w.alloc (.cells #[.bool false] 4)).heap[b]? = w.heap[b]? := fun b hb => heap_new_lt w _ hb
  generalize w.alloc (.cells #[.bool false] 4) = w1 at *
  have hU : Und w1 W B C num steps after m 0 none 0 [] w1 := ⟨(old W (lt hW)).trans hW, (old B (lt hB)).trans hB, (old C (lt hC)).trans hC, row_nil _ _ _ _, Nat.le_refl _, by have := lt hW; omega, by have := lt hB; omega, by have := lt hC; omega, nWB, nWC, nBC, fun _ _ _ _ => rfl⟩
  have harr : (#[.pointer (some ⟨W, 0, none⟩)] ++ #[.iface 63 (.pointer (some ⟨C, 0, none⟩))] ++ #[] : Array Value) = #[.pointer (some ⟨W, 0, none⟩), .iface 63 (.pointer (some ⟨C, 0, none⟩))] := rfl
  rw [harr]
  refine (walk57_in W _ _ w1).then ?_
  rintro g w2 ⟨⟨u, rfl⟩, d, rfl⟩
  refine Walk.back ?_ d
  have hn0 : 0 ≤ numW steps after := by
    unfold numW badW; split
    · next h => simp at h; omega
    · omega
  have hz0 : ((0 : Nat) : Int) = 0 := rfl
  refine (walk_alone (w0 := w1) hs0 hs1 hm0 hm1 (fr60 w.heap.size (.func (.func 57) #[.pointer (some ⟨W, 0, none⟩)] #[]) (.iface 63 (.pointer (some ⟨C, 0, none⟩)))) (c :: cs) (min (numW steps after) m).toNat 0 none 0 [] u w1 (by omega) hU).then ?_
  rintro g w3 ⟨j, la, cap, xs, hj, U, hcase⟩
  have hA : Aloned w B C m j w3 := ⟨U.bC, ⟨la, cap, U.bB⟩, by have := U.size; omega, fun b hb h1 h2 => (U.same b (by omega) h1 h2).trans (old b hb)⟩
  have hN3 : w3.heap[w.heap.size]? = some (.cells #[.bool false] 4) := (U.same _ (by omega) (by have := lt hB; omega) (by have := lt hC; omega)).trans hNb
  have cN := (cell_of hN3 0).trans rfl
  have zN := frozen_of hN3 0
  have fN : Free (fun _ => none) ⟨w.heap.size, 0, none⟩ := (apart0 _).1 _ rfl
  rcases hcase with ⟨h1, h2, t, v, ht, rfl⟩ | ⟨h1, h2, rfl⟩ | ⟨h1, rfl⟩
  · refine (ride_broke w.heap.size _ _ t v ht c cs w3 false cN zN fN).mono ?_
    rintro g w' ⟨rfl, d, rfl⟩
    refine ⟨j, true, hj, ?_, ((hA.alloc (lt hB) (lt hC) _).set (lt hB) (lt hC) _).at d⟩
    rw [h2]; simp
  · refine (ride_done w.heap.size _ _ c cs w3 false cN zN fN).mono ?_
    rintro g w' ⟨rfl, d, rfl⟩
    refine ⟨j, false, hj, ?_, (hA.set (lt hB) (lt hC) _).at d⟩
    rw [h2]; simp [h1]
  · refine (ride_stopped w.heap.size _ _ c cs w3 false cN zN fN).mono ?_
    rintro g w' ⟨rfl, d, rfl⟩
    refine ⟨j, false, hj, ?_, ((hA.alloc (lt hB) (lt hC) _).set (lt hB) (lt hC) _).at d⟩
    have : decide (numW steps after ≤ m) = false := decide_eq_false (by omega)
    rw [this]; simp

set_option maxHeartbeats 8000000 in
set_option maxRecDepth 100000 in
theorem alone_w {w : World} {W B C : Nat} {num steps after m : Int} (hs0 : 0 ≤ steps) (hs1 : steps < 32) (hm0 : 0 ≤ m) (hm1 : m ≤ 1048576) (hW : w.heap[W]? = some (.cells #[.pointer (some ⟨B, 0, none⟩), .int .i64 num, .int .i64 steps, .int .i64 after] 127))
    (hB : w.heap[B]? = some (.cells #[.slice none 0 0] 49)) (hC : w.heap[C]? = some (.cells #[.int .i64 m, .int .i64 0] 145)) (nWB : W ≠ B) (nWC : W ≠ C) (nBC : B ≠ C) :
    CallW Try.prog true (fun _ => none) 30 #[.pointer (some ⟨C, 0, none⟩), .func (.func 57) #[.pointer (some ⟨W, 0, none⟩)] #[]] w (fun v w' => ∃ j : Nat, (j : Int) = min (numW steps after) m ∧ v = .bool (decide (numW steps after ≤ m) && !badW steps after) ∧ Aloned w B C m j w') := by
  have q1 := run_iface63
  have q2 := ev_iface63
  refine callW_in Try.func30 code30_is fun fr cs => ?_
  simp only [Try.ntmps30, List.size_toArray, List.length_cons, List.length_nil, Nat.reduceAdd, Nat.reduceSub, Array.replicate_succ, Array.replicate_zero, List.push_toArray, List.append_toArray, List.nil_append, List.cons_append]
  repeat (first | (refine Walk.c rfl ?_) | (refine Walk.cRet ?_) | (refine Walk.cEnd ?_) | (refine Walk.cReg ?_; simp only [size30_0, size30_1, size30_2, List.range, List.range.loop]) | (refine Walk.opq (ho_of (by conv => lhs; whnf) (by kernel_rfl)) (by rfl) (by decide) (fun dd e he => ?_) (fun dd K hK => ?_); (· (simp [go_sem, *] at he; try (subst he; exact evR_read _ _))); go_simp; refine hK _ ?_; clear hK K; try walk_nrm) | (refine Walk.ctl rfl (fun w => stepG_unwanted (ho_of (by conv => lhs; whnf) (by kernel_rfl)) (by rfl)) ?_; walk_nrm))
  refine Walk.callW (Post := fun v w' => ∃ (j : Nat) (br : Bool), (j : Int) = min (numW steps after) m ∧ v = .tuple #[.bool (decide (numW steps after ≤ m) && !badW steps after), .bool br] ∧ Aloned w B C m j w') ?_ (ho_of (by conv => lhs; whnf) (by kernel_rfl)) (by rfl) (by decide) rfl Try.func60 (by kernel_rfl) (by rfl) ?_
  · walk_nrm
    intro fr cs
    refine (ride_alone hs0 hs1 hm0 hm1 hW hB hC nWB nWC nBC fr cs).mono ?_
    rintro g w' ⟨j, br, hj, rfl, hA⟩
    exact ⟨_, ⟨j, br, hj, rfl, hA⟩, rfl⟩
  rintro v w1 ⟨j, br, hj, rfl, hA⟩
  generalize (decide (numW steps after ≤ m) && !badW steps after) = bk
  clear hW hB hC
  walk_nrm
  repeat (first | (refine Walk.c rfl ?_) | (refine Walk.cRet ?_) | (refine Walk.cEnd ?_) | (refine Walk.cReg ?_; simp only [size30_0, size30_1, size30_2, List.range, List.range.loop]) | (refine Walk.opq (ho_of (by conv => lhs; whnf) (by kernel_rfl)) (by rfl) (by decide) (fun dd e he => ?_) (fun dd K hK => ?_); (· (simp [go_sem, *] at he; try (subst he; exact evR_read _ _))); go_simp; refine hK _ ?_; clear hK K; try walk_nrm) | (refine Walk.ctl rfl (fun w => stepG_unwanted (ho_of (by conv => lhs; whnf) (by kernel_rfl)) (by rfl)) ?_; walk_nrm))
  exact Walk.ret1 rfl rfl Try.func30 rfl fun d => ⟨j, hj, rfl, hA.at d⟩

set_option maxHeartbeats 8000000 in
set_option maxRecDepth 100000 in
theorem alone_nil (C : Nat) (w : World) : CallV Try.prog true (fun _ => none) 30 #[.pointer (some ⟨C, 0, none⟩), .nilFunc] w (.bool true) ((w.alloc (.cells #[.bool false] 4)).setCell ⟨w.heap.size, 0, none⟩ (.bool false)) := by
  have q1 := run_iface63
  have q2 := ev_iface63
  refine callW_in Try.func30 code30_is fun fr cs => ?_
  simp only [Try.ntmps30, List.size_toArray, List.length_cons, List.length_nil, Nat.reduceAdd, Nat.reduceSub, Array.replicate_succ, Array.replicate_zero, List.push_toArray, List.append_toArray, List.nil_append, List.cons_append]
  repeat (first | (refine Walk.c rfl ?_) | (refine Walk.cRet ?_) | (refine Walk.cEnd ?_) | (refine Walk.cReg ?_; simp only [size30_0, size30_1, size30_2, List.range, List.range.loop]) | (refine Walk.opq (ho_of (by conv => lhs; whnf) (by kernel_rfl)) (by rfl) (by decide) (fun dd e he => ?_) (fun dd K hK => ?_); (· (simp [go_sem, *] at he; try (subst he; exact evR_read _ _))); go_simp; refine hK _ ?_; clear hK K; try walk_nrm) | (refine Walk.ctl rfl (fun w => stepG_unwanted (ho_of (by conv => lhs; whnf) (by kernel_rfl)) (by rfl)) ?_; walk_nrm))
  refine Walk.callV (x := .tuple #[.bool true, .bool false]) (W := (w.alloc (.cells #[.bool false] 4)).setCell ⟨w.heap.size, 0, none⟩ (.bool false)) ?_ (ho_of (by conv => lhs; whnf) (by kernel_rfl)) (by rfl) (by decide) rfl Try.func60 (by kernel_rfl) (by rfl) ?_
  · walk_nrm
    intro fr cs
    refine (ride_nil _ fr cs w).mono ?_
    rintro g w' ⟨rfl, d, rfl⟩
    exact ⟨_, ⟨rfl, d, rfl⟩, rfl⟩
  generalize (w.alloc (.cells #[.bool false] 4)).setCell ⟨w.heap.size, 0, none⟩ (.bool false) = w1
  walk_nrm
  repeat (first | (refine Walk.c rfl ?_) | (refine Walk.cRet ?_) | (refine Walk.cEnd ?_) | (refine Walk.cReg ?_; simp only [size30_0, size30_1, size30_2, List.range, List.range.loop]) | (refine Walk.opq (ho_of (by conv => lhs; whnf) (by kernel_rfl)) (by rfl) (by decide) (fun dd e he => ?_) (fun dd K hK => ?_); (· (simp [go_sem, *] at he; try (subst he; exact evR_read _ _))); go_simp; refine hK _ ?_; clear hK K; try walk_nrm) | (refine Walk.ctl rfl (fun w => stepG_unwanted (ho_of (by conv => lhs; whnf) (by kernel_rfl)) (by rfl)) ?_; walk_nrm))
  exact Walk.ret1 rfl rfl Try.func30 rfl fun d => ⟨rfl, d, rfl⟩
end Go.Proofs.Ytgiiicdpbdfemaa
end

/- The statement's side: awake: the document's example, run three times. -/
section
namespace Go.Proofs.Ytgiiicdpbdfemaa
open Go.Conc Go.RowKit Go.Relay
open Go.ConcN (upd upd_ne upd_same)

theorem two_src (w : World) : Src (some ⟨w.heap.size + 2, 0, none⟩) [(some ⟨w.heap.size, 0, none⟩, 5, 5), (some ⟨w.heap.size + 1, 0, none⟩, 5, 5)] [adderL, adderL]
    (((w.alloc (.cells adderCells 96)).alloc (.cells adderCells 96)).alloc (.cells #[.slice (some ⟨w.heap.size, 0, none⟩) 5 5, .slice (some ⟨w.heap.size + 1, 0, none⟩) 5 5] 85)) := by
  have h1 : (w.alloc (.cells adderCells 96)).heap.size = w.heap.size + 1 := by simp
  have h2 : ((w.alloc (.cells adderCells 96)).alloc (.cells adderCells 96)).heap.size = w.heap.size + 2 := by simp
  have b0 : (((w.alloc (.cells adderCells 96)).alloc (.cells adderCells 96)).alloc (.cells #[.slice (some ⟨w.heap.size, 0, none⟩) 5 5, .slice (some ⟨w.heap.size + 1, 0, none⟩) 5 5] 85)).heap[w.heap.size]? = some (.cells adderCells 96) :=
    (heap_new_lt _ _ (by omega)).trans ((heap_new_lt _ _ (by omega)).trans (heap_alloc_new w _))
  have b1 : (((w.alloc (.cells adderCells 96)).alloc (.cells adderCells 96)).alloc (.cells #[.slice (some ⟨w.heap.size, 0, none⟩) 5 5, .slice (some ⟨w.heap.size + 1, 0, none⟩) 5 5] 85)).heap[w.heap.size + 1]? = some (.cells adderCells 96) :=
    (heap_new_lt _ _ (by omega)).trans (by rw [← h1]; exact heap_alloc_new _ _)
  have b2 : (((w.alloc (.cells adderCells 96)).alloc (.cells adderCells 96)).alloc (.cells #[.slice (some ⟨w.heap.size, 0, none⟩) 5 5, .slice (some ⟨w.heap.size + 1, 0, none⟩) 5 5] 85)).heap[w.heap.size + 2]? = some (.cells #[.slice (some ⟨w.heap.size, 0, none⟩) 5 5, .slice (some ⟨w.heap.size + 1, 0, none⟩) 5 5] 85) := by
    rw [← h2]; exact heap_alloc_new _ _
  generalize ((w.alloc (.cells adderCells 96)).alloc (.cells adderCells 96)).alloc (.cells #[.slice (some ⟨w.heap.size, 0, none⟩) 5 5, .slice (some ⟨w.heap.size + 1, 0, none⟩) 5 5] 85) = w3 at b0 b1 b2 ⊢
  have hcs : ∀ (b : Nat), w3.heap[b]? = some (.cells adderCells 96) → ∀ (k : Nat) (d : Cd), adderL[k]? = some d → ∀ m v, (cdCells d)[m]? = some v → w3.cell? ⟨b, 0 + k * 5 + m, none⟩ = some v := fun b hb k d hd m v hv => by
    have hm : m < 5 := (List.getElem?_eq_some_iff.1 hv).1
    have := flat_get adderL k m d hd hm
    rw [hv] at this
    rw [Nat.zero_add]
    refine (cell_of hb _).trans ?_
    have e : adderCells = (flatC adderL).toArray := rfl
    rw [e, List.getElem?_toArray]
    exact this
  refine ⟨rfl, fun i p hp => ⟨w.heap.size + 2, 0, rfl, (cell_of b2 _).trans ?_⟩, fun i p c hp hc => ?_⟩
  · rw [Nat.zero_add]
    match i, hp with
    | 0, hp => cases hp; rfl
    | 1, hp => cases hp; rfl
    | i + 2, hp => cases hp
  · match i, hp, hc with
    | 0, hp, hc => cases hp; cases hc; exact ⟨rfl, fun k d hd => ⟨_, 0, rfl, hcs _ b0 k d hd⟩⟩
    | 1, hp, hc => cases hp; cases hc; exact ⟨rfl, fun k d hd => ⟨_, 0, rfl, hcs _ b1 k d hd⟩⟩
    | i + 2, hp, hc => cases hp

theorem ints_new (w : World) (l : List Int) (ty : TypeId) : IntsAt (some ⟨w.heap.size, 0, none⟩) l (w.alloc (.cells (l.map (Value.int .i64 ·)).toArray ty)) := fun j x hx => ⟨_, rfl, (cell_of (heap_alloc_new w _) j).trans (by simp [hx])⟩

theorem out_a {cells : Array Value} {w' : World} (H : PlayOut ([adderL, adderL].take 64) [0] 100 [0, 1, 0, 1] cells w') : ∃ a oa oc s, cells = #[.slice (some ⟨a, 0, none⟩) 2 2, .slice oa 4 oc, .slice (some ⟨s, 0, none⟩) 1 1, .bool false] ∧ w'.cell? ⟨s, 0, none⟩ = some (.int .i64 1) := by
  obtain ⟨oa, oc, a, s, tas, tcs, h1, _, h3, _⟩ := H
  have e : ([adderL, adderL] : List (List Cd)).take 64 = [adderL, adderL] := rfl
  rw [e] at h1 h3
  obtain ⟨e1, e2, e3⟩ := awake_a
  rw [e2, e3] at h1
  refine ⟨a, oa, oc, s, h1, ?_⟩
  have := h3 0 (by simp)
  rw [e1] at this
  exact this
theorem out_b {cells : Array Value} {w' : World} (H : PlayOut ([adderL, adderL].take 64) [0] 100 [0, 0, 1, 1] cells w') : ∃ a oa on oc s st, cells = #[.slice (some ⟨a, 0, none⟩) 2 2, .slice oa on oc, .slice (some ⟨s, 0, none⟩) 1 1, .bool st] ∧ w'.cell? ⟨s, 0, none⟩ = some (.int .i64 2) := by
  obtain ⟨oa, oc, a, s, tas, tcs, h1, _, h3, _⟩ := H
  have e : ([adderL, adderL] : List (List Cd)).take 64 = [adderL, adderL] := rfl
  rw [e] at h1 h3
  refine ⟨a, oa, _, oc, s, _, h1, ?_⟩
  have := h3 0 (by simp)
  rw [awake_b] at this
  exact this
theorem out_c {cells : Array Value} {w' : World} (H : PlayOut ([adderL, adderL].take 64) [0] 3 [] cells w') : ∃ a oa oc s, cells = #[.slice (some ⟨a, 0, none⟩) 2 2, .slice oa 3 oc, .slice (some ⟨s, 0, none⟩) 1 1, .bool true] := by
  obtain ⟨oa, oc, a, s, tas, tcs, h1, _, _, _⟩ := H
  have e : ([adderL, adderL] : List (List Cd)).take 64 = [adderL, adderL] := rfl
  rw [e] at h1
  obtain ⟨e2, e3⟩ := awake_c
  rw [e2, e3] at h1
  exact ⟨a, oa, oc, s, h1⟩

/-- A Trace's block. -/
def TrIs (T : Nat) (x0 x1 x2 x3 : Value) (w : World) : Prop := w.cell? ⟨T, 0, none⟩ = some x0 ∧ w.cell? ⟨T, 1, none⟩ = some x1 ∧ w.cell? ⟨T, 2, none⟩ = some x2 ∧ w.cell? ⟨T, 3, none⟩ = some x3
theorem tr_new (w : World) (x0 x1 x2 x3 : Value) : TrIs w.heap.size x0 x1 x2 x3 (w.alloc (.cells #[x0, x1, x2, x3] 28)) := by
  have h := heap_alloc_new w (.cells #[x0, x1, x2, x3] 28)
  exact ⟨(cell_of h 0).trans rfl, (cell_of h 1).trans rfl, (cell_of h 2).trans rfl, (cell_of h 3).trans rfl⟩
theorem TrIs.old {T : Nat} {x0 x1 x2 x3 : Value} {w w' : World} (h : TrIs T x0 x1 x2 x3 w) (O : Old w w') : TrIs T x0 x1 x2 x3 w' := ⟨old_cell O h.1, old_cell O h.2.1, old_cell O h.2.2.1, old_cell O h.2.2.2⟩

set_option maxHeartbeats 8000000 in
set_option maxRecDepth 100000 in
theorem awake_run (c : Frame) (cs : List Frame) (w : World) : Runs (fun g w' => Old w w' ∧ g = G (c.finish (.bool true)) cs) (G (Frame.enter Try.prog 13 #[] .normal) (c :: cs)) w := by
  refine Runs.go ?_
  rw [enter_at _ Try.func13 rfl]
  simp only [Try.f13, List.size_toArray, List.length_cons, List.length_nil, Nat.reduceAdd, Nat.reduceSub, Array.replicate_succ, Array.replicate_zero, List.push_toArray, List.append_toArray, List.nil_append, List.cons_append]
  repeat (first | (refine Walk.c rfl ?_) | (refine Walk.cReg ?_; simp only [List.size_toArray, List.length_cons, List.length_nil, Nat.reduceAdd, Nat.zero_add, List.range, List.range.loop]) | (refine Walk.cRet ?_) | (refine Walk.cEnd ?_) | (refine Walk.opq (ho_of (by conv => lhs; whnf) (by kernel_rfl)) (by rfl) (by decide) (fun dd e he => ?_) (fun dd K hK => ?_); (· (simp [go_sem, *] at he; try (subst he; exact evR_read _ _))); go_simp; refine hK _ ?_; clear hK K; try walk_nrm) | (refine Walk.ctl rfl (fun w => stepG_unwanted (ho_of (by conv => lhs; whnf) (by kernel_rfl)) (by rfl)) ?_; walk_nrm))
  refine Walk.callV (x := .slice (some ⟨w.heap.size, 0, none⟩) 5 5) (W := w.alloc (.cells adderCells 96)) ?_ rfl (by rfl) (by decide) rfl Try.func38 (by kernel_rfl) (by rfl) ?_
  · walk_nrm
    exact adder_w w
  walk_nrm
  refine Walk.callV (x := .slice (some ⟨w.heap.size + 1, 0, none⟩) 5 5) (W := (w.alloc (.cells adderCells 96)).alloc (.cells adderCells 96)) ?_ rfl (by rfl) (by decide) rfl Try.func38 (by kernel_rfl) (by rfl) ?_
  · have := adder_w (main := true) (V := fun _ => none) (w.alloc (.cells adderCells 96))
    have h1 : (w.alloc (.cells adderCells 96)).heap.size = w.heap.size + 1 := by simp
    rw [h1] at this
    walk_nrm
    exact this
  walk_nrm
  have hS := two_src w
  have O1 := (old_alloc w (.cells adderCells 96)).trans ((old_alloc _ (.cells adderCells 96)).trans (old_alloc _ (.cells #[.slice (some ⟨w.heap.size, 0, none⟩) 5 5, .slice (some ⟨w.heap.size + 1, 0, none⟩) 5 5] 85)))
  have hsz : ((w.alloc (.cells adderCells 96)).alloc (.cells adderCells 96)).heap.size = w.heap.size + 2 := by simp
  (co_applyP Walk.opw (ho_of (by conv => lhs; whnf) (by kernel_rfl)) (by rfl) (by decide) ?wev1 ?wdr1 ?wrun1; (case' wrun1 => (intro dd K hK; go_simp; simp only [alloc_at', setCell_at']; refine hK _ ?wmore1; clear hK K)); (case wdr1 => exact fun dd es hes => DR.alloc' dd es hes); (case wev1 => (intro dd e he; simp [go_sem, *] at he)); try walk_nrm)
  generalize ((w.alloc (.cells adderCells 96)).alloc (.cells adderCells 96)).alloc (.cells #[.slice (some ⟨w.heap.size, 0, none⟩) 5 5, .slice (some ⟨w.heap.size + 1, 0, none⟩) 5 5] 85) = w3 at hS O1 ⊢
  refine Walk.callW (Post := fun v w' => ∃ fa fc ls, v = .slice fa 2 fc ∧ Coded w3 w' [adderL, adderL] fa fc 2 ls) ?_ rfl (by rfl) (by decide) rfl Try.func15 (by kernel_rfl) (by rfl) ?_
  · walk_nrm
    exact codes_w (some ⟨w.heap.size + 2, 0, none⟩) 2 _ [adderL, adderL] w3 hS (by simp) (by simp [adderL]) (fun b _ => apart0 b)
  rintro v w4 ⟨fa, fc, ls, rfl, M⟩
  have O4 := O1.trans M.old
  walk_nrm
  repeat (first | (refine Walk.c rfl ?_) | (refine Walk.cReg ?_; simp only [List.size_toArray, List.length_cons, List.length_nil, Nat.reduceAdd, Nat.zero_add, List.range, List.range.loop]) | (refine Walk.cRet ?_) | (refine Walk.cEnd ?_) | (refine Walk.opq (ho_of (by conv => lhs; whnf) (by kernel_rfl)) (by rfl) (by decide) (fun dd e he => ?_) (fun dd K hK => ?_); (· (simp [go_sem, *] at he; try (subst he; exact evR_read _ _))); go_simp; refine hK _ ?_; clear hK K; try walk_nrm) | (refine Walk.ctl rfl (fun w => stepG_unwanted (ho_of (by conv => lhs; whnf) (by kernel_rfl)) (by rfl)) ?_; walk_nrm))
  (co_applyP Walk.opw (ho_of (by conv => lhs; whnf) (by kernel_rfl)) (by rfl) (by decide) ?wev2 ?wdr2 ?wrun2; (case' wrun2 => (intro dd K hK; go_simp; simp only [alloc_at', setCell_at']; refine hK _ ?wmore2; clear hK K)); (case wdr2 => exact fun dd es hes => DR.alloc' dd es hes); (case wev2 => (intro dd e he; simp [go_sem, *] at he)); try walk_nrm)
  repeat (first | (refine Walk.c rfl ?_) | (refine Walk.cReg ?_; simp only [List.size_toArray, List.length_cons, List.length_nil, Nat.reduceAdd, Nat.zero_add, List.range, List.range.loop]) | (refine Walk.cRet ?_) | (refine Walk.cEnd ?_) | (refine Walk.opq (ho_of (by conv => lhs; whnf) (by kernel_rfl)) (by rfl) (by decide) (fun dd e he => ?_) (fun dd K hK => ?_); (· (simp [go_sem, *] at he; try (subst he; exact evR_read _ _))); go_simp; refine hK _ ?_; clear hK K; try walk_nrm) | (refine Walk.ctl rfl (fun w => stepG_unwanted (ho_of (by conv => lhs; whnf) (by kernel_rfl)) (by rfl)) ?_; walk_nrm))
  (co_applyP Walk.opw (ho_of (by conv => lhs; whnf) (by kernel_rfl)) (by rfl) (by decide) ?wev3 ?wdr3 ?wrun3; (case' wrun3 => (intro dd K hK; go_simp; simp only [alloc_at', setCell_at']; refine hK _ ?wmore3; clear hK K)); (case wdr3 => exact fun dd es hes => DR.alloc' dd es hes); (case wev3 => (intro dd e he; simp [go_sem, *] at he)); try walk_nrm)
  have hsz4 : (w4.alloc (.cells #[.int .i64 0] 2)).heap.size = w4.heap.size + 1 := by simp
  have O6 := (old_alloc w4 (.cells #[.int .i64 0] 2)).trans (old_alloc _ (.cells #[.int .i64 0, .int .i64 1, .int .i64 0, .int .i64 1] 3))
  have I1 : IntsAt (some ⟨w4.heap.size, 0, none⟩) [0] ((w4.alloc (.cells #[.int .i64 0] 2)).alloc (.cells #[.int .i64 0, .int .i64 1, .int .i64 0, .int .i64 1] 3)) := (ints_new w4 [0] 2).old (old_alloc _ _).same
  have I2 : IntsAt (some ⟨w4.heap.size + 1, 0, none⟩) [0, 1, 0, 1] ((w4.alloc (.cells #[.int .i64 0] 2)).alloc (.cells #[.int .i64 0, .int .i64 1, .int .i64 0, .int .i64 1] 3)) := by
    have := ints_new (w4.alloc (.cells #[.int .i64 0] 2)) [0, 1, 0, 1] 3
    rw [hsz4] at this
    exact this
  have L2 : w4.heap.size + 1 < ((w4.alloc (.cells #[.int .i64 0] 2)).alloc (.cells #[.int .i64 0, .int .i64 1, .int .i64 0, .int .i64 1] 3)).heap.size := by simp
  generalize (w4.alloc (.cells #[.int .i64 0] 2)).alloc (.cells #[.int .i64 0, .int .i64 1, .int .i64 0, .int .i64 1] 3) = w6 at O6 I1 I2 L2 ⊢
  refine Walk.callE rfl (by rfl) (by decide) rfl Try.func14 (by kernel_rfl) (by rfl) ?_
  refine .stop fun d => ?_
  walk_nrm
  refine Runs.then (play_coded M (by simp) (by simp [adderL]) (some ⟨w4.heap.size, 0, none⟩) 1 (some ⟨w4.heap.size + 1, 0, none⟩) 4 100 [0] [0, 1, 0, 1] (w6.at d) (O6.at d) (by simp) (by simp) I1 I2 (fun s e => by cases e; exact L2) _ _) ?_
  rintro _ w7 ⟨cells, hP, O7, rfl⟩
  obtain ⟨a1, oa1, oc1, s1, rfl, hs1⟩ := out_a hP
  have O7' := O6.trans (Old.un d O7)
  clear O6 I1 I2 L2 hP O7
  refine Runs.go ?_
  rw [Frame.finish_at]
  walk_nrm
  (co_applyP Walk.opw (ho_of (by conv => lhs; whnf) (by kernel_rfl)) (by rfl) (by decide) ?wev4 ?wdr4 ?wrun4; (case' wrun4 => (intro dd K hK; go_simp; simp only [alloc_at', setCell_at']; refine hK _ ?wmore4; clear hK K)); (case wdr4 => exact fun dd es hes => DR.alloc' dd es hes); (case wev4 => (intro dd e he; simp [go_sem, *] at he)); try walk_nrm)
  refine Walk.storeS 28 (.tmp 2) (.tmp 12) rfl (by rfl) (by decide) rfl w7.heap.size #[.slice (some ⟨a1, 0, none⟩) 2 2, .slice oa1 4 oc1, .slice (some ⟨s1, 0, none⟩) 1 1, .bool false] _ 28 rfl rfl (heap_alloc_new w7 _) (by kernel_rfl) (by rfl) (by simp [Value.oneCell']) (apart0 _) ?_
  rw [setRow_alloc]
  have T1 := tr_new w7 (.slice (some ⟨a1, 0, none⟩) 2 2) (.slice oa1 4 oc1) (.slice (some ⟨s1, 0, none⟩) 1 1) (.bool false)
  have hs1 := old_cell (old_alloc w7 (.cells #[.slice (some ⟨a1, 0, none⟩) 2 2, .slice oa1 4 oc1, .slice (some ⟨s1, 0, none⟩) 1 1, .bool false] 28)) hs1
  have O8 := O7'.trans (old_alloc w7 (.cells #[.slice (some ⟨a1, 0, none⟩) 2 2, .slice oa1 4 oc1, .slice (some ⟨s1, 0, none⟩) 1 1, .bool false] 28))
  clear O7'
  generalize w7.heap.size = TA at *
  generalize w7.alloc (.cells #[.slice (some ⟨a1, 0, none⟩) 2 2, .slice oa1 4 oc1, .slice (some ⟨s1, 0, none⟩) 1 1, .bool false] 28) = w8 at *
  walk_nrm
  repeat (first | (refine Walk.c rfl ?_) | (refine Walk.cReg ?_; simp only [List.size_toArray, List.length_cons, List.length_nil, Nat.reduceAdd, Nat.zero_add, List.range, List.range.loop]) | (refine Walk.cRet ?_) | (refine Walk.cEnd ?_) | (refine Walk.opq (ho_of (by conv => lhs; whnf) (by kernel_rfl)) (by rfl) (by decide) (fun dd e he => ?_) (fun dd K hK => ?_); (· (simp [go_sem, *] at he; try (subst he; exact evR_read _ _))); go_simp; refine hK _ ?_; clear hK K; try walk_nrm) | (refine Walk.ctl rfl (fun w => stepG_unwanted (ho_of (by conv => lhs; whnf) (by kernel_rfl)) (by rfl)) ?_; walk_nrm))
  (co_applyP Walk.opw (ho_of (by conv => lhs; whnf) (by kernel_rfl)) (by rfl) (by decide) ?wev5 ?wdr5 ?wrun5; (case' wrun5 => (intro dd K hK; go_simp; simp only [alloc_at', setCell_at']; refine hK _ ?wmore5; clear hK K)); (case wdr5 => exact fun dd es hes => DR.alloc' dd es hes); (case wev5 => (intro dd e he; simp [go_sem, *] at he)); try walk_nrm)
  repeat (first | (refine Walk.c rfl ?_) | (refine Walk.cReg ?_; simp only [List.size_toArray, List.length_cons, List.length_nil, Nat.reduceAdd, Nat.zero_add, List.range, List.range.loop]) | (refine Walk.cRet ?_) | (refine Walk.cEnd ?_) | (refine Walk.opq (ho_of (by conv => lhs; whnf) (by kernel_rfl)) (by rfl) (by decide) (fun dd e he => ?_) (fun dd K hK => ?_); (· (simp [go_sem, *] at he; try (subst he; exact evR_read _ _))); go_simp; refine hK _ ?_; clear hK K; try walk_nrm) | (refine Walk.ctl rfl (fun w => stepG_unwanted (ho_of (by conv => lhs; whnf) (by kernel_rfl)) (by rfl)) ?_; walk_nrm))
  (co_applyP Walk.opw (ho_of (by conv => lhs; whnf) (by kernel_rfl)) (by rfl) (by decide) ?wev6 ?wdr6 ?wrun6; (case' wrun6 => (intro dd K hK; go_simp; simp only [alloc_at', setCell_at']; refine hK _ ?wmore6; clear hK K)); (case wdr6 => exact fun dd es hes => DR.alloc' dd es hes); (case wev6 => (intro dd e he; simp [go_sem, *] at he)); try walk_nrm)
  have hsz8 : (w8.alloc (.cells #[.int .i64 0] 2)).heap.size = w8.heap.size + 1 := by simp
  have P6 := (old_alloc w8 (.cells #[.int .i64 0] 2)).trans (old_alloc _ (.cells #[.int .i64 0, .int .i64 0, .int .i64 1, .int .i64 1] 3))
  have I1 : IntsAt (some ⟨w8.heap.size, 0, none⟩) [0] ((w8.alloc (.cells #[.int .i64 0] 2)).alloc (.cells #[.int .i64 0, .int .i64 0, .int .i64 1, .int .i64 1] 3)) := (ints_new w8 [0] 2).old (old_alloc _ _).same
  have I2 : IntsAt (some ⟨w8.heap.size + 1, 0, none⟩) [0, 0, 1, 1] ((w8.alloc (.cells #[.int .i64 0] 2)).alloc (.cells #[.int .i64 0, .int .i64 0, .int .i64 1, .int .i64 1] 3)) := by
    have := ints_new (w8.alloc (.cells #[.int .i64 0] 2)) [0, 0, 1, 1] 3
    rw [hsz8] at this
    exact this
  have L2 : w8.heap.size + 1 < ((w8.alloc (.cells #[.int .i64 0] 2)).alloc (.cells #[.int .i64 0, .int .i64 0, .int .i64 1, .int .i64 1] 3)).heap.size := by simp
  generalize (w8.alloc (.cells #[.int .i64 0] 2)).alloc (.cells #[.int .i64 0, .int .i64 0, .int .i64 1, .int .i64 1] 3) = w9 at P6 I1 I2 L2 ⊢
  refine Walk.callE rfl (by rfl) (by decide) rfl Try.func14 (by kernel_rfl) (by rfl) ?_
  refine .stop fun d9 => ?_
  walk_nrm
  refine Runs.then (play_coded M (by simp) (by simp [adderL]) (some ⟨w8.heap.size, 0, none⟩) 1 (some ⟨w8.heap.size + 1, 0, none⟩) 4 100 [0] [0, 0, 1, 1] (w9.at d9) ((O8.trans P6).at d9) (by simp) (by simp) I1 I2 (fun s e => by cases e; exact L2) _ _) ?_
  rintro _ w10 ⟨cells, hP, O10, rfl⟩
  obtain ⟨a2, oa2, on2, oc2, s2, st2, rfl, hs2⟩ := out_b hP
  have Q8 := P6.trans (Old.un d9 O10)
  have O11 := O8.trans Q8
  have T1 := T1.old Q8
  have hs1 := old_cell Q8 hs1
  clear P6 I1 I2 L2 hP O10 Q8 O8
  refine Runs.go ?_
  rw [Frame.finish_at]
  walk_nrm
  (co_applyP Walk.opw (ho_of (by conv => lhs; whnf) (by kernel_rfl)) (by rfl) (by decide) ?wev7 ?wdr7 ?wrun7; (case' wrun7 => (intro dd K hK; go_simp; simp only [alloc_at', setCell_at']; refine hK _ ?wmore7; clear hK K)); (case wdr7 => exact fun dd es hes => DR.alloc' dd es hes); (case wev7 => (intro dd e he; simp [go_sem, *] at he)); try walk_nrm)
  refine Walk.storeS 28 (.tmp 3) (.tmp 16) rfl (by rfl) (by decide) rfl w10.heap.size #[.slice (some ⟨a2, 0, none⟩) 2 2, .slice oa2 on2 oc2, .slice (some ⟨s2, 0, none⟩) 1 1, .bool st2] _ 28 rfl rfl (heap_alloc_new w10 _) (by kernel_rfl) (by rfl) (by simp [Value.oneCell']) (apart0 _) ?_
  rw [setRow_alloc]
  have T2 := tr_new w10 (.slice (some ⟨a2, 0, none⟩) 2 2) (.slice oa2 on2 oc2) (.slice (some ⟨s2, 0, none⟩) 1 1) (.bool st2)
  have R8 := old_alloc w10 (.cells #[.slice (some ⟨a2, 0, none⟩) 2 2, .slice oa2 on2 oc2, .slice (some ⟨s2, 0, none⟩) 1 1, .bool st2] 28)
  have hs2 := old_cell R8 hs2
  have hs1 := old_cell R8 hs1
  have T1 := T1.old R8
  have O12 := O11.trans R8
  clear O11 R8
  generalize w10.heap.size = TB at *
  generalize w10.alloc (.cells #[.slice (some ⟨a2, 0, none⟩) 2 2, .slice oa2 on2 oc2, .slice (some ⟨s2, 0, none⟩) 1 1, .bool st2] 28) = w12 at *
  walk_nrm
  repeat (first | (refine Walk.c rfl ?_) | (refine Walk.cReg ?_; simp only [List.size_toArray, List.length_cons, List.length_nil, Nat.reduceAdd, Nat.zero_add, List.range, List.range.loop]) | (refine Walk.cRet ?_) | (refine Walk.cEnd ?_) | (refine Walk.opq (ho_of (by conv => lhs; whnf) (by kernel_rfl)) (by rfl) (by decide) (fun dd e he => ?_) (fun dd K hK => ?_); (· (simp [go_sem, *] at he; try (subst he; exact evR_read _ _))); go_simp; refine hK _ ?_; clear hK K; try walk_nrm) | (refine Walk.ctl rfl (fun w => stepG_unwanted (ho_of (by conv => lhs; whnf) (by kernel_rfl)) (by rfl)) ?_; walk_nrm))
  (co_applyP Walk.opw (ho_of (by conv => lhs; whnf) (by kernel_rfl)) (by rfl) (by decide) ?wev8 ?wdr8 ?wrun8; (case' wrun8 => (intro dd K hK; go_simp; simp only [alloc_at', setCell_at']; refine hK _ ?wmore8; clear hK K)); (case wdr8 => exact fun dd es hes => DR.alloc' dd es hes); (case wev8 => (intro dd e he; simp [go_sem, *] at he)); try walk_nrm)
  repeat (first | (refine Walk.c rfl ?_) | (refine Walk.cReg ?_; simp only [List.size_toArray, List.length_cons, List.length_nil, Nat.reduceAdd, Nat.zero_add, List.range, List.range.loop]) | (refine Walk.cRet ?_) | (refine Walk.cEnd ?_) | (refine Walk.opq (ho_of (by conv => lhs; whnf) (by kernel_rfl)) (by rfl) (by decide) (fun dd e he => ?_) (fun dd K hK => ?_); (· (simp [go_sem, *] at he; try (subst he; exact evR_read _ _))); go_simp; refine hK _ ?_; clear hK K; try walk_nrm) | (refine Walk.ctl rfl (fun w => stepG_unwanted (ho_of (by conv => lhs; whnf) (by kernel_rfl)) (by rfl)) ?_; walk_nrm))
  have P6 := old_alloc w12 (.cells #[.int .i64 0] 2)
  have I1 : IntsAt (some ⟨w12.heap.size, 0, none⟩) [0] (w12.alloc (.cells #[.int .i64 0] 2)) := ints_new w12 [0] 2
  have I2 : IntsAt none [] (w12.alloc (.cells #[.int .i64 0] 2)) := fun j x h => by simp at h
  generalize w12.alloc (.cells #[.int .i64 0] 2) = w13 at P6 I1 I2 ⊢
  refine Walk.callE rfl (by rfl) (by decide) rfl Try.func14 (by kernel_rfl) (by rfl) ?_
  refine .stop fun d13 => ?_
  walk_nrm
  refine Runs.then (play_coded M (by simp) (by simp [adderL]) (some ⟨w12.heap.size, 0, none⟩) 1 none 0 3 [0] [] (w13.at d13) ((O12.trans P6).at d13) (by simp) (by simp) I1 I2 (fun s e => by cases e) _ _) ?_
  rintro _ w14 ⟨cells, hP, O14, rfl⟩
  obtain ⟨a3, oa3, oc3, s3, rfl⟩ := out_c hP
  have Q8 := P6.trans (Old.un d13 O14)
  have O15 := O12.trans Q8
  have T1 := T1.old Q8
  have T2 := T2.old Q8
  have hs1 := old_cell Q8 hs1
  have hs2 := old_cell Q8 hs2
  clear P6 I1 I2 hP O14 Q8 O12
  refine Runs.go ?_
  rw [Frame.finish_at]
  walk_nrm
  (co_applyP Walk.opw (ho_of (by conv => lhs; whnf) (by kernel_rfl)) (by rfl) (by decide) ?wev9 ?wdr9 ?wrun9; (case' wrun9 => (intro dd K hK; go_simp; simp only [alloc_at', setCell_at']; refine hK _ ?wmore9; clear hK K)); (case wdr9 => exact fun dd es hes => DR.alloc' dd es hes); (case wev9 => (intro dd e he; simp [go_sem, *] at he)); try walk_nrm)
  refine Walk.storeS 28 (.tmp 4) (.tmp 19) rfl (by rfl) (by decide) rfl w14.heap.size #[.slice (some ⟨a3, 0, none⟩) 2 2, .slice oa3 3 oc3, .slice (some ⟨s3, 0, none⟩) 1 1, .bool true] _ 28 rfl rfl (heap_alloc_new w14 _) (by kernel_rfl) (by rfl) (by simp [Value.oneCell']) (apart0 _) ?_
  rw [setRow_alloc]
  have T3 := tr_new w14 (.slice (some ⟨a3, 0, none⟩) 2 2) (.slice oa3 3 oc3) (.slice (some ⟨s3, 0, none⟩) 1 1) (.bool true)
  have R8 := old_alloc w14 (.cells #[.slice (some ⟨a3, 0, none⟩) 2 2, .slice oa3 3 oc3, .slice (some ⟨s3, 0, none⟩) 1 1, .bool true] 28)
  have hs2 := old_cell R8 hs2
  have hs1 := old_cell R8 hs1
  have T1 := T1.old R8
  have T2 := T2.old R8
  have O16 := O4.trans (O15.trans R8)
  clear R8 O15 O4 O1 M hS
  generalize w14.heap.size = TC at *
  generalize w14.alloc (.cells #[.slice (some ⟨a3, 0, none⟩) 2 2, .slice oa3 3 oc3, .slice (some ⟨s3, 0, none⟩) 1 1, .bool true] 28) = w16 at *
  obtain ⟨u10, u11, u12, u13⟩ := T1
  obtain ⟨u20, u21, u22, u23⟩ := T2
  obtain ⟨u30, u31, u32, u33⟩ := T3
  walk_nrm
  refine Walk.ctl rfl (fun w => stepG_region_end) ?_
  refine Walk.slots (F := fun u => G (hd13 (.slice fa 2 fc) TA TB TC u) (c :: cs)) (fun u => (awake_tail (.slice fa 2 fc) TA TB TC a1 a2 s1 s2 oc1 oc3 oa1 oa3 u c cs w16 u10 u11 u12 u13 u20 u22 u31 u33 hs1 hs2).mono ?_) ?_
  · rintro g w' ⟨rfl, d, rfl⟩
    exact .now ⟨O16.at d, rfl⟩
  · simp only [hd13, tail13, Try.f13]
    rfl
end Go.Proofs.Ytgiiicdpbdfemaa
end
