/- Part 13. -/
import Derived.Test.YtgiiicdpbdfemaaC12
set_option linter.unusedSimpArgs false
/- The statement's side: a walker behind its Step. -/
section
namespace Go.Proofs.Ytgiiicdpbdfemaa
open Go.Conc Go.RowKit Go.Relay
open Go.ConcN (upd upd_ne upd_same)

variable {main : Bool} {V : Nat → Option Wait}

set_option maxHeartbeats 8000000 in
set_option maxRecDepth 100000 in
theorem walk57_back (W B n0 : Nat) (n : Int) (la : Option Addr) (len cap : Nat) (xs : List Value) (S : Value) (i : Int) (u : Nat → Value) (cs : List Frame) (w : World) (H : Note V W B n0 n la len cap xs w) (hi0 : 0 ≤ i) (hi1 : i < 32) :
    Walk Try.prog main (DR V) (fun g' w' => ∃ g cap' w3, Noted n0 n la len cap xs w g cap' w3 ∧ (∃ u', g' = G (hd57 W S (i + 1) u') cs) ∧ ∃ d, w' = (w3.setCell ⟨B, 0, none⟩ (.slice (some ⟨g, 0, none⟩) (len + 1) cap')).at d)
      (G (((base 57).at (at57 W S i u) (.inRegion reg57_6 [1] :: k57)).finish (.tuple #[])) cs) w := by
  have hw1 : IntKind.wrap .i64 (i + 1) = i + 1 := by rw [IntKind.wrap_i64]; omega
  rw [Frame.finish_at]
  simp only [at57, k57, todo57, hd57]
  walk_nrm
  refine Walk.ctl rfl (fun w => stepG_region_end) ?_
  refine slots_walk (F := fun u => G ((base 57).at ⟨tm57 W S i u, []⟩ (.code (.region 7 reg57_7 true) :: ([.inBlock 1, .code (.region 2 reg57_2 false)] ++ todo57.drop 1))) cs) (fun u => note57 W B n0 n la len cap xs S i u _ cs w H fun g cap' w3 u A => ?_) (by simp only [tm57, todo57, hd57]; rfl)
  simp only [tm57, todo57, hd57]
  clear H
  refine Walk.ctl rfl (fun w => stepG_region_end) ?_
  simp only [List.cons_append, List.nil_append, List.drop_succ_cons, List.drop_zero]
  repeat (first | (refine Walk.c rfl ?_) | (refine Walk.cRet ?_) | (refine Walk.cEnd ?_) | (refine Walk.cReg ?_; simp only [size57_0, size57_1, size57_3, size57_4, size57_5, size57_6, size57_7, size57_2, size57_8, size57_9, List.range, List.range.loop]) | (refine Walk.opq (ho_of (by conv => lhs; whnf) (by kernel_rfl)) (by rfl) (by decide) (fun dd e he => ?_) (fun dd K hK => ?_); (· (simp [go_sem, *] at he; try (subst he; exact evR_read _ _))); go_simp; refine hK _ ?_; clear hK K; try walk_nrm) | (refine Walk.ctl rfl (fun w => stepG_unwanted (ho_of (by conv => lhs; whnf) (by kernel_rfl)) (by rfl)) ?_; walk_nrm))
  refine Walk.ctl rfl (fun w => stepG_inLoop) ?_
  refine .stop fun d => ⟨g, cap', w3, A, at_slots ?_, d, rfl⟩
  simp only [hd57]
  rfl

end Go.Proofs.Ytgiiicdpbdfemaa
end

/- Package turn's Stepper: a call of Step by the interface comes to the Counter's Step. -/
section
namespace Go.Proofs.Ytgiiicdpbdfemaa
open Go.Conc Go.RowKit Go.Relay
open Go.ConcN (upd upd_ne upd_same)

variable {main : Bool} {V : Nat → Option Wait}

noncomputable def row63B : Bool := match Try.prog.info? 63 with
  | some ti => (match ti.methods.find? (·.name == "Step") with
    | some m => m.path.isEmpty && (m.func == some (31, true))
    | none => false)
  | none => false
theorem row63 : ∃ ti m, Try.prog.info? 63 = some ti ∧ ti.methods.find? (·.name == "Step") = some m ∧ m.path = #[] ∧ m.func = some (31, true) := by
  have h : row63B = true := by kernel_rfl
  unfold row63B at h
  revert h
  cases h1 : Try.prog.info? 63 with
  | none => simp
  | some ti =>
    simp only []
    cases h2 : ti.methods.find? (·.name == "Step") with
    | none => simp
    | some m =>
      simp only [Bool.and_eq_true, Array.isEmpty_iff, beq_iff_eq]
      exact fun h => ⟨ti, m, rfl, h2, h.1, h.2⟩

theorem method_step63 (p : Nat) (w : World) (es : Array Event) : (method (Try.prog.types.size + Made.depth) 63 (.pointer (some ⟨p, 0, none⟩)) "Step").run Try.prog w = .ok (31, .pointer (some ⟨p, 0, none⟩)) w ∧ (method (Try.prog.types.size + Made.depth) 63 (.pointer (some ⟨p, 0, none⟩)) "Step").events Try.prog w es = es := by
  obtain ⟨ti, m, h1, h2, h3, h4⟩ := row63
  obtain ⟨k, hk⟩ : ∃ k, Try.prog.types.size + Made.depth = k + 1 := ⟨Try.prog.types.size + (Made.depth - 1), by have : 1 ≤ Made.depth := by decide
                                                                                                                omega⟩
  rw [hk]
  unfold method
  refine ⟨?_, ?_⟩
  · simp [typeInfo, h1, h2, h3, h4, follow, receiverAt, run_underlying und63, Place.get]
  · simp [typeInfo, h1, h2, h3, h4, follow, receiverAt, run_underlying und63, Place.get]

section
variable {Stop : Goroutine → World → Prop} {w : World} {b : Frame} {a : Act} {k : List Item} {cs : List Frame} {ops : Array Oper} {i : Nat} {rest : List Nat} {o : Oper}
theorem stepG_invoke63 {x : Operand} {ats : Array TypeId} (p : Nat) (ho : ops[i]? = some o) (hw : Region.wanted o (yielded ops a.tmps) = true) (hk : b.kind ≠ .early) (hop : o.op = .call { callee := .invoke x "Step", args := #[], argTypes := ats }) (hx : a.eval x = .iface 63 (.pointer (some ⟨p, 0, none⟩))) :
    stepG Try.prog main (G (b.at a (.inRegion ops (i :: rest) :: k)) cs) w = .go (G (Frame.enter Try.prog 31 #[.pointer (some ⟨p, 0, none⟩)] .normal) (b.at a (.inRegion ops (i :: rest) :: k) :: cs)) w := by
  have h1 : ¬ Try.f31.name = "runtime.NumGoroutine" := by decide
  have h2 : ¬ Try.f31.body = none := by simp [Try.f31]
  have hm := method_step63 p w #[]
  rw [show Try.prog.types.size = 216 from by kernel_rfl] at hm
  have hr : (execOp a.eval o).run Try.prog w = .ok (.enter 31 #[.pointer (some ⟨p, 0, none⟩)]) w := by
    unfold execOp
    simp [hop, resolve, invoke, callMethod, callFunc, hm.1, Try.func31, h1, h2, hx]
  have he : (execOp a.eval o).events Try.prog w #[] = #[] := by
    unfold execOp
    simp [hop, resolve, invoke, callMethod, callFunc, hm.1, hm.2, Try.func31, h1, h2, hx]
  rw [stepG_enter ho hw hk hr]
  have : listed Try.prog b.fn a o w = #[] := by unfold listed; rw [he]; exact seen_none Try.prog _
  rw [this]

theorem Walk.invoke63 {x : Operand} {ats : Array TypeId} (p : Nat) (ho : ops[i]? = some o) (hw : Region.wanted o (yielded ops a.tmps) = true) (hk : b.kind ≠ .early) (hop : o.op = .call { callee := .invoke x "Step", args := #[], argTypes := ats }) (hx : a.eval x = .iface 63 (.pointer (some ⟨p, 0, none⟩)))
    (h : Walk Try.prog main (DR V) Stop (G (Frame.enter Try.prog 31 #[.pointer (some ⟨p, 0, none⟩)] .normal) (b.at a (.inRegion ops (i :: rest) :: k) :: cs)) w) : Walk Try.prog main (DR V) Stop (G (b.at a (.inRegion ops (i :: rest) :: k)) cs) w :=
  Walk.ctl rfl (fun _ => stepG_invoke63 p ho hw hk hop hx) h
end

/-- A walker under a Counter: its block, the board's, the Counter's; the list has i numbers. -/
structure Und (w0 : World) (W B C : Nat) (num steps after m : Int) (i : Nat) (la : Option Addr) (cap : Nat) (xs : List Value) (w : World) : Prop where
  bW : w.heap[W]? = some (.cells #[.pointer (some ⟨B, 0, none⟩), .int .i64 num, .int .i64 steps, .int .i64 after] 127)
  bB : w.heap[B]? = some (.cells #[.slice la i cap] 49)
  bC : w.heap[C]? = some (.cells #[.int .i64 m, .int .i64 i] 145)
  row : w.ownsRow w0.heap.size 3 1 (.slice la i cap) i xs
  size : w0.heap.size ≤ w.heap.size
  lW : W < w0.heap.size
  lB : B < w0.heap.size
  lC : C < w0.heap.size
  nWB : W ≠ B
  nWC : W ≠ C
  nBC : B ≠ C
  same : ∀ b, b < w0.heap.size → b ≠ B → b ≠ C → w.heap[b]? = w0.heap[b]?

/-- What a walk does alone: the steps it would do, whether it breaks then. -/
def badW (steps after : Int) : Bool := decide (0 ≤ after) && decide (after ≤ steps)
def numW (steps after : Int) : Int := if badW steps after then after else steps

theorem walk_alone {w0 : World} {W B C : Nat} {num steps after m : Int} (hs0 : 0 ≤ steps) (hs1 : steps < 32) (hm0 : 0 ≤ m) (hm1 : m ≤ 1048576) (c : Frame) (cs : List Frame) :
    ∀ (r i : Nat) (la : Option Addr) (cap : Nat) (xs : List Value) (u : Nat → Value) (w : World), ((i + r : Nat) : Int) = min (numW steps after) m → Und w0 W B C num steps after m i la cap xs w →
      Walk Try.prog true (DR (fun _ => none)) (fun g w' => ∃ (j : Nat) (la' : Option Addr) (cap' : Nat) (xs' : List Value), (j : Int) = min (numW steps after) m ∧ Und w0 W B C num steps after m j la' cap' xs' w' ∧
        ((numW steps after ≤ m ∧ badW steps after = true ∧ ∃ t v, t ≠ 147 ∧ g = G (c.raise [{ v := .iface t v, recovered := false }]) cs) ∨ (numW steps after ≤ m ∧ badW steps after = false ∧ g = G (c.finish (.tuple #[])) cs) ∨
         (m < numW steps after ∧ g = G (c.raise [{ v := .iface 147 (.agg #[]), recovered := false }]) cs)))
        (G (hd57 W (.iface 63 (.pointer (some ⟨C, 0, none⟩))) i u) (c :: cs)) w := by
  intro r
  have hn : numW steps after ≤ steps := by
    unfold numW badW; split
    · next h => simp at h; omega
    · omega
  have hn0 : 0 ≤ numW steps after := by
    unfold numW badW; split
    · next h => simp at h; omega
    · omega
  induction r with
  | zero =>
    intro i la cap xs u w hi U
    have hi : (i : Int) = min (numW steps after) m := by simpa using hi
    have h1 := (cell_of U.bW 1).trans rfl
    have h2 := (cell_of U.bW 2).trans rfl
    have h3 := (cell_of U.bW 3).trans rfl
    by_cases hle : numW steps after ≤ m
    · have hin : (i : Int) = numW steps after := by omega
      cases hb : badW steps after with
      | true =>
        have ha : after = i := by unfold numW at hin; rw [hb] at hin; simpa using hin.symm
        by_cases hlt : (i : Int) < steps
        · rw [ha] at h3
          refine (walk57_break W _ i steps num u c cs w h1 h2 h3 hlt).mono ?_
          rintro g w' ⟨⟨t, v, ht, rfl⟩, d, rfl⟩
          exact ⟨i, la, cap, xs, hi, ⟨U.bW, U.bB, U.bC, U.row, U.size, U.lW, U.lB, U.lC, U.nWB, U.nWC, U.nBC, U.same⟩, .inl ⟨hle, rfl, t, v, ht, rfl⟩⟩
        · refine (walk57_end W _ i steps after num u c cs w h1 h2 h3 (by omega)).mono ?_
          rintro g w' ⟨h, d, rfl⟩
          refine ⟨i, la, cap, xs, hi, ⟨U.bW, U.bB, U.bC, U.row, U.size, U.lW, U.lB, U.lC, U.nWB, U.nWC, U.nBC, U.same⟩, .inl ⟨hle, rfl, ?_⟩⟩
          rcases h with ⟨_, t, v, ht, rfl⟩ | ⟨hne, _⟩
          · exact ⟨t, v, ht, rfl⟩
          · omega
      | false =>
        have hst : steps = i := by unfold numW at hin; rw [hb] at hin; simpa using hin.symm
        have hna : after ≠ steps := fun e => by
          unfold badW at hb
          rw [e] at hb
          simp at hb; omega
        refine (walk57_end W _ i steps after num u c cs w h1 h2 h3 (by omega)).mono ?_
        rintro g w' ⟨h, d, rfl⟩
        refine ⟨i, la, cap, xs, hi, ⟨U.bW, U.bB, U.bC, U.row, U.size, U.lW, U.lB, U.lC, U.nWB, U.nWC, U.nBC, U.same⟩, .inr (.inl ⟨hle, rfl, ?_⟩)⟩
        rcases h with ⟨he, _⟩ | ⟨_, rfl⟩
        · exact absurd he hna
        · rfl
    · have him : (i : Int) = m := by omega
      have hlt : (i : Int) < steps := by omega
      have hna : (i : Int) ≠ after := fun e => by
        have : numW steps after = after := by unfold numW badW; rw [if_pos]; simp; omega
        omega
      refine (walk57_more W 63 (.pointer (some ⟨C, 0, none⟩)) i steps after u (c :: cs) w h2 h3 hlt hna).then ?_
      rintro g w1 ⟨⟨u', rfl⟩, d, rfl⟩
      refine Walk.back ?_ d
      refine Walk.invoke63 (a := at57 W (.iface 63 (.pointer (some ⟨C, 0, none⟩))) i u') C (ho_of (by conv => lhs; whnf) (by kernel_rfl)) (by rfl) (by decide) rfl rfl ?_
      have hc0 := (cell_of U.bC 0).trans rfl
      have hc1 := (cell_of U.bC 1).trans rfl
      refine (step31_stop C i m w hc0 hc1 (by omega) _ _).then ?_
      rintro g w' ⟨rfl, d, rfl⟩
      refine Walk.back ?_ d
      rw [Frame.raise_at]
      refine Walk.ctl rfl (fun w => stepG_pop rfl rfl (by kernel_rfl)) ?_
      exact .stop fun d => ⟨i, la, cap, xs, hi, ⟨U.bW, U.bB, U.bC, U.row, U.size, U.lW, U.lB, U.lC, U.nWB, U.nWC, U.nBC, U.same⟩, .inr (.inr ⟨by omega, rfl⟩)⟩
  | succ r ih =>
    intro i la cap xs u w hi U
    have h2 := (cell_of U.bW 2).trans rfl
    have h3 := (cell_of U.bW 3).trans rfl
    have hlt : (i : Int) < steps := by omega
    have hna : (i : Int) ≠ after := fun e => by
      have : numW steps after = after := by unfold numW badW; rw [if_pos]; simp; omega
      omega
    refine (walk57_more W 63 (.pointer (some ⟨C, 0, none⟩)) i steps after u (c :: cs) w h2 h3 hlt hna).then ?_
    rintro g w1 ⟨⟨u', rfl⟩, d, rfl⟩
    refine Walk.back ?_ d
    refine Walk.invoke63 (a := at57 W (.iface 63 (.pointer (some ⟨C, 0, none⟩))) i u') C (ho_of (by conv => lhs; whnf) (by kernel_rfl)) (by rfl) (by decide) rfl rfl ?_
    have hc0 := (cell_of U.bC 0).trans rfl
    have hc1 := (cell_of U.bC 1).trans rfl
    refine ((step31_go C i m w hc0 hc1 (frozen_of U.bC 1) ((apart0 C).1 _ rfl) (by omega) hm1 (by omega)) _ _).then ?_
    rintro g w' ⟨v, ⟨rfl, d, rfl⟩, rfl⟩
    refine Walk.back ?_ d
    have e1 : (w.setCell ⟨C, 1, none⟩ (.int .i64 ((i : Int) + 1))).heap[W]? = w.heap[W]? := heap_set_other _ _ _ _ U.nWC
    have e2 : (w.setCell ⟨C, 1, none⟩ (.int .i64 ((i : Int) + 1))).heap[B]? = w.heap[B]? := heap_set_other _ _ _ _ U.nBC
    have hrow : (w.setCell ⟨C, 1, none⟩ (.int .i64 ((i : Int) + 1))).ownsRow w0.heap.size 3 1 (.slice la i cap) i xs := row_same U.row fun g hg => heap_set_other _ _ _ _ (by have := (row_at U.row hg).1; have := U.lC; show g ≠ C; omega)
    have hsz : (w.setCell ⟨C, 1, none⟩ (.int .i64 ((i : Int) + 1))).heap.size = w.heap.size := size_set _ _ _
    have hown : ∀ b, b < w0.heap.size → (Value.slice la i cap).ownBlock ≠ some b := fun b hb e => by have := (row_at U.row e).1; omega
    have hN : Note (fun _ => none) W B w0.heap.size num la i cap xs (w.setCell ⟨C, 1, none⟩ (.int .i64 ((i : Int) + 1))) :=
      ⟨(cell_of (e1.trans U.bW) 0).trans rfl, (cell_of (e1.trans U.bW) 1).trans rfl, (cell_of (e2.trans U.bB) 0).trans rfl, frozen_of (e2.trans U.bB) 0, hrow, (apart0 B).1 _ rfl, fun g _ => apart0 g, hown W U.lW, hown B U.lB, by omega, by rw [hsz]; exact U.size⟩
    refine (walk57_back W B w0.heap.size num la i cap xs (.iface 63 (.pointer (some ⟨C, 0, none⟩))) i u' (c :: cs) _ hN (by omega) (by omega)).then ?_
    rintro g' w' ⟨g, cap', w3, A, ⟨u2, rfl⟩, d, rfl⟩
    refine Walk.back ?_ d
    have hg : w0.heap.size ≤ g := by
      rcases A.row.2 with ⟨h, _⟩ | ⟨g', _, _, h, h', _⟩
      · cases h
      · cases h; exact h'
    have k3 : ∀ b, b < w0.heap.size → w3.heap[b]? = (w.setCell ⟨C, 1, none⟩ (.int .i64 ((i : Int) + 1))).heap[b]? := fun b hb => hN.keep A (by rw [hsz]; have := U.size; omega) (hown b hb)
    have kB : ∀ b, b < w0.heap.size → b ≠ B → (w3.setCell ⟨B, 0, none⟩ (.slice (some ⟨g, 0, none⟩) (i + 1) cap')).heap[b]? = (w.setCell ⟨C, 1, none⟩ (.int .i64 ((i : Int) + 1))).heap[b]? := fun b hb hne => (heap_set_other _ _ _ _ hne).trans (k3 b hb)
    have hcast : ((i : Int) + 1) = ((i + 1 : Nat) : Int) := by omega
    rw [hcast]
    refine ih (i + 1) (some ⟨g, 0, none⟩) cap' (xs ++ [.int .i64 num]) u2 _ (by omega) ⟨(kB W U.lW U.nWB).trans (e1.trans U.bW), ?_, ?_, ?_, ?_, U.lW, U.lB, U.lC, U.nWB, U.nWC, U.nBC, fun b hb hB hC => ?_⟩
    · exact (heap_set_self _ _ ((k3 B U.lB).trans (e2.trans U.bB))).trans (by simp)
    · rw [kB C U.lC (Ne.symm U.nBC)]
      refine (heap_set_self _ _ U.bC).trans ?_
      rw [hcast]
      simp
    · refine row_same A.row fun b hb => heap_set_other _ _ _ _ ?_
      have : g = b := by simpa [Value.ownBlock] using hb
      have := U.lB
      show b ≠ B
      omega
    · rw [size_set]
      have := A.grown.size
      have : (((w.setCell ⟨C, 1, none⟩ (.int .i64 ((i : Int) + 1))).alloc (.cells #[.int .i64 num] 3))).heap.size = w.heap.size + 1 := by simp [hsz]
      have := U.size
      omega
    · exact (kB b hb hB).trans ((heap_set_other _ _ _ _ hC).trans (U.same b hb hB hC))
end Go.Proofs.Ytgiiicdpbdfemaa
end

/- The statement's side: does. -/
section
namespace Go.Proofs.Ytgiiicdpbdfemaa
open Go.Conc Go.RowKit Go.Relay
open Go.ConcN (upd upd_ne upd_same)

variable {main : Bool} {V : Nat → Option Wait}

theorem bits_and31 (n : Int) : bits .and .i64 n 31 = n % 32 := by
  have h3 : BitVec.ofInt 64 31 = 31#64 := by decide
  have hx : (BitVec.ofInt 64 n).toNat = (n % 18446744073709551616).toNat := by rw [BitVec.toNat_ofInt]; rfl
  have hb : (BitVec.ofInt 64 n &&& 31#64).toNat = (BitVec.ofInt 64 n).toNat % 32 := by
    rw [BitVec.toNat_and]
    exact Nat.and_two_pow_sub_one_eq_mod _ 5
  show IntKind.i64.wrap ((BitVec.ofInt 64 n &&& BitVec.ofInt 64 31).toNat : Int) = n % 32
  rw [h3, hb, hx]
  simp [IntKind.wrap, IntKind.bits, IntKind.signed]
  omega

noncomputable def reg26_0 : Array Oper := match Try.f26.body with | some (.seq (.region _ ops _) _) => ops | _ => #[]
theorem size26_0 : reg26_0.size = 3 := by kernel_rfl
noncomputable def reg26_1 : Array Oper := match Try.f26.body with | some (.seq _ (.seq (.region _ ops _) _)) => ops | _ => #[]
theorem size26_1 : reg26_1.size = 4 := by kernel_rfl
noncomputable def reg26_2 : Array Oper := match Try.f26.body with | some (.seq _ (.seq _ (.seq (.block _ (.seq (.region _ ops _) _)) _))) => ops | _ => #[]
theorem size26_2 : reg26_2.size = 3 := by kernel_rfl
noncomputable def reg26_3 : Array Oper := match Try.f26.body with | some (.seq _ (.seq _ (.seq (.block _ (.seq _ (.cond _ (.seq (.region _ ops _) _) _))) _))) => ops | _ => #[]
theorem size26_3 : reg26_3.size = 2 := by kernel_rfl
noncomputable def reg26_4 : Array Oper := match Try.f26.body with | some (.seq _ (.seq _ (.seq (.block _ (.seq _ (.cond _ _ (.seq (.region _ ops _) _)))) _))) => ops | _ => #[]
theorem size26_4 : reg26_4.size = 10 := by kernel_rfl
noncomputable def reg26_5 : Array Oper := match Try.f26.body with | some (.seq _ (.seq _ (.seq (.block _ (.seq _ (.cond _ _ (.seq _ (.cond _ (.seq (.region _ ops _) _) _))))) _))) => ops | _ => #[]
theorem size26_5 : reg26_5.size = 4 := by kernel_rfl
noncomputable def reg26_6 : Array Oper := match Try.f26.body with | some (.seq _ (.seq _ (.seq _ (.seq (.region _ ops _) _)))) => ops | _ => #[]
theorem size26_6 : reg26_6.size = 3 := by kernel_rfl
theorem code26_is : Try.f26.body = some (.seq (.region 0 reg26_0 false) (.seq (.region 1 reg26_1 false) (.seq (.block 0 (.seq (.region 2 reg26_2 false) (.cond (.tmp 8 ) (.seq (.region 3 reg26_3 false) (.ret)) (.seq (.region 4 reg26_4 false) (.cond (.tmp 11 ) (.seq (.region 5 reg26_5 false) (.ret)) (.skip)))))) (.seq (.region 6 reg26_6 false) (.ret))))) := by kernel_rfl

set_option maxHeartbeats 8000000 in
set_option maxRecDepth 100000 in
theorem does_w (st af : Int) (w : World) : CallW Try.prog main V 26 #[.agg #[.int .i64 st, .int .i64 af, .bool false]] w (fun v w' => v = .tuple #[.int .i64 (numW (st % 32) af), .bool (badW (st % 32) af)] ∧ ∃ d, w' = (w.alloc (.cells #[.int .i64 st, .int .i64 af, .bool false] 58)).at d) := by
  refine callW_in Try.func26 code26_is fun fr cs => ?_
  simp only [Try.ntmps26, List.size_toArray, List.length_cons, List.length_nil, Nat.reduceAdd, Nat.reduceSub, Array.replicate_succ, Array.replicate_zero, List.push_toArray, List.append_toArray, List.nil_append, List.cons_append]
  repeat (first | (refine Walk.c rfl ?_) | (refine Walk.cRet ?_) | (refine Walk.cEnd ?_) | (refine Walk.cReg ?_; simp only [size26_0, size26_1, size26_2, size26_3, size26_4, size26_5, size26_6, List.range, List.range.loop]) | (refine Walk.opq (ho_of (by conv => lhs; whnf) (by kernel_rfl)) (by rfl) (by decide) (fun dd e he => ?_) (fun dd K hK => ?_); (· (simp [go_sem, *] at he; try (subst he; exact evR_read _ _))); go_simp; refine hK _ ?_; clear hK K; try walk_nrm) | (refine Walk.ctl rfl (fun w => stepG_unwanted (ho_of (by conv => lhs; whnf) (by kernel_rfl)) (by rfl)) ?_; walk_nrm))
  (co_applyP Walk.opw (ho_of (by conv => lhs; whnf) (by kernel_rfl)) (by rfl) (by decide) ?wev1 ?wdr1 ?wrun1; (case' wrun1 => (intro dd K hK; go_simp; simp only [alloc_at', setCell_at']; refine hK _ ?wmore1; clear hK K)); (case wdr1 => exact fun dd es hes => DR.alloc' dd es hes); (case wev1 => (intro dd e he; simp [go_sem, *] at he)); try walk_nrm)
  have hb := heap_alloc_new w (.cells #[.int .i64 st, .int .i64 af, .bool false] 58)
  have c0 : (w.alloc (.cells #[.int .i64 st, .int .i64 af, .bool false] 58)).cell? ⟨w.heap.size, 0, none⟩ = some (.int .i64 st) := (cell_of hb 0).trans rfl
  have c1 : (w.alloc (.cells #[.int .i64 st, .int .i64 af, .bool false] 58)).cell? ⟨w.heap.size, 1, none⟩ = some (.int .i64 af) := (cell_of hb 1).trans rfl
  have c2 : (w.alloc (.cells #[.int .i64 st, .int .i64 af, .bool false] 58)).cell? ⟨w.heap.size, 2, none⟩ = some (.bool false) := (cell_of hb 2).trans rfl
  clear hb
  generalize w.heap.size = X at *
  generalize w.alloc (.cells #[.int .i64 st, .int .i64 af, .bool false] 58) = w1 at *
  have hbk := bits_and31 st
  generalize st % 32 = k at *
  by_cases h0 : 0 ≤ af
  · have d0 : decide (0 ≤ af) = true := decide_eq_true h0
    by_cases h1 : af ≤ k
    · have d1 : decide (af ≤ k) = true := decide_eq_true h1
      repeat (first | (refine Walk.c rfl ?_) | (refine Walk.cRet ?_) | (refine Walk.cEnd ?_) | (refine Walk.cReg ?_; simp only [size26_0, size26_1, size26_2, size26_3, size26_4, size26_5, size26_6, List.range, List.range.loop]) | (refine Walk.opq (ho_of (by conv => lhs; whnf) (by kernel_rfl)) (by rfl) (by decide) (fun dd e he => ?_) (fun dd K hK => ?_); (· (simp [go_sem, *] at he; try (subst he; exact evR_read _ _))); go_simp; refine hK _ ?_; clear hK K; try walk_nrm) | (refine Walk.ctl rfl (fun w => stepG_unwanted (ho_of (by conv => lhs; whnf) (by kernel_rfl)) (by rfl)) ?_; walk_nrm))
      refine Walk.ctl rfl (fun w => stepG_leave rfl rfl Try.func26 (results_tmp2 rfl _ _ w) (events_results_tmp2 rfl _ _)) (.stop fun d => ⟨_, ⟨?_, d, rfl⟩, rfl⟩)
      simp [numW, badW, h0, h1]
    · have d1 : decide (af ≤ k) = false := decide_eq_false h1
      repeat (first | (refine Walk.c rfl ?_) | (refine Walk.cRet ?_) | (refine Walk.cEnd ?_) | (refine Walk.cReg ?_; simp only [size26_0, size26_1, size26_2, size26_3, size26_4, size26_5, size26_6, List.range, List.range.loop]) | (refine Walk.opq (ho_of (by conv => lhs; whnf) (by kernel_rfl)) (by rfl) (by decide) (fun dd e he => ?_) (fun dd K hK => ?_); (· (simp [go_sem, *] at he; try (subst he; exact evR_read _ _))); go_simp; refine hK _ ?_; clear hK K; try walk_nrm) | (refine Walk.ctl rfl (fun w => stepG_unwanted (ho_of (by conv => lhs; whnf) (by kernel_rfl)) (by rfl)) ?_; walk_nrm))
      refine Walk.ctl rfl (fun w => stepG_leave rfl rfl Try.func26 (results_tmp2 rfl _ _ w) (events_results_tmp2 rfl _ _)) (.stop fun d => ⟨_, ⟨?_, d, rfl⟩, rfl⟩)
      simp [numW, badW, h1]
  · have d0 : decide (0 ≤ af) = false := decide_eq_false h0
    repeat (first | (refine Walk.c rfl ?_) | (refine Walk.cRet ?_) | (refine Walk.cEnd ?_) | (refine Walk.cReg ?_; simp only [size26_0, size26_1, size26_2, size26_3, size26_4, size26_5, size26_6, List.range, List.range.loop]) | (refine Walk.opq (ho_of (by conv => lhs; whnf) (by kernel_rfl)) (by rfl) (by decide) (fun dd e he => ?_) (fun dd K hK => ?_); (· (simp [go_sem, *] at he; try (subst he; exact evR_read _ _))); go_simp; refine hK _ ?_; clear hK K; try walk_nrm) | (refine Walk.ctl rfl (fun w => stepG_unwanted (ho_of (by conv => lhs; whnf) (by kernel_rfl)) (by rfl)) ?_; walk_nrm))
    refine Walk.ctl rfl (fun w => stepG_leave rfl rfl Try.func26 (results_tmp2 rfl _ _ w) (events_results_tmp2 rfl _ _)) (.stop fun d => ⟨_, ⟨?_, d, rfl⟩, rfl⟩)
    simp [numW, badW, h0]
end Go.Proofs.Ytgiiicdpbdfemaa
end

/- Walkers as the threads of a run: what is known of them, and that each works as it says. -/
section
namespace Go.Proofs.Ytgiiicdpbdfemaa
open Go.Conc Go.RowKit Go.Relay
open Go.ConcN (upd upd_ne upd_same)

/-- Walks: which are nil; how many steps each does, and behind how many it panics. -/
structure Wlk where
  nl : Nat → Bool
  st : Nat → Int
  af : Nat → Int
/-- The walkers of a run: how many, the board's block, each one's block; what else stands. -/
structure WG where
  n : Nat
  B : Nat
  W : Nat → Nat
  s : Wlk
  ro : Nat → Option Obj

/-- Where they are: how many steps each has done, who has ended, how many steps in all, what stands upon the board. -/
structure WX where
  dn : Nat → Nat
  out : Nat → Option Bool
  cnt : Nat
  list : List Nat
def wx0 : WX := ⟨fun _ => 0, fun _ => none, 0, []⟩
def setW (s : Wlk) (x : WX) (i : Nat) : WX :=
  { x with out := upd x.out i (if s.nl i then some false else if (x.dn i : Int) < numW (s.st i) (s.af i) then none else some (badW (s.st i) (s.af i))) }
def doneW (x : WX) (i : Nat) : WX := { x with dn := upd x.dn i (x.dn i + 1), cnt := x.cnt + 1, list := x.list ++ [i] }
def nextW (s : Wlk) (x : WX) (i : Nat) : WX := setW s (doneW x i) i

theorem numW_nonneg {steps after : Int} (h : 0 ≤ steps) : 0 ≤ numW steps after := by
  unfold numW badW; split
  · next h => simp at h; omega
  · omega
theorem numW_le (steps after : Int) : numW steps after ≤ steps := by
  unfold numW badW; split
  · next h => simp at h; omega
  · omega

inductive WR where
  | wk (i : Nat)
  | bd
  | bl
  | ro

/-- What is known, but of thread h, which works. -/
structure WInv (g : WG) (S : Stile) (h : Option Nat) (k : Nat) (o : Nat → Option Role) (x : WX) (cs : Nat → List Frame) (w : World) (κ : Nat → Option WR) (la : Option Addr) (cap : Nat) (us : Nat → Nat → Value) : Prop where
  lt : ∀ b r, κ b = some r → o b = none ∧ b < w.heap.size
  n : S.n = g.n
  wk : ∀ i, i < g.n → g.s.nl i = false → w.heap[g.W i]? = some (.cells #[.pointer (some ⟨g.B, 0, none⟩), .int .i64 i, .int .i64 (g.s.st i), .int .i64 (g.s.af i)] 127)
  bd : w.heap[g.B]? = some (.cells #[.slice la x.list.length cap] 49)
  row : w.ownsRow 0 3 1 (.slice la x.list.length cap) x.list.length (x.list.map fun i => .int .i64 (i : Nat))
  rW : ∀ i, i < g.n → g.s.nl i = false → κ (g.W i) = some (.wk i)
  rB : κ g.B = some .bd
  rL : ∀ b, (Value.slice la x.list.length cap).ownBlock = some b → κ b = some .bl
  rT : κ S.tb = some .ro
  tb : ∀ i, i < g.n → w.cell? ⟨S.tb, i, none⟩ = some (S.F i)
  sch : ∀ (j : Nat) (z : Int), S.sl[j]? = some z → ∃ s so, S.sa = some ⟨s, so, none⟩ ∧ κ s = some .ro ∧ w.cell? ⟨s, so + j, none⟩ = some (.int .i64 z)
  F : ∀ i, i < g.n → S.F i = if g.s.nl i then .nilFunc else .func (.func 57) #[.pointer (some ⟨g.W i, 0, none⟩)] #[]
  st0 : ∀ i, 0 ≤ g.s.st i ∧ g.s.st i < 32
  len : x.list.length = x.cnt
  stands : ∀ i, h ≠ some i → i < k → i < g.n → x.out i = none → g.s.nl i = false ∧ (x.dn i : Int) < numW (g.s.st i) (g.s.af i) ∧
    cs i = [(base 57).at (at57 (g.W i) (.iface 161 (.pointer (some ⟨S.p i, 0, none⟩))) (x.dn i) (us i)) (.inRegion reg57_6 [1] :: k57)]
  fresh : ∀ i, k ≤ i → h ≠ some i → x.dn i = 0
  kn : k ≤ g.n
  rr : ∀ b ob, g.ro b = some ob → κ b = some .ro ∧ w.heap[b]? = some ob

def invW (g : WG) (S : Stile) (k : Nat) (o : Nat → Option Role) (x : WX) (cs : Nat → List Frame) (w : World) : Prop := ∃ κ la cap us, WInv g S none k o x cs w κ la cap us

section
variable {V : Nat → Option Wait} {g : WG} {S : Stile} {h : Option Nat} {k : Nat} {o : Nat → Option Role} {x : WX} {cs : Nat → List Frame} {w : World} {κ : Nat → Option WR} {la : Option Addr} {cap : Nat} {us : Nat → Nat → Value}

theorem WInv.two (_ : WInv g S h k o x cs w κ la cap us) {b b' : Nat} {r r' : WR} (h : κ b = some r) (h' : κ b' = some r') (hr : r ≠ r') : b ≠ b' := by
  rintro rfl
  rw [h] at h'
  exact hr (Option.some.inj h')

theorem WInv.at (P : WInv g S h k o x cs w κ la cap us) (d : Nat) : WInv g S h k o x cs (w.at d) κ la cap us :=
  ⟨P.lt, P.n, P.wk, P.bd, P.row, P.rW, P.rB, P.rL, P.rT, P.tb, P.sch, P.F, P.st0, P.len, P.stands, P.fresh, P.kn, P.rr⟩

theorem invW_keep {o' : Nat → Option Role} {w' : World} (h : invW g S k o x cs w) (K : Keeps o o' w w') : invW g S k o' x cs w' := by
  obtain ⟨κ, la, cap, us, P⟩ := h
  have hb : ∀ b r, κ b = some r → w'.heap[b]? = w.heap[b]? := fun b r h => (K.same b (P.lt b r h).2 (P.lt b r h).1).2
  refine ⟨κ, la, cap, us, ⟨fun b r h => ⟨(K.same b (P.lt b r h).2 (P.lt b r h).1).1, Nat.lt_of_lt_of_le (P.lt b r h).2 K.size⟩, P.n, fun i hi hn => (hb _ _ (P.rW i hi hn)).trans (P.wk i hi hn), (hb _ _ P.rB).trans P.bd, row_same P.row fun b e => hb b _ (P.rL b e), P.rW, P.rB, P.rL, P.rT, fun i hi => ?_, fun j z hz => ?_, P.F, P.st0, P.len, P.stands, P.fresh, P.kn, fun b ob e => ⟨(P.rr b ob e).1, (hb b _ (P.rr b ob e).1).trans (P.rr b ob e).2⟩⟩⟩
  · exact (World.cell?_of_block (a := ⟨S.tb, i, none⟩) (hb _ _ P.rT)).trans (P.tb i hi)
  · obtain ⟨s, so, e, hs, hc⟩ := P.sch j z hz
    exact ⟨s, so, e, hs, (World.cell?_of_block (a := ⟨s, so + j, none⟩) (hb _ _ hs)).trans hc⟩

/-- Thread i's work is done for now: what is known of all. -/
theorem WInv.settled {i : Nat} (P : WInv g S (some i) k o x cs w κ la cap us) (l : List Frame) (u : Nat → Value)
    (hs : (setW g.s x i).out i = none → g.s.nl i = false ∧ (x.dn i : Int) < numW (g.s.st i) (g.s.af i) ∧ l = [(base 57).at (at57 (g.W i) (.iface 161 (.pointer (some ⟨S.p i, 0, none⟩))) (x.dn i) u) (.inRegion reg57_6 [1] :: k57)]) (hi : i < k) :
    WInv g S none k o (setW g.s x i) (upd cs i l) w κ la cap (upd us i u) := by
  refine ⟨P.lt, P.n, P.wk, P.bd, P.row, P.rW, P.rB, P.rL, P.rT, P.tb, P.sch, P.F, P.st0, P.len, fun j _ hj hjn ho => ?_, fun j hj _ => P.fresh j hj (fun e => by cases e; omega), P.kn, P.rr⟩
  by_cases e : j = i
  · subst e
    rw [upd_same, upd_same]
    exact hs ho
  · have ho' : x.out j = none := by
      have : upd x.out i _ j = none := ho
      rwa [upd_ne _ _ e] at this
    obtain ⟨h1, h2, h3⟩ := P.stands j (fun e' => e (by cases e'; rfl)) hj hjn ho'
    rw [upd_ne _ _ e, upd_ne _ _ e]
    exact ⟨h1, h2, h3⟩

/-- A thread goes on from its loop's head. -/
theorem settle57 {i : Nat} {w0 : World} (P : WInv g S (some i) k o x cs w κ la cap us) (hi : i < k) (hnl : g.s.nl i = false) (hle : (x.dn i : Int) ≤ numW (g.s.st i) (g.s.af i)) (hsz : w0.heap.size ≤ w.heap.size) (hown : ∀ b r, o b = some r → w.heap[b]? = w0.heap[b]?) (f : Frame) (fs : List Frame) (u : Nat → Value) :
    Walk Try.prog false (DR V) (Fin (invW g S) WX.out S k o (setW g.s x i) cs i f fs w0) (G (hd57 (g.W i) (.iface 161 (.pointer (some ⟨S.p i, 0, none⟩))) (x.dn i) u) (f :: fs)) w := by
  have hin : i < g.n := Nat.lt_of_lt_of_le hi P.kn
  have hb := P.wk i hin hnl
  have h1 := (cell_of hb 1).trans rfl
  have h2 := (cell_of hb 2).trans rfl
  have h3 := (cell_of hb 3).trans rfl
  have hn := numW_le (g.s.st i) (g.s.af i)
  have hout : (setW g.s x i).out i = if (x.dn i : Int) < numW (g.s.st i) (g.s.af i) then none else some (badW (g.s.st i) (g.s.af i)) := by
    show upd x.out i _ i = _
    rw [upd_same, hnl]; rfl
  have hinv : ∀ (d : Nat), (setW g.s x i).out i ≠ none → invW g S k o (setW g.s x i) (upd cs i []) (w.at d) := fun d hne => ⟨κ, la, cap, _, (P.settled [] (fun _ => undef) (fun e => absurd e hne) hi).at d⟩
  by_cases hlt : (x.dn i : Int) < numW (g.s.st i) (g.s.af i)
  · have hlt2 : (x.dn i : Int) < g.s.st i := by omega
    have hna : (x.dn i : Int) ≠ g.s.af i := fun e => by
      have : numW (g.s.st i) (g.s.af i) = g.s.af i := by unfold numW badW; rw [if_pos]; simp; omega
      omega
    refine (walk57_more (g.W i) 161 (.pointer (some ⟨S.p i, 0, none⟩)) (x.dn i) (g.s.st i) (g.s.af i) u (f :: fs) w h2 h3 hlt2 hna).then ?_
    rintro g1 w1 ⟨⟨u', rfl⟩, d, rfl⟩
    refine Walk.back ?_ d
    refine Walk.invokeStep (a := at57 (g.W i) (.iface 161 (.pointer (some ⟨S.p i, 0, none⟩))) (x.dn i) u') (S.p i) (ho_of (by conv => lhs; whnf) (by kernel_rfl)) (by rfl) (by decide) rfl rfl ?_
    refine .stop fun d' => ⟨hsz, fun b r hb => hown b r hb, _, ⟨κ, la, cap, _, (P.settled _ u' (fun _ => ⟨hnl, hlt, rfl⟩) hi).at d'⟩, .inl ⟨?_, rfl⟩⟩
    rw [hout, if_pos hlt]
  · have hin' : (x.dn i : Int) = numW (g.s.st i) (g.s.af i) := by omega
    rw [if_neg hlt] at hout
    have hne : (setW g.s x i).out i ≠ none := by rw [hout]; simp
    cases hbd : badW (g.s.st i) (g.s.af i) with
    | true =>
      rw [hbd] at hout
      have ha : g.s.af i = x.dn i := by unfold numW at hin'; rw [hbd] at hin'; simpa using hin'.symm
      by_cases hlt2 : (x.dn i : Int) < g.s.st i
      · rw [ha] at h3
        refine (walk57_break (g.W i) _ (x.dn i) (g.s.st i) i u f fs w h1 h2 h3 hlt2).mono ?_
        rintro g1 w1 ⟨⟨t, v, ht, rfl⟩, d, rfl⟩
        exact ⟨hsz, fun b r hb => hown b r hb, [], hinv d hne, .inr (.inr ⟨hout, t, v, ht, rfl⟩)⟩
      · refine (walk57_end (g.W i) _ (x.dn i) (g.s.st i) (g.s.af i) i u f fs w h1 h2 h3 (by omega)).mono ?_
        rintro g1 w1 ⟨h, d, rfl⟩
        rcases h with ⟨_, t, v, ht, rfl⟩ | ⟨hne', _⟩
        · exact ⟨hsz, fun b r hb => hown b r hb, [], hinv d hne, .inr (.inr ⟨hout, t, v, ht, rfl⟩)⟩
        · omega
    | false =>
      rw [hbd] at hout
      have hst : g.s.st i = x.dn i := by unfold numW at hin'; rw [hbd] at hin'; simpa using hin'.symm
      have hst0 := (P.st0 i).1
      have hna : g.s.af i ≠ g.s.st i := fun e => by
        unfold badW at hbd
        rw [e] at hbd
        simp at hbd; omega
      refine (walk57_end (g.W i) _ (x.dn i) (g.s.st i) (g.s.af i) i u f fs w h1 h2 h3 (by omega)).mono ?_
      rintro g1 w1 ⟨h, d, rfl⟩
      rcases h with ⟨he, _⟩ | ⟨_, rfl⟩
      · exact absurd he hna
      · exact ⟨hsz, fun b r hb => hown b r hb, [], hinv d hne, .inr (.inl ⟨hout, rfl⟩)⟩

/-- A thread starts. -/
theorem startW (f : Frame) (fs : List Frame) (h : invW g S k o x cs w) (hk : k < S.n) :
    (∃ fi fn first cap, S.F k = .func (.func fi) first cap ∧ Try.prog.funcs[fi]? = some fn ∧ (fn.name == "runtime.NumGoroutine") = false ∧ fn.body.isNone = false ∧
      Walk Try.prog false (DR V) (Fin (invW g S) WX.out S (k + 1) o (setW g.s x k) cs k f fs w) (G (Frame.enter Try.prog fi (first ++ #[.iface 161 (.pointer (some ⟨S.p k, 0, none⟩))] ++ cap) .normal) (f :: fs)) w) ∨
    (S.F k = .nilFunc ∧ (setW g.s x k).out k = some false ∧ invW g S (k + 1) o (setW g.s x k) (upd cs k []) w) := by
  obtain ⟨κ, la, cap, us, P⟩ := h
  have hi : k < g.n := P.n ▸ hk
  have P1 : WInv g S (some k) (k + 1) o x cs w κ la cap us := by
    refine ⟨P.lt, P.n, P.wk, P.bd, P.row, P.rW, P.rB, P.rL, P.rT, P.tb, P.sch, P.F, P.st0, P.len, fun j hj hjk hjn ho => P.stands j (by simp) ?_ hjn ho, fun j hj _ => P.fresh j (by omega) (by simp), hi, P.rr⟩
    have : j ≠ k := fun e => hj (by rw [e])
    omega
  have hF := P.F k hi
  cases hnl : g.s.nl k with
  | true =>
    right
    rw [hnl] at hF
    have ho : (setW g.s x k).out k = some false := by
      show upd x.out k _ k = _
      rw [upd_same, hnl]; rfl
    exact ⟨hF, ho, κ, la, cap, _, P1.settled [] (fun _ => undef) (fun e => by rw [ho] at e; cases e) (Nat.lt_succ_self _)⟩
  | false =>
    left
    rw [hnl] at hF
    refine ⟨57, Try.f57, #[.pointer (some ⟨g.W k, 0, none⟩)], #[], hF, Try.func57, by decide, by rfl, ?_⟩
    have harr : (#[.pointer (some ⟨g.W k, 0, none⟩)] ++ #[.iface 161 (.pointer (some ⟨S.p k, 0, none⟩))] ++ #[] : Array Value) = #[.pointer (some ⟨g.W k, 0, none⟩), .iface 161 (.pointer (some ⟨S.p k, 0, none⟩))] := rfl
    rw [harr]
    refine (walk57_in (g.W k) _ (f :: fs) w).then ?_
    rintro g1 w1 ⟨⟨u, rfl⟩, d, rfl⟩
    refine Walk.back ?_ d
    have hd : x.dn k = 0 := P.fresh k (Nat.le_refl _) (by simp)
    have := settle57 (V := V) (w0 := w) P1 (Nat.lt_succ_self _) hnl (by rw [hd]; exact numW_nonneg (P.st0 k).1) (Nat.le_refl _) (fun _ _ _ => rfl) f fs u
    rw [hd] at this
    exact this

/-- A thread has its turn. -/
theorem goW {i : Nat} {c : Frame} {l : List Frame} (f : Frame) (fs : List Frame) (h : invW g S k o x cs w) (hik : i < k) (hout : x.out i = none) (hcs : cs i = c :: l) (hc : x.cnt < 1048576) (hA : ∀ b, o b = none → Apart V b) (hlt : ∀ b r, o b = some r → b < w.heap.size) :
    Walk Try.prog false (DR V) (Fin (invW g S) WX.out S k o (nextW g.s x i) cs i f fs w) (G (c.finish (.tuple #[])) (l ++ f :: fs)) w := by
  obtain ⟨κ, la, cap, us, P⟩ := h
  have hi : i < g.n := Nat.lt_of_lt_of_le hik P.kn
  obtain ⟨hnl, hdn, e6⟩ := P.stands i (by simp) hik hi hout
  rw [e6] at hcs
  cases hcs
  rw [List.nil_append]
  have hnl1 := numW_le (g.s.st i) (g.s.af i)
  have hst := (P.st0 i).2
  have hW := P.wk i hi hnl
  have hrW := P.rW i hi hnl
  have hN : Note V (g.W i) g.B 0 i la x.list.length cap (x.list.map fun i => .int .i64 (i : Nat)) w :=
    ⟨(cell_of hW 0).trans rfl, (cell_of hW 1).trans rfl, (cell_of P.bd 0).trans rfl, frozen_of P.bd 0, P.row, (hA _ (P.lt _ _ P.rB).1).1 _ rfl, fun b hb => hA b (P.lt _ _ (P.rL b hb)).1, fun e => P.two (P.rL _ e) hrW (by simp) rfl, fun e => P.two (P.rL _ e) P.rB (by simp) rfl, by have := P.len; omega, Nat.zero_le _⟩
  refine (walk57_back (g.W i) g.B 0 i la x.list.length cap (x.list.map fun i => .int .i64 (i : Nat)) (.iface 161 (.pointer (some ⟨S.p i, 0, none⟩))) (x.dn i) (us i) (f :: fs) w hN (by omega) (by omega)).then ?_
  rintro g1 w1 ⟨b, cap', w3, A, ⟨u', rfl⟩, d, rfl⟩
  refine Walk.back ?_ d
  have hs1 : (w.alloc (.cells #[.int .i64 i] 3)).heap.size = w.heap.size + 1 := by simp
  have hsz3 : w.heap.size ≤ w3.heap.size := by have := A.grown.size; omega
  have hfr : ∀ b, w.heap.size ≤ b → o b = none := fun b hb => by
    cases h : o b with
    | none => rfl
    | some r => have := hlt b r h; omega
  have hk3 : ∀ b r, κ b = some r → r ≠ .bl → w3.heap[b]? = w.heap[b]? := fun b r h hr => hN.keep A (P.lt b r h).2 fun e => P.two h (P.rL b e) hr rfl
  have hk4 : ∀ b r, κ b = some r → r ≠ .bl → r ≠ .bd → (w3.setCell ⟨g.B, 0, none⟩ (.slice (some ⟨b, 0, none⟩) (x.list.length + 1) cap')).heap[b]? = w.heap[b]? := fun b r h h1 h2 => (heap_set_other _ _ _ _ (P.two h P.rB h2)).trans (hk3 b r h h1)
  have hk5 : ∀ v b r, κ b = some r → r ≠ .bl → r ≠ .bd → (w3.setCell ⟨g.B, 0, none⟩ v).heap[b]? = w.heap[b]? := fun v b r h h1 h2 => (heap_set_other _ _ _ _ (P.two h P.rB h2)).trans (hk3 b r h h1)
  have hbB : b ≠ g.B := by
    rcases A.at_ with h | h
    · exact P.two (P.rL b h) P.rB (by simp)
    · have := (P.lt _ _ P.rB).2; omega
  have hnb : κ b = some .bl ∨ (κ b = none ∧ w.heap.size ≤ b) := by
    rcases A.at_ with h | h
    · exact .inl (P.rL b h)
    · right
      refine ⟨?_, by omega⟩
      cases hb : κ b with
      | none => rfl
      | some r => have := (P.lt b r hb).2; omega
  have hkap : ∀ b' r, κ b' = some r → upd κ b (some .bl) b' = some r := fun b' r h => by
    by_cases e : b' = b
    · subst e
      rw [upd_same]
      rcases hnb with h' | ⟨h', _⟩
      · rw [← h, h']
      · rw [h] at h'; cases h'
    · rw [upd_ne _ _ e]; exact h
  have hlen : (doneW x i).list.length = x.list.length + 1 := by simp [doneW]
  have hmap : ((doneW x i).list.map fun i => (.int .i64 (i : Nat) : Value)) = (x.list.map fun i => .int .i64 (i : Nat)) ++ [.int .i64 (i : Nat)] := by simp [doneW]
  have P2 : WInv g S (some i) k o (doneW x i) cs (w3.setCell ⟨g.B, 0, none⟩ (.slice (some ⟨b, 0, none⟩) (x.list.length + 1) cap')) (upd κ b (some .bl)) (some ⟨b, 0, none⟩) cap' us := by
    refine ⟨fun b' r h => ?_, P.n, fun j hj hn => (hk5 _ _ _ (P.rW j hj hn) (by simp) (by simp)).trans (P.wk j hj hn), ?_, ?_, fun j hj hn => hkap _ _ (P.rW j hj hn), hkap _ _ P.rB, fun b' h => ?_, hkap _ _ P.rT, fun j hj => ?_, fun j z hz => ?_, P.F, P.st0, ?_, fun j hj hjk hjn ho => ?_, fun j hj hne => ?_, P.kn, fun b' ob e => ⟨hkap _ _ (P.rr b' ob e).1, (hk5 _ _ _ (P.rr b' ob e).1 (by simp) (by simp)).trans (P.rr b' ob e).2⟩⟩
    · rw [size_set]
      by_cases e : b' = b
      · subst e
        refine ⟨?_, A.lt⟩
        rcases hnb with h' | ⟨_, h'⟩
        · exact (P.lt _ _ h').1
        · exact hfr _ h'
      · rw [upd_ne _ _ e] at h
        have := P.lt b' r h
        exact ⟨this.1, by omega⟩
    · rw [hlen]
      refine (heap_set_self _ _ ((hk3 _ _ P.rB (by simp)).trans P.bd)).trans ?_
      simp
    · rw [hlen, hmap]
      refine row_same A.row fun b' hb' => heap_set_other _ _ _ _ ?_
      have : b = b' := by simpa [Value.ownBlock] using hb'
      subst this
      exact hbB
    · have : b = b' := by simpa [Value.ownBlock] using h
      subst this
      exact upd_same _ _ _
    · exact (World.cell?_of_block (a := ⟨S.tb, j, none⟩) (hk5 _ _ _ P.rT (by simp) (by simp))).trans (P.tb j hj)
    · obtain ⟨s, so, e, hs, hc⟩ := P.sch j z hz
      exact ⟨s, so, e, hkap _ _ hs, (World.cell?_of_block (a := ⟨s, so + j, none⟩) (hk5 _ _ _ hs (by simp) (by simp))).trans hc⟩
    · rw [hlen]
      show _ = x.cnt + 1
      have := P.len; omega
    · have e : j ≠ i := fun e => hj (by rw [e])
      have := P.stands j (by simp) hjk hjn ho
      show _ ∧ ((upd x.dn i (x.dn i + 1) j : Nat) : Int) < _ ∧ _ = [(base 57).at (at57 _ _ ((upd x.dn i (x.dn i + 1) j : Nat) : Int) _) _]
      rw [upd_ne _ _ e]
      exact this
    · have e : j ≠ i := fun e => hne (by rw [e])
      show upd x.dn i (x.dn i + 1) j = 0
      rw [upd_ne _ _ e]
      exact P.fresh j hj (by simp)
  have hdn' : (doneW x i).dn i = x.dn i + 1 := upd_same _ _ _
  have hh : ∀ b' r, o b' = some r → (w3.setCell ⟨g.B, 0, none⟩ (.slice (some ⟨b, 0, none⟩) (x.list.length + 1) cap')).heap[b']? = w.heap[b']? := fun b' r h => by
    have hne : ∀ b'' r', κ b'' = some r' → b' ≠ b'' := fun b'' r' h' e => by rw [e, (P.lt _ _ h').1] at h; cases h
    exact (heap_set_other _ _ _ _ (hne _ _ P.rB)).trans (hN.keep A (hlt b' r h) fun e => hne _ _ (P.rL _ e) rfl)
  have hfin := settle57 (V := V) (w0 := w) P2 hik hnl (by rw [hdn']; omega) (by rw [size_set]; exact hsz3) hh f fs u'
  rw [hdn'] at hfin
  have hcast : ((x.dn i + 1 : Nat) : Int) = (x.dn i : Int) + 1 := by omega
  rw [hcast] at hfin
  exact hfin
end

theorem plain57 (a : Act) (td : List Item) (h : a.defers = []) : Plain ((base 57).at a td) := ⟨h, rfl, Try.f57, Try.func57⟩

/-- The crew of walkers. -/
noncomputable def crewW (g : WG) (S : Stile) : Crew S WX where
  inv := invW g S
  born := setW g.s
  next := nextW g.s
  out := WX.out
  cnt := WX.cnt
  cntBorn := fun _ _ => rfl
  cntNext := fun _ _ => rfl
  keep := invW_keep
  bornOut := fun x i j h => upd_ne _ _ h
  nextOut := fun x i j h => upd_ne _ _ h
  shape := fun {k o x cs w i} h hik hout => by
    obtain ⟨κ, la, cap, us, P⟩ := h
    obtain ⟨_, _, e6⟩ := P.stands i (by simp) hik (Nat.lt_of_lt_of_le hik P.kn) hout
    refine ⟨⟨_, [], e6⟩, fun f hf => ?_⟩
    rw [e6] at hf
    rw [List.mem_singleton.1 hf]
    exact plain57 _ _ rfl
  thr := fun {k o x cs w i} h _ hi => by
    obtain ⟨κ, la, cap, us, P⟩ := h
    exact P.tb i (P.n ▸ hi)
  sch := fun {k o x cs w j z} h hz => by
    obtain ⟨κ, la, cap, us, P⟩ := h
    obtain ⟨s, so, e, _, hc⟩ := P.sch j z hz
    exact ⟨s, so, e, hc⟩
  start := fun f fs h hk _ _ _ => startW f fs h hk
  go := fun f fs h hik hout hcs hc hA hlt => goW f fs h hik hout hcs hc hA hlt
end Go.Proofs.Ytgiiicdpbdfemaa
end

/- Runs by a schedule, told apart from all memory: a run with a most is the beginning of one with a greater most. -/
section
namespace Go.Proofs.Ytgiiicdpbdfemaa
open Go.ConcN (upd upd_ne upd_same)

section
variable {X : Type}
/-- st' comes from st by steps of threads that had one to do. -/
inductive Stps (C : Abs X) : X × List Nat → X × List Nat → Prop
  | refl (st : X × List Nat) : Stps C st st
  | step {st st' : X × List Nat} (i : Nat) (h : Stps C st st') (hi : i < C.n) (ho : C.out st'.1 i = none) : Stps C st (C.next st'.1 i, st'.2 ++ [i])

theorem Stps.trans {C : Abs X} {a b c : X × List Nat} (h : Stps C a b) (k : Stps C b c) : Stps C a c := by
  induction k with
  | refl => exact h
  | step i _ hi ho ih => exact .step i ih hi ho
theorem Stps.pre {C : Abs X} {a b : X × List Nat} (h : Stps C a b) : ∃ l, b.2 = a.2 ++ l ∧ (l = [] → b = a) ∧ (l ≠ [] → ∃ i, i < C.n ∧ C.out a.1 i = none) := by
  induction h with
  | refl => exact ⟨[], by simp, fun _ => rfl, fun h => absurd rfl h⟩
  | @step st' i h hi ho ih =>
    obtain ⟨l, h1, h2, h3⟩ := ih
    refine ⟨l ++ [i], by simp [h1], fun e => by simp at e, fun _ => ?_⟩
    by_cases hl : l = []
    · rw [h2 hl] at ho
      exact ⟨i, hi, ho⟩
    · exact h3 hl
/-- Who has ended has ended for good. -/
theorem Stps.out {C : Abs X} (hn : ∀ x i j, j ≠ i → C.out (C.next x i) j = C.out x j) {a b : X × List Nat} (h : Stps C a b) {j : Nat} {v : Bool} (hv : C.out a.1 j = some v) : C.out b.1 j = some v := by
  induction h with
  | refl => exact hv
  | step i _ hi ho ih =>
    have hne : j ≠ i := fun e => by rw [e, ho] at ih; cases ih
    show C.out (C.next _ i) j = _
    rw [hn _ _ _ hne]; exact ih
/-- What a step keeps. -/
theorem Stps.keep {C : Abs X} {P : X × List Nat → Prop} (hP : ∀ st i, P st → i < C.n → C.out st.1 i = none → P (C.next st.1 i, st.2 ++ [i])) {a b : X × List Nat} (h : Stps C a b) (ha : P a) : P b := by
  induction h with
  | refl => exact ha
  | step i _ hi ho ih => exact hP _ i ih hi ho

theorem step_stps (C : Abs X) (st : X × List Nat) (z : Int) : Stps C st (stepA C st z) := by
  unfold stepA
  split
  · next h => exact .step _ (.refl st) (by omega) h.2.2.2
  · exact .refl st
theorem fold_stps (C : Abs X) : ∀ (l : List Int) (st : X × List Nat), Stps C st (l.foldl (stepA C) st)
  | [], st => .refl st
  | z :: l, st => (step_stps C st z).trans (fold_stps C l _)
theorem foldn_stps (C : Abs X) : ∀ (l : List Nat) (st : X × List Nat), Stps C st (l.foldl (fun st i => stepA C st (i : Nat)) st)
  | [], st => .refl st
  | z :: l, st => (step_stps C st z).trans (foldn_stps C l _)
theorem round_stps (C : Abs X) (st : X × List Nat) : Stps C st (roundA C st) := foldn_stps C _ st
theorem rest_stps (C : Abs X) : ∀ (f : Nat) (st : X × List Nat), Stps C st (restA C f st)
  | 0, st => .refl st
  | f + 1, st => by
    unfold restA
    split
    · exact .refl st
    · exact (round_stps C st).trans (rest_stps C f _)
theorem follow_stps (C : Abs X) (st : X × List Nat) (l : List Int) : Stps C st (followA C st l) := (fold_stps C l st).trans (rest_stps C _ _)

theorem stepA_len (C : Abs X) (st : X × List Nat) (z : Int) : st.2.length ≤ (stepA C st z).2.length := by
  unfold stepA
  split
  · simp
  · exact Nat.le_refl _
theorem roundA_mono (C : Abs X) : ∀ (l : List Nat) (st : X × List Nat), st.2.length ≤ (l.foldl (fun st i => stepA C st (i : Nat)) st).2.length
  | [], _ => Nat.le_refl _
  | _ :: l, _ => Nat.le_trans (stepA_len C _ _) (roundA_mono C l _)
theorem roundA_grow (C : Abs X) {i : Nat} (hi : i < C.n) : ∀ (l : List Nat) (st : X × List Nat), i ∈ l → overA C st = false → C.out st.1 i = none → st.2.length + 1 ≤ (l.foldl (fun st i => stepA C st (i : Nat)) st).2.length
  | [], _, h, _, _ => by cases h
  | a :: l, st, h, ho, hn => by
    rw [List.foldl_cons]
    by_cases hs : overA C st = false ∧ 0 ≤ (a : Int) ∧ (a : Int) < C.n ∧ C.out st.1 (a : Int).toNat = none
    · have : (stepA C st a).2.length = st.2.length + 1 := by unfold stepA; rw [if_pos hs]; simp
      rw [← this]
      exact roundA_mono C l _
    · have : stepA C st a = st := by unfold stepA; rw [if_neg hs]
      rw [this]
      rcases List.mem_cons.1 h with rfl | h
      · exact absurd ⟨ho, by omega, by omega, by simpa using hn⟩ hs
      · exact roundA_grow C hi l st h ho hn
theorem roundA_one (C : Abs X) {st : X × List Nat} (h : overA C st = false) : st.2.length + 1 ≤ (roundA C st).2.length := by
  have hg : goingA C st.1 ≠ 0 := by
    intro e
    unfold overA at h
    rw [e] at h
    simp at h
  obtain ⟨i, hi, hn⟩ := List.countP_pos_iff.1 (Nat.pos_of_ne_zero hg)
  have hi : i < C.n := List.mem_range.1 hi
  exact roundA_grow C hi _ _ (List.mem_range.2 hi) h (by simpa using hn)

theorem rest_on (C : Abs X) {f : Nat} {st : X × List Nat} (h : overA C st = false) : restA C (f + 1) st = restA C f (roundA C st) := by
  show (if overA C st then st else restA C f (roundA C st)) = _
  rw [h]; rfl
theorem rest_off (C : Abs X) {f : Nat} {st : X × List Nat} (h : overA C st = true) : restA C (f + 1) st = st := by
  show (if overA C st then st else restA C f (roundA C st)) = _
  rw [h]; rfl
/-- The run is over, once it has come to its end. -/
theorem restA_over (C : Abs X) : ∀ (f : Nat) (st : X × List Nat), C.most ≤ (st.2.length + f : Nat) → overA C (restA C f st) = true
  | 0, st, h => by
    unfold restA overA
    have : decide (C.most ≤ st.2.length) = true := decide_eq_true (by simpa using h)
    rw [this, Bool.or_true]
  | f + 1, st, h => by
    unfold restA
    cases ho : overA C st with
    | true => rw [if_pos rfl]; exact ho
    | false =>
      rw [if_neg (by simp)]
      have := roundA_one C ho
      exact restA_over C f _ (by omega)
theorem followA_over (C : Abs X) (st : X × List Nat) (l : List Int) : overA C (followA C st l) = true := restA_over C _ _ (by omega)

def Abs.withMost (C : Abs X) (m : Int) : Abs X := { C with most := m }

section
variable {C : Abs X} {m1 m2 : Nat}
/-- Two runs, with mosts m1 and m2: the first is the second, or the second's beginning. -/
def Both2 (C : Abs X) (m1 : Nat) (a b : X × List Nat) : Prop := Stps C a b ∧ a.2.length ≤ m1 ∧ (a = b ∨ a.2.length = m1)

theorem stps_most {m : Int} {a b : X × List Nat} (h : Stps (C.withMost m) a b) : Stps C a b := by
  induction h with
  | refl => exact .refl _
  | step i _ hi ho ih => exact .step i ih hi ho

theorem over_most (m : Nat) (st : X × List Nat) : overA (C.withMost m) st = (decide (goingA C st.1 = 0) || decide (m ≤ st.2.length)) := by
  unfold overA
  have : decide ((C.withMost m).most ≤ (st.2.length : Int)) = decide (m ≤ st.2.length) := decide_eq_decide.2 (by show (m : Int) ≤ _ ↔ _; omega)
  rw [this]
  rfl

theorem Both2.stp (hm : m1 ≤ m2) {a b : X × List Nat} (h : Both2 C m1 a b) (z : Int) : Both2 C m1 (stepA (C.withMost m1) a z) (stepA (C.withMost m2) b z) := by
  obtain ⟨h1, h2, h3⟩ := h
  have sb := stps_most (step_stps (C.withMost m2) b z)
  by_cases hc : overA (C.withMost m1) a = false ∧ 0 ≤ z ∧ z < C.n ∧ C.out a.1 z.toNat = none
  · have ho := hc.1
    rw [over_most] at ho
    simp only [Bool.or_eq_false_iff, decide_eq_false_iff_not] at ho
    have hab : a = b := h3.resolve_right (by omega)
    subst hab
    have ho2 : overA (C.withMost m2) a = false := by
      rw [over_most]
      simp only [Bool.or_eq_false_iff, decide_eq_false_iff_not]
      omega
    have e1 : stepA (C.withMost m1) a z = (C.next a.1 z.toNat, a.2 ++ [z.toNat]) := by unfold stepA; exact if_pos hc
    have e2 : stepA (C.withMost m2) a z = (C.next a.1 z.toNat, a.2 ++ [z.toNat]) := by unfold stepA; exact if_pos ⟨ho2, hc.2⟩
    rw [e1, e2]
    exact ⟨.refl _, by simp; omega, .inl rfl⟩
  · have e1 : stepA (C.withMost m1) a z = a := by unfold stepA; exact if_neg hc
    rw [e1]
    refine ⟨h1.trans sb, h2, ?_⟩
    rcases h3 with rfl | h3
    · by_cases hc2 : overA (C.withMost m2) a = false ∧ 0 ≤ z ∧ z < C.n ∧ C.out a.1 z.toNat = none
      · right
        have ho2 := hc2.1
        rw [over_most] at ho2
        simp only [Bool.or_eq_false_iff, decide_eq_false_iff_not] at ho2
        have ho1 : overA (C.withMost m1) a = true := by
          cases h : overA (C.withMost m1) a with
          | true => rfl
          | false => exact absurd ⟨h, hc2.2⟩ hc
        rw [over_most] at ho1
        simp only [Bool.or_eq_true, decide_eq_true_eq] at ho1
        omega
      · left
        unfold stepA
        exact (if_neg hc2).symm
    · exact .inr h3
theorem Both2.fold (hm : m1 ≤ m2) : ∀ (l : List Int) {a b : X × List Nat}, Both2 C m1 a b → Both2 C m1 (l.foldl (stepA (C.withMost m1)) a) (l.foldl (stepA (C.withMost m2)) b)
  | [], _, _, h => h
  | z :: l, _, _, h => Both2.fold hm l (h.stp hm z)
theorem Both2.foldn (hm : m1 ≤ m2) : ∀ (l : List Nat) {a b : X × List Nat}, Both2 C m1 a b → Both2 C m1 (l.foldl (fun st i => stepA (C.withMost m1) st (i : Nat)) a) (l.foldl (fun st i => stepA (C.withMost m2) st (i : Nat)) b)
  | [], _, _, h => h
  | z :: l, _, _, h => Both2.foldn hm l (h.stp hm z)
theorem Both2.rest (hm : m1 ≤ m2) : ∀ (f1 f2 : Nat) {a b : X × List Nat}, Both2 C m1 a b → m1 ≤ a.2.length + f1 → f1 ≤ f2 → Both2 C m1 (restA (C.withMost m1) f1 a) (restA (C.withMost m2) f2 b)
  | 0, f2, a, b, h, hf, _ => by
    exact ⟨h.1.trans (stps_most (rest_stps (C.withMost m2) f2 b)), h.2.1, .inr (by show a.2.length = m1; have := h.2.1; omega)⟩
  | f1 + 1, 0, _, _, _, _, hf => absurd hf (by omega)
  | f1 + 1, f2 + 1, a, b, h, hf, hff => by
    obtain ⟨h1, h2, h3⟩ := h
    have sb := stps_most (rest_stps (C.withMost m2) (f2 + 1) b)
    cases ho : overA (C.withMost m1) a with
    | true =>
      have e1 : restA (C.withMost m1) (f1 + 1) a = a := rest_off _ ho
      rw [e1]
      by_cases hl : a.2.length = m1
      · exact ⟨h1.trans sb, h2, .inr hl⟩
      · have hab : a = b := h3.resolve_right hl
        subst hab
        rw [over_most] at ho
        simp only [Bool.or_eq_true, decide_eq_true_eq] at ho
        have hg : goingA C a.1 = 0 := by omega
        have ho2 : overA (C.withMost m2) a = true := by
          rw [over_most]
          simp only [Bool.or_eq_true, decide_eq_true_eq]
          exact .inl hg
        have e2 : restA (C.withMost m2) (f2 + 1) a = a := rest_off _ ho2
        rw [e2]
        exact ⟨.refl a, h2, .inl rfl⟩
    | false =>
      have hlen := roundA_one (C.withMost m1) ho
      have e1 : restA (C.withMost m1) (f1 + 1) a = restA (C.withMost m1) f1 (roundA (C.withMost m1) a) := rest_on _ ho
      rw [e1]
      rw [over_most] at ho
      simp only [Bool.or_eq_false_iff, decide_eq_false_iff_not] at ho
      have hab : a = b := h3.resolve_right (by omega)
      subst hab
      have ho2 : overA (C.withMost m2) a = false := by
        rw [over_most]
        simp only [Bool.or_eq_false_iff, decide_eq_false_iff_not]
        omega
      have e2 : restA (C.withMost m2) (f2 + 1) a = restA (C.withMost m2) f2 (roundA (C.withMost m2) a) := rest_on _ ho2
      rw [e2]
      exact Both2.rest hm f1 f2 (Both2.foldn hm _ ⟨.refl a, h2, .inl rfl⟩) (by omega) (by omega)
theorem Both2.follow (hm : m1 ≤ m2) {a : X × List Nat} (ha : a.2.length ≤ m1) (l : List Int) : Both2 C m1 (followA (C.withMost m1) a l) (followA (C.withMost m2) a l) :=
  Both2.rest hm _ _ (Both2.fold hm l ⟨.refl a, ha, .inl rfl⟩) (by show m1 ≤ _ + (m1 : Int).toNat; omega) (by show (m1 : Int).toNat ≤ (m2 : Int).toNat; omega)
end
end
end Go.Proofs.Ytgiiicdpbdfemaa
end

/- Walkers by a schedule, told apart from all memory: what a run comes to, and one with a most. -/
section
namespace Go.Proofs.Ytgiiicdpbdfemaa
open Go.ConcN (sumTo sumTo_le upd sumTo_upd upd_ne upd_same)

def absW (s : Wlk) (n : Nat) (most : Int) : Abs WX := ⟨n, most, setW s, nextW s, WX.out⟩
/-- What Over's run of walkers comes to; its most is clamped. -/
def overW (s : Wlk) (n : Nat) (most : Int) (sl : List Int) : WX × List Nat := runA (absW s n most) wx0 sl
def goingW (n : Nat) (x : WX) : Nat := (List.range n).countP (fun i => (x.out i).isNone)
theorem abs_crewW (g : WG) (S : Stile) : absOf (crewW g S) = absW g.s S.n S.most := rfl

theorem borns_most {X : Type} (C : Abs X) (m : Int) : ∀ (n k : Nat) (x : X), bornsA (C.withMost m) n k x = bornsA C n k x
  | 0, _, _ => rfl
  | n + 1, k, _ => borns_most C m n (k + 1) _

theorem borns_at (s : Wlk) (n : Nat) (m : Int) : ∀ (r k : Nat) (x : WX), (bornsA (absW s n m) r k x).dn = x.dn ∧ (bornsA (absW s n m) r k x).list = x.list ∧
    ∀ i, (k ≤ i ∧ i < k + r → (bornsA (absW s n m) r k x).out i = (setW s x i).out i) ∧ (i < k ∨ k + r ≤ i → (bornsA (absW s n m) r k x).out i = x.out i)
  | 0, k, x => ⟨rfl, rfl, fun i => ⟨fun h => absurd h (by omega), fun _ => rfl⟩⟩
  | r + 1, k, x => by
    obtain ⟨h1, h2, h3⟩ := borns_at s n m r (k + 1) (setW s x k)
    refine ⟨h1, h2, fun i => ⟨fun h => ?_, fun h => ?_⟩⟩
    · show (bornsA (absW s n m) r (k + 1) (setW s x k)).out i = _
      by_cases e : i = k
      · subst e
        rw [(h3 i).2 (by omega)]
      · rw [(h3 i).1 (by omega)]
        show upd (setW s x k).out i _ i = upd x.out i _ i
        rw [upd_same, upd_same]
        rfl
    · show (bornsA (absW s n m) r (k + 1) (setW s x k)).out i = _
      rw [(h3 i).2 (by omega)]
      exact upd_ne _ _ (by omega)

/-- What is known of a run all along. -/
structure PW (s : Wlk) (n : Nat) (st : WX × List Nat) : Prop where
  list : st.1.list = st.2
  run : ∀ i, i < n → st.1.out i = none → s.nl i = false ∧ (st.1.dn i : Int) < numW (s.st i) (s.af i)
  le : ∀ i, i < n → st.1.dn i ≤ 31
  len : st.2.length = sumTo n st.1.dn
  lt : ∀ i, i ∈ st.2 → i < n

theorem sumTo_zero : ∀ n, sumTo n (fun _ => 0) = 0
  | 0 => rfl
  | n + 1 => by rw [sumTo, sumTo_zero n]

theorem out_set {s : Wlk} {x : WX} {i : Nat} (h : (setW s x i).out i = none) : s.nl i = false ∧ (x.dn i : Int) < numW (s.st i) (s.af i) := by
  have h : upd x.out i (if s.nl i then some false else if (x.dn i : Int) < numW (s.st i) (s.af i) then none else some (badW (s.st i) (s.af i))) i = none := h
  rw [upd_same] at h
  cases hn : s.nl i with
  | true => rw [hn] at h; cases h
  | false =>
    rw [hn] at h
    refine ⟨rfl, ?_⟩
    by_cases hl : (x.dn i : Int) < numW (s.st i) (s.af i)
    · exact hl
    · rw [if_neg hl] at h; cases h

theorem pw_born (s : Wlk) (n : Nat) (m : Int) : PW s n (bornsA (absW s n m) n 0 wx0, []) := by
  obtain ⟨h1, h2, h3⟩ := borns_at s n m n 0 wx0
  refine ⟨h2, fun i hi ho => ?_, fun i hi => ?_, ?_, fun i h => by cases h⟩
  · have ho : (bornsA (absW s n m) n 0 wx0).out i = none := ho
    rw [(h3 i).1 (by omega)] at ho
    show _ ∧ ((bornsA (absW s n m) n 0 wx0).dn i : Int) < _
    rw [h1]
    exact out_set ho
  · show (bornsA (absW s n m) n 0 wx0).dn i ≤ 31
    rw [h1]; exact Nat.zero_le _
  · show _ = sumTo n (bornsA (absW s n m) n 0 wx0).dn
    rw [h1]
    exact (sumTo_zero n).symm

theorem pw_step {s : Wlk} {n : Nat} {m : Int} (hst : ∀ i, s.st i < 32) (st : WX × List Nat) (i : Nat) (P : PW s n st) (hi : i < n) (ho : st.1.out i = none) : PW s n ((absW s n m).next st.1 i, st.2 ++ [i]) := by
  obtain ⟨hn, hd⟩ := P.run i hi ho
  have h31 := hst i
  have hle := numW_le (s.st i) (s.af i)
  refine ⟨?_, fun j hj hoj => ?_, fun j hj => ?_, ?_, fun j hj => ?_⟩
  · show st.1.list ++ [i] = st.2 ++ [i]
    rw [P.list]
  · by_cases e : j = i
    · subst e
      exact out_set (x := doneW st.1 j) hoj
    · have hoj : upd st.1.out i _ j = none := hoj
      rw [upd_ne _ _ e] at hoj
      show _ ∧ ((upd st.1.dn i (st.1.dn i + 1) j : Nat) : Int) < _
      rw [upd_ne _ _ e]
      exact P.run j hj hoj
  · show upd st.1.dn i (st.1.dn i + 1) j ≤ 31
    by_cases e : j = i
    · subst e; rw [upd_same]; omega
    · rw [upd_ne _ _ e]; exact P.le j hj
  · show (st.2 ++ [i]).length = sumTo n (fun a => upd st.1.dn i (st.1.dn i + 1) a)
    have := sumTo_upd st.1.dn (st.1.dn i + 1) (fun x => x) hi
    have hl := P.len
    rw [List.length_append, List.length_singleton]
    show st.2.length + 1 = _
    have e1 : sumTo n (fun a => st.1.dn a) = st.2.length := hl.symm
    rw [e1] at this
    have this : sumTo n (fun a => upd st.1.dn i (st.1.dn i + 1) a) + st.1.dn i = st.2.length + (st.1.dn i + 1) := this
    omega
  · rcases List.mem_append.1 hj with h | h
    · exact P.lt j h
    · rw [List.mem_singleton.1 h]; exact hi

section
variable {s : Wlk} {n : Nat}
theorem pw_run (hst : ∀ i, s.st i < 32) (m : Int) (sl : List Int) : PW s n (overW s n m sl) :=
  (follow_stps (absW s n m) _ sl).keep (P := PW s n) (fun st i P hi ho => pw_step hst st i P hi ho) (pw_born s n m)
theorem PW.short {st : WX × List Nat} (P : PW s n st) (hn : n ≤ 64) : st.2.length ≤ 1984 := by
  have := sumTo_le (f := st.1.dn) (c := 31) (j := n) P.le
  have := P.len
  omega

/-- A run with a most, and the one with the greatest. -/
theorem most_run (hst : ∀ i, s.st i < 32) (hn : n ≤ 64) (m1 : Nat) (hm : m1 ≤ 1048576) (sl : List Int) :
    (overW s n m1 sl).2 = (overW s n 1048576 sl).2.take (min m1 (overW s n 1048576 sl).2.length) ∧ (0 < goingW n (overW s n m1 sl).1 ↔ min m1 (overW s n 1048576 sl).2.length < (overW s n 1048576 sl).2.length) ∧
    (∀ i, (overW s n m1 sl).1.out i = some true → (overW s n 1048576 sl).1.out i = some true) ∧ (goingW n (overW s n m1 sl).1 = 0 → (overW s n m1 sl).1 = (overW s n 1048576 sl).1) ∧ goingW n (overW s n 1048576 sl).1 = 0 := by
  have hB := Both2.follow (C := absW s n 0) (m1 := m1) (m2 := 1048576) hm (a := (bornsA (absW s n 0) n 0 wx0, [])) (Nat.zero_le _) sl
  have e1 : followA ((absW s n 0).withMost m1) (bornsA (absW s n 0) n 0 wx0, []) sl = overW s n m1 sl := by
    show _ = followA (absW s n m1) (bornsA ((absW s n 0).withMost m1) n 0 wx0, []) sl
    rw [borns_most]; rfl
  have e2 : followA ((absW s n 0).withMost (1048576 : Nat)) (bornsA (absW s n 0) n 0 wx0, []) sl = overW s n 1048576 sl := by
    show _ = followA (absW s n 1048576) (bornsA ((absW s n 0).withMost 1048576) n 0 wx0, []) sl
    rw [borns_most]; rfl
  rw [e1, e2] at hB
  have oF : overA (absW s n 1048576) (overW s n 1048576 sl) = true := followA_over _ _ _
  have oA : overA (absW s n m1) (overW s n m1 sl) = true := followA_over _ _ _
  have hF := (pw_run (s := s) (n := n) hst 1048576 sl).short hn
  generalize overW s n m1 sl = A at *
  generalize overW s n 1048576 sl = F at *
  have gF : goingW n F.1 = 0 := by
    unfold overA at oF
    simp only [Bool.or_eq_true, decide_eq_true_eq] at oF
    rcases oF with h | h
    · exact h
    · have h : (1048576 : Int) ≤ F.2.length := h
      omega
  obtain ⟨h1, h2, h3⟩ := hB
  obtain ⟨l, p1, p2, p3⟩ := h1.pre
  have hout : ∀ i, A.1.out i = some true → F.1.out i = some true := fun i h => h1.out (C := absW s n 0) (fun x i j h => upd_ne _ _ h) h
  have oA' : goingW n A.1 = 0 ∨ m1 ≤ A.2.length := by
    unfold overA at oA
    simp only [Bool.or_eq_true, decide_eq_true_eq] at oA
    rcases oA with h | h
    · exact .inl h
    · have h : (m1 : Int) ≤ A.2.length := h
      exact .inr (by omega)
  have hlF : F.2.length = A.2.length + l.length := by rw [p1]; simp
  by_cases hl : l = []
  · have e := p2 hl
    subst e
    refine ⟨?_, ?_, hout, fun _ => rfl, gF⟩
    · rw [Nat.min_eq_right h2, List.take_length]
    · rw [Nat.min_eq_right h2, gF]
      omega
  · have hlp : 0 < l.length := List.length_pos_iff.2 hl
    have hlen : A.2.length = m1 := by
      rcases h3 with e | h
      · exfalso
        rw [e] at hlF
        omega
      · exact h
    obtain ⟨i, hi, ho⟩ := p3 hl
    have gA : 0 < goingW n A.1 := List.countP_pos_iff.2 ⟨i, List.mem_range.2 hi, by
      have ho : A.1.out i = none := ho
      rw [ho]; rfl⟩
    have hmin : min m1 F.2.length = A.2.length := by omega
    rw [hmin]
    refine ⟨?_, ?_, hout, fun h => by omega, gF⟩
    · rw [p1, List.take_left]
    · exact ⟨fun _ => by omega, fun _ => gA⟩
end
end Go.Proofs.Ytgiiicdpbdfemaa
end

/- Package turn's Over, of no threads. -/
section
namespace Go.Proofs.Ytgiiicdpbdfemaa
open Go.Conc Go.RowKit Go.Relay

variable {main : Bool} {V : Nat → Option Wait}

set_option maxHeartbeats 8000000 in
set_option maxRecDepth 100000 in
theorem begin_zero (B : Nat) (c : Frame) (cs : List Frame) (w : World) (h0 : w.cell? ⟨B, 0, none⟩ = some (.slice none 0 0)) :
    Walk Try.prog main (DR V) (fun g w' => g = G (c.finish (.tuple #[])) cs ∧ ∃ d, w' = w.at d) (G (Frame.enter Try.prog 54 #[.pointer (some ⟨B, 0, none⟩), .slice none 0 0] .normal) (c :: cs)) w := by
  rw [enter_at _ Try.func54 rfl]
  simp only [Try.f54, List.size_toArray, List.length_cons, List.length_nil, Nat.reduceAdd, Nat.reduceSub, Array.replicate_succ, Array.replicate_zero, List.push_toArray, List.append_toArray, List.nil_append, List.cons_append]
  repeat (first | (refine Walk.c rfl ?_) | (refine Walk.cReg ?_; simp only [List.size_toArray, List.length_cons, List.length_nil, Nat.reduceAdd, Nat.zero_add, List.range, List.range.loop]) | (refine Walk.cRet ?_) | (refine Walk.cEnd ?_) | (refine Walk.opq (ho_of (by conv => lhs; whnf) (by kernel_rfl)) (by rfl) (by decide) (fun dd e he => ?_) (fun dd K hK => ?_); (· (simp [go_sem, *] at he; try (subst he; exact evR_read _ _))); go_simp; refine hK _ ?_; clear hK K; try walk_nrm) | (refine Walk.ctl rfl (fun w => stepG_unwanted (ho_of (by conv => lhs; whnf) (by kernel_rfl)) (by rfl)) ?_; walk_nrm))
  refine Walk.ctl rfl (fun w => stepG_loop) ?_
  repeat (first | (refine Walk.c rfl ?_) | (refine Walk.cReg ?_; simp only [List.size_toArray, List.length_cons, List.length_nil, Nat.reduceAdd, Nat.zero_add, List.range, List.range.loop]) | (refine Walk.cRet ?_) | (refine Walk.cEnd ?_) | (refine Walk.opq (ho_of (by conv => lhs; whnf) (by kernel_rfl)) (by rfl) (by decide) (fun dd e he => ?_) (fun dd K hK => ?_); (· (simp [go_sem, *] at he; try (subst he; exact evR_read _ _))); go_simp; refine hK _ ?_; clear hK K; try walk_nrm) | (refine Walk.ctl rfl (fun w => stepG_unwanted (ho_of (by conv => lhs; whnf) (by kernel_rfl)) (by rfl)) ?_; walk_nrm))
  exact Walk.ctl rfl (fun w => stepG_leave rfl rfl Try.func54 (results_none rfl _ _ w) (events_results_none rfl _ _)) (.stop fun d => ⟨rfl, d, rfl⟩)

set_option maxHeartbeats 8000000 in
set_option maxRecDepth 100000 in
theorem end_zero (B : Nat) (c : Frame) (cs : List Frame) (w : World) (h0 : w.cell? ⟨B, 0, none⟩ = some (.slice none 0 0)) :
    Walk Try.prog main (DR V) (fun g w' => g = G (c.finish (.slice (some ⟨w.heap.size, 0, none⟩) 0 0)) cs ∧ ∃ d, w' = (w.alloc (.cells (madeCells #[.bool false] 0) 4)).at d) (G (Frame.enter Try.prog 56 #[.pointer (some ⟨B, 0, none⟩)] .normal) (c :: cs)) w := by
  rw [enter_at _ Try.func56 rfl]
  simp only [Try.f56, List.size_toArray, List.length_cons, List.length_nil, Nat.reduceAdd, Nat.reduceSub, Array.replicate_succ, Array.replicate_zero, List.push_toArray, List.append_toArray, List.nil_append, List.cons_append]
  repeat (first | (refine Walk.c rfl ?_) | (refine Walk.cReg ?_; simp only [List.size_toArray, List.length_cons, List.length_nil, Nat.reduceAdd, Nat.zero_add, List.range, List.range.loop]) | (refine Walk.cRet ?_) | (refine Walk.cEnd ?_) | (refine Walk.opq (ho_of (by conv => lhs; whnf) (by kernel_rfl)) (by rfl) (by decide) (fun dd e he => ?_) (fun dd K hK => ?_); (· (simp [go_sem, *] at he; try (subst he; exact evR_read _ _))); go_simp; refine hK _ ?_; clear hK K; try walk_nrm) | (refine Walk.ctl rfl (fun w => stepG_unwanted (ho_of (by conv => lhs; whnf) (by kernel_rfl)) (by rfl)) ?_; walk_nrm))
  have hi4 := Option.some_get (show (Try.prog.info? 4).isSome = true by kernel_rfl)
  refine Walk.make 50 (.tmp 10) (.tmp 10) rfl (by rfl) (by decide) rfl 4 _ (.bool false) 1 1 (by kernel_rfl) hi4.symm (by rfl) (by rfl) (by rfl) 0 (by rfl) (by rfl) (by omega) (by omega) ?_
  have h0' := cell_alloc w (.cells (madeCells #[.bool false] 0) 4) h0
  walk_nrm
  simp only [Value.cells, Nat.mul_one]
  repeat (first | (refine Walk.c rfl ?_) | (refine Walk.cReg ?_; simp only [List.size_toArray, List.length_cons, List.length_nil, Nat.reduceAdd, Nat.zero_add, List.range, List.range.loop]) | (refine Walk.cRet ?_) | (refine Walk.cEnd ?_) | (refine Walk.opq (ho_of (by conv => lhs; whnf) (by kernel_rfl)) (by rfl) (by decide) (fun dd e he => ?_) (fun dd K hK => ?_); (· (simp [go_sem, *] at he; try (subst he; exact evR_read _ _))); go_simp; refine hK _ ?_; clear hK K; try walk_nrm) | (refine Walk.ctl rfl (fun w => stepG_unwanted (ho_of (by conv => lhs; whnf) (by kernel_rfl)) (by rfl)) ?_; walk_nrm))
  refine Walk.ctl rfl (fun w => stepG_loop) ?_
  repeat (first | (refine Walk.c rfl ?_) | (refine Walk.cReg ?_; simp only [List.size_toArray, List.length_cons, List.length_nil, Nat.reduceAdd, Nat.zero_add, List.range, List.range.loop]) | (refine Walk.cRet ?_) | (refine Walk.cEnd ?_) | (refine Walk.opq (ho_of (by conv => lhs; whnf) (by kernel_rfl)) (by rfl) (by decide) (fun dd e he => ?_) (fun dd K hK => ?_); (· (simp [go_sem, *] at he; try (subst he; exact evR_read _ _))); go_simp; refine hK _ ?_; clear hK K; try walk_nrm) | (refine Walk.ctl rfl (fun w => stepG_unwanted (ho_of (by conv => lhs; whnf) (by kernel_rfl)) (by rfl)) ?_; walk_nrm))
  exact (Walk.ret1 (Post := fun v w' => v = .slice (some ⟨w.heap.size, 0, none⟩) 0 0 ∧ ∃ d, w' = (w.alloc (.cells (madeCells #[.bool false] 0) 4)).at d) rfl rfl Try.func56 rfl fun d => ⟨by simp, d, rfl⟩).mono fun g w' ⟨v, ⟨e, d, e'⟩, hg⟩ => ⟨by rw [hg, e], d, e'⟩

/-- Over of no threads: no order, not stuck, nobody broken. -/
theorem over_zero (sa : Option Addr) (m sc : Nat) (most : Int) (og : Value) (c : Frame) (cs : List Frame) (w : World) (hog : CallV Try.prog main V 52 #[og] w (.slice none 0 0) w)
    (hs : 0 < m → ∃ s so x, sa = some ⟨s, so, none⟩ ∧ w.cell? ⟨s, so, none⟩ = some (.int .i64 x)) :
    Walk Try.prog main (DR V) (fun g w' => g = G (c.finish (.tuple #[.slice none 0 0, .bool false, .slice (some ⟨w.heap.size + 1, 0, none⟩) 0 0])) cs ∧ ∃ d, w' = ((turnW w 0 most).alloc (.cells (madeCells #[.bool false] 0) 4)).at d)
      (G (Frame.enter Try.prog 23 #[og, .slice sa m sc, .int .i64 most] .normal) (c :: cs)) w := by
  have hs1 : (turnW w 0 most).heap.size = w.heap.size + 1 := by simp [turnW]
  have ht : ∀ i, (turnW w 0 most).cell? ⟨w.heap.size, i, none⟩ = (#[.slice none 0 0, .int .i64 (0 : Nat), .int .i64 (min (max most 0) 1048576), .slice none 0 0] : Array Value)[i]? := fun i => cell_of (heap_alloc_new w _) i
  have t0 := (ht 0).trans rfl
  have t1 := (ht 1).trans rfl
  have t2 := (ht 2).trans rfl
  have t3 := (ht 3).trans rfl
  clear ht
  refine (over_in 0 0 m sc none sa og most (c :: cs) w hog (nt_in 0 0 none most (fr23t 0 0 m sc none sa og most :: c :: cs) w)).then ?_
  rintro _ _ ⟨rfl, d1, rfl⟩
  refine Walk.back ?_ d1
  refine (nt_out w.heap.size 0 0 none most _ (fr23t 0 0 m sc none sa og most) (c :: cs) _).then ?_
  rintro _ _ ⟨rfl, d2, rfl⟩
  refine Walk.back ?_ d2
  refine (over_begin w.heap.size 0 0 m sc none sa og most (c :: cs) _ (begin_zero w.heap.size _ (c :: cs) _ t0)).then ?_
  rintro _ _ ⟨rfl, d3, rfl⟩
  refine Walk.back ?_ d3
  refine (over_follow w.heap.size 0 0 m sc none sa og most (c :: cs) _ (follow_in w.heap.size sa m sc _ _)).then ?_
  rintro _ _ ⟨⟨u4, rfl⟩, d4, rfl⟩
  refine Walk.back ?_ d4
  have back : Walk Try.prog main (DR V) (fun g w' => g = G ((fr23b w.heap.size 0 0 m sc none sa og most).finish (.tuple #[])) (c :: cs) ∧ ∃ d, w' = (turnW w 0 most).at d) (G (hd55 w.heap.size sa m sc 0 u4) (fr23b w.heap.size 0 0 m sc none sa og most :: c :: cs)) (turnW w 0 most) := by
    rcases Nat.eq_zero_or_pos m with hm | hm
    · subst hm
      refine (follow_past w.heap.size sa 0 sc u4 _ _).then ?_
      rintro _ _ ⟨⟨u5, rfl⟩, d5, rfl⟩
      refine Walk.back ?_ d5
      exact round_over w.heap.size sa 0 sc (0 : Nat) _ none 0 0 u5 _ (c :: cs) _ t1 t2 t3 (by simp)
    · obtain ⟨s, so, x, rfl, hc⟩ := hs hm
      refine follow_over w.heap.size s so m sc 0 x (0 : Nat) _ none 0 0 u4 _ (c :: cs) _ hm ?_ t1 t2 t3 (by simp)
      exact cell_alloc w _ hc
  refine back.then ?_
  rintro _ _ ⟨rfl, d5, rfl⟩
  refine Walk.back ?_ d5
  refine (over_end w.heap.size 0 0 m sc none sa og most (0 : Nat) (c :: cs) _ t1 (end_zero w.heap.size _ (c :: cs) _ t0)).then ?_
  rintro _ _ ⟨rfl, d6, rfl⟩
  refine Walk.back ?_ d6
  have t3' := cell_alloc _ (.cells (madeCells #[.bool false] 0) 4) t3
  rw [hs1]
  refine (over_out w.heap.size (w.heap.size + 1) 0 0 m sc none sa og most (0 : Nat) none 0 0 c cs _ t3').mono ?_
  rintro _ _ ⟨rfl, d7, rfl⟩
  exact ⟨by simp, d7, rfl⟩
end Go.Proofs.Ytgiiicdpbdfemaa
end

/- The statement's side: walkers. -/
section
namespace Go.Proofs.Ytgiiicdpbdfemaa
open Go.Conc Go.RowKit Go.Relay
open Go.ConcN (upd upd_ne upd_same)

variable {main : Bool} {V : Nat → Option Wait}

noncomputable def reg24_0 : Array Oper := match Try.f24.body with | some (.seq (.region _ ops _) _) => ops | _ => #[]
theorem size24_0 : reg24_0.size = 1 := by kernel_rfl
noncomputable def reg24_1 : Array Oper := match Try.f24.body with | some (.seq _ (.seq (.region _ ops _) _)) => ops | _ => #[]
theorem size24_1 : reg24_1.size = 1 := by kernel_rfl
noncomputable def reg24_2 : Array Oper := match Try.f24.body with | some (.seq _ (.seq _ (.seq (.seq (.region _ ops _) _) _))) => ops | _ => #[]
theorem size24_2 : reg24_2.size = 1 := by kernel_rfl
noncomputable def reg24_3 : Array Oper := match Try.f24.body with | some (.seq _ (.seq _ (.seq (.seq _ (.block _ (.loop (.seq (.seq (.region _ ops _) _) _)))) _))) => ops | _ => #[]
theorem size24_3 : reg24_3.size = 4 := by kernel_rfl
noncomputable def reg24_5 : Array Oper := match Try.f24.body with | some (.seq _ (.seq _ (.seq (.seq _ (.block _ (.loop (.seq _ (.seq (.block _ (.seq (.seq (.region _ ops _) _) _)) _))))) _))) => ops | _ => #[]
theorem size24_5 : reg24_5.size = 5 := by kernel_rfl
noncomputable def reg24_6 : Array Oper := match Try.f24.body with | some (.seq _ (.seq _ (.seq (.seq _ (.block _ (.loop (.seq _ (.seq (.block _ (.seq (.seq _ (.cond _ (.seq (.region _ ops _) _) _)) _)) _))))) _))) => ops | _ => #[]
theorem size24_6 : reg24_6.size = 4 := by kernel_rfl
noncomputable def reg24_7 : Array Oper := match Try.f24.body with | some (.seq _ (.seq _ (.seq (.seq _ (.block _ (.loop (.seq _ (.seq (.block _ (.seq _ (.seq (.region _ ops _) _))) _))))) _))) => ops | _ => #[]
theorem size24_7 : reg24_7.size = 16 := by kernel_rfl
noncomputable def reg24_8 : Array Oper := match Try.f24.body with | some (.seq _ (.seq _ (.seq (.seq _ (.block _ (.loop (.seq _ (.seq (.block _ (.seq _ (.seq _ (.region _ ops _)))) _))))) _))) => ops | _ => #[]
theorem size24_8 : reg24_8.size = 6 := by kernel_rfl
noncomputable def reg24_4 : Array Oper := match Try.f24.body with | some (.seq _ (.seq _ (.seq (.seq _ (.block _ (.loop (.seq _ (.seq _ (.region _ ops _)))))) _))) => ops | _ => #[]
theorem size24_4 : reg24_4.size = 3 := by kernel_rfl
noncomputable def reg24_9 : Array Oper := match Try.f24.body with | some (.seq _ (.seq _ (.seq _ (.seq (.region _ ops _) _)))) => ops | _ => #[]
theorem size24_9 : reg24_9.size = 2 := by kernel_rfl
theorem code24_is : Try.f24.body = some (.seq (.region 0 reg24_0 false) (.seq (.region 1 reg24_1 false) (.seq (.seq (.region 2 reg24_2 false) (.block 0 (.loop (.seq (.seq (.region 3 reg24_3 false) (.cond (.tmp 11 ) (.skip) (.exit 0))) (.seq (.block 1 (.seq (.seq (.region 5 reg24_5 false) (.cond (.tmp 18 ) (.seq (.region 6 reg24_6 false) (.exit 1)) (.skip))) (.seq (.region 7 reg24_7 true) (.region 8 reg24_8 false)))) (.region 4 reg24_4 false)))))) (.seq (.region 9 reg24_9 false) (.ret))))) := by kernel_rfl

noncomputable def hd24 (B : Nat) (lv : Value) (oa : Option Addr) (oc i : Nat) (u : Nat → Value) : Frame :=
  (base 24).at { tmps := #[.pointer (some ⟨B, 0, none⟩), lv, u 2, u 3, .slice none 0 0, .slice oa i oc, .int .i64 i, u 7, u 8, u 9, u 10, u 11, u 12, u 13, u 14, u 15, u 16, u 17, u 18, u 19, u 20, u 21, u 22, u 23, u 24, u 25, u 26, u 27, u 28, u 29, u 30, u 31, u 32, u 33, u 34, u 35, u 36, u 37, u 38, u 39, u 40, u 41, u 42], defers := [] } [.code (.seq (.seq (.region 3 reg24_3 false) (.cond (.tmp 11 ) (.skip) (.exit 0))) (.seq (.block 1 (.seq (.seq (.region 5 reg24_5 false) (.cond (.tmp 18 ) (.seq (.region 6 reg24_6 false) (.exit 1)) (.skip))) (.seq (.region 7 reg24_7 true) (.region 8 reg24_8 false)))) (.region 4 reg24_4 false))), .inLoop (.seq (.seq (.region 3 reg24_3 false) (.cond (.tmp 11 ) (.skip) (.exit 0))) (.seq (.block 1 (.seq (.seq (.region 5 reg24_5 false) (.cond (.tmp 18 ) (.seq (.region 6 reg24_6 false) (.exit 1)) (.skip))) (.seq (.region 7 reg24_7 true) (.region 8 reg24_8 false)))) (.region 4 reg24_4 false))), .inBlock 0, .code (.seq (.region 9 reg24_9 false) (.ret))]
def tm24 (B : Nat) (lv : Value) (oa : Option Addr) (oc i : Nat) (u : Nat → Value) : Array Value := #[.pointer (some ⟨B, 0, none⟩), lv, u 2, u 3, .slice none 0 0, .slice oa i oc, .int .i64 i, u 7, u 8, u 9, u 10, u 11, u 12, u 13, u 14, u 15, u 16, u 17, u 18, u 19, u 20, u 21, u 22, u 23, u 24, u 25, u 26, u 27, u 28, u 29, u 30, u 31, u 32, u 33, u 34, u 35, u 36, u 37, u 38, u 39, u 40, u 41, u 42]
def wkr (B i : Nat) (st af : Int) : Array Value := #[.pointer (some ⟨B, 0, none⟩), .int .i64 i, .int .i64 (st % 32), .int .i64 af]

set_option maxHeartbeats 8000000 in
set_option maxRecDepth 100000 in
theorem new24 {Stop : Goroutine → World → Prop} (B L lo n cap i : Nat) (oa : Option Addr) (oc : Nat) (st af : Int) (k : List Item) (cs : List Frame) (u0 : Nat → Value) (w : World) (hi : i < n) (hc0 : w.cell? ⟨L, lo + i * 3, none⟩ = some (.int .i64 st)) (hc1 : w.cell? ⟨L, lo + i * 3 + 1, none⟩ = some (.int .i64 af))
    (hk : ∀ u, u 7 = .pointer (some ⟨w.heap.size, 0, none⟩) → Walk Try.prog main (DR V) Stop (G ((base 24).at ⟨tm24 B (.slice (some ⟨L, lo, none⟩) n cap) oa oc i u, []⟩ (.inRegion reg24_7 [] :: k)) cs) (w.alloc (.cells (wkr B i st af) 127))) :
    Walk Try.prog main (DR V) Stop (G ((base 24).at ⟨tm24 B (.slice (some ⟨L, lo, none⟩) n cap) oa oc i u0, []⟩ (.code (.region 7 reg24_7 true) :: k)) cs) w := by
  have hbk := bits_and31 st
  refine Walk.drawnJ (Inv := fun f a w' => ∃ u, a = ⟨tm24 B (.slice (some ⟨L, lo, none⟩) n cap) oa oc i u, []⟩ ∧ Facts [22, 23, 24, 25, 26, 27, 28, 29, 30, 31, 32, 33, 34, 35, 36, 7] [.pointer (some ⟨B, 0, none⟩), .int .i64 i, .slice (some ⟨L, lo, none⟩) n cap, .int .i64 i, .pointer (some ⟨L, lo + i * 3, none⟩), .pointer (some ⟨L, lo + i * 3, none⟩), .int .i64 st, .int .i64 (st % 32), .slice (some ⟨L, lo, none⟩) n cap, .int .i64 i, .pointer (some ⟨L, lo + i * 3, none⟩), .pointer (some ⟨L, lo + i * 3 + 1, none⟩), .int .i64 af, .agg (wkr B i st af), .pointer (some ⟨w.heap.size, 0, none⟩), .pointer (some ⟨w.heap.size, 0, none⟩)] f u ∧ ((f 14 = false ∧ ∃ d, w' = w.at d) ∨ (f 14 = true ∧ ∃ d, w' = (w.alloc (.cells (wkr B i st af) 127)).at d))) (by kernel_rfl) (by kernel_rfl) (fun d => ⟨u0, rfl, Facts.none _ _ _, .inl ⟨rfl, d, rfl⟩⟩) ?_ ?_
  · rintro f j o a w' ⟨u, rfl, F, hp⟩ hC hfi ho hdeps rest hr
    have hj : j < 16 := by have := (Array.getElem?_eq_some_iff.1 ho).1; rw [size24_7] at this; exact this
    have hall : f 14 = true → ∀ j, j < 14 → f j = true := fun h14 j hj => by
      have d14 := hC.deps h14 (show depB reg24_7 14 [13] = true by kernel_rfl)
      have h13 := d14 13 (by simp)
      have d13 := hC.deps h13 (show depB reg24_7 13 [0, 1, 7, 12] = true by kernel_rfl)
      have h0 := d13 0 (by simp)
      have h1 := d13 1 (by simp)
      have h7 := d13 7 (by simp)
      have h12 := d13 12 (by simp)
      have d7 := hC.deps h7 (show depB reg24_7 7 [6] = true by kernel_rfl)
      have h6 := d7 6 (by simp)
      have d12 := hC.deps h12 (show depB reg24_7 12 [11] = true by kernel_rfl)
      have h11 := d12 11 (by simp)
      have d6 := hC.deps h6 (show depB reg24_7 6 [5] = true by kernel_rfl)
      have h5 := d6 5 (by simp)
      have d11 := hC.deps h11 (show depB reg24_7 11 [10] = true by kernel_rfl)
      have h10 := d11 10 (by simp)
      have d5 := hC.deps h5 (show depB reg24_7 5 [4] = true by kernel_rfl)
      have h4 := d5 4 (by simp)
      have d10 := hC.deps h10 (show depB reg24_7 10 [8, 9] = true by kernel_rfl)
      have h8 := d10 8 (by simp)
      have h9 := d10 9 (by simp)
      have d4 := hC.deps h4 (show depB reg24_7 4 [2, 3] = true by kernel_rfl)
      have h2 := d4 2 (by simp)
      have h3 := d4 3 (by simp)
      match j, hj with
      | 0, _ => exact h0
      | 1, _ => exact h1
      | 2, _ => exact h2
      | 3, _ => exact h3
      | 4, _ => exact h4
      | 5, _ => exact h5
      | 6, _ => exact h6
      | 7, _ => exact h7
      | 8, _ => exact h8
      | 9, _ => exact h9
      | 10, _ => exact h10
      | 11, _ => exact h11
      | 12, _ => exact h12
      | 13, _ => exact h13
      | j + 14, hj => exact absurd hj (by omega)
    match j, hj with
    | 0, _ =>
      obtain ⟨d, rfl⟩ : ∃ d, w' = w.at d := by
        rcases hp with ⟨_, h⟩ | ⟨h, _⟩
        · exact h
        · have := hall h 0 (by decide); rw [this] at hfi; cases hfi
      refine Walk.back ?_ d
      have h14 : f 14 = false := by
        cases h : f 14 with
        | false => rfl
        | true => have := hall h 0 (by decide); rw [this] at hfi; cases hfi
      clear hdeps ho hC
      simp only [tm24] at hr ⊢
      (refine Walk.opq (ho_of (by conv => lhs; whnf) (by kernel_rfl)) (by rfl) (by decide) (fun dd e he => ?_) (fun dd K hK => ?_); (· (simp [go_sem, *] at he; try (subst he; exact evR_read _ _))); go_simp; refine hK _ ?_; clear hK K; try walk_nrm)
      refine hr _ _ ⟨upd u 22 (.pointer (some ⟨B, 0, none⟩)), ?_, F.set (by decide) rfl rfl, (.inl ⟨by simpa [upd] using h14, w.drawn, rfl⟩)⟩
      simp [upd]
    | 1, _ =>
      obtain ⟨d, rfl⟩ : ∃ d, w' = w.at d := by
        rcases hp with ⟨_, h⟩ | ⟨h, _⟩
        · exact h
        · have := hall h 1 (by decide); rw [this] at hfi; cases hfi
      refine Walk.back ?_ d
      have h14 : f 14 = false := by
        cases h : f 14 with
        | false => rfl
        | true => have := hall h 1 (by decide); rw [this] at hfi; cases hfi
      clear hdeps ho hC
      simp only [tm24] at hr ⊢
      (refine Walk.opq (ho_of (by conv => lhs; whnf) (by kernel_rfl)) (by rfl) (by decide) (fun dd e he => ?_) (fun dd K hK => ?_); (· (simp [go_sem, *] at he; try (subst he; exact evR_read _ _))); go_simp; refine hK _ ?_; clear hK K; try walk_nrm)
      refine hr _ _ ⟨upd u 23 (.int .i64 i), ?_, F.set (by decide) rfl rfl, (.inl ⟨by simpa [upd] using h14, w.drawn, rfl⟩)⟩
      simp [upd]
    | 2, _ =>
      obtain ⟨d, rfl⟩ : ∃ d, w' = w.at d := by
        rcases hp with ⟨_, h⟩ | ⟨h, _⟩
        · exact h
        · have := hall h 2 (by decide); rw [this] at hfi; cases hfi
      refine Walk.back ?_ d
      have h14 : f 14 = false := by
        cases h : f 14 with
        | false => rfl
        | true => have := hall h 2 (by decide); rw [this] at hfi; cases hfi
      clear hdeps ho hC
      simp only [tm24] at hr ⊢
      (refine Walk.opq (ho_of (by conv => lhs; whnf) (by kernel_rfl)) (by rfl) (by decide) (fun dd e he => ?_) (fun dd K hK => ?_); (· (simp [go_sem, *] at he; try (subst he; exact evR_read _ _))); go_simp; refine hK _ ?_; clear hK K; try walk_nrm)
      refine hr _ _ ⟨upd u 24 (.slice (some ⟨L, lo, none⟩) n cap), ?_, F.set (by decide) rfl rfl, (.inl ⟨by simpa [upd] using h14, w.drawn, rfl⟩)⟩
      simp [upd]
    | 3, _ =>
      obtain ⟨d, rfl⟩ : ∃ d, w' = w.at d := by
        rcases hp with ⟨_, h⟩ | ⟨h, _⟩
        · exact h
        · have := hall h 3 (by decide); rw [this] at hfi; cases hfi
      refine Walk.back ?_ d
      have h14 : f 14 = false := by
        cases h : f 14 with
        | false => rfl
        | true => have := hall h 3 (by decide); rw [this] at hfi; cases hfi
      clear hdeps ho hC
      simp only [tm24] at hr ⊢
      (refine Walk.opq (ho_of (by conv => lhs; whnf) (by kernel_rfl)) (by rfl) (by decide) (fun dd e he => ?_) (fun dd K hK => ?_); (· (simp [go_sem, *] at he; try (subst he; exact evR_read _ _))); go_simp; refine hK _ ?_; clear hK K; try walk_nrm)
      refine hr _ _ ⟨upd u 25 (.int .i64 i), ?_, F.set (by decide) rfl rfl, (.inl ⟨by simpa [upd] using h14, w.drawn, rfl⟩)⟩
      simp [upd]
    | 4, _ =>
      have hd := deps_of (l := [2, 3]) (by kernel_rfl) ho hdeps
      have e24 := F 2 24 _ (hd 2 (by simp)) rfl rfl
      have e25 := F 3 25 _ (hd 3 (by simp)) rfl rfl
      obtain ⟨d, rfl⟩ : ∃ d, w' = w.at d := by
        rcases hp with ⟨_, h⟩ | ⟨h, _⟩
        · exact h
        · have := hall h 4 (by decide); rw [this] at hfi; cases hfi
      refine Walk.back ?_ d
      have h14 : f 14 = false := by
        cases h : f 14 with
        | false => rfl
        | true => have := hall h 4 (by decide); rw [this] at hfi; cases hfi
      clear hdeps ho hC
      simp only [tm24] at hr ⊢
      (refine Walk.opq (ho_of (by conv => lhs; whnf) (by kernel_rfl)) (by rfl) (by decide) (fun dd e he => ?_) (fun dd K hK => ?_); (· (simp [go_sem, *] at he; try (subst he; exact evR_read _ _))); go_simp; refine hK _ ?_; clear hK K; try walk_nrm)
      refine hr _ _ ⟨upd u 26 (.pointer (some ⟨L, lo + i * 3, none⟩)), ?_, F.set (by decide) rfl rfl, (.inl ⟨by simpa [upd] using h14, w.drawn, rfl⟩)⟩
      simp [upd, e24, e25]
    | 5, _ =>
      have hd := deps_of (l := [4]) (by kernel_rfl) ho hdeps
      have e26 := F 4 26 _ (hd 4 (by simp)) rfl rfl
      obtain ⟨d, rfl⟩ : ∃ d, w' = w.at d := by
        rcases hp with ⟨_, h⟩ | ⟨h, _⟩
        · exact h
        · have := hall h 5 (by decide); rw [this] at hfi; cases hfi
      refine Walk.back ?_ d
      have h14 : f 14 = false := by
        cases h : f 14 with
        | false => rfl
        | true => have := hall h 5 (by decide); rw [this] at hfi; cases hfi
      clear hdeps ho hC
      simp only [tm24] at hr ⊢
      (refine Walk.opq (ho_of (by conv => lhs; whnf) (by kernel_rfl)) (by rfl) (by decide) (fun dd e he => ?_) (fun dd K hK => ?_); (· (simp [go_sem, *] at he; try (subst he; exact evR_read _ _))); go_simp; refine hK _ ?_; clear hK K; try walk_nrm)
      refine hr _ _ ⟨upd u 27 (.pointer (some ⟨L, lo + i * 3, none⟩)), ?_, F.set (by decide) rfl rfl, (.inl ⟨by simpa [upd] using h14, w.drawn, rfl⟩)⟩
      simp [upd, e26]
    | 6, _ =>
      have hd := deps_of (l := [5]) (by kernel_rfl) ho hdeps
      have e27 := F 5 27 _ (hd 5 (by simp)) rfl rfl
      obtain ⟨d, rfl⟩ : ∃ d, w' = w.at d := by
        rcases hp with ⟨_, h⟩ | ⟨h, _⟩
        · exact h
        · have := hall h 6 (by decide); rw [this] at hfi; cases hfi
      refine Walk.back ?_ d
      have h14 : f 14 = false := by
        cases h : f 14 with
        | false => rfl
        | true => have := hall h 6 (by decide); rw [this] at hfi; cases hfi
      clear hdeps ho hC
      simp only [tm24] at hr ⊢
      (refine Walk.opq (ho_of (by conv => lhs; whnf) (by kernel_rfl)) (by rfl) (by decide) (fun dd e he => ?_) (fun dd K hK => ?_); (· (simp [go_sem, *] at he; try (subst he; exact evR_read _ _))); go_simp; refine hK _ ?_; clear hK K; try walk_nrm)
      refine hr _ _ ⟨upd u 28 (.int .i64 st), ?_, F.set (by decide) rfl rfl, (.inl ⟨by simpa [upd] using h14, w.drawn, rfl⟩)⟩
      simp [upd, e27]
    | 7, _ =>
      have hd := deps_of (l := [6]) (by kernel_rfl) ho hdeps
      have e28 := F 6 28 _ (hd 6 (by simp)) rfl rfl
      obtain ⟨d, rfl⟩ : ∃ d, w' = w.at d := by
        rcases hp with ⟨_, h⟩ | ⟨h, _⟩
        · exact h
        · have := hall h 7 (by decide); rw [this] at hfi; cases hfi
      refine Walk.back ?_ d
      have h14 : f 14 = false := by
        cases h : f 14 with
        | false => rfl
        | true => have := hall h 7 (by decide); rw [this] at hfi; cases hfi
      clear hdeps ho hC
      simp only [tm24] at hr ⊢
      (refine Walk.opq (ho_of (by conv => lhs; whnf) (by kernel_rfl)) (by rfl) (by decide) (fun dd e he => ?_) (fun dd K hK => ?_); (· (simp [go_sem, *] at he; try (subst he; exact evR_read _ _))); go_simp; refine hK _ ?_; clear hK K; try walk_nrm)
      refine hr _ _ ⟨upd u 29 (.int .i64 (st % 32)), ?_, F.set (by decide) rfl rfl, (.inl ⟨by simpa [upd] using h14, w.drawn, rfl⟩)⟩
      simp [upd, e28]
    | 8, _ =>
      obtain ⟨d, rfl⟩ : ∃ d, w' = w.at d := by
        rcases hp with ⟨_, h⟩ | ⟨h, _⟩
        · exact h
        · have := hall h 8 (by decide); rw [this] at hfi; cases hfi
      refine Walk.back ?_ d
      have h14 : f 14 = false := by
        cases h : f 14 with
        | false => rfl
        | true => have := hall h 8 (by decide); rw [this] at hfi; cases hfi
      clear hdeps ho hC
      simp only [tm24] at hr ⊢
      (refine Walk.opq (ho_of (by conv => lhs; whnf) (by kernel_rfl)) (by rfl) (by decide) (fun dd e he => ?_) (fun dd K hK => ?_); (· (simp [go_sem, *] at he; try (subst he; exact evR_read _ _))); go_simp; refine hK _ ?_; clear hK K; try walk_nrm)
      refine hr _ _ ⟨upd u 30 (.slice (some ⟨L, lo, none⟩) n cap), ?_, F.set (by decide) rfl rfl, (.inl ⟨by simpa [upd] using h14, w.drawn, rfl⟩)⟩
      simp [upd]
    | 9, _ =>
      obtain ⟨d, rfl⟩ : ∃ d, w' = w.at d := by
        rcases hp with ⟨_, h⟩ | ⟨h, _⟩
        · exact h
        · have := hall h 9 (by decide); rw [this] at hfi; cases hfi
      refine Walk.back ?_ d
      have h14 : f 14 = false := by
        cases h : f 14 with
        | false => rfl
        | true => have := hall h 9 (by decide); rw [this] at hfi; cases hfi
      clear hdeps ho hC
      simp only [tm24] at hr ⊢
      (refine Walk.opq (ho_of (by conv => lhs; whnf) (by kernel_rfl)) (by rfl) (by decide) (fun dd e he => ?_) (fun dd K hK => ?_); (· (simp [go_sem, *] at he; try (subst he; exact evR_read _ _))); go_simp; refine hK _ ?_; clear hK K; try walk_nrm)
      refine hr _ _ ⟨upd u 31 (.int .i64 i), ?_, F.set (by decide) rfl rfl, (.inl ⟨by simpa [upd] using h14, w.drawn, rfl⟩)⟩
      simp [upd]
    | 10, _ =>
      have hd := deps_of (l := [8, 9]) (by kernel_rfl) ho hdeps
      have e30 := F 8 30 _ (hd 8 (by simp)) rfl rfl
      have e31 := F 9 31 _ (hd 9 (by simp)) rfl rfl
      obtain ⟨d, rfl⟩ : ∃ d, w' = w.at d := by
        rcases hp with ⟨_, h⟩ | ⟨h, _⟩
        · exact h
        · have := hall h 10 (by decide); rw [this] at hfi; cases hfi
      refine Walk.back ?_ d
      have h14 : f 14 = false := by
        cases h : f 14 with
        | false => rfl
        | true => have := hall h 10 (by decide); rw [this] at hfi; cases hfi
      clear hdeps ho hC
      simp only [tm24] at hr ⊢
      (refine Walk.opq (ho_of (by conv => lhs; whnf) (by kernel_rfl)) (by rfl) (by decide) (fun dd e he => ?_) (fun dd K hK => ?_); (· (simp [go_sem, *] at he; try (subst he; exact evR_read _ _))); go_simp; refine hK _ ?_; clear hK K; try walk_nrm)
      refine hr _ _ ⟨upd u 32 (.pointer (some ⟨L, lo + i * 3, none⟩)), ?_, F.set (by decide) rfl rfl, (.inl ⟨by simpa [upd] using h14, w.drawn, rfl⟩)⟩
      simp [upd, e30, e31]
    | 11, _ =>
      have hd := deps_of (l := [10]) (by kernel_rfl) ho hdeps
      have e32 := F 10 32 _ (hd 10 (by simp)) rfl rfl
      obtain ⟨d, rfl⟩ : ∃ d, w' = w.at d := by
        rcases hp with ⟨_, h⟩ | ⟨h, _⟩
        · exact h
        · have := hall h 11 (by decide); rw [this] at hfi; cases hfi
      refine Walk.back ?_ d
      have h14 : f 14 = false := by
        cases h : f 14 with
        | false => rfl
        | true => have := hall h 11 (by decide); rw [this] at hfi; cases hfi
      clear hdeps ho hC
      simp only [tm24] at hr ⊢
      (refine Walk.opq (ho_of (by conv => lhs; whnf) (by kernel_rfl)) (by rfl) (by decide) (fun dd e he => ?_) (fun dd K hK => ?_); (· (simp [go_sem, *] at he; try (subst he; exact evR_read _ _))); go_simp; refine hK _ ?_; clear hK K; try walk_nrm)
      refine hr _ _ ⟨upd u 33 (.pointer (some ⟨L, lo + i * 3 + 1, none⟩)), ?_, F.set (by decide) rfl rfl, (.inl ⟨by simpa [upd] using h14, w.drawn, rfl⟩)⟩
      simp [upd, e32]
    | 12, _ =>
      have hd := deps_of (l := [11]) (by kernel_rfl) ho hdeps
      have e33 := F 11 33 _ (hd 11 (by simp)) rfl rfl
      obtain ⟨d, rfl⟩ : ∃ d, w' = w.at d := by
        rcases hp with ⟨_, h⟩ | ⟨h, _⟩
        · exact h
        · have := hall h 12 (by decide); rw [this] at hfi; cases hfi
      refine Walk.back ?_ d
      have h14 : f 14 = false := by
        cases h : f 14 with
        | false => rfl
        | true => have := hall h 12 (by decide); rw [this] at hfi; cases hfi
      clear hdeps ho hC
      simp only [tm24] at hr ⊢
      (refine Walk.opq (ho_of (by conv => lhs; whnf) (by kernel_rfl)) (by rfl) (by decide) (fun dd e he => ?_) (fun dd K hK => ?_); (· (simp [go_sem, *] at he; try (subst he; exact evR_read _ _))); go_simp; refine hK _ ?_; clear hK K; try walk_nrm)
      refine hr _ _ ⟨upd u 34 (.int .i64 af), ?_, F.set (by decide) rfl rfl, (.inl ⟨by simpa [upd] using h14, w.drawn, rfl⟩)⟩
      simp [upd, e33]
    | 13, _ =>
      have hd := deps_of (l := [0, 1, 7, 12]) (by kernel_rfl) ho hdeps
      have e22 := F 0 22 _ (hd 0 (by simp)) rfl rfl
      have e23 := F 1 23 _ (hd 1 (by simp)) rfl rfl
      have e29 := F 7 29 _ (hd 7 (by simp)) rfl rfl
      have e34 := F 12 34 _ (hd 12 (by simp)) rfl rfl
      obtain ⟨d, rfl⟩ : ∃ d, w' = w.at d := by
        rcases hp with ⟨_, h⟩ | ⟨h, _⟩
        · exact h
        · have := hall h 13 (by decide); rw [this] at hfi; cases hfi
      refine Walk.back ?_ d
      have h14 : f 14 = false := by
        cases h : f 14 with
        | false => rfl
        | true => have := hall h 13 (by decide); rw [this] at hfi; cases hfi
      clear hdeps ho hC
      simp only [tm24] at hr ⊢
      (refine Walk.opq (ho_of (by conv => lhs; whnf) (by kernel_rfl)) (by rfl) (by decide) (fun dd e he => ?_) (fun dd K hK => ?_); (· (simp [go_sem, *] at he; try (subst he; exact evR_read _ _))); go_simp; refine hK _ ?_; clear hK K; try walk_nrm)
      refine hr _ _ ⟨upd u 35 (.agg (wkr B i st af)), ?_, F.set (by decide) rfl rfl, (.inl ⟨by simpa [upd] using h14, w.drawn, rfl⟩)⟩
      simp [upd, e22, e23, e29, e34, wkr]
    | 14, _ =>
      have hd := deps_of (l := [13]) (by kernel_rfl) ho hdeps
      have e35 := F 13 35 _ (hd 13 (by simp)) rfl rfl
      rcases hp with ⟨h14, d, rfl⟩ | ⟨h14, _⟩
      · refine Walk.back ?_ d
        clear hdeps ho hC
        simp only [tm24] at hr ⊢
        simp only [e35, wkr]
        (co_applyP Walk.opw (ho_of (by conv => lhs; whnf) (by kernel_rfl)) (by rfl) (by decide) ?wev1 ?wdr1 ?wrun1; (case' wrun1 => (intro dd K hK; go_simp; simp only [alloc_at', setCell_at']; refine hK _ ?wmore1; clear hK K)); (case wdr1 => exact fun dd es hes => DR.alloc' dd es hes); (case wev1 => (intro dd e he; simp [go_sem, *] at he)); try walk_nrm)
        refine hr _ _ ⟨upd u 36 (.pointer (some ⟨w.heap.size, 0, none⟩)), ?_, F.set (by decide) rfl rfl, .inr ⟨by simp [upd], _, rfl⟩⟩
        simp [upd, e35, wkr]
      · rw [h14] at hfi; cases hfi
    | 15, _ =>
      have hd := deps_of (l := [0, 1, 2, 3, 4, 5, 6, 7, 8, 9, 10, 11, 12, 13, 14]) (by kernel_rfl) ho hdeps
      have e36 := F 14 36 _ (hd 14 (by simp)) rfl rfl
      have h14 := hd 14 (by simp)
      clear hdeps ho hC
      simp only [tm24] at hr ⊢
      simp only [e36]
      (refine Walk.opq (ho_of (by conv => lhs; whnf) (by kernel_rfl)) (by rfl) (by decide) (fun dd e he => ?_) (fun dd K hK => ?_); (· (simp [go_sem, *] at he; try (subst he; exact evR_read _ _))); go_simp; refine hK _ ?_; clear hK K; try walk_nrm)
      refine hr _ _ ⟨upd u 7 (.pointer (some ⟨w.heap.size, 0, none⟩)), ?_, F.set (by decide) rfl rfl, by simpa [upd] using hp⟩
      simp [upd, e36]
  · rintro f a w' ⟨u, rfl, F, hp⟩ hall
    have h14 := hall 14 (by rw [size24_7]; decide)
    rcases hp with ⟨h, _⟩ | ⟨_, d, rfl⟩
    · rw [h14] at h; cases h
    · exact (hk u (F 15 7 _ (hall 15 (by rw [size24_7]; decide)) rfl rfl)).back d

set_option maxHeartbeats 8000000 in
set_option maxRecDepth 100000 in
theorem walkers24_in (B : Nat) (lv : Value) (cs : List Frame) (w : World) :
    Walk Try.prog main (DR V) (fun g w' => (∃ u, g = G (hd24 B lv none 0 0 u) cs) ∧ ∃ d, w' = w.at d) (G (Frame.enter Try.prog 24 #[.pointer (some ⟨B, 0, none⟩), lv] .normal) cs) w := by
  rw [enter_at _ Try.func24 code24_is]
  simp only [Try.ntmps24, List.size_toArray, List.length_cons, List.length_nil, Nat.reduceAdd, Nat.reduceSub, Array.replicate_succ, Array.replicate_zero, List.push_toArray, List.append_toArray, List.nil_append, List.cons_append]
  repeat (first | (refine Walk.c rfl ?_) | (refine Walk.cRet ?_) | (refine Walk.cEnd ?_) | (refine Walk.cReg ?_; simp only [size24_0, size24_1, size24_2, size24_3, size24_5, size24_6, size24_7, size24_8, size24_4, size24_9, List.range, List.range.loop]) | (refine Walk.opq (ho_of (by conv => lhs; whnf) (by kernel_rfl)) (by rfl) (by decide) (fun dd e he => ?_) (fun dd K hK => ?_); (· (simp [go_sem, *] at he; try (subst he; exact evR_read _ _))); go_simp; refine hK _ ?_; clear hK K; try walk_nrm) | (refine Walk.ctl rfl (fun w => stepG_unwanted (ho_of (by conv => lhs; whnf) (by kernel_rfl)) (by rfl)) ?_; walk_nrm))
  refine Walk.ctl rfl (fun w => stepG_loop) ?_
  refine .stop fun d => ⟨at_slots ?_, d, rfl⟩
  simp only [hd24]
  rfl

set_option maxHeartbeats 8000000 in
set_option maxRecDepth 100000 in
theorem walkers24_out (B : Nat) (la : Option Addr) (n cap : Nat) (oa : Option Addr) (oc : Nat) (u : Nat → Value) (c : Frame) (cs : List Frame) (w : World) :
    Walk Try.prog main (DR V) (fun g w' => g = G (c.finish (.slice oa n oc)) cs ∧ ∃ d, w' = w.at d) (G (hd24 B (.slice la n cap) oa oc n u) (c :: cs)) w := by
  unfold hd24
  repeat (first | (refine Walk.c rfl ?_) | (refine Walk.cRet ?_) | (refine Walk.cEnd ?_) | (refine Walk.cReg ?_; simp only [size24_0, size24_1, size24_2, size24_3, size24_5, size24_6, size24_7, size24_8, size24_4, size24_9, List.range, List.range.loop]) | (refine Walk.opq (ho_of (by conv => lhs; whnf) (by kernel_rfl)) (by rfl) (by decide) (fun dd e he => ?_) (fun dd K hK => ?_); (· (simp [go_sem, *] at he; try (subst he; exact evR_read _ _))); go_simp; refine hK _ ?_; clear hK K; try walk_nrm) | (refine Walk.ctl rfl (fun w => stepG_unwanted (ho_of (by conv => lhs; whnf) (by kernel_rfl)) (by rfl)) ?_; walk_nrm))
  exact (Walk.ret1 (Post := fun v w' => v = .slice oa n oc ∧ ∃ d, w' = w.at d) rfl rfl Try.func24 rfl fun d => ⟨rfl, d, rfl⟩).mono fun g w' ⟨v, ⟨hv, hd⟩, hg⟩ => ⟨by rw [hg, hv], hd⟩

def thrV (W : Nat) : Value := .func (.func 57) #[.pointer (some ⟨W, 0, none⟩)] #[]
def wkrW (w : World) (B i : Nat) (st af : Int) : World := (w.alloc (.cells (wkr B i st af) 127)).alloc (.cells #[thrV w.heap.size] 67)

set_option maxHeartbeats 8000000 in
set_option maxRecDepth 100000 in
theorem walkers24_go (B L lo n cap i : Nat) (oa : Option Addr) (oc n0 : Nat) (xs : List Value) (st af : Int) (u : Nat → Value) (cs : List Frame) (w : World) (hi : i < n) (hn : n ≤ 8796093022208) (hc0 : w.cell? ⟨L, lo + i * 3, none⟩ = some (.int .i64 st)) (hc1 : w.cell? ⟨L, lo + i * 3 + 1, none⟩ = some (.int .i64 af)) (hc2 : w.cell? ⟨L, lo + i * 3 + 2, none⟩ = some (.bool false))
    (hrow : w.ownsRow n0 67 1 (.slice oa i oc) i xs) (hb : n0 ≤ w.heap.size) (hap : ∀ g, (Value.slice oa i oc).ownBlock = some g → Apart V g) :
    Walk Try.prog main (DR V) (fun g' w' => ∃ g cap' w3, (∃ u', g' = G (hd24 B (.slice (some ⟨L, lo, none⟩) n cap) (some ⟨g, 0, none⟩) cap' (i + 1) u') cs) ∧ (∃ d, w' = w3.at d) ∧ w3.ownsRow n0 67 1 (.slice (some ⟨g, 0, none⟩) (i + 1) cap') (i + 1) (xs ++ [thrV w.heap.size]) ∧ (wkrW w B i st af).grownBy w3 (Value.slice oa i oc).ownBlock ∧ ((Value.slice oa i oc).ownBlock = some g ∨ g = (wkrW w B i st af).heap.size) ∧ g < w3.heap.size)
      (G (hd24 B (.slice (some ⟨L, lo, none⟩) n cap) oa oc i u) cs) w := by
  have hw1 : IntKind.wrap .i64 ((i : Int) + 1) = (i : Int) + 1 := by rw [IntKind.wrap_i64]; omega
  conv => arg 5; unfold hd24
  repeat (first | (refine Walk.c rfl ?_) | (refine Walk.cRet ?_) | (refine Walk.cEnd ?_) | (refine Walk.cReg ?_; simp only [size24_0, size24_1, size24_2, size24_3, size24_5, size24_6, size24_7, size24_8, size24_4, size24_9, List.range, List.range.loop]) | (refine Walk.opq (ho_of (by conv => lhs; whnf) (by kernel_rfl)) (by rfl) (by decide) (fun dd e he => ?_) (fun dd K hK => ?_); (· (simp [go_sem, *] at he; try (subst he; exact evR_read _ _))); go_simp; refine hK _ ?_; clear hK K; try walk_nrm) | (refine Walk.ctl rfl (fun w => stepG_unwanted (ho_of (by conv => lhs; whnf) (by kernel_rfl)) (by rfl)) ?_; walk_nrm))
  refine slots_walk (F := fun u => G ((base 24).at ⟨tm24 B (.slice (some ⟨L, lo, none⟩) n cap) oa oc i u, []⟩ (.code (.region 7 reg24_7 true) :: ([.code (.region 8 reg24_8 false), .inBlock 1, .code (.region 4 reg24_4 false)] ++ ([.code (.seq (.seq (.region 3 reg24_3 false) (.cond (.tmp 11 ) (.skip) (.exit 0))) (.seq (.block 1 (.seq (.seq (.region 5 reg24_5 false) (.cond (.tmp 18 ) (.seq (.region 6 reg24_6 false) (.exit 1)) (.skip))) (.seq (.region 7 reg24_7 true) (.region 8 reg24_8 false)))) (.region 4 reg24_4 false))), .inLoop (.seq (.seq (.region 3 reg24_3 false) (.cond (.tmp 11 ) (.skip) (.exit 0))) (.seq (.block 1 (.seq (.seq (.region 5 reg24_5 false) (.cond (.tmp 18 ) (.seq (.region 6 reg24_6 false) (.exit 1)) (.skip))) (.seq (.region 7 reg24_7 true) (.region 8 reg24_8 false)))) (.region 4 reg24_4 false))), .inBlock 0, .code (.seq (.region 9 reg24_9 false) (.ret))] : List Item).drop 1))) cs) (fun u => new24 B L lo n cap i oa oc st af _ cs u w hi hc0 hc1 fun u e7 => ?_) (by simp only [tm24]; rfl)
  simp only [tm24]
  rw [e7]
  clear e7
  simp only [List.cons_append, List.nil_append, List.drop_succ_cons, List.drop_zero]
  repeat (first | (refine Walk.c rfl ?_) | (refine Walk.cRet ?_) | (refine Walk.cEnd ?_) | (refine Walk.cReg ?_; simp only [size24_0, size24_1, size24_2, size24_3, size24_5, size24_6, size24_7, size24_8, size24_4, size24_9, List.range, List.range.loop]) | (refine Walk.opq (ho_of (by conv => lhs; whnf) (by kernel_rfl)) (by rfl) (by decide) (fun dd e he => ?_) (fun dd K hK => ?_); (· (simp [go_sem, *] at he; try (subst he; exact evR_read _ _))); go_simp; refine hK _ ?_; clear hK K; try walk_nrm) | (refine Walk.ctl rfl (fun w => stepG_unwanted (ho_of (by conv => lhs; whnf) (by kernel_rfl)) (by rfl)) ?_; walk_nrm))
  (co_applyP Walk.opw (ho_of (by conv => lhs; whnf) (by kernel_rfl)) (by rfl) (by decide) ?wev2 ?wdr2 ?wrun2; (case' wrun2 => (intro dd K hK; go_simp; simp only [alloc_at', setCell_at']; refine hK _ ?wmore2; clear hK K)); (case wdr2 => exact fun dd es hes => DR.alloc' dd es hes); (case wev2 => (intro dd e he; simp [go_sem, *] at he)); try walk_nrm)
  have hsA : (w.alloc (.cells (wkr B i st af) 127)).heap.size = w.heap.size + 1 := by simp
  have hs2 : (wkrW w B i st af).heap.size = w.heap.size + 2 := by simp [wkrW]
  have hrow2 : (wkrW w B i st af).ownsRow n0 67 1 (.slice oa i oc) i xs := (hrow.kept (World.grownBy_alloc w _ none) (by cases (Value.slice oa i oc).ownBlock <;> simp)).kept (World.grownBy_alloc _ _ none) (by cases (Value.slice oa i oc).ownBlock <;> simp)
  have hnew : ∀ y v, ([thrV w.heap.size] : List Value)[y]? = some v → (wkrW w B i st af).cell? ((⟨w.heap.size + 1, 0, none⟩ : Addr).add y) = some v := fun y v hv => by
    rw [add_none, Nat.zero_add, ← hsA]
    refine (cell_of (heap_alloc_new _ _) y).trans ?_
    simpa using hv
  have hcW : (w.alloc (.cells (wkr B i st af) 127)).alloc (.cells #[.func (.func 57) #[.pointer (some ⟨w.heap.size, 0, none⟩)] #[]] 67) = wkrW w B i st af := rfl
  rw [hcW]
  have hi67 := Option.some_get (show (Try.prog.info? 67).isSome = true by kernel_rfl)
  refine Walk.append (.tmp 37) (.tmp 40) 53 (ho_of (by conv => lhs; whnf) (by kernel_rfl)) (by rfl) (by decide) rfl n0 67 _ .nilFunc 1 8 (by kernel_rfl) hi67.symm (by rfl) (by rfl) (by rfl) (by rfl) (by decide) (.slice oa i oc) i xs rfl hrow2 ⟨w.heap.size + 1, 0, none⟩ 1 1 [thrV w.heap.size] ?_ (by rfl) hnew (by simp [thrV, Value.oneCell']) (by decide) (by simp [maxLen]; omega) (by omega) (by omega) hap (fun g cap' w3 hown hg hat hlt => ?_)
  · simp [Act.eval, hsA]
  clear hi67
  walk_nrm
  repeat (first | (refine Walk.c rfl ?_) | (refine Walk.cRet ?_) | (refine Walk.cEnd ?_) | (refine Walk.cReg ?_; simp only [size24_0, size24_1, size24_2, size24_3, size24_5, size24_6, size24_7, size24_8, size24_4, size24_9, List.range, List.range.loop]) | (refine Walk.opq (ho_of (by conv => lhs; whnf) (by kernel_rfl)) (by rfl) (by decide) (fun dd e he => ?_) (fun dd K hK => ?_); (· (simp [go_sem, *] at he; try (subst he; exact evR_read _ _))); go_simp; refine hK _ ?_; clear hK K; try walk_nrm) | (refine Walk.ctl rfl (fun w => stepG_unwanted (ho_of (by conv => lhs; whnf) (by kernel_rfl)) (by rfl)) ?_; walk_nrm))
  refine Walk.ctl rfl (fun w => stepG_inLoop) ?_
  refine .stop fun d' => ⟨g, cap', w3, at_slots ?_, ⟨d', rfl⟩, hown, hg, hat, hlt⟩
  have hc : ((i + 1 : Nat) : Int) = (i : Int) + 1 := by simp
  simp only [hd24, hc]
  rfl

set_option maxHeartbeats 8000000 in
set_option maxRecDepth 100000 in
theorem walkers24_nil (B L lo n cap i : Nat) (oa : Option Addr) (oc n0 : Nat) (xs : List Value) (u : Nat → Value) (cs : List Frame) (w : World) (hi : i < n) (hn : n ≤ 8796093022208) (hc2 : w.cell? ⟨L, lo + i * 3 + 2, none⟩ = some (.bool true))
    (hrow : w.ownsRow n0 67 1 (.slice oa i oc) i xs) (hb : n0 ≤ w.heap.size) (hap : ∀ g, (Value.slice oa i oc).ownBlock = some g → Apart V g) :
    Walk Try.prog main (DR V) (fun g' w' => ∃ g cap' w3, (∃ u', g' = G (hd24 B (.slice (some ⟨L, lo, none⟩) n cap) (some ⟨g, 0, none⟩) cap' (i + 1) u') cs) ∧ (∃ d, w' = w3.at d) ∧ w3.ownsRow n0 67 1 (.slice (some ⟨g, 0, none⟩) (i + 1) cap') (i + 1) (xs ++ [.nilFunc]) ∧ (w.alloc (.cells #[.nilFunc] 67)).grownBy w3 (Value.slice oa i oc).ownBlock ∧ ((Value.slice oa i oc).ownBlock = some g ∨ g = (w.alloc (.cells #[.nilFunc] 67)).heap.size) ∧ g < w3.heap.size)
      (G (hd24 B (.slice (some ⟨L, lo, none⟩) n cap) oa oc i u) cs) w := by
  have hw1 : IntKind.wrap .i64 ((i : Int) + 1) = (i : Int) + 1 := by rw [IntKind.wrap_i64]; omega
  conv => arg 5; unfold hd24
  repeat (first | (refine Walk.c rfl ?_) | (refine Walk.cRet ?_) | (refine Walk.cEnd ?_) | (refine Walk.cReg ?_; simp only [size24_0, size24_1, size24_2, size24_3, size24_5, size24_6, size24_7, size24_8, size24_4, size24_9, List.range, List.range.loop]) | (refine Walk.opq (ho_of (by conv => lhs; whnf) (by kernel_rfl)) (by rfl) (by decide) (fun dd e he => ?_) (fun dd K hK => ?_); (· (simp [go_sem, *] at he; try (subst he; exact evR_read _ _))); go_simp; refine hK _ ?_; clear hK K; try walk_nrm) | (refine Walk.ctl rfl (fun w => stepG_unwanted (ho_of (by conv => lhs; whnf) (by kernel_rfl)) (by rfl)) ?_; walk_nrm))
  (co_applyP Walk.opw (ho_of (by conv => lhs; whnf) (by kernel_rfl)) (by rfl) (by decide) ?wev3 ?wdr3 ?wrun3; (case' wrun3 => (intro dd K hK; go_simp; simp only [alloc_at', setCell_at']; refine hK _ ?wmore3; clear hK K)); (case wdr3 => exact fun dd es hes => DR.alloc' dd es hes); (case wev3 => (intro dd e he; simp [go_sem, *] at he)); try walk_nrm)
  have hsA : (w.alloc (.cells #[.nilFunc] 67)).heap.size = w.heap.size + 1 := by simp
  have hrow2 : (w.alloc (.cells #[.nilFunc] 67)).ownsRow n0 67 1 (.slice oa i oc) i xs := hrow.kept (World.grownBy_alloc w _ none) (by cases (Value.slice oa i oc).ownBlock <;> simp)
  have hnew : ∀ y v, ([.nilFunc] : List Value)[y]? = some v → (w.alloc (.cells #[.nilFunc] 67)).cell? ((⟨w.heap.size, 0, none⟩ : Addr).add y) = some v := fun y v hv => by
    rw [add_none, Nat.zero_add]
    refine (cell_of (heap_alloc_new _ _) y).trans ?_
    simpa using hv
  have hi67 := Option.some_get (show (Try.prog.info? 67).isSome = true by kernel_rfl)
  refine Walk.append (.tmp 19) (.tmp 20) 53 (ho_of (by conv => lhs; whnf) (by kernel_rfl)) (by rfl) (by decide) rfl n0 67 _ .nilFunc 1 8 (by kernel_rfl) hi67.symm (by rfl) (by rfl) (by rfl) (by rfl) (by decide) (.slice oa i oc) i xs rfl hrow2 ⟨w.heap.size, 0, none⟩ 1 1 [.nilFunc] ?_ (by rfl) hnew (by simp [Value.oneCell']) (by decide) (by simp [maxLen]; omega) (by omega) (by omega) hap (fun g cap' w3 hown hg hat hlt => ?_)
  · simp [Act.eval]
  clear hi67
  walk_nrm
  repeat (first | (refine Walk.c rfl ?_) | (refine Walk.cRet ?_) | (refine Walk.cEnd ?_) | (refine Walk.cReg ?_; simp only [size24_0, size24_1, size24_2, size24_3, size24_5, size24_6, size24_7, size24_8, size24_4, size24_9, List.range, List.range.loop]) | (refine Walk.opq (ho_of (by conv => lhs; whnf) (by kernel_rfl)) (by rfl) (by decide) (fun dd e he => ?_) (fun dd K hK => ?_); (· (simp [go_sem, *] at he; try (subst he; exact evR_read _ _))); go_simp; refine hK _ ?_; clear hK K; try walk_nrm) | (refine Walk.ctl rfl (fun w => stepG_unwanted (ho_of (by conv => lhs; whnf) (by kernel_rfl)) (by rfl)) ?_; walk_nrm))
  refine Walk.ctl rfl (fun w => stepG_inLoop) ?_
  refine .stop fun d' => ⟨g, cap', w3, at_slots ?_, ⟨d', rfl⟩, hown, hg, hat, hlt⟩
  have hc : ((i + 1 : Nat) : Int) = (i : Int) + 1 := by simp
  simp only [hd24, hc]
  rfl
end Go.Proofs.Ytgiiicdpbdfemaa
end
