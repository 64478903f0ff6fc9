/- Part 3. -/
import Derived.Test.YtnnakajldnaldaaK1
import Derived.Test.YtnnakajldnaldaaK2
set_option linter.unusedSimpArgs false
set_option linter.unusedVariables false
set_option maxHeartbeats 8000000
set_option maxRecDepth 100000
namespace Go.Proofs.Ytnnakajldnaldaa
open Go.Conc Go.RowKit Go.Relay
open Go.ConcN (upd upd_ne upd_same)
section
theorem undSteps : Try.prog.underlying 37 = some (.pointer 39) := by kernel_rfl
theorem run_ifaceSteps (a : Option Addr) (w : World) : (Instr.makeInterface 37 (.pointer a)).run Try.prog w = .ok (.iface 37 (.pointer a)) w := by simp [Instr.makeInterface, run_underlying undSteps]
theorem ev_ifaceSteps (a : Option Addr) (w : World) (es : Array Event) : (Instr.makeInterface 37 (.pointer a)).events Try.prog w es = es := by simp [Instr.makeInterface, run_underlying undSteps]
noncomputable def rowStepsB : Bool := match Try.prog.info? 37 with
  | some ti => (match ti.methods.find? (·.name == "Step") with
    | some m => m.path.isEmpty && (m.func == some (127, true))
    | none => false)
  | none => false
theorem rowSteps : ∃ ti m, Try.prog.info? 37 = some ti ∧ ti.methods.find? (·.name == "Step") = some m ∧ m.path = #[] ∧ m.func = some (127, true) := by
  have h : rowStepsB = true := by kernel_rfl
  unfold rowStepsB at h
  revert h
  cases h1 : Try.prog.info? 37 with
  | none => simp
  | some ti =>
    simp only []
    cases h2 : ti.methods.find? (·.name == "Step") with
    | none => simp
    | some m =>
      simp only [Bool.and_eq_true, Array.isEmpty_iff, beq_iff_eq]
      exact fun h => ⟨ti, m, rfl, h2, h.1, h.2⟩
theorem method_steps (p : Nat) (w : World) (es : Array Event) : (method (Try.prog.types.size + Made.depth) 37 (.pointer (some ⟨p, 0, none⟩)) "Step").run Try.prog w = .ok (127, .pointer (some ⟨p, 0, none⟩)) w ∧ (method (Try.prog.types.size + Made.depth) 37 (.pointer (some ⟨p, 0, none⟩)) "Step").events Try.prog w es = es := by
  obtain ⟨ti, m, h1, h2, h3, h4⟩ := rowSteps
  obtain ⟨k, hk⟩ : ∃ k, Try.prog.types.size + Made.depth = k + 1 := ⟨Try.prog.types.size + (Made.depth - 1), by have : 1 ≤ Made.depth := by decide
                                                                                                                omega⟩
  rw [hk]
  unfold method
  refine ⟨?_, ?_⟩
  · simp [typeInfo, h1, h2, h3, h4, follow, receiverAt, run_underlying undSteps, Place.get]
  · simp [typeInfo, h1, h2, h3, h4, follow, receiverAt, run_underlying undSteps, Place.get]
section
variable {main : Bool} {V : Nat → Option Wait} {Stop : Goroutine → World → Prop} {w : World} {b : Frame} {a : Act} {k : List Item} {cs : List Frame} {ops : Array Oper} {i : Nat} {rest : List Nat} {o : Oper}
theorem stepG_invokeSteps {x : Operand} {ats : Array TypeId} (p : Nat) (ho : ops[i]? = some o) (hw : Region.wanted o (yielded ops a.tmps) = true) (hk : b.kind ≠ .early) (hop : o.op = .call { callee := .invoke x "Step", args := #[], argTypes := ats }) (hx : a.eval x = .iface 37 (.pointer (some ⟨p, 0, none⟩))) :
    stepG Try.prog main (G (b.at a (.inRegion ops (i :: rest) :: k)) cs) w = .go (G (Frame.enter Try.prog 127 #[.pointer (some ⟨p, 0, none⟩)] .normal) (b.at a (.inRegion ops (i :: rest) :: k) :: cs)) w := by
  have h1 : ¬ Try.f127.name = "runtime.NumGoroutine" := by decide
  have h2 : ¬ Try.f127.body = none := by simp [Try.f127]
  have hm := method_steps p w #[]
  rw [show Try.prog.types.size = 186 from by kernel_rfl] at hm
  have hr : (execOp a.eval o).run Try.prog w = .ok (.enter 127 #[.pointer (some ⟨p, 0, none⟩)]) w := by
    unfold execOp
    simp [hop, resolve, invoke, callMethod, callFunc, hm.1, Try.func127, h1, h2, hx]
  have he : (execOp a.eval o).events Try.prog w #[] = #[] := by
    unfold execOp
    simp [hop, resolve, invoke, callMethod, callFunc, hm.1, hm.2, Try.func127, h1, h2, hx]
  rw [stepG_enter ho hw hk hr]
  have : listed Try.prog b.fn a o w = #[] := by unfold listed; rw [he]; exact seen_none Try.prog _
  rw [this]
theorem Walk.invokeSteps {x : Operand} {ats : Array TypeId} (p : Nat) (ho : ops[i]? = some o) (hw : Region.wanted o (yielded ops a.tmps) = true) (hk : b.kind ≠ .early) (hop : o.op = .call { callee := .invoke x "Step", args := #[], argTypes := ats }) (hx : a.eval x = .iface 37 (.pointer (some ⟨p, 0, none⟩)))
    (h : Walk Try.prog main (DR V) Stop (G (Frame.enter Try.prog 127 #[.pointer (some ⟨p, 0, none⟩)] .normal) (b.at a (.inRegion ops (i :: rest) :: k) :: cs)) w) : Walk Try.prog main (DR V) Stop (G (b.at a (.inRegion ops (i :: rest) :: k)) cs) w :=
  Walk.ctl rfl (fun _ => stepG_invokeSteps p ho hw hk hop hx) h
end
noncomputable def reg127_0 : Array Oper := match Try.f127.body with | some (.region _ ops _) => ops | _ => #[]
theorem size127_0 : reg127_0.size = 8 := by kernel_rfl
theorem code127_is : Try.f127.body = some (.region 0 reg127_0 false) := by kernel_rfl
section
variable {main : Bool} {V : Nat → Option Wait}
theorem steps_w (p : Nat) (n : Int) (w : World) (hc : w.heap[p]? = some (.cells #[.int .i64 n] 39)) (hz : w.frozen? ⟨p, 0, none⟩ = false) (hn0 : 0 ≤ n) (hn : n < 4611686018427387904) (hf : Apart V p) :
    CallV Try.prog main V 127 #[.pointer (some ⟨p, 0, none⟩)] w (.tuple #[]) (w.setCell ⟨p, 0, none⟩ (.int .i64 (n + 1))) := by
  have hw1 : IntKind.wrap .i64 (n + 1) = n + 1 := by rw [IntKind.wrap_i64]; omega
  have h1 : w.cell? ⟨p, 0, none⟩ = some (.int .i64 n) := (cell_of hc 0).trans rfl
  have hf' : Free V ⟨p, 0, none⟩ := hf.1 _ rfl
  refine callW_in Try.func127 code127_is fun fr cs => ?_
  simp only [Try.ntmps127, List.size_toArray, List.length_cons, List.length_nil, Nat.reduceAdd, Nat.reduceSub, Array.replicate_succ, Array.replicate_zero, List.push_toArray, List.append_toArray, List.nil_append, List.cons_append]
  repeat (first | refine Walk.c rfl ?_ | refine Walk.cRet ?_ | refine Walk.cEnd ?_ | (refine Walk.cReg ?_; simp only [size127_0, List.range, List.range.loop]) | (refine Walk.oq ?_; try walk_nrm) | (refine Walk.un ?_; walk_nrm))
  (refine Walk.os hf' h1 ?_; try walk_nrm)
  repeat (first | refine Walk.c rfl ?_ | refine Walk.cRet ?_ | refine Walk.cEnd ?_ | (refine Walk.cReg ?_; simp only [size127_0, List.range, List.range.loop]) | (refine Walk.oq ?_; try walk_nrm) | (refine Walk.un ?_; walk_nrm))
  exact Walk.ret0 rfl rfl Try.func127 rfl fun d => ⟨rfl, d, rfl⟩
end
def lonC (L : La) : Nat → Nat → L.Sg × (Ans ⊕ L.D) → Option (Nat × L.Sg × Ans)
  | _, c, (s, .inl a) => some (c, s, a)
  | 0, _, (_, .inr _) => none
  | n + 1, c, (s, .inr d) => lonC L n (c + 1) (L.act s d)
theorem lonC_inl (L : La) (n c : Nat) (s : L.Sg) (a : Ans) : lonC L n c (s, .inl a) = some (c, s, a) := by cases n <;> rfl
structure CntE (L : La) (base : World) (p : Nat) (R : Nat × L.Sg × Ans) where
  w : World
  s : L.Sg
  tgt : L.Sg × (Ans ⊕ L.D)
  fuel : Nat
  n : Nat
  inv : L.I s w
  size : base.heap.size ≤ w.heap.size
  old : ∀ b, b < base.heap.size → ¬ L.sh b → b ≠ p → w.heap[b]? = base.heap[b]?
  cnt : w.heap[p]? = some (.cells #[.int .i64 n] 39)
  few : n + fuel < 4611686018427387904
  run : lonC L fuel n tgt = some R
section
variable {L : La} {main : Bool} {V : Nat → Option Wait} {Stop : Goroutine → World → Prop} {cs : List Frame} {base : World} {p : Nat} {R : Nat × L.Sg × Ans}
def cntB (main : Bool) (V : Nat → Option Wait) (Stop : Goroutine → World → Prop) (cs : List Frame) (base : World) (p : Nat) (R : Nat × L.Sg × Ans) : Lb L where
  main := main
  E := CntE L base p R
  V := fun _ => V
  Stop := fun _ => Stop
  bot := fun _ => cs
  w := fun e => e.w
  s := fun e => e.s
  tgt := fun e => e.tgt
  fuel := fun e => e.fuel
  mine := fun e b => base.heap.size ≤ b ∧ b < e.w.heap.size
theorem cnt_step (hA : Apart V p) (hp : ¬ L.sh p) (hlo : p < base.heap.size) (e : CntE L base p R) (d : L.D) (ht : e.tgt = (e.s, .inr d)) (fr : Frame) (l : List Frame) (hk : ∀ e' : CntE L base p R, Aft (cntB main V Stop cs base p R) e d e' → LW (cntB main V Stop cs base p R) e' (G (fr.finish (.tuple #[])) (l ++ cs))) :
    LW (cntB main V Stop cs base p R) e (G (Frame.enter Try.prog 55 #[.iface 37 (.pointer (some ⟨p, 0, none⟩))] .normal) (fr :: (l ++ cs))) := by
  obtain ⟨ms, hu⟩ := undStepperN
  have hn1 := fun w => run_neq_iface (P := Try.prog) (w := w) 84 37 (.pointer (some ⟨p, 0, none⟩)) hu
  have hn2 := fun w es => ev_neq_iface (P := Try.prog) (w := w) 84 37 (.pointer (some ⟨p, 0, none⟩)) es hu
  obtain ⟨n, hn, hr⟩ : ∃ n, e.fuel = n + 1 ∧ lonC L n (e.n + 1) (L.act e.s d) = some R := by
    have h := e.run
    rw [ht] at h
    cases hf : e.fuel with
    | zero => rw [hf] at h; cases h
    | succ n => rw [hf] at h; exact ⟨n, rfl, h⟩
  have hz : e.w.frozen? ⟨p, 0, none⟩ = false := frozen_of e.cnt 0
  have hoth : ∀ b, b ≠ p → (e.w.setCell ⟨p, 0, none⟩ (.int .i64 ((e.n : Int) + 1))).heap[b]? = e.w.heap[b]? := fun b hb => by simp [World.setCell, Array.getElem?_modify, Ne.symm hb]
  have hsz : (e.w.setCell ⟨p, 0, none⟩ (.int .i64 ((e.n : Int) + 1))).heap.size = e.w.heap.size := by simp
  have hcn : (e.w.setCell ⟨p, 0, none⟩ (.int .i64 ((e.n : Int) + 1))).heap[p]? = some (.cells #[.int .i64 ((e.n + 1 : Nat) : Int)] 39) := by
    have h := e.cnt
    simp [World.setCell, Array.getElem?_modify, h]
  have hfew := e.few
  have hs0 := e.size
  have hh := hk { w := e.w.setCell ⟨p, 0, none⟩ (.int .i64 ((e.n : Int) + 1)), s := e.s, tgt := L.act e.s d, fuel := n, n := e.n + 1, inv := L.stable e.inv fun b hb => hoth b fun x => hp (x ▸ hb), size := by rw [hsz]; exact e.size, old := fun b h1 h2 h3 => (hoth b h3).trans (e.old b h1 h2 h3), cnt := hcn, few := by omega, run := hr } ⟨rfl, show n < e.fuel by omega, Nat.le_of_eq hsz.symm, fun b h => ⟨⟨h.1, Nat.lt_of_lt_of_eq h.2 hsz.symm⟩, hoth b (fun x => by have := h.1; omega)⟩⟩
  unfold LW at hh ⊢
  show Walk Try.prog main (DR V) Stop _ e.w
  replace hh : Walk Try.prog main (DR V) Stop (G (fr.finish (.tuple #[])) (l ++ cs)) (e.w.setCell ⟨p, 0, none⟩ (.int .i64 ((e.n : Int) + 1))) := hh
  rw [enter_at _ Try.func55 code55_is]
  simp only [Try.ntmps55, List.size_toArray, List.length_cons, List.length_nil, Nat.reduceAdd, Nat.reduceSub, Array.replicate_succ, Array.replicate_zero, List.push_toArray, List.append_toArray, List.nil_append, List.cons_append]
  repeat (first | refine Walk.c rfl ?_ | refine Walk.cRet ?_ | refine Walk.cEnd ?_ | (refine Walk.cReg ?_; simp only [size55_0, size55_1, List.range, List.range.loop]) | (refine Walk.oq ?_; try walk_nrm) | (refine Walk.un ?_; walk_nrm))
  refine Walk.invokeSteps p (ho_of (by conv => lhs; whnf) (by kernel_rfl)) (by rfl) (by decide) rfl rfl ?_
  refine (steps_w p e.n e.w e.cnt hz (by omega) (by omega) hA _ _).then ?_
  rintro g' w' ⟨v', ⟨rfl, dd, rfl⟩, rfl⟩
  refine Walk.back ?_ dd
  refine Walk.finish (ho_of (by conv => lhs; whnf) (by kernel_rfl)) ?_
  walk_nrm
  repeat (first | refine Walk.c rfl ?_ | refine Walk.cRet ?_ | refine Walk.cEnd ?_ | (refine Walk.cReg ?_; simp only [size55_0, size55_1, List.range, List.range.loop]) | (refine Walk.oq ?_; try walk_nrm) | (refine Walk.un ?_; walk_nrm))
  exact Walk.on0 rfl rfl Try.func55 rfl hh
def cntL (hA : ∀ b, Apart V b) (hsh : ∀ b, L.sh b → b < base.heap.size) (hp : ¬ L.sh p) (hlo : p < base.heap.size) (main : Bool) (Stop : Goroutine → World → Prop) (cs : List Frame) (R : Nat × L.Sg × Ans) : Lg L (.iface 37 (.pointer (some ⟨p, 0, none⟩))) where
  toLb := cntB main V Stop cs base p R
  one := rfl
  inv := fun e => e.inv
  shA := fun _ b _ => hA b
  mineA := fun e b h => ⟨hA b, fun hs => by have := hsh b hs; have := h.1; omega, h.2⟩
  newA := fun _ b _ => hA b
  mv := fun e s' w' h1 h2 h3 => ⟨{ w := w', s := s', tgt := e.tgt, fuel := e.fuel, n := e.n, inv := h3, size := Nat.le_trans e.size h1, old := fun b hb hs hb' => (h2 b (Nat.lt_of_lt_of_le hb e.size) (fun hm => by have := hm.1; omega) hs).trans (e.old b hb hs hb'), cnt := (h2 p (Nat.lt_of_lt_of_le hlo e.size) (fun hm => by have := hm.1; omega) hp).trans e.cnt, few := e.few, run := e.run }, rfl, rfl, rfl, rfl, rfl, rfl, rfl, fun b => by
    show (base.heap.size ≤ b ∧ b < w'.heap.size) ↔ ((base.heap.size ≤ b ∧ b < e.w.heap.size) ∨ (e.w.heap.size ≤ b ∧ b < w'.heap.size))
    have := e.size
    have h1 : e.w.heap.size ≤ w'.heap.size := h1
    constructor
    · rintro ⟨a, b'⟩
      by_cases hb : b < e.w.heap.size
      · exact .inl ⟨a, hb⟩
      · exact .inr ⟨by omega, b'⟩
    · rintro (⟨a, b'⟩ | ⟨a, b'⟩)
      · exact ⟨a, by omega⟩
      · exact ⟨by omega, b'⟩⟩
  step := fun e d ht fr l _ _ hk => cnt_step (hA p) hp hlo e d ht fr l hk
structure Counted (L : La) (w : World) (p : Nat) (R : Nat × L.Sg × Ans) (w' : World) : Prop where
  I : L.I R.2.1 w'
  size : w.heap.size ≤ w'.heap.size
  old : ∀ b, b < w.heap.size → ¬ L.sh b → b ≠ p → w'.heap[b]? = w.heap[b]?
  cnt : w'.heap[p]? = some (.cells #[.int .i64 R.1] 39)
variable {b : Frame} {a : Act} {k : List Item} {ops : Array Oper} {i : Nat} {rest : List Nat} {o : Oper} {w : World}
theorem Walk.callCnt {f : FuncId} {fn : Func} {args : Array Operand} {ats : Array TypeId} {Rel : Value → Ans → Prop} (N n : Nat) (s : L.Sg) (r0 : Ans ⊕ L.D) (hA : ∀ b, Apart V b) (hI : L.I s w) (hp0 : ¬ L.sh p) (hcnt : w.heap[p]? = some (.cells #[.int .i64 n] 39)) (hfew : n + N < 4611686018427387904) (hrun : lonC L N n (s, r0) = some R)
    (hc : ∀ (K : Lg L (.iface 37 (.pointer (some ⟨p, 0, none⟩)))) (e : K.E), K.tgt e = (K.s e, r0) → SCall K.toLb f (args.map a.eval) e (fun v e' => ∃ x, Rel v x ∧ K.tgt e' = (K.s e', .inl x)))
    (ho : ops[i]? = some o) (hw : Region.wanted o (yielded ops a.tmps) = true) (hk : b.kind ≠ .early) (hop : o.op = .call { callee := .value (.func f), args, argTypes := ats })
    (hf : Try.prog.funcs[f]? = some fn) (hname : (fn.name == "runtime.NumGoroutine") = false) (hb : fn.body.isNone = false) (hp : Plain (b.at a (.inRegion ops (i :: rest) :: k)))
    (h : ∀ v w', Rel v R.2.2 → Counted L w p R w' → Walk Try.prog main (DR V) Stop (G (b.at (a.put o.dst v) (.inRegion ops rest :: k)) cs) w') :
    Walk Try.prog main (DR V) Stop (G (b.at a (.inRegion ops (i :: rest) :: k)) cs) w := by
  refine Walk.callE ho hw hk hop hf hname hb ?_
  have key := hc (cntL (V := V) (base := w) hA (fun b h => L.lt hI h) hp0 (Array.getElem?_eq_some_iff.1 hcnt).1 main Stop cs R) { w := w, s := s, tgt := (s, r0), fuel := N, n := n, inv := hI, size := Nat.le_refl _, old := fun _ _ _ _ => rfl, cnt := hcnt, few := hfew, run := hrun } rfl (b.at a (.inRegion ops (i :: rest) :: k)) [] hp (fun _ h => by cases h) ?_
  · exact key
  · rintro v e' ⟨x, hr, ht⟩
    have hrn := e'.run
    have hcn := e'.cnt
    have ht : e'.tgt = (e'.s, .inl x) := ht
    rw [ht, lonC_inl] at hrn
    have hR := Option.some.inj hrn
    have r0 : R.1 = e'.n := (congrArg Prod.fst hR).symm
    have r1 : R.2.1 = e'.s := (congrArg (fun x => x.2.1) hR).symm
    have r2 : R.2.2 = x := (congrArg (fun x => x.2.2) hR).symm
    have := h v e'.w (by rw [r2]; exact hr) ⟨by rw [r1]; exact e'.inv, e'.size, e'.old, by rw [r0]; exact hcn⟩
    rw [Frame.finish_at, ho]
    exact this
end
end
end Go.Proofs.Ytnnakajldnaldaa
