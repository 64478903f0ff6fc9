/-
StackNone returns true whatever the two numbers, and what was there stands: the calls of a nil stack answer as the document says and cost no step, those of a zero stack cost one step each, and New cuts its size. Conditions: none beyond the statement's own.
-/
import Derived.Test.YtmfkjceeeffamaaJ13
set_option linter.unusedSimpArgs false
set_option linter.unusedVariables false
set_option maxHeartbeats 8000000
set_option maxRecDepth 100000
namespace Go.Proofs.Ytmfkjceeeffamaa
open Go.Conc Go.RowKit Go.Relay
open Go.ConcN (upd upd_ne upd_same)
section
theorem undSteps : Try.prog.underlying 40 = some (.pointer 42) := by kernel_rfl
theorem run_ifaceSteps (a : Option Addr) (w : World) : (Instr.makeInterface 40 (.pointer a)).run Try.prog w = .ok (.iface 40 (.pointer a)) w := by simp [Instr.makeInterface, run_underlying undSteps]
theorem ev_ifaceSteps (a : Option Addr) (w : World) (es : Array Event) : (Instr.makeInterface 40 (.pointer a)).events Try.prog w es = es := by simp [Instr.makeInterface, run_underlying undSteps]
noncomputable def rowStepsB : Bool := match Try.prog.info? 40 with
  | some ti => (match ti.methods.find? (·.name == "Step") with
    | some m => m.path.isEmpty && (m.func == some (136, true))
    | none => false)
  | none => false
theorem rowSteps : ∃ ti m, Try.prog.info? 40 = some ti ∧ ti.methods.find? (·.name == "Step") = some m ∧ m.path = #[] ∧ m.func = some (136, true) := by
  have h : rowStepsB = true := by kernel_rfl
  unfold rowStepsB at h
  revert h
  cases h1 : Try.prog.info? 40 with
  | none => simp
  | some ti =>
    simp only []
    cases h2 : ti.methods.find? (·.name == "Step") with
    | none => simp
    | some m =>
      simp only [Bool.and_eq_true, Array.isEmpty_iff, beq_iff_eq]
      exact fun h => ⟨ti, m, rfl, h2, h.1, h.2⟩
theorem method_steps (p : Nat) (w : World) (es : Array Event) : (method (Try.prog.types.size + Made.depth) 40 (.pointer (some ⟨p, 0, none⟩)) "Step").run Try.prog w = .ok (136, .pointer (some ⟨p, 0, none⟩)) w ∧ (method (Try.prog.types.size + Made.depth) 40 (.pointer (some ⟨p, 0, none⟩)) "Step").events Try.prog w es = es := by
  obtain ⟨ti, m, h1, h2, h3, h4⟩ := rowSteps
  obtain ⟨k, hk⟩ : ∃ k, Try.prog.types.size + Made.depth = k + 1 := ⟨Try.prog.types.size + (Made.depth - 1), by have : 1 ≤ Made.depth := by decide
                                                                                                                omega⟩
  rw [hk]
  unfold method
  refine ⟨?_, ?_⟩
  · simp [typeInfo, h1, h2, h3, h4, follow, receiverAt, run_underlying undSteps, Place.get]
  · simp [typeInfo, h1, h2, h3, h4, follow, receiverAt, run_underlying undSteps, Place.get]
section
variable {main : Bool} {V : Nat → Option Wait} {Stop : Goroutine → World → Prop} {w : World} {b : Frame} {a : Act} {k : List Item} {cs : List Frame} {ops : Array Oper} {i : Nat} {rest : List Nat} {o : Oper}
theorem stepG_invokeSteps {x : Operand} {ats : Array TypeId} (p : Nat) (ho : ops[i]? = some o) (hw : Region.wanted o (yielded ops a.tmps) = true) (hk : b.kind ≠ .early) (hop : o.op = .call { callee := .invoke x "Step", args := #[], argTypes := ats }) (hx : a.eval x = .iface 40 (.pointer (some ⟨p, 0, none⟩))) :
    stepG Try.prog main (G (b.at a (.inRegion ops (i :: rest) :: k)) cs) w = .go (G (Frame.enter Try.prog 136 #[.pointer (some ⟨p, 0, none⟩)] .normal) (b.at a (.inRegion ops (i :: rest) :: k) :: cs)) w := by
  have h1 : ¬ Try.f136.name = "runtime.NumGoroutine" := by decide
  have h2 : ¬ Try.f136.body = none := by simp [Try.f136]
  have hm := method_steps p w #[]
  rw [show Try.prog.types.size = 209 from by kernel_rfl] at hm
  have hr : (execOp a.eval o).run Try.prog w = .ok (.enter 136 #[.pointer (some ⟨p, 0, none⟩)]) w := by
    unfold execOp
    simp [hop, resolve, invoke, callMethod, callFunc, hm.1, Try.func136, h1, h2, hx]
  have he : (execOp a.eval o).events Try.prog w #[] = #[] := by
    unfold execOp
    simp [hop, resolve, invoke, callMethod, callFunc, hm.1, hm.2, Try.func136, h1, h2, hx]
  rw [stepG_enter ho hw hk hr]
  have : listed Try.prog b.fn a o w = #[] := by unfold listed; rw [he]; exact seen_none Try.prog _
  rw [this]
theorem Walk.invokeSteps {x : Operand} {ats : Array TypeId} (p : Nat) (ho : ops[i]? = some o) (hw : Region.wanted o (yielded ops a.tmps) = true) (hk : b.kind ≠ .early) (hop : o.op = .call { callee := .invoke x "Step", args := #[], argTypes := ats }) (hx : a.eval x = .iface 40 (.pointer (some ⟨p, 0, none⟩)))
    (h : Walk Try.prog main (DR V) Stop (G (Frame.enter Try.prog 136 #[.pointer (some ⟨p, 0, none⟩)] .normal) (b.at a (.inRegion ops (i :: rest) :: k) :: cs)) w) : Walk Try.prog main (DR V) Stop (G (b.at a (.inRegion ops (i :: rest) :: k)) cs) w :=
  Walk.ctl rfl (fun _ => stepG_invokeSteps p ho hw hk hop hx) h
end
noncomputable def reg136_0 : Array Oper := match Try.f136.body with | some (.region _ ops _) => ops | _ => #[]
theorem size136_0 : reg136_0.size = 8 := by kernel_rfl
theorem code136_is : Try.f136.body = some (.region 0 reg136_0 false) := by kernel_rfl
section
variable {main : Bool} {V : Nat → Option Wait}
theorem steps_w (p : Nat) (n : Int) (w : World) (hc : w.heap[p]? = some (.cells #[.int .i64 n] 42)) (hz : w.frozen? ⟨p, 0, none⟩ = false) (hn0 : 0 ≤ n) (hn : n < 4611686018427387904) (hf : Apart V p) :
    CallV Try.prog main V 136 #[.pointer (some ⟨p, 0, none⟩)] w (.tuple #[]) (w.setCell ⟨p, 0, none⟩ (.int .i64 (n + 1))) := by
  have hw1 : IntKind.wrap .i64 (n + 1) = n + 1 := by rw [IntKind.wrap_i64]; omega
  have h1 : w.cell? ⟨p, 0, none⟩ = some (.int .i64 n) := (cell_of hc 0).trans rfl
  have hf' : Free V ⟨p, 0, none⟩ := hf.1 _ rfl
  refine callW_in Try.func136 code136_is fun fr cs => ?_
  simp only [Try.ntmps136, List.size_toArray, List.length_cons, List.length_nil, Nat.reduceAdd, Nat.reduceSub, Array.replicate_succ, Array.replicate_zero, List.push_toArray, List.append_toArray, List.nil_append, List.cons_append]
  repeat (first | refine Walk.c rfl ?_ | refine Walk.cRet ?_ | refine Walk.cEnd ?_ | (refine Walk.cReg ?_; simp only [size136_0, List.range, List.range.loop]) | (refine Walk.oq ?_; try walk_nrm) | (refine Walk.un ?_; walk_nrm))
  (refine Walk.os hf' h1 ?_; try walk_nrm)
  repeat (first | refine Walk.c rfl ?_ | refine Walk.cRet ?_ | refine Walk.cEnd ?_ | (refine Walk.cReg ?_; simp only [size136_0, List.range, List.range.loop]) | (refine Walk.oq ?_; try walk_nrm) | (refine Walk.un ?_; walk_nrm))
  exact Walk.ret0 rfl rfl Try.func136 rfl fun d => ⟨rfl, d, rfl⟩
end
def lonC (L : La) : Nat → Nat → L.Sg × (Ans ⊕ L.D) → Option (Nat × L.Sg × Ans)
  | _, c, (s, .inl a) => some (c, s, a)
  | 0, _, (_, .inr _) => none
  | n + 1, c, (s, .inr d) => lonC L n (c + 1) (L.act s d)
theorem lonC_inl (L : La) (n c : Nat) (s : L.Sg) (a : Ans) : lonC L n c (s, .inl a) = some (c, s, a) := by cases n <;> rfl
structure CntE (L : La) (base : World) (p : Nat) (R : Nat × L.Sg × Ans) where
  w : World
  s : L.Sg
  tgt : L.Sg × (Ans ⊕ L.D)
  fuel : Nat
  n : Nat
  inv : L.I s w
  size : base.heap.size ≤ w.heap.size
  old : ∀ b, b < base.heap.size → ¬ L.sh b → b ≠ p → w.heap[b]? = base.heap[b]?
  cnt : w.heap[p]? = some (.cells #[.int .i64 n] 42)
  few : n + fuel < 4611686018427387904
  run : lonC L fuel n tgt = some R
section
variable {L : La} {main : Bool} {V : Nat → Option Wait} {Stop : Goroutine → World → Prop} {cs : List Frame} {base : World} {p : Nat} {R : Nat × L.Sg × Ans}
def cntB (main : Bool) (V : Nat → Option Wait) (Stop : Goroutine → World → Prop) (cs : List Frame) (base : World) (p : Nat) (R : Nat × L.Sg × Ans) : Lb L where
  main := main
  E := CntE L base p R
  V := fun _ => V
  Stop := fun _ => Stop
  bot := fun _ => cs
  w := fun e => e.w
  s := fun e => e.s
  tgt := fun e => e.tgt
  fuel := fun e => e.fuel
  mine := fun e b => base.heap.size ≤ b ∧ b < e.w.heap.size
theorem cnt_step (hA : Apart V p) (hp : ¬ L.sh p) (hlo : p < base.heap.size) (e : CntE L base p R) (d : L.D) (ht : e.tgt = (e.s, .inr d)) (fr : Frame) (l : List Frame) (hk : ∀ e' : CntE L base p R, Aft (cntB main V Stop cs base p R) e d e' → LW (cntB main V Stop cs base p R) e' (G (fr.finish (.tuple #[])) (l ++ cs))) :
    LW (cntB main V Stop cs base p R) e (G (Frame.enter Try.prog 62 #[.iface 40 (.pointer (some ⟨p, 0, none⟩))] .normal) (fr :: (l ++ cs))) := by
  obtain ⟨ms, hu⟩ := undStepperN
  have hn1 := fun w => run_neq_iface (P := Try.prog) (w := w) 100 40 (.pointer (some ⟨p, 0, none⟩)) hu
  have hn2 := fun w es => ev_neq_iface (P := Try.prog) (w := w) 100 40 (.pointer (some ⟨p, 0, none⟩)) es hu
  obtain ⟨n, hn, hr⟩ : ∃ n, e.fuel = n + 1 ∧ lonC L n (e.n + 1) (L.act e.s d) = some R := by
    have h := e.run
    rw [ht] at h
    cases hf : e.fuel with
    | zero => rw [hf] at h; cases h
    | succ n => rw [hf] at h; exact ⟨n, rfl, h⟩
  have hz : e.w.frozen? ⟨p, 0, none⟩ = false := frozen_of e.cnt 0
  have hoth : ∀ b, b ≠ p → (e.w.setCell ⟨p, 0, none⟩ (.int .i64 ((e.n : Int) + 1))).heap[b]? = e.w.heap[b]? := fun b hb => by simp [World.setCell, Array.getElem?_modify, Ne.symm hb]
  have hsz : (e.w.setCell ⟨p, 0, none⟩ (.int .i64 ((e.n : Int) + 1))).heap.size = e.w.heap.size := by simp
  have hcn : (e.w.setCell ⟨p, 0, none⟩ (.int .i64 ((e.n : Int) + 1))).heap[p]? = some (.cells #[.int .i64 ((e.n + 1 : Nat) : Int)] 42) := by
    have h := e.cnt
    simp [World.setCell, Array.getElem?_modify, h]
  have hfew := e.few
  have hs0 := e.size
  have hh := hk { w := e.w.setCell ⟨p, 0, none⟩ (.int .i64 ((e.n : Int) + 1)), s := e.s, tgt := L.act e.s d, fuel := n, n := e.n + 1, inv := L.stable e.inv fun b hb => hoth b fun x => hp (x ▸ hb), size := by rw [hsz]; exact e.size, old := fun b h1 h2 h3 => (hoth b h3).trans (e.old b h1 h2 h3), cnt := hcn, few := by omega, run := hr } ⟨rfl, show n < e.fuel by omega, Nat.le_of_eq hsz.symm, fun b h => ⟨⟨h.1, Nat.lt_of_lt_of_eq h.2 hsz.symm⟩, hoth b (fun x => by have := h.1; omega)⟩⟩
  unfold LW at hh ⊢
  show Walk Try.prog main (DR V) Stop _ e.w
  replace hh : Walk Try.prog main (DR V) Stop (G (fr.finish (.tuple #[])) (l ++ cs)) (e.w.setCell ⟨p, 0, none⟩ (.int .i64 ((e.n : Int) + 1))) := hh
  rw [enter_at _ Try.func62 code62_is]
  simp only [Try.ntmps62, List.size_toArray, List.length_cons, List.length_nil, Nat.reduceAdd, Nat.reduceSub, Array.replicate_succ, Array.replicate_zero, List.push_toArray, List.append_toArray, List.nil_append, List.cons_append]
  repeat (first | refine Walk.c rfl ?_ | refine Walk.cRet ?_ | refine Walk.cEnd ?_ | (refine Walk.cReg ?_; simp only [size62_0, size62_1, List.range, List.range.loop]) | (refine Walk.oq ?_; try walk_nrm) | (refine Walk.un ?_; walk_nrm))
  refine Walk.invokeSteps p (ho_of (by conv => lhs; whnf) (by kernel_rfl)) (by rfl) (by decide) rfl rfl ?_
  refine (steps_w p e.n e.w e.cnt hz (by omega) (by omega) hA _ _).then ?_
  rintro g' w' ⟨v', ⟨rfl, dd, rfl⟩, rfl⟩
  refine Walk.back ?_ dd
  refine Walk.finish (ho_of (by conv => lhs; whnf) (by kernel_rfl)) ?_
  walk_nrm
  repeat (first | refine Walk.c rfl ?_ | refine Walk.cRet ?_ | refine Walk.cEnd ?_ | (refine Walk.cReg ?_; simp only [size62_0, size62_1, List.range, List.range.loop]) | (refine Walk.oq ?_; try walk_nrm) | (refine Walk.un ?_; walk_nrm))
  exact Walk.on0 rfl rfl Try.func62 rfl hh
def cntL (hA : ∀ b, Apart V b) (hsh : ∀ b, L.sh b → b < base.heap.size) (hp : ¬ L.sh p) (hlo : p < base.heap.size) (main : Bool) (Stop : Goroutine → World → Prop) (cs : List Frame) (R : Nat × L.Sg × Ans) : Lg L (.iface 40 (.pointer (some ⟨p, 0, none⟩))) where
  toLb := cntB main V Stop cs base p R
  inv := fun e => e.inv
  shA := fun _ b _ => hA b
  mineA := fun e b h => ⟨hA b, fun hs => by have := hsh b hs; have := h.1; omega, h.2⟩
  newA := fun _ b _ => hA b
  mv := fun e s' w' h1 h2 h3 => ⟨{ w := w', s := s', tgt := e.tgt, fuel := e.fuel, n := e.n, inv := h3, size := Nat.le_trans e.size h1, old := fun b hb hs hb' => (h2 b (Nat.lt_of_lt_of_le hb e.size) (fun hm => by have := hm.1; omega) hs).trans (e.old b hb hs hb'), cnt := (h2 p (Nat.lt_of_lt_of_le hlo e.size) (fun hm => by have := hm.1; omega) hp).trans e.cnt, few := e.few, run := e.run }, rfl, rfl, rfl, rfl, rfl, rfl, rfl, fun b => by
    show (base.heap.size ≤ b ∧ b < w'.heap.size) ↔ ((base.heap.size ≤ b ∧ b < e.w.heap.size) ∨ (e.w.heap.size ≤ b ∧ b < w'.heap.size))
    have := e.size
    have h1 : e.w.heap.size ≤ w'.heap.size := h1
    constructor
    · rintro ⟨a, b'⟩
      by_cases hb : b < e.w.heap.size
      · exact .inl ⟨a, hb⟩
      · exact .inr ⟨by omega, b'⟩
    · rintro (⟨a, b'⟩ | ⟨a, b'⟩)
      · exact ⟨a, by omega⟩
      · exact ⟨by omega, b'⟩⟩
  step := fun e d ht fr l _ _ hk => cnt_step (hA p) hp hlo e d ht fr l hk
structure Counted (L : La) (w : World) (p : Nat) (R : Nat × L.Sg × Ans) (w' : World) : Prop where
  I : L.I R.2.1 w'
  size : w.heap.size ≤ w'.heap.size
  old : ∀ b, b < w.heap.size → ¬ L.sh b → b ≠ p → w'.heap[b]? = w.heap[b]?
  cnt : w'.heap[p]? = some (.cells #[.int .i64 R.1] 42)
variable {b : Frame} {a : Act} {k : List Item} {ops : Array Oper} {i : Nat} {rest : List Nat} {o : Oper} {w : World}
theorem Walk.callCnt {f : FuncId} {fn : Func} {args : Array Operand} {ats : Array TypeId} {Rel : Value → Ans → Prop} (N n : Nat) (s : L.Sg) (r0 : Ans ⊕ L.D) (hA : ∀ b, Apart V b) (hI : L.I s w) (hp0 : ¬ L.sh p) (hcnt : w.heap[p]? = some (.cells #[.int .i64 n] 42)) (hfew : n + N < 4611686018427387904) (hrun : lonC L N n (s, r0) = some R)
    (hc : ∀ (K : Lg L (.iface 40 (.pointer (some ⟨p, 0, none⟩)))) (e : K.E), K.tgt e = (K.s e, r0) → SCall K.toLb f (args.map a.eval) e (fun v e' => ∃ x, Rel v x ∧ K.tgt e' = (K.s e', .inl x)))
    (ho : ops[i]? = some o) (hw : Region.wanted o (yielded ops a.tmps) = true) (hk : b.kind ≠ .early) (hop : o.op = .call { callee := .value (.func f), args, argTypes := ats })
    (hf : Try.prog.funcs[f]? = some fn) (hname : (fn.name == "runtime.NumGoroutine") = false) (hb : fn.body.isNone = false) (hp : Plain (b.at a (.inRegion ops (i :: rest) :: k)))
    (h : ∀ v w', Rel v R.2.2 → Counted L w p R w' → Walk Try.prog main (DR V) Stop (G (b.at (a.put o.dst v) (.inRegion ops rest :: k)) cs) w') :
    Walk Try.prog main (DR V) Stop (G (b.at a (.inRegion ops (i :: rest) :: k)) cs) w := by
  refine Walk.callE ho hw hk hop hf hname hb ?_
  have key := hc (cntL (V := V) (base := w) hA (fun b h => L.lt hI h) hp0 (Array.getElem?_eq_some_iff.1 hcnt).1 main Stop cs R) { w := w, s := s, tgt := (s, r0), fuel := N, n := n, inv := hI, size := Nat.le_refl _, old := fun _ _ _ _ => rfl, cnt := hcnt, few := hfew, run := hrun } rfl (b.at a (.inRegion ops (i :: rest) :: k)) [] hp (fun _ h => by cases h) ?_
  · exact key
  · rintro v e' ⟨x, hr, ht⟩
    have hrn := e'.run
    have hcn := e'.cnt
    have ht : e'.tgt = (e'.s, .inl x) := ht
    rw [ht, lonC_inl] at hrn
    have hR := Option.some.inj hrn
    have r0 : R.1 = e'.n := (congrArg Prod.fst hR).symm
    have r1 : R.2.1 = e'.s := (congrArg (fun x => x.2.1) hR).symm
    have r2 : R.2.2 = x := (congrArg (fun x => x.2.2) hR).symm
    have := h v e'.w (by rw [r2]; exact hr) ⟨by rw [r1]; exact e'.inv, e'.size, e'.old, by rw [r0]; exact hcn⟩
    rw [Frame.finish_at, ho]
    exact this
end
end
section
section
variable {main : Bool} {V : Nat → Option Wait} {sv : Value} {w W : World}
theorem pop_nil (sv : Value) (w : World) : CallV Try.prog main V 26 #[.pointer none, sv] w (.tuple #[.int .i64 0, .bool false]) w := by
  have hp1 := fun w => run_eql_ptr (P := Try.prog) 38 undStack none w
  have hp2 := fun w es => ev_eql_ptr (P := Try.prog) 38 undStack none w es
  simp only [Option.isNone_none] at hp1
  refine callW_in Try.func26 code26_is fun fr cs => ?_
  simp only [Try.ntmps26, List.size_toArray, List.length_cons, List.length_nil, Nat.reduceAdd, Nat.reduceSub, Array.replicate_succ, Array.replicate_zero, List.push_toArray, List.append_toArray, List.nil_append, List.cons_append]
  repeat (first | refine Walk.c rfl ?_ | refine Walk.cRet ?_ | refine Walk.cEnd ?_ | (refine Walk.cReg ?_; simp only [size26_0, size26_1, size26_2, size26_3, size26_4, size26_5, size26_6, size26_7, size26_8, List.range, List.range.loop]) | (refine Walk.oq ?_; try walk_nrm) | (refine Walk.un ?_; walk_nrm))
  exact Walk.on2 rfl rfl Try.func26 rfl (.stop fun d => ⟨_, ⟨rfl, d, rfl⟩, rfl⟩)
theorem peek_nil (sv : Value) (w : World) : CallV Try.prog main V 27 #[.pointer none, sv] w (.tuple #[.int .i64 0, .bool false]) w := by
  have hp1 := fun w => run_eql_ptr (P := Try.prog) 38 undStack none w
  have hp2 := fun w es => ev_eql_ptr (P := Try.prog) 38 undStack none w es
  simp only [Option.isNone_none] at hp1
  refine callW_in Try.func27 code27_is fun fr cs => ?_
  simp only [Try.ntmps27, List.size_toArray, List.length_cons, List.length_nil, Nat.reduceAdd, Nat.reduceSub, Array.replicate_succ, Array.replicate_zero, List.push_toArray, List.append_toArray, List.nil_append, List.cons_append]
  repeat (first | refine Walk.c rfl ?_ | refine Walk.cRet ?_ | refine Walk.cEnd ?_ | (refine Walk.cReg ?_; simp only [size27_0, size27_1, size27_2, size27_3, size27_4, size27_5, size27_6, size27_7, size27_8, size27_9, size27_10, List.range, List.range.loop]) | (refine Walk.oq ?_; try walk_nrm) | (refine Walk.un ?_; walk_nrm))
  exact Walk.on2 rfl rfl Try.func27 rfl (.stop fun d => ⟨_, ⟨rfl, d, rfl⟩, rfl⟩)
theorem push_nil (sv v : Value) (w : World) : CallV Try.prog main V 28 #[.pointer none, sv, v] w (.bool false) w := by
  have hp1 := fun w => run_eql_ptr (P := Try.prog) 38 undStack none w
  have hp2 := fun w es => ev_eql_ptr (P := Try.prog) 38 undStack none w es
  simp only [Option.isNone_none] at hp1
  refine callW_in Try.func28 code28_is fun fr cs => ?_
  simp only [Try.ntmps28, List.size_toArray, List.length_cons, List.length_nil, Nat.reduceAdd, Nat.reduceSub, Array.replicate_succ, Array.replicate_zero, List.push_toArray, List.append_toArray, List.nil_append, List.cons_append]
  repeat (first | refine Walk.c rfl ?_ | refine Walk.cRet ?_ | refine Walk.cEnd ?_ | (refine Walk.cReg ?_; simp only [size28_0, size28_1, size28_2, size28_3, size28_4, size28_5, size28_6, size28_7, size28_8, List.range, List.range.loop]) | (refine Walk.oq ?_; try walk_nrm) | (refine Walk.un ?_; walk_nrm))
  exact Walk.ret1 rfl rfl Try.func28 rfl fun d => ⟨rfl, d, rfl⟩
theorem empty_nil (sv : Value) (w : World) : CallV Try.prog main V 29 #[.pointer none, sv] w (.bool true) w := by
  have hp1 := fun w => run_eql_ptr (P := Try.prog) 38 undStack none w
  have hp2 := fun w es => ev_eql_ptr (P := Try.prog) 38 undStack none w es
  simp only [Option.isNone_none] at hp1
  refine callW_in Try.func29 code29_is fun fr cs => ?_
  simp only [Try.ntmps29, List.size_toArray, List.length_cons, List.length_nil, Nat.reduceAdd, Nat.reduceSub, Array.replicate_succ, Array.replicate_zero, List.push_toArray, List.append_toArray, List.nil_append, List.cons_append]
  repeat (first | refine Walk.c rfl ?_ | refine Walk.cRet ?_ | refine Walk.cEnd ?_ | (refine Walk.cReg ?_; simp only [size29_0, size29_1, List.range, List.range.loop]) | (refine Walk.oq ?_; try walk_nrm) | (refine Walk.un ?_; walk_nrm))
  exact Walk.ret1 rfl rfl Try.func29 rfl fun d => ⟨rfl, d, rfl⟩
theorem size_nil (w : World) : CallV Try.prog main V 21 #[.pointer none] w (.int .i64 0) w := by
  have hp1 := fun w => run_eql_ptr (P := Try.prog) 38 undStack none w
  have hp2 := fun w es => ev_eql_ptr (P := Try.prog) 38 undStack none w es
  simp only [Option.isNone_none] at hp1
  refine callW_in Try.func21 code21_is fun fr cs => ?_
  simp only [Try.ntmps21, List.size_toArray, List.length_cons, List.length_nil, Nat.reduceAdd, Nat.reduceSub, Array.replicate_succ, Array.replicate_zero, List.push_toArray, List.append_toArray, List.nil_append, List.cons_append]
  repeat (first | refine Walk.c rfl ?_ | refine Walk.cRet ?_ | refine Walk.cEnd ?_ | (refine Walk.cReg ?_; simp only [size21_0, size21_1, size21_2, size21_3, List.range, List.range.loop]) | (refine Walk.oq ?_; try walk_nrm) | (refine Walk.un ?_; walk_nrm))
  exact Walk.ret1 rfl rfl Try.func21 rfl fun d => ⟨rfl, d, rfl⟩
theorem values_nil (w : World) : CallV Try.prog main V 20 #[.pointer none] w (.slice none 0 0) w := by
  have hp1 := fun w => run_eql_ptr (P := Try.prog) 38 undStack none w
  have hp2 := fun w es => ev_eql_ptr (P := Try.prog) 38 undStack none w es
  simp only [Option.isNone_none] at hp1
  refine callW_in Try.func20 code20_is fun fr cs => ?_
  simp only [Try.ntmps20, List.size_toArray, List.length_cons, List.length_nil, Nat.reduceAdd, Nat.reduceSub, Array.replicate_succ, Array.replicate_zero, List.push_toArray, List.append_toArray, List.nil_append, List.cons_append]
  repeat (first | refine Walk.c rfl ?_ | refine Walk.cRet ?_ | refine Walk.cEnd ?_ | (refine Walk.cReg ?_; simp only [size20_0, size20_1, size20_2, size20_3, size20_4, size20_5, size20_7, size20_6, size20_8, List.range, List.range.loop]) | (refine Walk.oq ?_; try walk_nrm) | (refine Walk.un ?_; walk_nrm))
  exact Walk.ret1 rfl rfl Try.func20 rfl fun d => ⟨rfl, d, rfl⟩
theorem holds_g (hst : CallV Try.prog main V 62 #[sv] w (.tuple #[]) W) (b q : Nat) (v : Int) (hc : W.cell? ⟨b, q, none⟩ = some (.int .i64 v)) : CallV Try.prog main V 66 #[sv, .pointer (some ⟨b, q, none⟩)] w (.int .i64 v) W := by
  have hi1 := run_ifaceAtomic
  have hi2 := ev_ifaceAtomic
  refine callW_in Try.func66 code66_is fun fr cs => ?_
  simp only [Try.ntmps66, List.size_toArray, List.length_cons, List.length_nil, Nat.reduceAdd, Nat.reduceSub, Array.replicate_succ, Array.replicate_zero, List.push_toArray, List.append_toArray, List.nil_append, List.cons_append]
  repeat (first | refine Walk.c rfl ?_ | refine Walk.cRet ?_ | refine Walk.cEnd ?_ | (refine Walk.cReg ?_; simp only [size66_0, size66_1, size66_2, List.range, List.range.loop]) | (refine Walk.oq ?_; try walk_nrm) | (refine Walk.un ?_; walk_nrm))
  refine Walk.callV (x := .tuple #[]) (W := W) ?_ (ho_of (by conv => lhs; whnf) (by kernel_rfl)) (by rfl) (by decide) rfl Try.func62 (by kernel_rfl) (by rfl) ?_
  · walk_nrm
    exact hst
  walk_nrm
  repeat (first | refine Walk.c rfl ?_ | refine Walk.cRet ?_ | refine Walk.cEnd ?_ | (refine Walk.cReg ?_; simp only [size66_0, size66_1, size66_2, List.range, List.range.loop]) | (refine Walk.oq ?_; try walk_nrm) | (refine Walk.un ?_; walk_nrm))
  refine Walk.invokeLoad b q (ho_of (by conv => lhs; whnf) (by kernel_rfl)) (by rfl) (by decide) rfl rfl ?_
  refine (atLoad b q _ W hc _ _).then ?_
  rintro g' w' ⟨v', ⟨rfl, dd, rfl⟩, rfl⟩
  refine Walk.back ?_ dd
  refine Walk.finish (ho_of (by conv => lhs; whnf) (by kernel_rfl)) ?_
  walk_nrm
  repeat (first | refine Walk.c rfl ?_ | refine Walk.cRet ?_ | refine Walk.cEnd ?_ | (refine Walk.cReg ?_; simp only [size66_0, size66_1, size66_2, List.range, List.range.loop]) | (refine Walk.oq ?_; try walk_nrm) | (refine Walk.un ?_; walk_nrm))
  exact Walk.ret1 rfl rfl Try.func66 rfl fun d => ⟨rfl, d, rfl⟩
theorem load_g (hst : CallV Try.prog main V 62 #[sv] w (.tuple #[]) W) (b q : Nat) (v : Int) (hc : W.cell? ⟨b, q, none⟩ = some (.int .i64 v)) : CallV Try.prog main V 52 #[.pointer (some ⟨b, q, none⟩), sv] w (.int .i64 v) W := by
  have hp1 := fun w => run_eql_ptr (P := Try.prog) 125 undWord (some ⟨b, q, none⟩) w
  have hp2 := fun w es => ev_eql_ptr (P := Try.prog) 125 undWord (some ⟨b, q, none⟩) w es
  simp only [Option.isNone_some] at hp1
  refine callW_in Try.func52 code52_is fun fr cs => ?_
  simp only [Try.ntmps52, List.size_toArray, List.length_cons, List.length_nil, Nat.reduceAdd, Nat.reduceSub, Array.replicate_succ, Array.replicate_zero, List.push_toArray, List.append_toArray, List.nil_append, List.cons_append]
  repeat (first | refine Walk.c rfl ?_ | refine Walk.cRet ?_ | refine Walk.cEnd ?_ | (refine Walk.cReg ?_; simp only [size52_0, size52_1, size52_2, size52_3, List.range, List.range.loop]) | (refine Walk.oq ?_; try walk_nrm) | (refine Walk.un ?_; walk_nrm))
  refine Walk.callV (x := .int .i64 v) (W := W) ?_ (ho_of (by conv => lhs; whnf) (by kernel_rfl)) (by rfl) (by decide) rfl Try.func66 (by kernel_rfl) (by rfl) ?_
  · walk_nrm
    exact holds_g hst b q v hc
  walk_nrm
  repeat (first | refine Walk.c rfl ?_ | refine Walk.cRet ?_ | refine Walk.cEnd ?_ | (refine Walk.cReg ?_; simp only [size52_0, size52_1, size52_2, size52_3, List.range, List.range.loop]) | (refine Walk.oq ?_; try walk_nrm) | (refine Walk.un ?_; walk_nrm))
  exact Walk.ret1 rfl rfl Try.func52 rfl fun d => ⟨rfl, d, rfl⟩
theorem hload_g (hst : CallV Try.prog main V 62 #[sv] w (.tuple #[]) W) (b h : Nat) (v : Int) (hc : W.cell? ⟨b, h + 1, none⟩ = some (.int .i64 v)) : CallV Try.prog main V 45 #[.pointer (some ⟨b, h, none⟩), sv] w (.int .i64 v) W := by
  refine callW_in Try.func45 code45_is fun fr cs => ?_
  simp only [Try.ntmps45, List.size_toArray, List.length_cons, List.length_nil, Nat.reduceAdd, Nat.reduceSub, Array.replicate_succ, Array.replicate_zero, List.push_toArray, List.append_toArray, List.nil_append, List.cons_append]
  repeat (first | refine Walk.c rfl ?_ | refine Walk.cRet ?_ | refine Walk.cEnd ?_ | (refine Walk.cReg ?_; simp only [size45_0, size45_1, List.range, List.range.loop]) | (refine Walk.oq ?_; try walk_nrm) | (refine Walk.un ?_; walk_nrm))
  refine Walk.callV (x := .int .i64 v) (W := W) ?_ (ho_of (by conv => lhs; whnf) (by kernel_rfl)) (by rfl) (by decide) rfl Try.func52 (by kernel_rfl) (by rfl) ?_
  · walk_nrm
    exact load_g hst b (h + 1) v hc
  walk_nrm
  repeat (first | refine Walk.c rfl ?_ | refine Walk.cRet ?_ | refine Walk.cEnd ?_ | (refine Walk.cReg ?_; simp only [size45_0, size45_1, List.range, List.range.loop]) | (refine Walk.oq ?_; try walk_nrm) | (refine Walk.un ?_; walk_nrm))
  exact Walk.ret1 rfl rfl Try.func45 rfl fun d => ⟨rfl, d, rfl⟩
theorem take_zero (hst : CallV Try.prog main V 62 #[sv] w (.tuple #[]) W) (k : Value) (b h : Nat) (hc : W.cell? ⟨b, h + 1, none⟩ = some (.int .i64 0)) : CallV Try.prog main V 51 #[k, sv, .pointer (some ⟨b, h, none⟩)] w (.tuple #[.int .i64 0, .bool false]) W := by
  have hb : (nodeX 0 == -1) = true := by decide
  refine callW_in Try.func51 code51_is fun fr cs => ?_
  simp only [Try.ntmps51, List.size_toArray, List.length_cons, List.length_nil, Nat.reduceAdd, Nat.reduceSub, Array.replicate_succ, Array.replicate_zero, List.push_toArray, List.append_toArray, List.nil_append, List.cons_append]
  repeat (first | refine Walk.c rfl ?_ | refine Walk.cRet ?_ | refine Walk.cEnd ?_ | (refine Walk.cReg ?_; simp only [size51_0, size51_1, size51_2, size51_3, size51_4, size51_5, size51_6, List.range, List.range.loop]) | (refine Walk.oq ?_; try walk_nrm) | (refine Walk.un ?_; walk_nrm))
  refine Walk.ctl rfl (fun w => stepG_loop) ?_
  repeat (first | refine Walk.c rfl ?_ | refine Walk.cRet ?_ | refine Walk.cEnd ?_ | (refine Walk.cReg ?_; simp only [size51_0, size51_1, size51_2, size51_3, size51_4, size51_5, size51_6, List.range, List.range.loop]) | (refine Walk.oq ?_; try walk_nrm) | (refine Walk.un ?_; walk_nrm))
  refine Walk.callV (x := .int .i64 0) (W := W) ?_ (ho_of (by conv => lhs; whnf) (by kernel_rfl)) (by rfl) (by decide) rfl Try.func45 (by kernel_rfl) (by rfl) ?_
  · walk_nrm
    exact hload_g hst b h 0 hc
  walk_nrm
  repeat (first | refine Walk.c rfl ?_ | refine Walk.cRet ?_ | refine Walk.cEnd ?_ | (refine Walk.cReg ?_; simp only [size51_0, size51_1, size51_2, size51_3, size51_4, size51_5, size51_6, List.range, List.range.loop]) | (refine Walk.oq ?_; try walk_nrm) | (refine Walk.un ?_; walk_nrm))
  refine Walk.callV (x := .bool true) (W := W) ?_ (ho_of (by conv => lhs; whnf) (by kernel_rfl)) (by rfl) (by decide) rfl Try.func54 (by kernel_rfl) (by rfl) ?_
  · walk_nrm
    have := empty_w (main := main) (V := V) 0 W
    rw [hb] at this
    exact this
  walk_nrm
  repeat (first | refine Walk.c rfl ?_ | refine Walk.cRet ?_ | refine Walk.cEnd ?_ | (refine Walk.cReg ?_; simp only [size51_0, size51_1, size51_2, size51_3, size51_4, size51_5, size51_6, List.range, List.range.loop]) | (refine Walk.oq ?_; try walk_nrm) | (refine Walk.un ?_; walk_nrm))
  exact Walk.on2 rfl rfl Try.func51 rfl (.stop fun d => ⟨_, ⟨rfl, d, rfl⟩, rfl⟩)
theorem pop_zero (hst : CallV Try.prog main V 62 #[sv] w (.tuple #[]) W) (b : Nat) (hc : W.cell? ⟨b, 1, none⟩ = some (.int .i64 0)) : CallV Try.prog main V 26 #[.pointer (some ⟨b, 0, none⟩), sv] w (.tuple #[.int .i64 0, .bool false]) W := by
  have hp1 := fun w => run_eql_ptr (P := Try.prog) 38 undStack (some ⟨b, 0, none⟩) w
  have hp2 := fun w es => ev_eql_ptr (P := Try.prog) 38 undStack (some ⟨b, 0, none⟩) w es
  simp only [Option.isNone_some] at hp1
  refine callW_in Try.func26 code26_is fun fr cs => ?_
  simp only [Try.ntmps26, List.size_toArray, List.length_cons, List.length_nil, Nat.reduceAdd, Nat.reduceSub, Array.replicate_succ, Array.replicate_zero, List.push_toArray, List.append_toArray, List.nil_append, List.cons_append]
  repeat (first | refine Walk.c rfl ?_ | refine Walk.cRet ?_ | refine Walk.cEnd ?_ | (refine Walk.cReg ?_; simp only [size26_0, size26_1, size26_2, size26_3, size26_4, size26_5, size26_6, size26_7, size26_8, List.range, List.range.loop]) | (refine Walk.oq ?_; try walk_nrm) | (refine Walk.un ?_; walk_nrm))
  refine Walk.callV (x := .tuple #[.int .i64 0, .bool false]) (W := W) ?_ (ho_of (by conv => lhs; whnf) (by kernel_rfl)) (by rfl) (by decide) rfl Try.func51 (by kernel_rfl) (by rfl) ?_
  · walk_nrm
    exact take_zero hst _ b 0 hc
  walk_nrm
  repeat (first | refine Walk.c rfl ?_ | refine Walk.cRet ?_ | refine Walk.cEnd ?_ | (refine Walk.cReg ?_; simp only [size26_0, size26_1, size26_2, size26_3, size26_4, size26_5, size26_6, size26_7, size26_8, List.range, List.range.loop]) | (refine Walk.oq ?_; try walk_nrm) | (refine Walk.un ?_; walk_nrm))
  exact Walk.on2 rfl rfl Try.func26 rfl (.stop fun d => ⟨_, ⟨rfl, d, rfl⟩, rfl⟩)
theorem push_zero (hst : CallV Try.prog main V 62 #[sv] w (.tuple #[]) W) (b : Nat) (v : Value) (hc : W.cell? ⟨b, 3, none⟩ = some (.int .i64 0)) : CallV Try.prog main V 28 #[.pointer (some ⟨b, 0, none⟩), sv, v] w (.bool false) W := by
  have hp1 := fun w => run_eql_ptr (P := Try.prog) 38 undStack (some ⟨b, 0, none⟩) w
  have hp2 := fun w es => ev_eql_ptr (P := Try.prog) 38 undStack (some ⟨b, 0, none⟩) w es
  simp only [Option.isNone_some] at hp1
  refine callW_in Try.func28 code28_is fun fr cs => ?_
  simp only [Try.ntmps28, List.size_toArray, List.length_cons, List.length_nil, Nat.reduceAdd, Nat.reduceSub, Array.replicate_succ, Array.replicate_zero, List.push_toArray, List.append_toArray, List.nil_append, List.cons_append]
  repeat (first | refine Walk.c rfl ?_ | refine Walk.cRet ?_ | refine Walk.cEnd ?_ | (refine Walk.cReg ?_; simp only [size28_0, size28_1, size28_2, size28_3, size28_4, size28_5, size28_6, size28_7, size28_8, List.range, List.range.loop]) | (refine Walk.oq ?_; try walk_nrm) | (refine Walk.un ?_; walk_nrm))
  refine Walk.callV (x := .tuple #[.int .i64 0, .bool false]) (W := W) ?_ (ho_of (by conv => lhs; whnf) (by kernel_rfl)) (by rfl) (by decide) rfl Try.func51 (by kernel_rfl) (by rfl) ?_
  · walk_nrm
    exact take_zero hst _ b 2 hc
  walk_nrm
  repeat (first | refine Walk.c rfl ?_ | refine Walk.cRet ?_ | refine Walk.cEnd ?_ | (refine Walk.cReg ?_; simp only [size28_0, size28_1, size28_2, size28_3, size28_4, size28_5, size28_6, size28_7, size28_8, List.range, List.range.loop]) | (refine Walk.oq ?_; try walk_nrm) | (refine Walk.un ?_; walk_nrm))
  exact Walk.ret1 rfl rfl Try.func28 rfl fun d => ⟨rfl, d, rfl⟩
theorem peek_zero (hst : CallV Try.prog main V 62 #[sv] w (.tuple #[]) W) (b : Nat) (hc : W.cell? ⟨b, 1, none⟩ = some (.int .i64 0)) : CallV Try.prog main V 27 #[.pointer (some ⟨b, 0, none⟩), sv] w (.tuple #[.int .i64 0, .bool false]) W := by
  have hp1 := fun w => run_eql_ptr (P := Try.prog) 38 undStack (some ⟨b, 0, none⟩) w
  have hp2 := fun w es => ev_eql_ptr (P := Try.prog) 38 undStack (some ⟨b, 0, none⟩) w es
  simp only [Option.isNone_some] at hp1
  have hb : (nodeX 0 == -1) = true := by decide
  refine callW_in Try.func27 code27_is fun fr cs => ?_
  simp only [Try.ntmps27, List.size_toArray, List.length_cons, List.length_nil, Nat.reduceAdd, Nat.reduceSub, Array.replicate_succ, Array.replicate_zero, List.push_toArray, List.append_toArray, List.nil_append, List.cons_append]
  repeat (first | refine Walk.c rfl ?_ | refine Walk.cRet ?_ | refine Walk.cEnd ?_ | (refine Walk.cReg ?_; simp only [size27_0, size27_1, size27_2, size27_3, size27_4, size27_5, size27_6, size27_7, size27_8, size27_9, size27_10, List.range, List.range.loop]) | (refine Walk.oq ?_; try walk_nrm) | (refine Walk.un ?_; walk_nrm))
  refine Walk.callV (x := .int .i64 0) (W := W) ?_ (ho_of (by conv => lhs; whnf) (by kernel_rfl)) (by rfl) (by decide) rfl Try.func45 (by kernel_rfl) (by rfl) ?_
  · walk_nrm
    exact hload_g hst b 0 0 hc
  walk_nrm
  repeat (first | refine Walk.c rfl ?_ | refine Walk.cRet ?_ | refine Walk.cEnd ?_ | (refine Walk.cReg ?_; simp only [size27_0, size27_1, size27_2, size27_3, size27_4, size27_5, size27_6, size27_7, size27_8, size27_9, size27_10, List.range, List.range.loop]) | (refine Walk.oq ?_; try walk_nrm) | (refine Walk.un ?_; walk_nrm))
  refine Walk.ctl rfl (fun w => stepG_loop) ?_
  repeat (first | refine Walk.c rfl ?_ | refine Walk.cRet ?_ | refine Walk.cEnd ?_ | (refine Walk.cReg ?_; simp only [size27_0, size27_1, size27_2, size27_3, size27_4, size27_5, size27_6, size27_7, size27_8, size27_9, size27_10, List.range, List.range.loop]) | (refine Walk.oq ?_; try walk_nrm) | (refine Walk.un ?_; walk_nrm))
  refine Walk.callV (x := .bool true) (W := W) ?_ (ho_of (by conv => lhs; whnf) (by kernel_rfl)) (by rfl) (by decide) rfl Try.func54 (by kernel_rfl) (by rfl) ?_
  · walk_nrm
    have := empty_w (main := main) (V := V) 0 W
    rw [hb] at this
    exact this
  walk_nrm
  repeat (first | refine Walk.c rfl ?_ | refine Walk.cRet ?_ | refine Walk.cEnd ?_ | (refine Walk.cReg ?_; simp only [size27_0, size27_1, size27_2, size27_3, size27_4, size27_5, size27_6, size27_7, size27_8, size27_9, size27_10, List.range, List.range.loop]) | (refine Walk.oq ?_; try walk_nrm) | (refine Walk.un ?_; walk_nrm))
  exact Walk.on2 rfl rfl Try.func27 rfl (.stop fun d => ⟨_, ⟨rfl, d, rfl⟩, rfl⟩)
theorem empty_zero (hst : CallV Try.prog main V 62 #[sv] w (.tuple #[]) W) (b : Nat) (hc : W.cell? ⟨b, 1, none⟩ = some (.int .i64 0)) : CallV Try.prog main V 29 #[.pointer (some ⟨b, 0, none⟩), sv] w (.bool true) W := by
  have hp1 := fun w => run_eql_ptr (P := Try.prog) 38 undStack (some ⟨b, 0, none⟩) w
  have hp2 := fun w es => ev_eql_ptr (P := Try.prog) 38 undStack (some ⟨b, 0, none⟩) w es
  simp only [Option.isNone_some] at hp1
  have hb : (nodeX 0 == -1) = true := by decide
  refine callW_in Try.func29 code29_is fun fr cs => ?_
  simp only [Try.ntmps29, List.size_toArray, List.length_cons, List.length_nil, Nat.reduceAdd, Nat.reduceSub, Array.replicate_succ, Array.replicate_zero, List.push_toArray, List.append_toArray, List.nil_append, List.cons_append]
  repeat (first | refine Walk.c rfl ?_ | refine Walk.cRet ?_ | refine Walk.cEnd ?_ | (refine Walk.cReg ?_; simp only [size29_0, size29_1, List.range, List.range.loop]) | (refine Walk.oq ?_; try walk_nrm) | (refine Walk.un ?_; walk_nrm))
  refine Walk.callV (x := .int .i64 0) (W := W) ?_ (ho_of (by conv => lhs; whnf) (by kernel_rfl)) (by rfl) (by decide) rfl Try.func45 (by kernel_rfl) (by rfl) ?_
  · walk_nrm
    exact hload_g hst b 0 0 hc
  walk_nrm
  repeat (first | refine Walk.c rfl ?_ | refine Walk.cRet ?_ | refine Walk.cEnd ?_ | (refine Walk.cReg ?_; simp only [size29_0, size29_1, List.range, List.range.loop]) | (refine Walk.oq ?_; try walk_nrm) | (refine Walk.un ?_; walk_nrm))
  refine Walk.callV (x := .bool true) (W := W) ?_ (ho_of (by conv => lhs; whnf) (by kernel_rfl)) (by rfl) (by decide) rfl Try.func54 (by kernel_rfl) (by rfl) ?_
  · walk_nrm
    have := empty_w (main := main) (V := V) 0 W
    rw [hb] at this
    exact this
  walk_nrm
  repeat (first | refine Walk.c rfl ?_ | refine Walk.cRet ?_ | refine Walk.cEnd ?_ | (refine Walk.cReg ?_; simp only [size29_0, size29_1, List.range, List.range.loop]) | (refine Walk.oq ?_; try walk_nrm) | (refine Walk.un ?_; walk_nrm))
  exact Walk.ret1 rfl rfl Try.func29 rfl fun d => ⟨rfl, d, rfl⟩
theorem size_zero (b : Nat) (w : World) (hc : w.cell? ⟨b, 4, none⟩ = some (.slice none 0 0)) : CallV Try.prog main V 21 #[.pointer (some ⟨b, 0, none⟩)] w (.int .i64 0) w := by
  have hp1 := fun w => run_eql_ptr (P := Try.prog) 38 undStack (some ⟨b, 0, none⟩) w
  have hp2 := fun w es => ev_eql_ptr (P := Try.prog) 38 undStack (some ⟨b, 0, none⟩) w es
  simp only [Option.isNone_some] at hp1
  refine callW_in Try.func21 code21_is fun fr cs => ?_
  simp only [Try.ntmps21, List.size_toArray, List.length_cons, List.length_nil, Nat.reduceAdd, Nat.reduceSub, Array.replicate_succ, Array.replicate_zero, List.push_toArray, List.append_toArray, List.nil_append, List.cons_append]
  repeat (first | refine Walk.c rfl ?_ | refine Walk.cRet ?_ | refine Walk.cEnd ?_ | (refine Walk.cReg ?_; simp only [size21_0, size21_1, size21_2, size21_3, List.range, List.range.loop]) | (refine Walk.oq ?_; try walk_nrm) | (refine Walk.un ?_; walk_nrm))
  exact Walk.ret1 rfl rfl Try.func21 rfl fun d => ⟨rfl, d, rfl⟩
theorem values_zero (b : Nat) (w : World) (hc : w.cell? ⟨b, 1, none⟩ = some (.int .i64 0)) : CallV Try.prog main V 20 #[.pointer (some ⟨b, 0, none⟩)] w (.slice none 0 0) w := by
  have hp1 := fun w => run_eql_ptr (P := Try.prog) 38 undStack (some ⟨b, 0, none⟩) w
  have hp2 := fun w es => ev_eql_ptr (P := Try.prog) 38 undStack (some ⟨b, 0, none⟩) w es
  simp only [Option.isNone_some] at hp1
  have hb : nodeX 0 = -1 := by decide
  refine callW_in Try.func20 code20_is fun fr cs => ?_
  simp only [Try.ntmps20, List.size_toArray, List.length_cons, List.length_nil, Nat.reduceAdd, Nat.reduceSub, Array.replicate_succ, Array.replicate_zero, List.push_toArray, List.append_toArray, List.nil_append, List.cons_append]
  repeat (first | refine Walk.c rfl ?_ | refine Walk.cRet ?_ | refine Walk.cEnd ?_ | (refine Walk.cReg ?_; simp only [size20_0, size20_1, size20_2, size20_3, size20_4, size20_5, size20_7, size20_6, size20_8, List.range, List.range.loop]) | (refine Walk.oq ?_; try walk_nrm) | (refine Walk.un ?_; walk_nrm))
  refine Walk.callV (x := .int .i64 0) (W := w) ?_ (ho_of (by conv => lhs; whnf) (by kernel_rfl)) (by rfl) (by decide) rfl Try.func45 (by kernel_rfl) (by rfl) ?_
  · walk_nrm
    exact hload_nil b 0 0 w hc
  walk_nrm
  repeat (first | refine Walk.c rfl ?_ | refine Walk.cRet ?_ | refine Walk.cEnd ?_ | (refine Walk.cReg ?_; simp only [size20_0, size20_1, size20_2, size20_3, size20_4, size20_5, size20_7, size20_6, size20_8, List.range, List.range.loop]) | (refine Walk.oq ?_; try walk_nrm) | (refine Walk.un ?_; walk_nrm))
  refine Walk.callV (x := .int .i64 (-1)) (W := w) ?_ (ho_of (by conv => lhs; whnf) (by kernel_rfl)) (by rfl) (by decide) rfl Try.func46 (by kernel_rfl) (by rfl) ?_
  · walk_nrm
    have := node_w (main := main) (V := V) 0 w
    rw [hb] at this
    exact this
  walk_nrm
  repeat (first | refine Walk.c rfl ?_ | refine Walk.cRet ?_ | refine Walk.cEnd ?_ | (refine Walk.cReg ?_; simp only [size20_0, size20_1, size20_2, size20_3, size20_4, size20_5, size20_7, size20_6, size20_8, List.range, List.range.loop]) | (refine Walk.oq ?_; try walk_nrm) | (refine Walk.un ?_; walk_nrm))
  refine Walk.ctl rfl (fun w => stepG_loop) ?_
  repeat (first | refine Walk.c rfl ?_ | refine Walk.cRet ?_ | refine Walk.cEnd ?_ | (refine Walk.cReg ?_; simp only [size20_0, size20_1, size20_2, size20_3, size20_4, size20_5, size20_7, size20_6, size20_8, List.range, List.range.loop]) | (refine Walk.oq ?_; try walk_nrm) | (refine Walk.un ?_; walk_nrm))
  exact Walk.ret1 rfl rfl Try.func20 rfl fun d => ⟨rfl, d, rfl⟩
theorem step_cnt (p n : Nat) (w : World) (hc : w.heap[p]? = some (.cells #[.int .i64 n] 42)) (hn : n < 4611686018427387904) (hA : Apart V p) :
    CallV Try.prog main V 62 #[.iface 40 (.pointer (some ⟨p, 0, none⟩))] w (.tuple #[]) (w.setCell ⟨p, 0, none⟩ (.int .i64 ((n : Int) + 1))) := by
  obtain ⟨ms, hu⟩ := undStepperN
  have hn1 := fun w => run_neq_iface (P := Try.prog) (w := w) 100 40 (.pointer (some ⟨p, 0, none⟩)) hu
  have hn2 := fun w es => ev_neq_iface (P := Try.prog) (w := w) 100 40 (.pointer (some ⟨p, 0, none⟩)) es hu
  refine callW_in Try.func62 code62_is fun fr cs => ?_
  simp only [Try.ntmps62, List.size_toArray, List.length_cons, List.length_nil, Nat.reduceAdd, Nat.reduceSub, Array.replicate_succ, Array.replicate_zero, List.push_toArray, List.append_toArray, List.nil_append, List.cons_append]
  repeat (first | refine Walk.c rfl ?_ | refine Walk.cRet ?_ | refine Walk.cEnd ?_ | (refine Walk.cReg ?_; simp only [size62_0, size62_1, List.range, List.range.loop]) | (refine Walk.oq ?_; try walk_nrm) | (refine Walk.un ?_; walk_nrm))
  refine Walk.invokeSteps p (ho_of (by conv => lhs; whnf) (by kernel_rfl)) (by rfl) (by decide) rfl rfl ?_
  refine (steps_w p n w hc (frozen_of hc 0) (by omega) (by omega) hA _ _).then ?_
  rintro g' w' ⟨v', ⟨rfl, dd, rfl⟩, rfl⟩
  refine Walk.back ?_ dd
  refine Walk.finish (ho_of (by conv => lhs; whnf) (by kernel_rfl)) ?_
  walk_nrm
  repeat (first | refine Walk.c rfl ?_ | refine Walk.cRet ?_ | refine Walk.cEnd ?_ | (refine Walk.cReg ?_; simp only [size62_0, size62_1, List.range, List.range.loop]) | (refine Walk.oq ?_; try walk_nrm) | (refine Walk.un ?_; walk_nrm))
  exact Walk.ret0 rfl rfl Try.func62 rfl fun d => ⟨rfl, d, rfl⟩
end
end
section
theorem tick_facts {p n : Nat} {w : World} (hc : w.heap[p]? = some (.cells #[.int .i64 n] 42)) :
    (w.setCell ⟨p, 0, none⟩ (.int .i64 ((n : Int) + 1))).heap[p]? = some (.cells #[.int .i64 ((n + 1 : Nat) : Int)] 42) ∧ (∀ b, b ≠ p → (w.setCell ⟨p, 0, none⟩ (.int .i64 ((n : Int) + 1))).heap[b]? = w.heap[b]?) ∧ (w.setCell ⟨p, 0, none⟩ (.int .i64 ((n : Int) + 1))).heap.size = w.heap.size := by
  refine ⟨?_, fun b hb => ?_, ?_⟩
  · simp [World.setCell, Array.getElem?_modify, hc]
  · simp [World.setCell, Array.getElem?_modify, Ne.symm hb]
  · simp
noncomputable def reg10_0 : Array Oper := match Try.f10.body with | some (.seq (.region _ ops _) _) => ops | _ => #[]
theorem size10_0 : reg10_0.size = 1 := by kernel_rfl
noncomputable def reg10_1 : Array Oper := match Try.f10.body with | some (.seq _ (.seq (.seq (.region _ ops _) _) _)) => ops | _ => #[]
theorem size10_1 : reg10_1.size = 2 := by kernel_rfl
noncomputable def reg10_2 : Array Oper := match Try.f10.body with | some (.seq _ (.seq (.seq _ (.cond _ (.seq (.region _ ops _) _) _)) _)) => ops | _ => #[]
theorem size10_2 : reg10_2.size = 1 := by kernel_rfl
noncomputable def reg10_3 : Array Oper := match Try.f10.body with | some (.seq _ (.seq _ (.seq (.region _ ops _) _))) => ops | _ => #[]
theorem size10_3 : reg10_3.size = 1 := by kernel_rfl
noncomputable def reg10_4 : Array Oper := match Try.f10.body with | some (.seq _ (.seq _ (.seq _ (.seq (.region _ ops _) _)))) => ops | _ => #[]
theorem size10_4 : reg10_4.size = 6 := by kernel_rfl
noncomputable def reg10_5 : Array Oper := match Try.f10.body with | some (.seq _ (.seq _ (.seq _ (.seq _ (.seq (.region _ ops _) _))))) => ops | _ => #[]
theorem size10_5 : reg10_5.size = 9 := by kernel_rfl
noncomputable def reg10_6 : Array Oper := match Try.f10.body with | some (.seq _ (.seq _ (.seq _ (.seq _ (.seq _ (.seq (.region _ ops _) _)))))) => ops | _ => #[]
theorem size10_6 : reg10_6.size = 9 := by kernel_rfl
noncomputable def reg10_7 : Array Oper := match Try.f10.body with | some (.seq _ (.seq _ (.seq _ (.seq _ (.seq _ (.seq _ (.seq (.seq (.region _ ops _) _) _))))))) => ops | _ => #[]
theorem size10_7 : reg10_7.size = 44 := by kernel_rfl
noncomputable def reg10_8 : Array Oper := match Try.f10.body with | some (.seq _ (.seq _ (.seq _ (.seq _ (.seq _ (.seq _ (.seq (.seq _ (.cond _ (.seq (.region _ ops _) _) _)) _))))))) => ops | _ => #[]
theorem size10_8 : reg10_8.size = 1 := by kernel_rfl
noncomputable def reg10_9 : Array Oper := match Try.f10.body with | some (.seq _ (.seq _ (.seq _ (.seq _ (.seq _ (.seq _ (.seq _ (.seq (.region _ ops _) _)))))))) => ops | _ => #[]
theorem size10_9 : reg10_9.size = 9 := by kernel_rfl
noncomputable def reg10_10 : Array Oper := match Try.f10.body with | some (.seq _ (.seq _ (.seq _ (.seq _ (.seq _ (.seq _ (.seq _ (.seq _ (.seq (.region _ ops _) _))))))))) => ops | _ => #[]
theorem size10_10 : reg10_10.size = 9 := by kernel_rfl
noncomputable def reg10_11 : Array Oper := match Try.f10.body with | some (.seq _ (.seq _ (.seq _ (.seq _ (.seq _ (.seq _ (.seq _ (.seq _ (.seq _ (.seq (.seq (.region _ ops _) _) _)))))))))) => ops | _ => #[]
theorem size10_11 : reg10_11.size = 44 := by kernel_rfl
noncomputable def reg10_12 : Array Oper := match Try.f10.body with | some (.seq _ (.seq _ (.seq _ (.seq _ (.seq _ (.seq _ (.seq _ (.seq _ (.seq _ (.seq (.seq _ (.cond _ (.seq (.region _ ops _) _) _)) _)))))))))) => ops | _ => #[]
theorem size10_12 : reg10_12.size = 1 := by kernel_rfl
noncomputable def reg10_13 : Array Oper := match Try.f10.body with | some (.seq _ (.seq _ (.seq _ (.seq _ (.seq _ (.seq _ (.seq _ (.seq _ (.seq _ (.seq _ (.seq (.region _ ops _) _))))))))))) => ops | _ => #[]
theorem size10_13 : reg10_13.size = 8 := by kernel_rfl
theorem code10_is : Try.f10.body = some (.seq (.region 0 reg10_0 false) (.seq (.seq (.region 1 reg10_1 false) (.cond (.tmp 13 ) (.seq (.region 2 reg10_2 false) (.ret)) (.skip))) (.seq (.region 3 reg10_3 false) (.seq (.region 4 reg10_4 false) (.seq (.region 5 reg10_5 false) (.seq (.region 6 reg10_6 false) (.seq (.seq (.region 7 reg10_7 false) (.cond (.tmp 75 ) (.seq (.region 8 reg10_8 false) (.ret)) (.skip))) (.seq (.region 9 reg10_9 false) (.seq (.region 10 reg10_10 false) (.seq (.seq (.region 11 reg10_11 false) (.cond (.tmp 133 ) (.seq (.region 12 reg10_12 false) (.ret)) (.skip))) (.seq (.region 13 reg10_13 false) (.ret)))))))))))) := by kernel_rfl
def NBack (fr : Frame) : Prop := ∀ w : World, Walk Try.prog true (DR (fun _ => none)) (fun g w' => Closing 10 4 (.bool true) g ∧ ∀ b, b < w.heap.size → w'.heap[b]? = w.heap[b]?) (G (fr.finish (.bool true)) []) w
theorem sn_in (v sz : Int) (w : World) : Walk Try.prog true (DR (fun _ => none)) (fun g w' => ∃ fr, g = G (Frame.enter Try.prog 11 #[] .normal) [fr] ∧ (∃ d, w' = w.at d) ∧ NBack fr) (G (Frame.enter Try.prog 10 #[.int .i64 v, .int .i64 sz] .normal) []) w := by
  have hA : ∀ b, Apart (fun _ => none) b := fun b => ⟨fun _ _ _ _ h => (by cases h), fun _ _ h => (by cases h)⟩
  have hif1 := run_ifaceSteps
  have hif2 := ev_ifaceSteps
  rw [enter_at _ Try.func10 code10_is]
  simp only [Try.ntmps10, List.size_toArray, List.length_cons, List.length_nil, Nat.reduceAdd, Nat.reduceSub, Array.replicate_succ, Array.replicate_zero, List.push_toArray, List.append_toArray, List.nil_append, List.cons_append]
  repeat (first | refine Walk.c rfl ?_ | refine Walk.cRet ?_ | refine Walk.cEnd ?_ | (refine Walk.cReg ?_; simp only [size10_0, size10_1, size10_2, size10_3, size10_4, size10_5, size10_6, size10_7, size10_8, size10_9, size10_10, size10_11, size10_12, size10_13, List.range, List.range.loop]) | (refine Walk.oq ?_; try walk_nrm) | (refine Walk.un ?_; walk_nrm))
  refine Walk.callE (ho_of (by conv => lhs; whnf) (by kernel_rfl)) (by rfl) (by decide) rfl Try.func11 (by kernel_rfl) (by rfl) ?_
  walk_nrm
  refine .stop fun d => ⟨_, rfl, ⟨d, rfl⟩, ?_⟩
  intro w1
  refine Walk.finish (ho_of (by conv => lhs; whnf) (by kernel_rfl)) ?_
  walk_nrm
  repeat (first | refine Walk.c rfl ?_ | refine Walk.cRet ?_ | refine Walk.cEnd ?_ | (refine Walk.cReg ?_; simp only [size10_0, size10_1, size10_2, size10_3, size10_4, size10_5, size10_6, size10_7, size10_8, size10_9, size10_10, size10_11, size10_12, size10_13, List.range, List.range.loop]) | (refine Walk.oq ?_; try walk_nrm) | (refine Walk.un ?_; walk_nrm))
  (refine Walk.oa ?_; try walk_nrm)
  have s4 : (w1.alloc (.cells #[.bool false, .int .i64 0, .bool false, .int .i64 0, .slice none 0 0] 70)).heap.size = w1.heap.size + 1 := by simp
  have o4 : ∀ b, b < w1.heap.size → (w1.alloc (.cells #[.bool false, .int .i64 0, .bool false, .int .i64 0, .slice none 0 0] 70)).heap[b]? = w1.heap[b]? := fun b hb => heap_new_lt _ _ hb
  have d4 := heap_alloc_new w1 (.cells #[.bool false, .int .i64 0, .bool false, .int .i64 0, .slice none 0 0] 70)
  generalize hX : w1.heap.size = X at *
  generalize w1.alloc (.cells #[.bool false, .int .i64 0, .bool false, .int .i64 0, .slice none 0 0] 70) = w4 at *
  repeat (first | (refine Walk.oq ?_; try walk_nrm) | (refine Walk.un ?_; walk_nrm))
  (refine Walk.oa ?_; try walk_nrm)
  have s5 : (w4.alloc (.cells #[.int .i64 0] 42)).heap.size = X + 2 := by simp [s4]
  have o5 : ∀ b, b < X + 1 → (w4.alloc (.cells #[.int .i64 0] 42)).heap[b]? = w4.heap[b]? := fun b hb => heap_new_lt _ _ (by omega)
  have d5 := heap_alloc_new w4 (.cells #[.int .i64 0] 42)
  rw [s4] at d5
  try simp only [s4]
  generalize w4.alloc (.cells #[.int .i64 0] 42) = w5 at *
  have c5 : w5.cell? ⟨X + 1, 0, none⟩ = some (.int .i64 0) := (cell_of d5 0).trans rfl
  have k5 := (o5 X (by omega)).trans d4
  repeat (first | refine Walk.c rfl ?_ | refine Walk.cRet ?_ | refine Walk.cEnd ?_ | (refine Walk.cReg ?_; simp only [size10_0, size10_1, size10_2, size10_3, size10_4, size10_5, size10_6, size10_7, size10_8, size10_9, size10_10, size10_11, size10_12, size10_13, List.range, List.range.loop]) | (refine Walk.oq ?_; try walk_nrm) | (refine Walk.un ?_; walk_nrm))
  refine Walk.callV (x := .tuple #[.int .i64 0, .bool false]) (W := w5) ?_ (ho_of (by conv => lhs; whnf) (by kernel_rfl)) (by rfl) (by decide) rfl Try.func26 (by kernel_rfl) (by rfl) ?_
  · walk_nrm
    exact pop_nil _ _
  walk_nrm
  repeat (first | refine Walk.c rfl ?_ | refine Walk.cRet ?_ | refine Walk.cEnd ?_ | (refine Walk.cReg ?_; simp only [size10_0, size10_1, size10_2, size10_3, size10_4, size10_5, size10_6, size10_7, size10_8, size10_9, size10_10, size10_11, size10_12, size10_13, List.range, List.range.loop]) | (refine Walk.oq ?_; try walk_nrm) | (refine Walk.un ?_; walk_nrm))
  refine Walk.callV (x := .tuple #[.int .i64 0, .bool false]) (W := w5) ?_ (ho_of (by conv => lhs; whnf) (by kernel_rfl)) (by rfl) (by decide) rfl Try.func27 (by kernel_rfl) (by rfl) ?_
  · walk_nrm
    exact peek_nil _ _
  walk_nrm
  repeat (first | refine Walk.c rfl ?_ | refine Walk.cRet ?_ | refine Walk.cEnd ?_ | (refine Walk.cReg ?_; simp only [size10_0, size10_1, size10_2, size10_3, size10_4, size10_5, size10_6, size10_7, size10_8, size10_9, size10_10, size10_11, size10_12, size10_13, List.range, List.range.loop]) | (refine Walk.oq ?_; try walk_nrm) | (refine Walk.un ?_; walk_nrm))
  refine Walk.callV (x := .bool false) (W := w5) ?_ (ho_of (by conv => lhs; whnf) (by kernel_rfl)) (by rfl) (by decide) rfl Try.func28 (by kernel_rfl) (by rfl) ?_
  · walk_nrm
    exact push_nil _ _ _
  walk_nrm
  repeat (first | refine Walk.c rfl ?_ | refine Walk.cRet ?_ | refine Walk.cEnd ?_ | (refine Walk.cReg ?_; simp only [size10_0, size10_1, size10_2, size10_3, size10_4, size10_5, size10_6, size10_7, size10_8, size10_9, size10_10, size10_11, size10_12, size10_13, List.range, List.range.loop]) | (refine Walk.oq ?_; try walk_nrm) | (refine Walk.un ?_; walk_nrm))
  refine Walk.callV (x := .bool true) (W := w5) ?_ (ho_of (by conv => lhs; whnf) (by kernel_rfl)) (by rfl) (by decide) rfl Try.func29 (by kernel_rfl) (by rfl) ?_
  · walk_nrm
    exact empty_nil _ _
  walk_nrm
  repeat (first | refine Walk.c rfl ?_ | refine Walk.cRet ?_ | refine Walk.cEnd ?_ | (refine Walk.cReg ?_; simp only [size10_0, size10_1, size10_2, size10_3, size10_4, size10_5, size10_6, size10_7, size10_8, size10_9, size10_10, size10_11, size10_12, size10_13, List.range, List.range.loop]) | (refine Walk.oq ?_; try walk_nrm) | (refine Walk.un ?_; walk_nrm))
  refine Walk.callV (x := .int .i64 0) (W := w5) ?_ (ho_of (by conv => lhs; whnf) (by kernel_rfl)) (by rfl) (by decide) rfl Try.func21 (by kernel_rfl) (by rfl) ?_
  · walk_nrm
    exact size_nil _
  walk_nrm
  repeat (first | refine Walk.c rfl ?_ | refine Walk.cRet ?_ | refine Walk.cEnd ?_ | (refine Walk.cReg ?_; simp only [size10_0, size10_1, size10_2, size10_3, size10_4, size10_5, size10_6, size10_7, size10_8, size10_9, size10_10, size10_11, size10_12, size10_13, List.range, List.range.loop]) | (refine Walk.oq ?_; try walk_nrm) | (refine Walk.un ?_; walk_nrm))
  refine Walk.callV (x := .slice none 0 0) (W := w5) ?_ (ho_of (by conv => lhs; whnf) (by kernel_rfl)) (by rfl) (by decide) rfl Try.func20 (by kernel_rfl) (by rfl) ?_
  · walk_nrm
    exact values_nil _
  walk_nrm
  repeat (first | refine Walk.c rfl ?_ | refine Walk.cRet ?_ | refine Walk.cEnd ?_ | (refine Walk.cReg ?_; simp only [size10_0, size10_1, size10_2, size10_3, size10_4, size10_5, size10_6, size10_7, size10_8, size10_9, size10_10, size10_11, size10_12, size10_13, List.range, List.range.loop]) | (refine Walk.oq ?_; try walk_nrm) | (refine Walk.un ?_; walk_nrm))
  obtain ⟨f6, g6, z6⟩ := tick_facts (p := X + 1) (n := 0) d5
  have t6 := step_cnt (main := true) (V := fun _ => none) (X + 1) 0 w5 d5 (by decide) (hA _)
  generalize w5.setCell ⟨X + 1, 0, none⟩ (.int .i64 (((0 : Nat) : Int) + 1)) = w6 at *
  have k6 := (g6 X (by omega)).trans k5
  refine Walk.callV (x := .tuple #[.int .i64 0, .bool false]) (W := w6) ?_ (ho_of (by conv => lhs; whnf) (by kernel_rfl)) (by rfl) (by decide) rfl Try.func26 (by kernel_rfl) (by rfl) ?_
  · walk_nrm
    exact pop_zero t6 X ((cell_of k6 1).trans rfl)
  clear t6 c5
  walk_nrm
  repeat (first | refine Walk.c rfl ?_ | refine Walk.cRet ?_ | refine Walk.cEnd ?_ | (refine Walk.cReg ?_; simp only [size10_0, size10_1, size10_2, size10_3, size10_4, size10_5, size10_6, size10_7, size10_8, size10_9, size10_10, size10_11, size10_12, size10_13, List.range, List.range.loop]) | (refine Walk.oq ?_; try walk_nrm) | (refine Walk.un ?_; walk_nrm))
  obtain ⟨f7, g7, z7⟩ := tick_facts (p := X + 1) (n := 1) f6
  have t7 := step_cnt (main := true) (V := fun _ => none) (X + 1) 1 w6 f6 (by decide) (hA _)
  generalize w6.setCell ⟨X + 1, 0, none⟩ (.int .i64 (((1 : Nat) : Int) + 1)) = w7 at *
  have k7 := (g7 X (by omega)).trans k6
  refine Walk.callV (x := .tuple #[.int .i64 0, .bool false]) (W := w7) ?_ (ho_of (by conv => lhs; whnf) (by kernel_rfl)) (by rfl) (by decide) rfl Try.func27 (by kernel_rfl) (by rfl) ?_
  · walk_nrm
    exact peek_zero t7 X ((cell_of k7 1).trans rfl)
  clear t7
  walk_nrm
  repeat (first | refine Walk.c rfl ?_ | refine Walk.cRet ?_ | refine Walk.cEnd ?_ | (refine Walk.cReg ?_; simp only [size10_0, size10_1, size10_2, size10_3, size10_4, size10_5, size10_6, size10_7, size10_8, size10_9, size10_10, size10_11, size10_12, size10_13, List.range, List.range.loop]) | (refine Walk.oq ?_; try walk_nrm) | (refine Walk.un ?_; walk_nrm))
  obtain ⟨f8, g8, z8⟩ := tick_facts (p := X + 1) (n := 2) f7
  have t8 := step_cnt (main := true) (V := fun _ => none) (X + 1) 2 w7 f7 (by decide) (hA _)
  generalize w7.setCell ⟨X + 1, 0, none⟩ (.int .i64 (((2 : Nat) : Int) + 1)) = w8 at *
  have k8 := (g8 X (by omega)).trans k7
  refine Walk.callV (x := .bool false) (W := w8) ?_ (ho_of (by conv => lhs; whnf) (by kernel_rfl)) (by rfl) (by decide) rfl Try.func28 (by kernel_rfl) (by rfl) ?_
  · walk_nrm
    exact push_zero t8 X _ ((cell_of k8 3).trans rfl)
  clear t8
  walk_nrm
  repeat (first | refine Walk.c rfl ?_ | refine Walk.cRet ?_ | refine Walk.cEnd ?_ | (refine Walk.cReg ?_; simp only [size10_0, size10_1, size10_2, size10_3, size10_4, size10_5, size10_6, size10_7, size10_8, size10_9, size10_10, size10_11, size10_12, size10_13, List.range, List.range.loop]) | (refine Walk.oq ?_; try walk_nrm) | (refine Walk.un ?_; walk_nrm))
  obtain ⟨f9, g9, z9⟩ := tick_facts (p := X + 1) (n := 3) f8
  have t9 := step_cnt (main := true) (V := fun _ => none) (X + 1) 3 w8 f8 (by decide) (hA _)
  generalize w8.setCell ⟨X + 1, 0, none⟩ (.int .i64 (((3 : Nat) : Int) + 1)) = w9 at *
  have k9 := (g9 X (by omega)).trans k8
  refine Walk.callV (x := .bool true) (W := w9) ?_ (ho_of (by conv => lhs; whnf) (by kernel_rfl)) (by rfl) (by decide) rfl Try.func29 (by kernel_rfl) (by rfl) ?_
  · walk_nrm
    exact empty_zero t9 X ((cell_of k9 1).trans rfl)
  clear t9
  have c9 : w9.cell? ⟨X + 1, 0, none⟩ = some (.int .i64 4) := (cell_of f9 0).trans rfl
  have old9 : ∀ b, b < X → w9.heap[b]? = w1.heap[b]? := fun b hb => by rw [g9 b (by omega), g8 b (by omega), g7 b (by omega), g6 b (by omega), o5 b (by omega), o4 b hb]
  have sz9 : w9.heap.size = X + 2 := by omega
  walk_nrm
  repeat (first | refine Walk.c rfl ?_ | refine Walk.cRet ?_ | refine Walk.cEnd ?_ | (refine Walk.cReg ?_; simp only [size10_0, size10_1, size10_2, size10_3, size10_4, size10_5, size10_6, size10_7, size10_8, size10_9, size10_10, size10_11, size10_12, size10_13, List.range, List.range.loop]) | (refine Walk.oq ?_; try walk_nrm) | (refine Walk.un ?_; walk_nrm))
  refine Walk.callV (x := .int .i64 0) (W := w9) ?_ (ho_of (by conv => lhs; whnf) (by kernel_rfl)) (by rfl) (by decide) rfl Try.func21 (by kernel_rfl) (by rfl) ?_
  · walk_nrm
    exact size_zero X w9 ((cell_of k9 4).trans rfl)
  walk_nrm
  repeat (first | refine Walk.c rfl ?_ | refine Walk.cRet ?_ | refine Walk.cEnd ?_ | (refine Walk.cReg ?_; simp only [size10_0, size10_1, size10_2, size10_3, size10_4, size10_5, size10_6, size10_7, size10_8, size10_9, size10_10, size10_11, size10_12, size10_13, List.range, List.range.loop]) | (refine Walk.oq ?_; try walk_nrm) | (refine Walk.un ?_; walk_nrm))
  refine Walk.callV (x := .slice none 0 0) (W := w9) ?_ (ho_of (by conv => lhs; whnf) (by kernel_rfl)) (by rfl) (by decide) rfl Try.func20 (by kernel_rfl) (by rfl) ?_
  · walk_nrm
    exact values_zero X w9 ((cell_of k9 1).trans rfl)
  walk_nrm
  repeat (first | refine Walk.c rfl ?_ | refine Walk.cRet ?_ | refine Walk.cEnd ?_ | (refine Walk.cReg ?_; simp only [size10_0, size10_1, size10_2, size10_3, size10_4, size10_5, size10_6, size10_7, size10_8, size10_9, size10_10, size10_11, size10_12, size10_13, List.range, List.range.loop]) | (refine Walk.oq ?_; try walk_nrm) | (refine Walk.un ?_; walk_nrm))
  clear f6 f7 f8 f9 g6 g7 g8 g9 z6 z7 z8 z9 k5 k6 k7 k8 k9 c9 d4 d5 o4 o5
  obtain ⟨q1, q2, q3⟩ := sizeN_le sz
  have hmx := @events_max_ints Try.prog
  have hmn := @events_min_ints Try.prog
  refine Walk.callW (Post := fun v w' => v = .pointer (some ⟨w9.heap.size + 1, 0, none⟩) ∧ SkI (w9.heap.size + 1) w9.heap.size (sizeN sz) true (sk0 (sizeN sz)) w' ∧ (∀ b, b < w9.heap.size → w'.heap[b]? = w9.heap[b]?) ∧ w'.heap.size = w9.heap.size + 2) ?_ (ho_of (by conv => lhs; whnf) (by kernel_rfl)) (by rfl) (by decide) rfl Try.func17 (by kernel_rfl) (by rfl) ?_
  · walk_nrm
    exact new_w sz true w9 hA
  rintro x w10 ⟨rfl, hI, hO, hS⟩
  walk_nrm
  refine Walk.callV (x := .int .i64 (sizeN sz : Nat)) (W := w10) ?_ (ho_of (by conv => lhs; whnf) (by kernel_rfl)) (by rfl) (by decide) rfl Try.func21 (by kernel_rfl) (by rfl) ?_
  · walk_nrm
    exact size_w _ _ _ _ _ w10 hI
  walk_nrm
  rw [q3]
  have hb : (min (max sz 1) 65536 == min (max sz 1) 65536) = true := by simp
  repeat (first | refine Walk.c rfl ?_ | refine Walk.cRet ?_ | refine Walk.cEnd ?_ | (refine Walk.cReg ?_; simp only [size10_0, size10_1, size10_2, size10_3, size10_4, size10_5, size10_6, size10_7, size10_8, size10_9, size10_10, size10_11, size10_12, size10_13, List.range, List.range.loop]) | (refine Walk.oq ?_; try walk_nrm) | (refine Walk.un ?_; walk_nrm))
  refine .stop fun d => ⟨⟨_, rfl, rfl, rfl, rfl, rfl, ?_⟩, fun b hb => ?_⟩
  · rfl
  · exact (hO b (by omega)).trans (old9 b (by omega))
theorem sn_all (v sz : Int) (W : World) : Runs (fun g w' => Closing 10 4 (.bool true) g ∧ ∀ b, b < W.heap.size → w'.heap[b]? = W.heap[b]?) (G (Frame.enter Try.prog 10 #[.int .i64 v, .int .i64 sz] .normal) []) W := by
  refine Runs.walk (sn_in v sz W) ?_
  rintro _ _ ⟨fr1, rfl, ⟨d1, rfl⟩, hB1⟩
  refine Runs.then (turns_run fr1 [] (W.at d1)) ?_
  rintro _ w1 ⟨rfl, O1, Z1⟩
  refine Runs.walk (hB1 w1) ?_
  rintro _ w2 ⟨hC, hO⟩
  exact .now ⟨hC, fun b hb => (hO b (Nat.lt_of_lt_of_le hb Z1)).trans (O1 b hb)⟩
end
section
open Go.ChangeShapes Go.WideShapes Go.ChangeAt Go.Joins Go.Deep
theorem undI64 : Try.prog.underlying 2 = some (.int .i64) := by kernel_rfl
theorem undInt : Try.prog.underlying 3 = some (.int .i64) := by kernel_rfl
theorem stackNone_lifted (os : Os) (started : os.Started) (H : Type) (enc : TypeId × Value → H) :
    ReturnsInLeavingWide {} Try.checked os 10 .any (Rows.stackNoneSpec.pre6 enc Try.prog Try.f10 Rows.stackNoneRow.domain false) (Rows.stackNoneSpec.post enc Try.prog Try.f10 false true false false) := by
  refine returnsInLeavingWide_of_change_sized (C := Try.checked) prog_own started Try.func10
    (ChangeSpec.witness6 (enc := enc) (C := Try.checked) false ⟨#[], #[.int .i64 0, .int .i64 0], []⟩ 8 (by kernel_rfl) (by kernel_rfl) (by kernel_rfl) (by kernel_rfl)) ?_
  intro W base args ds gs before hval0 hW _ hsz0 _
  have hval : ∀ (j : Nat) t v, Try.f10.params[j]? = some t → args[j]? = some v → Value.okWide Try.prog W .any base t v := hval0
  have hW' := hW
  obtain ⟨p, q, hA0, hV, rfl, _, _⟩ := hW
  have hA : DataW.TrodAll enc Try.prog W 0 (fun _ => true) true Try.f10.params.toList args.toList ds p := hA0
  rw [Try.params10] at hA hval
  obtain ⟨v0, v1, d0, d1, p0, p1, rfl, rfl, rfl, h0, h1⟩ := trodAll_two hA
  obtain ⟨rfl, rfl⟩ := trodVars_none hV
  obtain ⟨x, rfl, rfl, rfl, wx⟩ := open_int undI64 (hval 0 2 v0 rfl rfl) h0
  obtain ⟨y, rfl, rfl, rfl, wy⟩ := open_int undInt (hval 1 3 v1 rfl rfl) h1
  clear hA0 hval0 hsz0
  simp only [List.append_nil] at hW'
  obtain ⟨M, last, o, w', t', r1, r2, r3, r4⟩ := run_claim (Post := Left W) (t := 4) Try.func10 rfl (by kernel_rfl) (Runs.then (sn_all x y W) fun g w' ⟨hC, hO⟩ => .now ⟨hC, fun ho d => ⟨rfl, ho.1, ho.2, hO⟩⟩)
  refine ⟨M, last, o, w', t', r1, r2, r3, r4.mono fun v hF => ?_⟩
  obtain rfl : v = .bool true := hF.1
  exact ⟨_, _, _, [], _, [], hW', trodAll_mk1 (shut_bool und4_is true), trodAll_mk2 (shut_int undI64 wx) (shut_int undInt wy), rfl, hF.kept _, fun h => by cases h⟩
theorem stackNone_holds : Rows.StackNoneSaid :=
  OpenClaim.holds_of_wide_leaving 10 Try.f10 rfl rfl rfl rfl rfl rfl rfl ⟨rfl, rfl, rfl, rfl, rfl⟩ rfl rfl rfl rfl rfl (by kernel_rfl) Try.func10 (by kernel_rfl)
    (of_decide_eq_true (by kernel_rfl)) (by unfold Func.isWrapper; first | (rw [if_pos (by decide +kernel)]; kernel_rfl) | (rw [if_neg (by decide +kernel)]; exact ⟨rfl, rfl⟩))
    (fun os started H enc _ => stackNone_lifted os started H enc)
#print axioms stackNone_holds
end
end Go.Proofs.Ytmfkjceeeffamaa
