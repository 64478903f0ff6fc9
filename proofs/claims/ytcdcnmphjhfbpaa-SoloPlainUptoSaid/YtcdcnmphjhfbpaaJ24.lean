/- Part 24. -/
import Derived.Test.YtcdcnmphjhfbpaaJ17
import Derived.Test.YtcdcnmphjhfbpaaJ18
import Derived.Test.YtcdcnmphjhfbpaaJ19
import Derived.Test.YtcdcnmphjhfbpaaJ20
set_option linter.unusedSimpArgs false
set_option linter.unusedVariables false
set_option linter.unusedVariables false
set_option maxHeartbeats 8000000
set_option maxRecDepth 100000
namespace Go.Proofs.Ytcdcnmphjhfbpaa
open Go.Conc Go.RowKit Go.Relay
open Go.ConcN (upd upd_ne upd_same)
section
theorem undSteps : Try.prog.underlying 145 = some (.pointer 147) := by kernel_rfl
theorem run_ifaceSteps (a : Option Addr) (w : World) : (Instr.makeInterface 145 (.pointer a)).run Try.prog w = .ok (.iface 145 (.pointer a)) w := by simp [Instr.makeInterface, run_underlying undSteps]
theorem ev_ifaceSteps (a : Option Addr) (w : World) (es : Array Event) : (Instr.makeInterface 145 (.pointer a)).events Try.prog w es = es := by simp [Instr.makeInterface, run_underlying undSteps]
noncomputable def rowStepsB : Bool := match Try.prog.info? 145 with
  | some ti => (match ti.methods.find? (·.name == "Step") with
    | some m => m.path.isEmpty && (m.func == some (221, true))
    | none => false)
  | none => false
theorem rowSteps : ∃ ti m, Try.prog.info? 145 = some ti ∧ ti.methods.find? (·.name == "Step") = some m ∧ m.path = #[] ∧ m.func = some (221, true) := by
  have h : rowStepsB = true := by kernel_rfl
  unfold rowStepsB at h
  revert h
  cases h1 : Try.prog.info? 145 with
  | none => simp
  | some ti =>
    simp only []
    cases h2 : ti.methods.find? (·.name == "Step") with
    | none => simp
    | some m =>
      simp only [Bool.and_eq_true, Array.isEmpty_iff, beq_iff_eq]
      exact fun h => ⟨ti, m, rfl, h2, h.1, h.2⟩
theorem method_steps (p : Nat) (w : World) (es : Array Event) : (method (Try.prog.types.size + Made.depth) 145 (.pointer (some ⟨p, 0, none⟩)) "Step").run Try.prog w = .ok (221, .pointer (some ⟨p, 0, none⟩)) w ∧ (method (Try.prog.types.size + Made.depth) 145 (.pointer (some ⟨p, 0, none⟩)) "Step").events Try.prog w es = es := by
  obtain ⟨ti, m, h1, h2, h3, h4⟩ := rowSteps
  obtain ⟨k, hk⟩ : ∃ k, Try.prog.types.size + Made.depth = k + 1 := ⟨Try.prog.types.size + (Made.depth - 1), by have : 1 ≤ Made.depth := by decide
                                                                                                                omega⟩
  rw [hk]
  unfold method
  refine ⟨?_, ?_⟩
  · simp [typeInfo, h1, h2, h3, h4, follow, receiverAt, run_underlying undSteps, Place.get]
  · simp [typeInfo, h1, h2, h3, h4, follow, receiverAt, run_underlying undSteps, Place.get]
section
variable {main : Bool} {V : Nat → Option Wait} {Stop : Goroutine → World → Prop} {w : World} {b : Frame} {a : Act} {k : List Item} {cs : List Frame} {ops : Array Oper} {i : Nat} {rest : List Nat} {o : Oper}
theorem stepG_invokeSteps {x : Operand} {ats : Array TypeId} (p : Nat) (ho : ops[i]? = some o) (hw : Region.wanted o (yielded ops a.tmps) = true) (hk : b.kind ≠ .early) (hop : o.op = .call { callee := .invoke x "Step", args := #[], argTypes := ats }) (hx : a.eval x = .iface 145 (.pointer (some ⟨p, 0, none⟩))) :
    stepG Try.prog main (G (b.at a (.inRegion ops (i :: rest) :: k)) cs) w = .go (G (Frame.enter Try.prog 221 #[.pointer (some ⟨p, 0, none⟩)] .normal) (b.at a (.inRegion ops (i :: rest) :: k) :: cs)) w := by
  have h1 : ¬ Try.f221.name = "runtime.NumGoroutine" := by decide
  have h2 : ¬ Try.f221.body = none := by simp [Try.f221]
  have hm := method_steps p w #[]
  rw [show Try.prog.types.size = 310 from by kernel_rfl] at hm
  have hr : (execOp a.eval o).run Try.prog w = .ok (.enter 221 #[.pointer (some ⟨p, 0, none⟩)]) w := by
    unfold execOp
    simp [hop, resolve, invoke, callMethod, callFunc, hm.1, Try.func221, h1, h2, hx]
  have he : (execOp a.eval o).events Try.prog w #[] = #[] := by
    unfold execOp
    simp [hop, resolve, invoke, callMethod, callFunc, hm.1, hm.2, Try.func221, h1, h2, hx]
  rw [stepG_enter ho hw hk hr]
  have : listed Try.prog b.fn a o w = #[] := by unfold listed; rw [he]; exact seen_none Try.prog _
  rw [this]
theorem Walk.invokeSteps {x : Operand} {ats : Array TypeId} (p : Nat) (ho : ops[i]? = some o) (hw : Region.wanted o (yielded ops a.tmps) = true) (hk : b.kind ≠ .early) (hop : o.op = .call { callee := .invoke x "Step", args := #[], argTypes := ats }) (hx : a.eval x = .iface 145 (.pointer (some ⟨p, 0, none⟩)))
    (h : Walk Try.prog main (DR V) Stop (G (Frame.enter Try.prog 221 #[.pointer (some ⟨p, 0, none⟩)] .normal) (b.at a (.inRegion ops (i :: rest) :: k) :: cs)) w) : Walk Try.prog main (DR V) Stop (G (b.at a (.inRegion ops (i :: rest) :: k)) cs) w :=
  Walk.ctl rfl (fun _ => stepG_invokeSteps p ho hw hk hop hx) h
end
noncomputable def reg221_0 := rg Try.f221.body []
theorem z221 : List.range reg221_0.size = [0, 1, 2, 3, 4, 5, 6, 7] := by kernel_rfl
theorem code221_is : Try.f221.body = some (.region 0 reg221_0 false) := by kernel_rfl
section
variable {main : Bool} {V : Nat → Option Wait}
theorem steps_w (p : Nat) (n : Int) (w : World) (hc : w.heap[p]? = some (.cells #[.int .i64 n] 147)) (hz : w.frozen? ⟨p, 0, none⟩ = false) (hn0 : 0 ≤ n) (hn : n < 4611686018427387904) (hf : Apart V p) :
    CallV Try.prog main V 221 #[.pointer (some ⟨p, 0, none⟩)] w (.tuple #[]) (w.setCell ⟨p, 0, none⟩ (.int .i64 (n + 1))) := by
  have hw1 : IntKind.wrap .i64 (n + 1) = n + 1 := by rw [IntKind.wrap_i64]; omega
  have h1 : w.cell? ⟨p, 0, none⟩ = some (.int .i64 n) := (cell_of hc 0).trans rfl
  have hf' : Free V ⟨p, 0, none⟩ := hf.1 _ rfl
  refine callW_in Try.func221 code221_is fun fr cs => ?_
  simp only [Try.ntmps221, ez, Nat.reduceAdd, Nat.reduceSub]
  repeat (first | refine Walk.cx ?_ | (refine Walk.cReg ?_; simp only [z221]) | (refine Walk.oq ?_; try walk_nrm) | (refine Walk.un ?_; walk_nrm))
  (refine Walk.os hf' h1 ?_; try walk_nrm)
  repeat (first | refine Walk.cx ?_ | (refine Walk.cReg ?_; simp only [z221]) | (refine Walk.oq ?_; try walk_nrm) | (refine Walk.un ?_; walk_nrm))
  exact Walk.ret0 rfl rfl Try.func221 rfl fun d => ⟨rfl, d, rfl⟩
end
def lonC (L : La) : Nat → Nat → L.Sg × (Ans ⊕ L.D) → Option (Nat × L.Sg × Ans)
  | _, c, (s, .inl a) => some (c, s, a)
  | 0, _, (_, .inr _) => none
  | n + 1, c, (s, .inr d) => lonC L n (c + 1) (L.act s d)
theorem lonC_inl (L : La) (n c : Nat) (s : L.Sg) (a : Ans) : lonC L n c (s, .inl a) = some (c, s, a) := by cases n <;> rfl
structure CntE (L : La) (y0 : L.Gh) (base : World) (p : Nat) (R : Nat × L.Sg × Ans) where
  w : World
  y : L.Gh
  s : L.Sg
  tgt : L.Sg × (Ans ⊕ L.D)
  fuel : Nat
  n : Nat
  le : L.le y0 y
  inv : L.I y s w
  size : base.heap.size ≤ w.heap.size
  old : ∀ b, b < base.heap.size → ¬ L.sh y0 b → b ≠ p → w.heap[b]? = base.heap[b]?
  pub : ∀ b, L.sh y b → b < base.heap.size → L.sh y0 b
  cnt : w.heap[p]? = some (.cells #[.int .i64 n] 147)
  few : n + fuel < 4611686018427387904
  run : lonC L fuel n tgt = some R
section
variable {L : La} {main : Bool} {V : Nat → Option Wait} {Stop : Goroutine → World → Prop} {cs : List Frame} {y0 : L.Gh} {base : World} {p : Nat} {R : Nat × L.Sg × Ans}
def cntB (main : Bool) (V : Nat → Option Wait) (Stop : Goroutine → World → Prop) (cs : List Frame) (y0 : L.Gh) (base : World) (p : Nat) (R : Nat × L.Sg × Ans) : Lb L where
  main := main
  E := CntE L y0 base p R
  V := fun _ => V
  Stop := fun _ => Stop
  bot := fun _ => cs
  w := fun e => e.w
  s := fun e => e.s
  gh := fun e => e.y
  tgt := fun e => e.tgt
  fuel := fun e => e.fuel
  mine := fun e b => (base.heap.size ≤ b ∧ b < e.w.heap.size) ∧ ¬ L.sh e.y b
theorem cnt_step (hA : Apart V p) (hp : ¬ L.sh y0 p) (hlo : p < base.heap.size) (e : CntE L y0 base p R) (d : L.D) (ht : e.tgt = (e.s, .inr d)) (fr : Frame) (l : List Frame) (hk : ∀ e' : CntE L y0 base p R, Aft (cntB main V Stop cs y0 base p R) e d e' → LW (cntB main V Stop cs y0 base p R) e' (G (fr.finish (.tuple #[])) (l ++ cs))) :
    LW (cntB main V Stop cs y0 base p R) e (G (Frame.enter Try.prog 120 #[.iface 145 (.pointer (some ⟨p, 0, none⟩))] .normal) (fr :: (l ++ cs))) := by
  obtain ⟨ms, hu⟩ := undStepperN
  have hn1 := fun w => run_neq_iface (P := Try.prog) (w := w) 137 145 (.pointer (some ⟨p, 0, none⟩)) hu
  have hn2 := fun w es => ev_neq_iface (P := Try.prog) (w := w) 137 145 (.pointer (some ⟨p, 0, none⟩)) es hu
  obtain ⟨n, hn, hr⟩ : ∃ n, e.fuel = n + 1 ∧ lonC L n (e.n + 1) (L.act e.s d) = some R := by
    have h := e.run
    rw [ht] at h
    cases hf : e.fuel with
    | zero => rw [hf] at h; cases h
    | succ n => rw [hf] at h; exact ⟨n, rfl, h⟩
  have hz : e.w.frozen? ⟨p, 0, none⟩ = false := frozen_of e.cnt 0
  have hoth : ∀ b, b ≠ p → (e.w.setCell ⟨p, 0, none⟩ (.int .i64 ((e.n : Int) + 1))).heap[b]? = e.w.heap[b]? := fun b hb => by simp [World.setCell, Array.getElem?_modify, Ne.symm hb]
  have hsz : (e.w.setCell ⟨p, 0, none⟩ (.int .i64 ((e.n : Int) + 1))).heap.size = e.w.heap.size := by simp
  have hcn : (e.w.setCell ⟨p, 0, none⟩ (.int .i64 ((e.n : Int) + 1))).heap[p]? = some (.cells #[.int .i64 ((e.n + 1 : Nat) : Int)] 147) := by
    have h := e.cnt
    simp [World.setCell, Array.getElem?_modify, h]
  have hfew := e.few
  have hs0 := e.size
  have hps : ¬ L.sh e.y p := fun h => hp (e.pub p h hlo)
  have hh := hk { w := e.w.setCell ⟨p, 0, none⟩ (.int .i64 ((e.n : Int) + 1)), y := e.y, s := e.s, tgt := L.act e.s d, fuel := n, n := e.n + 1, le := e.le, inv := L.stable e.inv fun b hb => hoth b fun x => hps (x ▸ hb), size := by rw [hsz]; exact e.size, old := fun b h1 h2 h3 => (hoth b h3).trans (e.old b h1 h2 h3), pub := e.pub, cnt := hcn, few := by omega, run := hr } ⟨rfl, show n < e.fuel by omega, L.refl _, Nat.le_of_eq hsz.symm, fun b h => ⟨⟨⟨h.1.1, Nat.lt_of_lt_of_eq h.1.2 hsz.symm⟩, h.2⟩, hoth b (fun x => by have := h.1.1; omega)⟩⟩
  unfold LW at hh ⊢
  show Walk Try.prog main (DR V) Stop _ e.w
  replace hh : Walk Try.prog main (DR V) Stop (G (fr.finish (.tuple #[])) (l ++ cs)) (e.w.setCell ⟨p, 0, none⟩ (.int .i64 ((e.n : Int) + 1))) := hh
  rw [enter_at _ Try.func120 code120_is]
  simp only [Try.ntmps120, ez, Nat.reduceAdd, Nat.reduceSub]
  repeat (first | refine Walk.cx ?_ | (refine Walk.cReg ?_; simp only [z120]) | (refine Walk.oq ?_; try walk_nrm) | (refine Walk.un ?_; walk_nrm))
  refine Walk.invokeSteps p (ho_of (by conv => lhs; whnf) (by kernel_rfl)) (by rfl) (by decide) rfl rfl ?_
  refine (steps_w p e.n e.w e.cnt hz (by omega) (by omega) hA _ _).then ?_
  rintro g' w' ⟨v', ⟨rfl, dd, rfl⟩, rfl⟩
  refine Walk.back ?_ dd
  refine Walk.finish (ho_of (by conv => lhs; whnf) (by kernel_rfl)) ?_
  walk_nrm
  repeat (first | refine Walk.cx ?_ | (refine Walk.cReg ?_; simp only [z120]) | (refine Walk.oq ?_; try walk_nrm) | (refine Walk.un ?_; walk_nrm))
  exact Walk.on0 rfl rfl Try.func120 rfl hh
theorem cnt_mine {y' : L.Gh} {e : CntE L y0 base p R} {w' : World} {b : Nat} (hle : L.le e.y y') (hs : e.w.heap.size ≤ w'.heap.size) : ((base.heap.size ≤ b ∧ b < w'.heap.size) ∧ ¬ L.sh y' b) ↔ ((((base.heap.size ≤ b ∧ b < e.w.heap.size) ∧ ¬ L.sh e.y b) ∨ (e.w.heap.size ≤ b ∧ b < w'.heap.size)) ∧ ¬ L.sh y' b) := by
  have := e.size
  constructor
  · rintro ⟨⟨a, b'⟩, hn⟩
    refine ⟨?_, hn⟩
    by_cases hb : b < e.w.heap.size
    · exact .inl ⟨⟨a, hb⟩, fun h => hn (L.mono hle h)⟩
    · exact .inr ⟨by omega, b'⟩
  · rintro ⟨⟨⟨a, b'⟩, _⟩ | ⟨a, b'⟩, hn⟩
    · exact ⟨⟨a, by omega⟩, hn⟩
    · exact ⟨⟨by omega, b'⟩, hn⟩
def cntL (hA : ∀ b, Apart V b) (hp : ¬ L.sh y0 p) (hlo : p < base.heap.size) (main : Bool) (Stop : Goroutine → World → Prop) (cs : List Frame) (R : Nat × L.Sg × Ans) : Lg L (.iface 145 (.pointer (some ⟨p, 0, none⟩))) where
  toLb := cntB main V Stop cs y0 base p R
  one := rfl
  inv := fun e => e.inv
  shA := fun _ b _ => hA b
  mineA := fun e b h => ⟨hA b, h.2, h.1.2⟩
  newA := fun _ b _ => hA b
  mg := fun e y' s' w' h0 h1 h2 h3 h4 => ⟨{ w := w', y := y', s := s', tgt := e.tgt, fuel := e.fuel, n := e.n, le := L.trans e.le h0, inv := h3, size := Nat.le_trans e.size h1, old := fun b hb hs hb' => (h2 b (Nat.lt_of_lt_of_le hb e.size) (fun hm => by have := hm.1.1; omega) (fun hm => hs (e.pub b hm hb))).trans (e.old b hb hs hb'), pub := fun b hb hlt => (h4 b hb).elim (fun h => e.pub b h hlt) fun h => h.elim (fun h => absurd h.1.1 (Nat.not_le_of_lt hlt)) fun h => absurd (Nat.le_trans e.size h) (Nat.not_le_of_lt hlt), cnt := (h2 p (Nat.lt_of_lt_of_le hlo e.size) (fun hm => by have := hm.1.1; omega) (fun hm => hp (e.pub p hm hlo))).trans e.cnt, few := e.few, run := e.run }, rfl, rfl, rfl, rfl, rfl, rfl, rfl, rfl, fun b => cnt_mine h0 h1⟩
  step := fun e d ht fr l _ _ hk => cnt_step (hA p) hp hlo e d ht fr l hk
structure Counted (L : La) (y0 : L.Gh) (w : World) (p : Nat) (R : Nat × L.Sg × Ans) (w' : World) (y : L.Gh) : Prop where
  le : L.le y0 y
  I : L.I y R.2.1 w'
  size : w.heap.size ≤ w'.heap.size
  old : ∀ b, b < w.heap.size → ¬ L.sh y0 b → b ≠ p → w'.heap[b]? = w.heap[b]?
  pub : ∀ b, L.sh y b → b < w.heap.size → L.sh y0 b
  cnt : w'.heap[p]? = some (.cells #[.int .i64 R.1] 147)
theorem CallP.cnt {f : FuncId} {args : Array Value} {w : World} {Rel : Value → Ans → World → (Nat → Prop) → Prop} (N n : Nat) (y0 : L.Gh) (s : L.Sg) (T : L.Sg × (Ans ⊕ L.D)) (hat : ∀ v x w' P d, Rel v x w' P → Rel v x (w'.at d) P) (hA : ∀ b, Apart V b) (hI : L.I y0 s w) (hp0 : ¬ L.sh y0 p) (hcnt : w.heap[p]? = some (.cells #[.int .i64 n] 147)) (hfew : n + N < 4611686018427387904) (hrun : lonC L N n T = some R)
    (hc : ∀ (K : Lg L (.iface 145 (.pointer (some ⟨p, 0, none⟩)))) (e : K.E), (∀ (e' : K.E) (b : Nat), b < w.heap.size → ¬ L.sh y0 b → b ≠ p → (K.w e').heap[b]? = w.heap[b]?) → K.w e = w → K.s e = s → K.tgt e = T → SCall K.toLb f args e (fun v e' => ∃ x, Rel v x (K.w e') (K.mine e') ∧ K.tgt e' = (K.s e', .inl x))) :
    CallP main V f args w (fun v w' => ∃ y, Rel v R.2.2 w' (fun b => (w.heap.size ≤ b ∧ b < w'.heap.size) ∧ ¬ L.sh y b) ∧ Counted L y0 w p R w' y) := by
  intro c cs hp
  have key := hc (cntL (V := V) (y0 := y0) (base := w) hA hp0 (Array.getElem?_eq_some_iff.1 hcnt).1 main (fun g w' => ∃ v, (∃ y, Rel v R.2.2 w' (fun b => (w.heap.size ≤ b ∧ b < w'.heap.size) ∧ ¬ L.sh y b) ∧ Counted L y0 w p R w' y) ∧ g = G (c.finish v) cs) cs R) { w := w, y := y0, s := s, tgt := T, fuel := N, n := n, le := L.refl _, inv := hI, size := Nat.le_refl _, old := fun _ _ _ _ => rfl, pub := fun _ h _ => h, cnt := hcnt, few := hfew, run := hrun } (fun e' b h1 h2 h3 => CntE.old e' b h1 h2 h3) rfl rfl rfl c [] hp (fun _ h => by cases h) ?_
  · exact key
  · rintro v e' ⟨x, hr, ht⟩
    have hrn := e'.run
    have hcn := e'.cnt
    have ht : e'.tgt = (e'.s, .inl x) := ht
    rw [ht, lonC_inl] at hrn
    have hR := Option.some.inj hrn
    have r0 : R.1 = e'.n := (congrArg Prod.fst hR).symm
    have r1 : R.2.1 = e'.s := (congrArg (fun x => x.2.1) hR).symm
    have r2 : R.2.2 = x := (congrArg (fun x => x.2.2) hR).symm
    refine .stop fun d => ⟨v, ⟨e'.y, ?_, ⟨e'.le, ?_, e'.size, fun b h1 h2 h3 => e'.old b h1 h2 h3, e'.pub, ?_⟩⟩, rfl⟩
    · rw [r2]
      exact hat _ _ _ _ d hr
    · rw [r1]; exact L.stable e'.inv fun _ _ => rfl
    · rw [r0]; exact hcn
end
end
section
structure CS (rb sb n ob qb m p : Nat) (c : Nat) (s : So) (w w' : World) : Prop where
  I : SoI rb sb n ob qb m s w'
  size : w.heap.size ≤ w'.heap.size
  old : ∀ b, b < w.heap.size → ¬ soSh rb sb ob qb b → b ≠ p → w'.heap[b]? = w.heap[b]?
  cnt : w'.heap[p]? = some (.cells #[.int .i64 c] 147)
section
variable {main : Bool} {V : Nat → Option Wait} {rb sb n ob qb m p : Nat} {s : So} {w : World}
theorem CS.of {R : Nat × So × Ans} {w' : World} {y : (soLa rb sb n ob qb m).Gh} (h : Counted (soLa rb sb n ob qb m) () w p R w' y) : CS rb sb n ob qb m p R.1 R.2.1 w w' := ⟨h.I, h.size, h.old, h.cnt⟩
theorem owrite_c (hA : ∀ b, Apart V b) (I : SoI rb sb n ob qb m s w) (hp : ¬ soSh rb sb ob qb p) (c N : Nat) (hcnt : w.heap[p]? = some (.cells #[.int .i64 c] 147)) (hfew : c + N < 4611686018427387904) (B cp : Nat) (vs : List Int) (xs : Nat → Int) (hxs : ∀ i, i < vs.length → vs[i]? = some (xs i)) (hl : LsR (.slice (some ⟨B, 0, none⟩) vs.length cp) vs w) (hB : B < w.heap.size) (hB2 : ¬ soSh rb sb ob qb B) (hBp : B ≠ p) (R : Nat × So × Ans) (hrun : lonC (soLa rb sb n ob qb m) N c (soClaim n m s vs.length (some (vs.length, xs))) = some R) :
    CallP main V 41 #[.pointer (some ⟨ob, 0, none⟩), .iface 145 (.pointer (some ⟨p, 0, none⟩)), .slice (some ⟨B, 0, none⟩) vs.length cp] w (fun v w' => ∃ a er, v = .tuple #[.int .i64 a, .int .i64 er] ∧ R.2.2 = ⟨er == 0, if er = 0 then a else er, []⟩ ∧ (er ≠ 0 → a = 0) ∧ CS rb sb n ob qb m p R.1 R.2.1 w w') :=
  (CallP.cnt (L := soLa rb sb n ob qb m) (Rel := fun v x _ _ => ∃ a er, v = .tuple #[.int .i64 a, .int .i64 er] ∧ x = ⟨er == 0, if er = 0 then a else er, []⟩ ∧ (er ≠ 0 → a = 0)) N c () s _ (fun _ _ _ _ _ h => h) hA I hp hcnt hfew hrun (fun K e hold hw hs ht => by
    have hrd : ∀ e' : K.E, LsR (.slice (some ⟨B, 0, none⟩) vs.length cp) vs (K.w e') := fun e' => by
      obtain ⟨a, cc, h1, h2, h3, h4⟩ := hl
      refine ⟨a, cc, h1, h2, h3, fun j z hz => ?_⟩
      obtain ⟨b, off, h5, h6⟩ := h4 j z hz
      refine ⟨b, off, h5, ?_⟩
      have hb : b = B := by
        rw [h5] at h1
        injection h1 with h7 _ _
        injection h7 with h8
        injection h8 with h9 _ _
        exact h9.symm
      subst hb
      exact (World.cell?_of_block (a := ⟨b, off + j, none⟩) (hold e' b hB hB2 hBp)).trans h6
    exact (write_so K e _ cp vs xs hxs hrd (by rw [hs]; exact ht)).mono fun x e' ⟨a, er, h1, h2, h3⟩ => ⟨_, ⟨a, er, h1, rfl, h3⟩, h2⟩)).mono fun v w' ⟨y, ⟨a, er, h1, h2, h3⟩, h4⟩ => ⟨a, er, h1, h2, h3, CS.of h4⟩
theorem oread_c (hA : ∀ b, Apart V b) (I : SoI rb sb n ob qb m s w) (hp : ¬ soSh rb sb ob qb p) (c N : Nat) (hcnt : w.heap[p]? = some (.cells #[.int .i64 c] 147)) (hfew : c + N < 4611686018427387904) (k : Nat) (hk : k < m) (R : Nat × So × Ans) (hrun : lonC (soLa rb sb n ob qb m) N c (s, .inr (.r0 k (s.pl k + 1))) = some R) :
    CallP main V 81 #[.pointer (some ⟨ob, 0, none⟩), .iface 145 (.pointer (some ⟨p, 0, none⟩)), .int .i64 k] w (fun v w' => ∃ a er, v = .tuple #[.int .i64 a, .int .i64 er] ∧ R.2.2 = ⟨er == 0, if er = 0 then a else er, []⟩ ∧ (er ≠ 0 → a = 0) ∧ CS rb sb n ob qb m p R.1 R.2.1 w w') :=
  (CallP.cnt (L := soLa rb sb n ob qb m) (Rel := fun v x _ _ => ∃ a er, v = .tuple #[.int .i64 a, .int .i64 er] ∧ x = ⟨er == 0, if er = 0 then a else er, []⟩ ∧ (er ≠ 0 → a = 0)) N c () s _ (fun _ _ _ _ _ h => h) hA I hp hcnt hfew hrun (fun K e hold hw hs ht =>
    (read_s K e k hk (by rw [hs]; exact ht)).mono fun x e' ⟨a, er, h1, h2, h3⟩ => ⟨_, ⟨a, er, h1, rfl, h3⟩, h2⟩)).mono fun v w' ⟨y, ⟨a, er, h1, h2, h3⟩, h4⟩ => ⟨a, er, h1, h2, h3, CS.of h4⟩
theorem obatch_c (hA : ∀ b, Apart V b) (I : SoI rb sb n ob qb m s w) (hp : ¬ soSh rb sb ob qb p) (c N : Nat) (hcnt : w.heap[p]? = some (.cells #[.int .i64 c] 147)) (hfew : c + N < 4611686018427387904) (k : Nat) (hk : k < m) (mo : Int) (R : Nat × So × Ans) (hrun : lonC (soLa rb sb n ob qb m) N c (s, .inr (.b0 k (s.pl k) mo)) = some R) :
    CallP main V 42 #[.pointer (some ⟨ob, 0, none⟩), .iface 145 (.pointer (some ⟨p, 0, none⟩)), .int .i64 k, .int .i64 mo] w (fun v w' => ∃ a cp er, v = .tuple #[.slice a R.2.2.l.length cp, .int .i64 er] ∧ R.2.2.ok = (er == 0) ∧ R.2.2.n = er ∧ w'.ownsRow 0 2 1 (.slice a R.2.2.l.length cp) R.2.2.l.length (R.2.2.l.map fun z => .int .i64 z) ∧ (∀ b, (Value.slice a R.2.2.l.length cp).ownBlock = some b → w.heap.size ≤ b ∧ b < w'.heap.size) ∧ CS rb sb n ob qb m p R.1 R.2.1 w w') :=
  (CallP.cnt (L := soLa rb sb n ob qb m) (Rel := fun v x w' P => ∃ a cp er, v = .tuple #[.slice a x.l.length cp, .int .i64 er] ∧ x.ok = (er == 0) ∧ x.n = er ∧ w'.ownsRow 0 2 1 (.slice a x.l.length cp) x.l.length (x.l.map fun z => .int .i64 z) ∧ ∀ b, (Value.slice a x.l.length cp).ownBlock = some b → P b) N c () s _ (fun _ _ _ _ _ h => h) hA I hp hcnt hfew hrun (fun K e hold hw hs ht =>
    (batch_s K e k hk mo (by rw [hs]; exact ht)).mono fun x e' ⟨sl, er, ls, h1, ⟨⟨a, cp, h2⟩, h3, h4⟩, h5, h6, h7⟩ => ⟨_, ⟨a, cp, er, by rw [h1, h2], rfl, rfl, h2 ▸ h3, h2 ▸ h4⟩, h6⟩)).mono fun v w' ⟨y, ⟨a, cp, er, h1, h2, h3, h4, h5⟩, h6⟩ => ⟨a, cp, er, h1, h2, h3, h4, fun b hb => (h5 b hb).1, CS.of h6⟩
end
end
section
def wx1 : Nat → Int := fun i => ([7, 8] : List Int).getD i 0
def wx2 : Nat → Int := fun i => ([9] : List Int).getD i 0
def wOut (o : Option (Nat × So × Ans)) : So := match o with | some (_, s, _) => s | none => soJ 2 1
def ws1 : So := wOut (lonC (soLa 0 0 2 0 0 1) 9 0 (soClaim 2 1 (soJ 2 1) 2 (some (2, wx1))))
def ws2 : So := wOut (lonC (soLa 0 0 2 0 0 1) 9 7 (soClaim 2 1 ws1 1 (some (1, wx2))))
def ws3 : So := wOut (lonC (soLa 0 0 2 0 0 1) 9 8 (ws2, .inr (.r0 0 (ws2.pl 0 + 1))))
def ws4 : So := wOut (lonC (soLa 0 0 2 0 0 1) 9 13 (soClaim 2 1 ws3 1 (some (1, wx2))))
def ws5 : So := wOut (lonC (soLa 0 0 2 0 0 1) 9 18 (ws4, .inr (.b0 0 (ws4.pl 0) 9)))
theorem wr1 (rb sb ob qb : Nat) : lonC (soLa rb sb 2 ob qb 1) 9 0 (soClaim 2 1 (soJ 2 1) 2 (some (2, wx1))) = some (7, ws1, ⟨true, 0, []⟩) := by kernel_rfl
theorem wr2 (rb sb ob qb : Nat) : lonC (soLa rb sb 2 ob qb 1) 9 7 (soClaim 2 1 ws1 1 (some (1, wx2))) = some (8, ws2, ⟨false, 3, []⟩) := by kernel_rfl
theorem wr3 (rb sb ob qb : Nat) : lonC (soLa rb sb 2 ob qb 1) 9 8 (ws2, .inr (.r0 0 (ws2.pl 0 + 1))) = some (13, ws3, ⟨true, 7, []⟩) := by kernel_rfl
theorem wr4 (rb sb ob qb : Nat) : lonC (soLa rb sb 2 ob qb 1) 9 13 (soClaim 2 1 ws3 1 (some (1, wx2))) = some (18, ws4, ⟨true, 2, []⟩) := by kernel_rfl
theorem wr5 (rb sb ob qb : Nat) : lonC (soLa rb sb 2 ob qb 1) 9 18 (ws4, .inr (.b0 0 (ws4.pl 0) 9)) = some (26, ws5, ⟨true, 0, [8, 9]⟩) := by kernel_rfl
theorem wf : ws5.nx = 3 ∧ ws5.cur = 2 ∧ ws5.nm 0 = 2 := ⟨by kernel_rfl, by kernel_rfl, by kernel_rfl⟩
section
variable {main : Bool} {V : Nat → Option Wait} {rb sb ob qb p : Nat} {w : World}
theorem write1_c (hA : ∀ b, Apart V b) (I : SoI rb sb 2 ob qb 1 (soJ 2 1) w) (hp : ¬ soSh rb sb ob qb p) (hcnt : w.heap[p]? = some (.cells #[.int .i64 0] 147)) (B : Nat) (hl : NumB w B [7, 8]) (hB : B < w.heap.size) (hB2 : ¬ soSh rb sb ob qb B) (hBp : B ≠ p) :
    CallP main V 41 #[.pointer (some ⟨ob, 0, none⟩), .iface 145 (.pointer (some ⟨p, 0, none⟩)), .slice (some ⟨B, 0, none⟩) 2 2] w (fun v w' => ∃ a er, v = .tuple #[.int .i64 a, .int .i64 er] ∧ (⟨true, 0, []⟩ : Ans) = ⟨er == 0, if er = 0 then a else er, []⟩ ∧ (er ≠ 0 → a = 0) ∧ CS rb sb 2 ob qb 1 p 7 ws1 w w') := by
  have hx : ∀ i, i < [7, 8].length → ([7, 8] : List Int)[i]? = some (wx1 i) := fun i hi => by
    match i, hi with
    | 0, _ => rfl
    | 1, _ => rfl
  have hr : lonC (soLa rb sb 2 ob qb 1) 9 0 (soClaim 2 1 (soJ 2 1) (([7, 8] : List Int).length : Nat) (some (([7, 8] : List Int).length, wx1))) = some (7, ws1, ⟨true, 0, []⟩) := wr1 rb sb ob qb
  exact owrite_c (main := main) hA I hp 0 9 hcnt (by decide) B 2 [7, 8] wx1 hx hl.lsR hB hB2 hBp (7, ws1, ⟨true, 0, []⟩) hr
theorem write2_c (hA : ∀ b, Apart V b) (I : SoI rb sb 2 ob qb 1 ws1 w) (hp : ¬ soSh rb sb ob qb p) (hcnt : w.heap[p]? = some (.cells #[.int .i64 7] 147)) (B : Nat) (hl : NumB w B [9]) (hB : B < w.heap.size) (hB2 : ¬ soSh rb sb ob qb B) (hBp : B ≠ p) :
    CallP main V 41 #[.pointer (some ⟨ob, 0, none⟩), .iface 145 (.pointer (some ⟨p, 0, none⟩)), .slice (some ⟨B, 0, none⟩) 1 1] w (fun v w' => ∃ a er, v = .tuple #[.int .i64 a, .int .i64 er] ∧ (⟨false, 3, []⟩ : Ans) = ⟨er == 0, if er = 0 then a else er, []⟩ ∧ (er ≠ 0 → a = 0) ∧ CS rb sb 2 ob qb 1 p 8 ws2 w w') := by
  have hx : ∀ i, i < [9].length → ([9] : List Int)[i]? = some (wx2 i) := fun i hi => by
    match i, hi with
    | 0, _ => rfl
  have hr : lonC (soLa rb sb 2 ob qb 1) 9 7 (soClaim 2 1 ws1 (([9] : List Int).length : Nat) (some (([9] : List Int).length, wx2))) = some (8, ws2, ⟨false, 3, []⟩) := wr2 rb sb ob qb
  exact owrite_c (main := main) hA I hp 7 9 hcnt (by decide) B 1 [9] wx2 hx hl.lsR hB hB2 hBp (8, ws2, ⟨false, 3, []⟩) hr
theorem write4_c (hA : ∀ b, Apart V b) (I : SoI rb sb 2 ob qb 1 ws3 w) (hp : ¬ soSh rb sb ob qb p) (hcnt : w.heap[p]? = some (.cells #[.int .i64 13] 147)) (B : Nat) (hl : NumB w B [9]) (hB : B < w.heap.size) (hB2 : ¬ soSh rb sb ob qb B) (hBp : B ≠ p) :
    CallP main V 41 #[.pointer (some ⟨ob, 0, none⟩), .iface 145 (.pointer (some ⟨p, 0, none⟩)), .slice (some ⟨B, 0, none⟩) 1 1] w (fun v w' => ∃ a er, v = .tuple #[.int .i64 a, .int .i64 er] ∧ (⟨true, 2, []⟩ : Ans) = ⟨er == 0, if er = 0 then a else er, []⟩ ∧ (er ≠ 0 → a = 0) ∧ CS rb sb 2 ob qb 1 p 18 ws4 w w') := by
  have hx : ∀ i, i < [9].length → ([9] : List Int)[i]? = some (wx2 i) := fun i hi => by
    match i, hi with
    | 0, _ => rfl
  have hr : lonC (soLa rb sb 2 ob qb 1) 9 13 (soClaim 2 1 ws3 (([9] : List Int).length : Nat) (some (([9] : List Int).length, wx2))) = some (18, ws4, ⟨true, 2, []⟩) := wr4 rb sb ob qb
  exact owrite_c (main := main) hA I hp 13 9 hcnt (by decide) B 1 [9] wx2 hx hl.lsR hB hB2 hBp (18, ws4, ⟨true, 2, []⟩) hr
theorem read3_c (hA : ∀ b, Apart V b) (I : SoI rb sb 2 ob qb 1 ws2 w) (hp : ¬ soSh rb sb ob qb p) (hcnt : w.heap[p]? = some (.cells #[.int .i64 8] 147)) :
    CallP main V 81 #[.pointer (some ⟨ob, 0, none⟩), .iface 145 (.pointer (some ⟨p, 0, none⟩)), .int .i64 0] w (fun v w' => ∃ a er, v = .tuple #[.int .i64 a, .int .i64 er] ∧ (⟨true, 7, []⟩ : Ans) = ⟨er == 0, if er = 0 then a else er, []⟩ ∧ (er ≠ 0 → a = 0) ∧ CS rb sb 2 ob qb 1 p 13 ws3 w w') :=
  oread_c (main := main) hA I hp 8 9 hcnt (by decide) 0 (by decide) (13, ws3, ⟨true, 7, []⟩) (wr3 rb sb ob qb)
theorem batch5_c (hA : ∀ b, Apart V b) (I : SoI rb sb 2 ob qb 1 ws4 w) (hp : ¬ soSh rb sb ob qb p) (hcnt : w.heap[p]? = some (.cells #[.int .i64 18] 147)) :
    CallP main V 42 #[.pointer (some ⟨ob, 0, none⟩), .iface 145 (.pointer (some ⟨p, 0, none⟩)), .int .i64 0, .int .i64 9] w (fun v w' => ∃ a cp er, v = .tuple #[.slice a 2 cp, .int .i64 er] ∧ true = (er == 0) ∧ (0 : Int) = er ∧ w'.ownsRow 0 2 1 (.slice a 2 cp) 2 (([8, 9] : List Int).map fun z => .int .i64 z) ∧ (∀ b, (Value.slice a 2 cp).ownBlock = some b → w.heap.size ≤ b ∧ b < w'.heap.size) ∧ CS rb sb 2 ob qb 1 p 26 ws5 w w') :=
  obatch_c (main := main) hA I hp 18 9 hcnt (by decide) 0 (by decide) 9 (26, ws5, ⟨true, 0, [8, 9]⟩) (wr5 rb sb ob qb)
end
end
end Go.Proofs.Ytcdcnmphjhfbpaa
