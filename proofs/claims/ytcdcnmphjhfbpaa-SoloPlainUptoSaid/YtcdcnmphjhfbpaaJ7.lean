/- Part 7. -/
import Derived.Test.YtcdcnmphjhfbpaaJ2
import Derived.Test.YtcdcnmphjhfbpaaJ3
import Derived.Test.YtcdcnmphjhfbpaaJ4
import Derived.Test.YtcdcnmphjhfbpaaJ6
import Derived.Test.YtcdcnmphjhfbpaaProg
import Derived.KernelRfl
import Derived.Handy
import Derived.Conc.AtomicLaws2
set_option linter.unusedSimpArgs false
set_option linter.unusedVariables false
set_option maxHeartbeats 8000000
set_option maxRecDepth 100000
namespace Go.Proofs.Ytcdcnmphjhfbpaa
open Go.Conc Go.RowKit Go.Relay
open Go.ConcN (upd upd_ne upd_same)
section
structure Lb (L : La) where
  main : Bool
  E : Type
  V : E → Nat → Option Wait
  Stop : E → Goroutine → World → Prop
  bot : E → List Frame
  w : E → World
  s : E → L.Sg
  gh : E → L.Gh
  tgt : E → L.Sg × (Ans ⊕ L.D)
  fuel : E → Nat
  mine : E → Nat → Prop
def LW {L : La} (K : Lb L) (e : K.E) (g : Goroutine) : Prop := Walk Try.prog K.main (DR (K.V e)) (K.Stop e) g (K.w e)
structure Mg {L : La} (K : Lb L) (e e' : K.E) (y' : L.Gh) (s' : L.Sg) (w' : World) : Prop where
  V : K.V e' = K.V e
  Stop : K.Stop e' = K.Stop e
  bot : K.bot e' = K.bot e
  w : K.w e' = w'
  s : K.s e' = s'
  gh : K.gh e' = y'
  tgt : K.tgt e' = K.tgt e
  fuel : K.fuel e' = K.fuel e
  mine : ∀ b, K.mine e' b ↔ (K.mine e b ∨ ((K.w e).heap.size ≤ b ∧ b < w'.heap.size)) ∧ ¬ L.sh y' b
structure Mv {L : La} (K : Lb L) (e e' : K.E) (s' : L.Sg) (w' : World) : Prop where
  V : K.V e' = K.V e
  Stop : K.Stop e' = K.Stop e
  bot : K.bot e' = K.bot e
  w : K.w e' = w'
  s : K.s e' = s'
  gh : K.gh e' = K.gh e
  tgt : K.tgt e' = K.tgt e
  fuel : K.fuel e' = K.fuel e
  mine : ∀ b, K.mine e' b ↔ K.mine e b ∨ ((K.w e).heap.size ≤ b ∧ b < w'.heap.size)
structure Aft {L : La} (K : Lb L) (e : K.E) (d : L.D) (e' : K.E) : Prop where
  tgt : K.tgt e' = L.act (K.s e') d
  fuel : K.fuel e' < K.fuel e
  le : L.le (K.gh e) (K.gh e')
  size : (K.w e).heap.size ≤ (K.w e').heap.size
  mine : ∀ b, K.mine e b → K.mine e' b ∧ (K.w e').heap[b]? = (K.w e).heap[b]?
structure Lg (L : La) (sv : Value) extends Lb L where
  inv : ∀ e, L.I (gh e) (s e) (w e)
  shA : ∀ e b, L.sh (gh e) b → Apart (V e) b
  mineA : ∀ e b, mine e b → Apart (V e) b ∧ ¬ L.sh (gh e) b ∧ b < (w e).heap.size
  newA : ∀ e b, (w e).heap.size ≤ b → Apart (V e) b
  one : sv.cells = #[sv]
  mg : ∀ (e : E) (y' : L.Gh) (s' : L.Sg) (w' : World), L.le (gh e) y' → (w e).heap.size ≤ w'.heap.size → (∀ b, b < (w e).heap.size → ¬ mine e b → ¬ L.sh (gh e) b → w'.heap[b]? = (w e).heap[b]?) → L.I y' s' w' → (∀ b, L.sh y' b → L.sh (gh e) b ∨ mine e b ∨ (w e).heap.size ≤ b) → ∃ e', Mg toLb e e' y' s' w'
  step : ∀ (e : E) (d : L.D), tgt e = (s e, .inr d) → ∀ (fr : Frame) (l : List Frame), Plain fr → (∀ f ∈ l, Plain f) → (∀ e', Aft toLb e d e' → LW toLb e' (G (fr.finish (.tuple #[])) (l ++ bot e'))) →
    LW toLb e (G (Frame.enter Try.prog 120 #[sv] .normal) (fr :: (l ++ bot e)))
theorem Mg.mv {L : La} {sv : Value} {K : Lg L sv} {e e' : K.E} {s' : L.Sg} {w' : World} (m : Mg K.toLb e e' (K.gh e) s' w') : Mv K.toLb e e' s' w' :=
  ⟨m.V, m.Stop, m.bot, m.w, m.s, m.gh, m.tgt, m.fuel, fun b => (m.mine b).trans ⟨fun h => h.1, fun h => ⟨h, fun hs => by
    rcases h with h | h
    · exact (K.mineA e b h).2.1 hs
    · have := L.lt (K.inv e) hs; omega⟩⟩⟩
theorem Lg.mv {L : La} {sv : Value} (K : Lg L sv) (e : K.E) (s' : L.Sg) (w' : World) (h1 : (K.w e).heap.size ≤ w'.heap.size) (h2 : ∀ b, b < (K.w e).heap.size → ¬ K.mine e b → ¬ L.sh (K.gh e) b → w'.heap[b]? = (K.w e).heap[b]?) (h3 : L.I (K.gh e) s' w') : ∃ e', Mv K.toLb e e' s' w' := by
  obtain ⟨e', m⟩ := K.mg e (K.gh e) s' w' (L.refl _) h1 h2 h3 fun b h => .inl h
  exact ⟨e', m.mv⟩
def SCall {L : La} (K : Lb L) (f : FuncId) (args : Array Value) (e : K.E) (Q : Value → K.E → Prop) : Prop :=
  ∀ (fr : Frame) (l : List Frame), Plain fr → (∀ f ∈ l, Plain f) → (∀ v e', Q v e' → LW K e' (G (fr.finish v) (l ++ K.bot e'))) → LW K e (G (Frame.enter Try.prog f args .normal) (fr :: (l ++ K.bot e)))
section
variable {L : La} {K : Lb L} {e : K.E} {g : Goroutine}
theorem SCall.mono {f : FuncId} {args : Array Value} {Q Q' : Value → K.E → Prop} (h : SCall K f args e Q) (hQ : ∀ v e', Q v e' → Q' v e') : SCall K f args e Q' := fun fr l hp hl hk => h fr l hp hl fun v e' hq => hk v e' (hQ v e' hq)
theorem LW.mv {e' : K.E} {s' : L.Sg} {w' : World} (h : Mv K e e' s' w') (hw : LW K e' g) : Walk Try.prog K.main (DR (K.V e)) (K.Stop e) g w' := by
  unfold LW at hw
  rw [h.V, h.Stop, h.w] at hw
  exact hw
theorem LW.mg {e' : K.E} {y' : L.Gh} {s' : L.Sg} {w' : World} (h : Mg K e e' y' s' w') (hw : LW K e' g) : Walk Try.prog K.main (DR (K.V e)) (K.Stop e) g w' := by
  unfold LW at hw
  rw [h.V, h.Stop, h.w] at hw
  exact hw
theorem SCall.mv {e' : K.E} {s' : L.Sg} {w' : World} {f : FuncId} {args : Array Value} {Q : Value → K.E → Prop} (h : Mv K e e' s' w') (hc : SCall K f args e' Q) {fr : Frame} {l : List Frame} (hp : Plain fr) (hl : ∀ f ∈ l, Plain f) (hk : ∀ v e', Q v e' → LW K e' (G (fr.finish v) (l ++ K.bot e'))) :
    Walk Try.prog K.main (DR (K.V e)) (K.Stop e) (G (Frame.enter Try.prog f args .normal) (fr :: (l ++ K.bot e))) w' := by
  have := hc fr l hp hl hk
  rw [h.bot] at this
  exact LW.mv h this
theorem Mv.trans {e1 e2 : K.E} {s1 s2 : L.Sg} {w1 w2 : World} (h : Mv K e e1 s1 w1) (h' : Mv K e1 e2 s2 w2) (hs : (K.w e).heap.size ≤ w1.heap.size) (hs' : w1.heap.size ≤ w2.heap.size) : Mv K e e2 s2 w2 := by
  refine ⟨h'.V.trans h.V, h'.Stop.trans h.Stop, h'.bot.trans h.bot, h'.w, h'.s, h'.gh.trans h.gh, h'.tgt.trans h.tgt, h'.fuel.trans h.fuel, fun b => ?_⟩
  rw [h'.mine, h.mine, h.w]
  constructor
  · rintro ((h | h) | h)
    · exact .inl h
    · exact .inr ⟨h.1, by omega⟩
    · exact .inr ⟨by omega, h.2⟩
  · rintro (h | h)
    · exact .inl (.inl h)
    · by_cases hb : b < w1.heap.size
      · exact .inl (.inr ⟨h.1, hb⟩)
      · exact .inr ⟨by omega, h.2⟩
variable {b : Frame} {a : Act} {k : List Item} {cs l : List Frame} {ops : Array Oper} {i : Nat} {rest : List Nat} {o : Oper}
theorem LW.callS {f : FuncId} {fn : Func} {args : Array Operand} {ats : Array TypeId} {Q : Value → K.E → Prop} (hc : SCall K f (args.map a.eval) e Q) (ho : ops[i]? = some o) (hw : Region.wanted o (yielded ops a.tmps) = true) (hk : b.kind ≠ .early) (hop : o.op = .call { callee := .value (.func f), args, argTypes := ats })
    (hf : Try.prog.funcs[f]? = some fn) (hname : (fn.name == "runtime.NumGoroutine") = false) (hb : fn.body.isNone = false) (hp : Plain (b.at a (.inRegion ops (i :: rest) :: k))) (hl : ∀ f ∈ l, Plain f)
    (h : ∀ v e', Q v e' → LW K e' (G (b.at (a.put o.dst v) (.inRegion ops rest :: k)) (l ++ K.bot e'))) :
    LW K e (G (b.at a (.inRegion ops (i :: rest) :: k)) (l ++ K.bot e)) := by
  refine Walk.ctl (g' := G (Frame.enter Try.prog f (args.map a.eval) .normal) (b.at a (.inRegion ops (i :: rest) :: k) :: (l ++ K.bot e))) rfl (fun w => ?_) (hc _ l hp hl ?_)
  · rw [stepG_enter ho hw hk (run_call_body hop hf hname hb)]
    have : listed Try.prog b.fn a o w = #[] := by unfold listed; rw [events_call_body hop hf hname hb]; exact seen_none Try.prog _
    rw [this]
  · intro v e' hq
    rw [Frame.finish_at, ho]
    exact h v e' hq
end
section
variable {P : Program} {main : Bool} {V : Nat → Option Wait} {Stop : Goroutine → World → Prop} {b : Frame} {a : Act} {cs : List Frame} {w : World} {fn : Func} {todo : List Item} {c : Frame} {t s : Tmp}
theorem Walk.on1 (hn : b.kind = .normal) (hd : a.defers = []) (hf : P.funcs[b.fn]? = some fn) (hr : fn.results = #[.tmp t]) (h : Walk P main (DR V) Stop (G (c.finish (a.tmps.getD t undef)) cs) w) : Walk P main (DR V) Stop (G { b.at a todo with mode := .returning } (c :: cs)) w :=
  Walk.ctl rfl (fun w => stepG_leave hn hd hf (results_tmp hr _ P w) (events_results_tmp hr _ _)) h
theorem Walk.on0 (hn : b.kind = .normal) (hd : a.defers = []) (hf : P.funcs[b.fn]? = some fn) (hr : fn.results = #[]) (h : Walk P main (DR V) Stop (G (c.finish (.tuple #[])) cs) w) : Walk P main (DR V) Stop (G { b.at a todo with mode := .returning } (c :: cs)) w :=
  Walk.ctl rfl (fun w => stepG_leave hn hd hf (results_none hr _ P w) (events_results_none hr _ _)) h
theorem Walk.on2 (hn : b.kind = .normal) (hd : a.defers = []) (hf : P.funcs[b.fn]? = some fn) (hr : fn.results = #[.tmp t, .tmp s]) (h : Walk P main (DR V) Stop (G (c.finish (.tuple #[a.tmps.getD t undef, a.tmps.getD s undef])) cs) w) : Walk P main (DR V) Stop (G { b.at a todo with mode := .returning } (c :: cs)) w :=
  Walk.ctl rfl (fun w => stepG_leave (v := .tuple #[a.tmps.getD t undef, a.tmps.getD s undef]) hn hd hf (by simp [results, hr]) (by simp [results, hr])) h
end
end
section
section
variable {L : La} {sv : Value}
def FzE (K : Lg L sv) (e0 : K.E) : Type := { e : K.E // ∀ b, K.mine e0 b → K.mine e b ∧ (K.w e).heap[b]? = (K.w e0).heap[b]? }
def FzB (K : Lg L sv) (e0 : K.E) : Lb L where
  main := K.main
  E := FzE K e0
  V := fun e => K.V e.1
  Stop := fun e => K.Stop e.1
  bot := fun e => K.bot e.1
  w := fun e => K.w e.1
  s := fun e => K.s e.1
  gh := fun e => K.gh e.1
  tgt := fun e => K.tgt e.1
  fuel := fun e => K.fuel e.1
  mine := fun e b => K.mine e.1 b ∧ ¬ K.mine e0 b
def Fz (K : Lg L sv) (e0 : K.E) : Lg L sv where
  toLb := FzB K e0
  inv := fun e => K.inv e.1
  shA := fun e => K.shA e.1
  mineA := fun e b h => K.mineA e.1 b h.1
  newA := fun e => K.newA e.1
  one := K.one
  mg := fun e y' s' w' h0 h1 h2 h3 h4 => by
    have hz : ∀ b, K.mine e0 b → b < (K.w e.1).heap.size ∧ w'.heap[b]? = (K.w e.1).heap[b]? := fun b h => by
      have hm := K.mineA e.1 b (e.2 b h).1
      exact ⟨hm.2.2, h2 b hm.2.2 (fun x => x.2 h) hm.2.1⟩
    have hn : ∀ b, K.mine e0 b → ¬ L.sh y' b := fun b h hs => by
      have hm := K.mineA e.1 b (e.2 b h).1
      rcases h4 b hs with x | x | x
      · exact hm.2.1 x
      · exact x.2 h
      · have : (K.w e.1).heap.size ≤ b := x
        have := hm.2.2; omega
    obtain ⟨e', m⟩ := K.mg e.1 y' s' w' h0 h1 (fun b hb hn hs => h2 b hb (fun x => hn x.1) hs) h3 (fun b h => (h4 b h).imp id fun x => x.imp (fun x => x.1) id)
    refine ⟨⟨e', fun b h => ⟨(m.mine b).2 ⟨.inl (e.2 b h).1, hn b h⟩, ?_⟩⟩, m.V, m.Stop, m.bot, m.w, m.s, m.gh, m.tgt, m.fuel, fun b => ?_⟩
    · rw [m.w]; exact (hz b h).2.trans (e.2 b h).2
    · show (K.mine e' b ∧ ¬ K.mine e0 b) ↔ ((K.mine e.1 b ∧ ¬ K.mine e0 b) ∨ ((K.w e.1).heap.size ≤ b ∧ b < w'.heap.size)) ∧ ¬ L.sh y' b
      rw [m.mine]
      constructor
      · rintro ⟨⟨h | h, hs⟩, hn⟩
        · exact ⟨.inl ⟨h, hn⟩, hs⟩
        · exact ⟨.inr h, hs⟩
      · rintro ⟨⟨h, hn⟩ | h, hs⟩
        · exact ⟨⟨.inl h, hs⟩, hn⟩
        · exact ⟨⟨.inr h, hs⟩, fun hn => by have := (hz b hn).1; omega⟩
  step := fun e d ht fr l hp hl hk => by
    refine K.step e.1 d ht fr l hp hl fun e' ha => ?_
    refine hk ⟨e', fun b h => ?_⟩ ⟨ha.tgt, ha.fuel, ha.le, ha.size, fun b hb => ⟨⟨(ha.mine b hb.1).1, hb.2⟩, (ha.mine b hb.1).2⟩⟩
    have hm := ha.mine b (e.2 b h).1
    exact ⟨hm.1, hm.2.trans (e.2 b h).2⟩
def fz0 (K : Lg L sv) (e : K.E) : (Fz K e).E := ⟨e, fun _ h => ⟨h, rfl⟩⟩
def Kept (K : Lg L sv) (e e' : K.E) : Prop := ∀ b, K.mine e b → K.mine e' b ∧ (K.w e').heap[b]? = (K.w e).heap[b]?
theorem SCall.fz (K : Lg L sv) {e : K.E} {f : FuncId} {args : Array Value} {Q : Value → (Fz K e).E → Prop} (h : SCall (Fz K e).toLb f args (fz0 K e) Q) : SCall K.toLb f args e (fun v e' => ∃ h : Kept K e e', Q v ⟨e', h⟩) := fun fr l hp hl hk =>
  h fr l hp hl fun v e' hq => hk v e'.1 ⟨e'.2, hq⟩
theorem Mv.new {K : Lg L sv} {e e' : K.E} {s' : L.Sg} {w' : World} (m : Mv K.toLb e e' s' w') {b : Nat} (h1 : (K.w e).heap.size ≤ b) (h2 : b < w'.heap.size) : K.mine e' b := (m.mine b).2 (.inr ⟨h1, h2⟩)
theorem Lg.grow (K : Lg L sv) (e : K.E) {w' : World} (hs : (K.w e).heap.size ≤ w'.heap.size) (hb : ∀ b, b < (K.w e).heap.size → w'.heap[b]? = (K.w e).heap[b]?) : ∃ e', Mv K.toLb e e' (K.s e) w' :=
  K.mv e (K.s e) w' hs (fun b h _ _ => hb b h) (L.stable (K.inv e) fun b h => hb b (L.lt (K.inv e) h))
theorem Lg.own (K : Lg L sv) (e : K.E) {w' : World} (hs : (K.w e).heap.size ≤ w'.heap.size) (hb : ∀ b, b < (K.w e).heap.size → ¬ K.mine e b → w'.heap[b]? = (K.w e).heap[b]?) : ∃ e', Mv K.toLb e e' (K.s e) w' :=
  K.mv e (K.s e) w' hs (fun b h hm _ => hb b h hm) (L.stable (K.inv e) fun b h => hb b (L.lt (K.inv e) h) fun hm => (K.mineA e b hm).2.1 h)
theorem at_slots {b : Frame} {A : Array Value} {todo : List Item} {cs : List Frame} {F : (Nat → Value) → Goroutine} (h : G (b.at ⟨A, []⟩ todo) cs = F (fun k => A.getD k undef)) : ∃ u, G (b.at ⟨A, []⟩ todo) cs = F u := ⟨_, h⟩
theorem slots_walk {P : Program} {main : Bool} {D : World → World → Array Event → Prop} {Stop : Goroutine → World → Prop} {b : Frame} {A : Array Value} {todo : List Item} {cs : List Frame} {w : World} {F : (Nat → Value) → Goroutine} (h : ∀ u, Walk P main D Stop (F u) w) (e : G (b.at ⟨A, []⟩ todo) cs = F (fun k => A.getD k undef)) : Walk P main D Stop (G (b.at ⟨A, []⟩ todo) cs) w := e ▸ h _
theorem Walk.finish {P : Program} {main : Bool} {D : World → World → Array Event → Prop} {Stop : Goroutine → World → Prop} {w : World} {b : Frame} {a : Act} {k : List Item} {cs : List Frame} {ops : Array Oper} {i : Nat} {rest : List Nat} {o : Oper} {v : Value} (ho : ops[i]? = some o)
    (h : Walk P main D Stop (G (b.at (a.put o.dst v) (.inRegion ops rest :: k)) cs) w) : Walk P main D Stop (G ((b.at a (.inRegion ops (i :: rest) :: k)).finish v) cs) w := by
  rw [Frame.finish_at, ho]
  exact h
theorem LW.to {K : Lb L} {e e' : K.E} {s' : L.Sg} {w' : World} {fr : Frame} {l : List Frame} (m : Mv K e e' s' w') (h : LW K e' (G fr (l ++ K.bot e'))) : Walk Try.prog K.main (DR (K.V e)) (K.Stop e) (G fr (l ++ K.bot e)) w' := by
  rw [m.bot] at h
  exact LW.mv m h
end
end
theorem structT (t : TypeId) (h : (match Try.prog.underlying t with | some (.struct _) => true | _ => false) = true) : ∃ fs, Try.prog.underlying t = some (.struct fs) := by
  revert h
  cases Try.prog.underlying t with
  | none => simp
  | some d =>
    cases d with
    | struct fs => exact fun _ => ⟨fs, rfl⟩
    | _ => simp
theorem setRow_self {w : World} {g : Nat} {old cells : Array Value} {tt : TypeId} {fr : Nat × Nat} (h : w.heap[g]? = some (.cells old tt fr)) : (w.setRow g cells).heap[g]? = some (.cells cells tt fr) := setRow_heap w g old cells tt fr h
theorem setRow_other (w : World) {g b : Nat} (cells : Array Value) (h : b ≠ g) : (w.setRow g cells).heap[b]? = w.heap[b]? := by
  unfold World.setRow
  simp only [Array.getElem?_modify]
  rw [if_neg (Ne.symm h)]
theorem setRow_size (w : World) (g : Nat) (cells : Array Value) : (w.setRow g cells).heap.size = w.heap.size := by
  unfold World.setRow
  simp
section
section
variable {main : Bool} {V : Nat → Option Wait}
theorem Walk.turn {P : Program} {Stop : Goroutine → World → Prop} {g g' : Goroutine} {w W : World} {es : Array Event} (hr : g.status = .running) (hs : ∀ d, stepG P main g (w.at d) = .go g' (W.at d) es) (hd : ∀ d, DR V (w.at d) (W.at d) es) (h : Walk P main (DR V) Stop g' W) : Walk P main (DR V) Stop g w :=
  Walk.step hr (fun _ => g') (fun d => W.at d) (fun _ => es) hs hd (fun d => h.back d)
theorem atLoad (b q : Nat) (v : Int) (w : World) (hc : w.cell? ⟨b, q, none⟩ = some (.int .i64 v)) : CallV Try.prog main V 226 #[.pointer (some ⟨b, q, none⟩)] w (.int .i64 v) w := by
  refine callW_in Try.func226 rfl fun fr cs => ?_
  simp only [Try.ntmps226, ez, Nat.reduceAdd, Nat.reduceSub]
  repeat (first | refine Walk.cx ?_ | refine Walk.cR ?_ | (refine Walk.oq ?_; try walk_nrm) | (refine Walk.un ?_; walk_nrm))
  refine Walk.evs (fun _ => #[⟨.cell ⟨b, q, none⟩, false, true⟩]) rfl (fun d => stepG_load_atomic (w := w.at d) rfl (by rfl) (by decide) rfl Try.func227 (by kernel_rfl) (by rfl) (by kernel_rfl) .i64 (by kernel_rfl) rfl hc) (fun d e he => by simp at he; subst he; exact evR_read _ _) ?_
  walk_nrm
  repeat (first | refine Walk.cx ?_ | refine Walk.cR ?_ | (refine Walk.oq ?_; try walk_nrm) | (refine Walk.un ?_; walk_nrm))
  exact Walk.ret1 rfl rfl Try.func226 rfl fun d => ⟨rfl, d, rfl⟩
theorem atStore (b q : Nat) (u : Value) (v : Int) (w : World) (hc : w.cell? ⟨b, q, none⟩ = some u) (hz : w.frozen? ⟨b, q, none⟩ = false) (hf : Free V ⟨b, q, none⟩) : CallV Try.prog main V 121 #[.pointer (some ⟨b, q, none⟩), .int .i64 v] w (.tuple #[]) (w.setCell ⟨b, q, none⟩ (.int .i64 v)) := by
  refine callW_in Try.func121 rfl fun fr cs => ?_
  simp only [Try.ntmps121, ez, Nat.reduceAdd, Nat.reduceSub]
  repeat (first | refine Walk.cx ?_ | refine Walk.cR ?_ | (refine Walk.oq ?_; try walk_nrm) | (refine Walk.un ?_; walk_nrm))
  refine Walk.turn (W := w.setCell ⟨b, q, none⟩ (.int .i64 v)) rfl (fun d => stepG_store_atomic (w := w.at d) rfl (by rfl) (by decide) rfl Try.func152 (by kernel_rfl) (by rfl) (by kernel_rfl) (by kernel_rfl) rfl rfl hc hz) (fun d => DR.set' hf hc d _ (fun e he => by simp at he; subst he; exact evR_write _ _ hf)) ?_
  walk_nrm
  repeat (first | refine Walk.cx ?_ | refine Walk.cR ?_ | (refine Walk.oq ?_; try walk_nrm) | (refine Walk.un ?_; walk_nrm))
  exact Walk.ret0 rfl rfl Try.func121 rfl fun d => ⟨rfl, d, rfl⟩
end
structure Wd (L : La) where
  on : L.Gh → Prop
  up : ∀ {y y' : L.Gh}, L.le y y' → on y → on y'
  b : Nat
  q : Nat
  get : L.Sg → Int
  put : L.Sg → Int → L.Sg
  ok : Int → Prop
  sh : ∀ y, on y → L.sh y b
  rd : ∀ y s w, on y → L.I y s w → w.cell? ⟨b, q, none⟩ = some (.int .i64 (get s)) ∧ w.frozen? ⟨b, q, none⟩ = false
  wr : ∀ y s w v, on y → ok v → L.I y s w → L.I y (put s v) (w.setCell ⟨b, q, none⟩ (.int .i64 v))
def Wd.p {L : La} (W : Wd L) : Value := .pointer (some ⟨W.b, W.q, none⟩)
noncomputable def reg133_0 := rg Try.f133.body [0]
noncomputable def reg133_1 := rg Try.f133.body [1, 0]
noncomputable def reg133_2 := rg Try.f133.body [1, 1, 0]
theorem z133 : List.range reg133_0.size = [0] ∧ List.range reg133_1.size = [0, 1] ∧ List.range reg133_2.size = [0, 1, 2, 3] := by refine ⟨?_, ?_, ?_⟩ <;> kernel_rfl
theorem code133_is : Try.f133.body = some (.seq (.region 0 reg133_0 false) (.seq (.region 1 reg133_1 false) (.seq (.region 2 reg133_2 false) (.ret)))) := by kernel_rfl
noncomputable def reg100_0 := rg Try.f100.body [0]
noncomputable def reg100_1 := rg Try.f100.body [1, 0, 0]
noncomputable def reg100_2 := rg Try.f100.body [1, 0, 1, 0, 0]
noncomputable def reg100_3 := rg Try.f100.body [1, 1, 0]
theorem z100 : List.range reg100_0.size = [0] ∧ List.range reg100_1.size = [0, 1] ∧ List.range reg100_2.size = [0] ∧ List.range reg100_3.size = [0, 1, 2, 3, 4, 5] := by refine ⟨?_, ?_, ?_, ?_⟩ <;> kernel_rfl
theorem code100_is : Try.f100.body = some (.seq (.region 0 reg100_0 false) (.seq (.seq (.region 1 reg100_1 false) (.cond (.tmp 6 ) (.seq (.region 2 reg100_2 false) (.ret)) (.skip))) (.seq (.region 3 reg100_3 false) (.ret)))) := by kernel_rfl
noncomputable def reg71_0 := rg Try.f71.body [0, 0]
noncomputable def reg71_1 := rg Try.f71.body [1, 0]
noncomputable def reg71_2 := rg Try.f71.body [1, 1]
theorem z71 : List.range reg71_0.size = [0, 1] ∧ List.range reg71_1.size = [0, 1] ∧ List.range reg71_2.size = [0, 1, 2, 3, 4] := by refine ⟨?_, ?_, ?_⟩ <;> kernel_rfl
theorem code71_is : Try.f71.body = some (.seq (.seq (.region 0 reg71_0 false) (.cond (.tmp 7 ) (.ret) (.skip))) (.seq (.region 1 reg71_1 false) (.region 2 reg71_2 false))) := by kernel_rfl
section
variable {L : La} {sv : Value}
theorem step_s (K : Lg L sv) (e : K.E) (d : L.D) (ht : K.tgt e = (K.s e, .inr d)) : SCall K.toLb 120 #[sv] e (fun _ e' => Aft K.toLb e d e') := fun fr l hp hl hk => K.step e d ht fr l hp hl fun e' ha => hk _ e' ha
theorem plain_cons {fr : Frame} {l : List Frame} (hp : Plain fr) (hl : ∀ f ∈ l, Plain f) : ∀ f ∈ fr :: l, Plain f := fun x hx => by
  rcases List.mem_cons.1 hx with rfl | hx
  · exact hp
  · exact hl x hx
theorem Wd.put_mv (W : Wd L) (K : Lg L sv) (e : K.E) (v : Int) (hon : W.on (K.gh e)) (hv : W.ok v) : ∃ e', Mv K.toLb e e' (W.put (K.s e) v) ((K.w e).setCell ⟨W.b, W.q, none⟩ (.int .i64 v)) :=
  K.mv e _ _ (Nat.le_of_eq (size_set ..).symm) (fun b _ _ hs => heap_set_other _ _ _ _ fun he : b = W.b => hs (by rw [he]; exact W.sh _ hon)) (W.wr _ _ _ v hon hv (K.inv e))
theorem holds_s (K : Lg L sv) (W : Wd L) (e : K.E) (d : L.D) (hon : W.on (K.gh e)) (ht : K.tgt e = (K.s e, .inr d)) : SCall K.toLb 133 #[sv, W.p] e (fun v e' => Aft K.toLb e d e' ∧ v = .int .i64 (W.get (K.s e'))) := by
  intro fr l hp hl hk
  unfold LW Wd.p
  rw [enter_at _ Try.func133 code133_is]
  simp only [Try.ntmps133, ez, Nat.reduceAdd, Nat.reduceSub]
  repeat (first | refine Walk.cx ?_ | (refine Walk.cReg ?_; simp only [z133]) | (refine Walk.oq ?_; try walk_nrm) | (refine Walk.un ?_; walk_nrm))
  refine LW.callS (K := K.toLb) (e := e) (l := fr :: l) (f := 120) (Q := fun _ e' => Aft K.toLb e d e') ?_ (ho_of (by conv => lhs; whnf) (by kernel_rfl)) (by rfl) (by decide) rfl Try.func120 (by kernel_rfl) (by rfl) ⟨rfl, rfl, _, Try.func133⟩ (plain_cons hp hl) ?_
  · walk_nrm
    exact step_s K e d ht
  intro v e' ha
  have hc := (W.rd _ _ _ (W.up ha.le hon) (K.inv e')).1
  have hi1 := run_ifaceAtomic
  have hi2 := ev_ifaceAtomic
  unfold LW
  walk_nrm
  repeat (first | refine Walk.cx ?_ | (refine Walk.cReg ?_; simp only [z133]) | (refine Walk.oq ?_; try walk_nrm) | (refine Walk.un ?_; walk_nrm))
  refine Walk.invokeLoad W.b W.q (ho_of (by conv => lhs; whnf) (by kernel_rfl)) (by rfl) (by decide) rfl rfl ?_
  refine (atLoad W.b W.q _ (K.w e') hc _ _).then ?_
  rintro g' w' ⟨v', ⟨rfl, dd, rfl⟩, rfl⟩
  refine Walk.back ?_ dd
  refine Walk.finish (ho_of (by conv => lhs; whnf) (by kernel_rfl)) ?_
  walk_nrm
  repeat (first | refine Walk.cx ?_ | (refine Walk.cReg ?_; simp only [z133]) | (refine Walk.oq ?_; try walk_nrm) | (refine Walk.un ?_; walk_nrm))
  exact Walk.on1 rfl rfl Try.func133 rfl (hk _ e' ⟨ha, rfl⟩)
theorem word_load (K : Lg L sv) (W : Wd L) (e : K.E) (d : L.D) (hon : W.on (K.gh e)) (ht : K.tgt e = (K.s e, .inr d)) : SCall K.toLb 100 #[W.p, sv] e (fun v e' => Aft K.toLb e d e' ∧ v = .int .i64 (W.get (K.s e'))) := by
  intro fr l hp hl hk
  have hh := holds_s K W e d hon ht
  unfold Wd.p at *
  unfold LW
  have hp1 := fun w => run_eql_ptr (P := Try.prog) 193 undWord (some ⟨W.b, W.q, none⟩) w
  have hp2 := fun w es => ev_eql_ptr (P := Try.prog) 193 undWord (some ⟨W.b, W.q, none⟩) w es
  simp only [Option.isNone_some] at hp1
  rw [enter_at _ Try.func100 code100_is]
  simp only [Try.ntmps100, ez, Nat.reduceAdd, Nat.reduceSub]
  repeat (first | refine Walk.cx ?_ | (refine Walk.cReg ?_; simp only [z100]) | (refine Walk.oq ?_; try walk_nrm) | (refine Walk.un ?_; walk_nrm))
  refine LW.callS (K := K.toLb) (e := e) (l := fr :: l) (f := 133) (Q := fun v e' => Aft K.toLb e d e' ∧ v = .int .i64 (W.get (K.s e'))) ?_ (ho_of (by conv => lhs; whnf) (by kernel_rfl)) (by rfl) (by decide) rfl Try.func133 (by kernel_rfl) (by rfl) ⟨rfl, rfl, _, Try.func100⟩ (plain_cons hp hl) ?_
  · walk_nrm
    exact hh
  rintro v e' ⟨ha, rfl⟩
  unfold LW
  walk_nrm
  repeat (first | refine Walk.cx ?_ | (refine Walk.cReg ?_; simp only [z100]) | (refine Walk.oq ?_; try walk_nrm) | (refine Walk.un ?_; walk_nrm))
  exact Walk.on1 rfl rfl Try.func100 rfl (hk _ e' ⟨ha, rfl⟩)
structure Wrote (K : Lg L sv) (e : K.E) (d : L.D) (s : L.Sg) (s' : L.Sg) (e' : K.E) : Prop where
  tgt : K.tgt e' = L.act s d
  fuel : K.fuel e' < K.fuel e
  le : L.le (K.gh e) (K.gh e')
  s : K.s e' = s'
  size : (K.w e).heap.size ≤ (K.w e').heap.size
  mine : ∀ b, K.mine e b → K.mine e' b ∧ (K.w e').heap[b]? = (K.w e).heap[b]?
theorem Wrote.of {K : Lg L sv} {e e1 e' : K.E} {d : L.D} {s' : L.Sg} {W : Wd L} {v : Int} (hon : W.on (K.gh e)) (ha : Aft K.toLb e d e1) (m : Mv K.toLb e1 e' s' ((K.w e1).setCell ⟨W.b, W.q, none⟩ (.int .i64 v))) : Wrote K e d (K.s e1) s' e' :=
  ⟨m.tgt.trans ha.tgt, by rw [m.fuel]; exact ha.fuel, by rw [m.gh]; exact ha.le, m.s, by rw [m.w, size_set]; exact ha.size, fun b hb => by
    obtain ⟨h1, h2⟩ := ha.mine b hb
    have hne : b ≠ W.b := fun he => (K.mineA e1 b h1).2.1 (by rw [he]; exact W.sh _ (W.up ha.le hon))
    refine ⟨(m.mine b).2 (.inl h1), ?_⟩
    rw [m.w, heap_set_other _ _ _ _ hne]
    exact h2⟩
theorem Wrote.same {K : Lg L sv} {e e1 : K.E} {d : L.D} (ha : Aft K.toLb e d e1) : Wrote K e d (K.s e1) (K.s e1) e1 := ⟨ha.tgt, ha.fuel, ha.le, rfl, ha.size, ha.mine⟩
theorem word_store (K : Lg L sv) (W : Wd L) (e : K.E) (d : L.D) (x : Int) (hx : W.ok x) (hon : W.on (K.gh e)) (ht : K.tgt e = (K.s e, .inr d)) : SCall K.toLb 71 #[W.p, sv, .int .i64 x] e (fun _ e' => ∃ s, Wrote K e d s (W.put s x) e') := by
  intro fr l hp hl hk
  unfold Wd.p
  unfold LW
  have hp1 := fun w => run_eql_ptr (P := Try.prog) 193 undWord (some ⟨W.b, W.q, none⟩) w
  have hp2 := fun w es => ev_eql_ptr (P := Try.prog) 193 undWord (some ⟨W.b, W.q, none⟩) w es
  simp only [Option.isNone_some] at hp1
  rw [enter_at _ Try.func71 code71_is]
  simp only [Try.ntmps71, ez, Nat.reduceAdd, Nat.reduceSub]
  repeat (first | refine Walk.cx ?_ | (refine Walk.cReg ?_; simp only [z71]) | (refine Walk.oq ?_; try walk_nrm) | (refine Walk.un ?_; walk_nrm))
  refine LW.callS (K := K.toLb) (e := e) (l := fr :: l) (f := 120) (Q := fun _ e' => Aft K.toLb e d e') ?_ (ho_of (by conv => lhs; whnf) (by kernel_rfl)) (by rfl) (by decide) rfl Try.func120 (by kernel_rfl) (by rfl) ⟨rfl, rfl, _, Try.func71⟩ (plain_cons hp hl) ?_
  · walk_nrm
    exact step_s K e d ht
  intro v e1 ha
  obtain ⟨hc, hz⟩ := W.rd _ _ _ (W.up ha.le hon) (K.inv e1)
  obtain ⟨e', m⟩ := W.put_mv K e1 x (W.up ha.le hon) hx
  unfold LW
  walk_nrm
  repeat (first | refine Walk.cx ?_ | (refine Walk.cReg ?_; simp only [z71]) | (refine Walk.oq ?_; try walk_nrm) | (refine Walk.un ?_; walk_nrm))
  refine Walk.callV (x := .tuple #[]) (W := (K.w e1).setCell ⟨W.b, W.q, none⟩ (.int .i64 x)) ?_ (ho_of (by conv => lhs; whnf) (by kernel_rfl)) (by rfl) (by decide) rfl Try.func121 (by kernel_rfl) (by rfl) ?_
  · walk_nrm
    exact atStore W.b W.q _ x (K.w e1) hc hz ((K.shA e1 _ (W.sh _ (W.up ha.le hon))).1 _ rfl)
  walk_nrm
  repeat (first | refine Walk.cx ?_ | (refine Walk.cReg ?_; simp only [z71]) | (refine Walk.oq ?_; try walk_nrm) | (refine Walk.un ?_; walk_nrm))
  exact Walk.on0 rfl rfl Try.func71 rfl (LW.to m (hk _ e' ⟨K.s e1, Wrote.of hon ha m⟩))
end
end
end Go.Proofs.Ytcdcnmphjhfbpaa
