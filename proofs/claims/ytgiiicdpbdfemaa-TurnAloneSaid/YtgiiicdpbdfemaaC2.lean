/- Part 2. -/
import Derived.Test.YtgiiicdpbdfemaaC1
import Derived.Conc.CompanyMem
import Derived.Conc.TokenWords
import Derived.Lib.MinMax
import Derived.Test.YtgiiicdpbdfemaaProg
import Derived.KernelRfl
import Derived.Handy
import Derived.Conc.DeferLaws
import Derived.Conc.AppendWalk
import Derived.Conc.AppendEvents2
import Derived.Deep.AppendLies
import Derived.Conc.SmallLaws
import Derived.Conc.AtomicLaws2
set_option linter.unusedSimpArgs false
/- The relay's walk, rule by rule: a move of control, an operation that reads, one that turns the world, a call and its return; under what each asks of the cells that others read on their way. -/
section
namespace Go.Relay
open Go.Conc Go.RowKit
open Go.ConcN (upd)

section
variable {P : Program} {main : Bool} {V : Nat → Option Wait} {Stop Stop' : Goroutine → World → Prop} {g : Goroutine} {w w' : World} {es : Array Event}

theorem DR.quiet (h : ∀ e ∈ es, EvR V e) : DR V w w es := ⟨fun _ _ _ => id, fun _ _ _ _ h _ => h, h, OsSame.refl _⟩
theorem osSame_set (w : World) (a : Addr) (x : Value) : OsSame w (w.setCell a x) := by
  unfold World.setCell
  exact ⟨rfl, rfl⟩
theorem DR.idle : DR V w w #[] := DR.quiet (by simp)
theorem evR_read (a : Addr) (s : Bool) : EvR V ⟨.cell a, false, s⟩ :=
  ⟨fun x hx hw => (by simp only [ofEvent_cell0, MemAct.touch?, Option.some.injEq] at hx; subst hx; cases hw), by simp, by simp⟩
/-- Nobody that waits reads this cell on its way. -/
def Free (V : Nat → Option Wait) (a : Addr) : Prop := ∀ i v, V i = some v → v.f a = none
theorem evR_write (a : Addr) (s : Bool) (h : Free V a) : EvR V ⟨.cell a, true, s⟩ := by
  refine ⟨fun x hx _ i => ?_, by simp, by simp⟩
  simp only [ofEvent_cell0, MemAct.touch?, Option.some.injEq] at hx
  subst hx
  rintro ⟨v, e, b, y, hb, hf⟩
  cases hb
  rw [h i v e] at hf; cases hf
theorem DR.set {a : Addr} {x y : Value} (hf : Free V a) (hc : w.cell? a = some y) (h : ∀ e ∈ es, EvR V e) : DR V w (w.setCell a x) es := by
  refine ⟨fun i v e hK b z hb => ?_, fun i v o e ho hi => ?_, h, osSame_set w a x⟩
  · rw [World.cell?_setCell_other _ _ _ _ (fun eq => by subst eq; rw [hf i v e] at hb; cases hb)]
    exact hK b z hb
  · by_cases hb : v.ch = a.block
    · exfalso
      unfold World.cell? at hc
      rw [← hb, ho] at hc
      cases o <;> simp_all [Obj.isChan]
    · rw [Below.heap_setCell _ _ _ _ (fun e => hb e)]; exact ho
theorem DR.alloc {o : Obj} : DR V w (w.alloc o) #[] := by
  refine ⟨fun i v e hK b z hb => ?_, fun i v o' e ho hi => ?_, by simp, ⟨rfl, rfl⟩⟩
  · have := hK b z hb
    rw [World.cell?_alloc_lt]
    · exact this
    · unfold World.cell? at this
      split at this
      · rename_i h; exact (Array.getElem?_eq_some_iff.1 h).1
      · cases this
  · rw [Below.heap_alloc _ _ _ (Array.getElem?_eq_some_iff.1 ho).1]; exact ho

theorem Walk.back {D : World → World → Array Event → Prop} (h : Walk P main D Stop g w) (d : Nat) : Walk P main D Stop g (w.at d) := by
  cases h with
  | stop h => exact .stop fun d' => h d'
  | step hr G W E hs hd hn => exact .step hr G W E hs hd hn

theorem Walk.go {D : World → World → Array Event → Prop} (hr : g.status = .running) (h : ∀ d, (stepG P main g (w.at d)).goes fun g' w' es => D (w.at d) w' es ∧ Walk P main D Stop g' w') : Walk P main D Stop g w := by
  have hx : ∀ d, ∃ g' w' es, stepG P main g (w.at d) = .go g' w' es ∧ D (w.at d) w' es ∧ Walk P main D Stop g' w' := fun d => by
    have := h d
    cases hs : stepG P main g (w.at d) with
    | go g' w' es => rw [hs, goes_go] at this; exact ⟨g', w', es, rfl, this.1, this.2⟩
    | _ => rw [hs] at this; exact this.elim
  exact .step hr (fun d => (hx d).choose) (fun d => (hx d).choose_spec.choose) (fun d => (hx d).choose_spec.choose_spec.choose) (fun d => (hx d).choose_spec.choose_spec.choose_spec.1) (fun d => (hx d).choose_spec.choose_spec.choose_spec.2.1)
    (fun d => (hx d).choose_spec.choose_spec.choose_spec.2.2)

/-- Behind the stop another walk. -/
theorem Walk.then {D : World → World → Array Event → Prop} (h : Walk P main D Stop g w) (hk : ∀ g w, Stop g w → Walk P main D Stop' g w) : Walk P main D Stop' g w := by
  induction h with
  | stop h => exact hk _ _ (h (World.drawn _))
  | step hr G W E hs hd _ ih => exact .step hr G W E hs hd ih
theorem Walk.mono {D : World → World → Array Event → Prop} (h : Walk P main D Stop g w) (hk : ∀ g w, Stop g w → Stop' g w) : Walk P main D Stop' g w := by
  induction h with
  | stop h => exact .stop fun d => hk _ _ (h d)
  | step hr G W E hs hd _ ih => exact .step hr G W E hs hd ih

/-- A step that turns nothing and lists nothing. -/
theorem Walk.ctl {g' : Goroutine} (hr : g.status = .running) (hs : ∀ w, stepG P main g w = .go g' w) (h : Walk P main (DR V) Stop g' w) : Walk P main (DR V) Stop g w :=
  .step hr (fun _ => g') (fun d => w.at d) (fun _ => #[]) (fun _ => hs _) (fun _ => DR.idle) fun d => h.back d

variable {b : Frame} {a : Act} {k : List Item} {cs : List Frame} {ops : Array Oper} {i : Nat} {rest : List Nat} {o : Oper}

/-- An operation that leaves the world as it is. -/
theorem Walk.opq (ho : ops[i]? = some o) (hw : Region.wanted o (yielded ops a.tmps) = true) (hk : b.kind ≠ .early)
    (he : ∀ d, ∀ e ∈ (execOp a.eval o).events P (w.at d) #[], EvR V e)
    (h : ∀ d, ∀ K : Act → World → Prop, (∀ a', Walk P main (DR V) Stop (G (b.at a' (.inRegion ops rest :: k)) cs) w → K a' (w.at d)) → uponK o a K ((execOp a.eval o).run P (w.at d))) :
    Walk P main (DR V) Stop (G (b.at a (.inRegion ops (i :: rest) :: k)) cs) w := by
  refine Walk.go rfl fun d => goes_oper_k ho hw hk fun K hK => ?_
  have h' := h d (fun a' w' => K a' w') fun a' hW => hK a' _ ⟨DR.quiet fun e hm => he d e (mem_listed hm), hW.back d⟩
  exact h'

/-- An operation that turns the world into W. -/
theorem Walk.opw {W : World} (ho : ops[i]? = some o) (hw : Region.wanted o (yielded ops a.tmps) = true) (hk : b.kind ≠ .early)
    (he : ∀ d, ∀ e ∈ (execOp a.eval o).events P (w.at d) #[], EvR V e) (hd : ∀ d es, (∀ e ∈ es, EvR V e) → DR V (w.at d) (W.at d) es)
    (h : ∀ d, ∀ K : Act → World → Prop, (∀ a', Walk P main (DR V) Stop (G (b.at a' (.inRegion ops rest :: k)) cs) W → K a' (W.at d)) → uponK o a K ((execOp a.eval o).run P (w.at d))) :
    Walk P main (DR V) Stop (G (b.at a (.inRegion ops (i :: rest) :: k)) cs) w := by
  refine Walk.go rfl fun d => goes_oper_k ho hw hk fun K hK => ?_
  exact h d (fun a' w' => K a' w') fun a' hW => hK a' _ ⟨hd d _ fun e hm => he d e (mem_listed hm), hW.back d⟩

theorem DR.set' {a : Addr} {x y : Value} (hf : Free V a) (hc : w.cell? a = some y) (d : Nat) (es : Array Event) (h : ∀ e ∈ es, EvR V e) : DR V (w.at d) ((w.setCell a x).at d) es := DR.set (w := w.at d) hf hc h
theorem DR.alloc' {o : Obj} (d : Nat) (es : Array Event) (h : ∀ e ∈ es, EvR V e) : DR V (w.at d) ((w.alloc o).at d) es := by
  obtain ⟨h1, h2, _⟩ := (DR.alloc : DR V (w.at d) ((w.at d).alloc o) #[])
  exact ⟨h1, h2, h, ⟨rfl, rfl⟩⟩

/-- A call of a function with a body. -/
theorem Walk.call {f : FuncId} {fn : Func} {c : Code} {args : Array Operand} {ats : Array TypeId} (ho : ops[i]? = some o) (hw : Region.wanted o (yielded ops a.tmps) = true) (hk : b.kind ≠ .early) (hop : o.op = .call { callee := .value (.func f), args, argTypes := ats })
    (hf : P.funcs[f]? = some fn) (hname : (fn.name == "runtime.NumGoroutine") = false) (hb : fn.body = some c)
    (h : Walk P main (DR V) Stop (G ((base f).at { tmps := args.map a.eval ++ Array.replicate (fn.ntmps - (args.map a.eval).size) undef, defers := [] } [.code c]) (b.at a (.inRegion ops (i :: rest) :: k) :: cs)) w) :
    Walk P main (DR V) Stop (G (b.at a (.inRegion ops (i :: rest) :: k)) cs) w :=
  Walk.go rfl fun d => goes_call ho hw hk hop hf hname hb ⟨DR.idle, h.back d⟩

/-- The contract of a function in company: entered with these arguments it comes back, its result handed to whoever called. -/
def CallW (P : Program) (main : Bool) (V : Nat → Option Wait) (f : FuncId) (args : Array Value) (w : World) (Post : Value → World → Prop) : Prop :=
  ∀ (c : Frame) (cs : List Frame), Walk P main (DR V) (fun g w' => ∃ v, Post v w' ∧ g = G (c.finish v) cs) (G (Frame.enter P f args .normal) (c :: cs)) w

theorem Walk.callW {f : FuncId} {fn : Func} {args : Array Operand} {ats : Array TypeId} {Post : Value → World → Prop} (hc : CallW P main V f (args.map a.eval) w Post) (ho : ops[i]? = some o) (hw : Region.wanted o (yielded ops a.tmps) = true) (hk : b.kind ≠ .early) (hop : o.op = .call { callee := .value (.func f), args, argTypes := ats })
    (hf : P.funcs[f]? = some fn) (hname : (fn.name == "runtime.NumGoroutine") = false) (hb : fn.body.isNone = false)
    (h : ∀ v w', Post v w' → Walk P main (DR V) Stop (G (b.at (a.put o.dst v) (.inRegion ops rest :: k)) cs) w') :
    Walk P main (DR V) Stop (G (b.at a (.inRegion ops (i :: rest) :: k)) cs) w := by
  refine Walk.ctl (g' := G (Frame.enter P f (args.map a.eval) .normal) (b.at a (.inRegion ops (i :: rest) :: k) :: cs)) rfl (fun w => ?_) ((hc _ cs).then ?_)
  · rw [stepG_enter ho hw hk (run_call_body hop hf hname hb)]
    have : listed P b.fn a o w = #[] := by unfold listed; rw [events_call_body hop hf hname hb]; exact seen_none P _
    rw [this]
  · rintro g' w' ⟨v, hp, rfl⟩
    rw [Frame.finish_at, ho]
    exact h v w' hp
theorem termsR : Terms AtRel (DR V) := ⟨atRel_trans, fun _ => DR.idle⟩
theorem drawsR : LetsDraw (DR V) := fun w => (DR.quiet (by simp) : DR V w w #[])
theorem ownDraw (w : World) : AtRel w { w with drawn := w.drawn + 1 } := ⟨w.drawn + 1, rfl⟩

/-- A piece of code by the library's walk in company. -/
theorem Walk.code {c : Code} {n : Nat} {Q : Act → World → Prop} (h : c.wpC P main AtRel (DR V) b.fn n (fun e a' w' => e = .normal ∧ Q a' w') a w) (hk : b.kind ≠ .early)
    (hc : ∀ a' w', Q a' w' → Walk P main (DR V) Stop (G (b.at a' k) cs) w') : Walk P main (DR V) Stop (G (b.at a (.code c :: k)) cs) w := by
  refine Walk.of_goes (Stop := fun g w => Walk P main (DR V) Stop g w) (fun _ _ h => h) (wpC_goes (m := 0) h rfl hk fun e a' w' hq => ?_)
  obtain ⟨rfl, hQ⟩ := hq
  intro w₁ hr
  obtain ⟨d, rfl⟩ := hr
  exact (hc a' w' hQ).back d

/-- A region that draws its order: S, kept by the draws, is what its operations lean on. -/
theorem Walk.held {id : Nat} (S : World → Prop) (hrl : ∀ w₁ w₂, S w₁ → AtRel w₁ w₂ → S w₂) (hF : S w) (hm : P.follows .mixedOrders = true) (hk : b.kind ≠ .early) {Q : Act → Prop}
    (h : ∀ w₁, S w₁ → AnyCH P AtRel (DR V) b.fn .any ops (fun e a' w' => e = .normal ∧ S w' ∧ Q a') S ops.size (Array.replicate ops.size false) a w₁)
    (hc : ∀ a' w', S w' → Q a' → Walk P main (DR V) Stop (G (b.at a' k) cs) w') : Walk P main (DR V) Stop (G (b.at a (.code (.region id ops true) :: k)) cs) w :=
  Walk.code (n := ops.size + 1 + 1) (Q := fun a' w' => S w' ∧ Q a') (wpC_region_held termsR drawsR hm fun _ hr => h _ (hrl _ _ (hrl _ _ hF hr) (ownDraw _))) hk fun a' w' hq => hc a' w' hq.1 hq.2

/-- A contract by which the world becomes W, and the result is x. -/
def CallV (P : Program) (main : Bool) (V : Nat → Option Wait) (f : FuncId) (args : Array Value) (w : World) (x : Value) (W : World) : Prop := CallW P main V f args w fun v w' => v = x ∧ ∃ d, w' = W.at d
theorem Walk.callV {f : FuncId} {fn : Func} {args : Array Operand} {ats : Array TypeId} {x : Value} {W : World} (hc : CallV P main V f (args.map a.eval) w x W) (ho : ops[i]? = some o) (hw : Region.wanted o (yielded ops a.tmps) = true) (hk : b.kind ≠ .early) (hop : o.op = .call { callee := .value (.func f), args, argTypes := ats })
    (hf : P.funcs[f]? = some fn) (hname : (fn.name == "runtime.NumGoroutine") = false) (hb : fn.body.isNone = false) (h : Walk P main (DR V) Stop (G (b.at (a.put o.dst x) (.inRegion ops rest :: k)) cs) W) :
    Walk P main (DR V) Stop (G (b.at a (.inRegion ops (i :: rest) :: k)) cs) w :=
  Walk.callW hc ho hw hk hop hf hname hb fun v w' ⟨e, d, e'⟩ => by subst e; subst e'; exact h.back d

/-- Into a function. -/
theorem callW_in {f : FuncId} {fn : Func} {c : Code} {args : Array Value} {Post : Value → World → Prop} (hf : P.funcs[f]? = some fn) (hb : fn.body = some c)
    (h : ∀ (fr : Frame) (cs : List Frame), Walk P main (DR V) (fun g w' => ∃ v, Post v w' ∧ g = G (fr.finish v) cs) (G ((base f).at { tmps := args ++ Array.replicate (fn.ntmps - args.size) undef, defers := [] } [.code c]) (fr :: cs)) w) : CallW P main V f args w Post := by
  intro fr cs
  rw [enter_at args hf hb]
  exact h fr cs

/-- The return: one result. -/
theorem Walk.ret1 {fn : Func} {todo : List Item} {c : Frame} {t : Tmp} {Post : Value → World → Prop} (hn : b.kind = .normal) (hd : a.defers = []) (hf : P.funcs[b.fn]? = some fn) (hr : fn.results = #[.tmp t]) (h : ∀ d, Post (a.tmps.getD t undef) (w.at d)) :
    Walk P main (DR V) (fun g w' => ∃ v, Post v w' ∧ g = G (c.finish v) cs) (G { b.at a todo with mode := .returning } (c :: cs)) w :=
  Walk.ctl rfl (fun w => stepG_leave hn hd hf (results_tmp hr _ P w) (events_results_tmp hr _ _)) (.stop fun d => ⟨_, h d, rfl⟩)
/-- .. none. -/
theorem Walk.ret0 {fn : Func} {todo : List Item} {c : Frame} {Post : Value → World → Prop} (hn : b.kind = .normal) (hd : a.defers = []) (hf : P.funcs[b.fn]? = some fn) (hr : fn.results = #[]) (h : ∀ d, Post (.tuple #[]) (w.at d)) :
    Walk P main (DR V) (fun g w' => ∃ v, Post v w' ∧ g = G (c.finish v) cs) (G { b.at a todo with mode := .returning } (c :: cs)) w :=
  Walk.ctl rfl (fun w => stepG_leave hn hd hf (results_none hr _ P w) (events_results_none hr _ _)) (.stop fun d => ⟨_, h d, rfl⟩)
end

/-- A move of control. -/
def ctlNext (a : Act) : List Item → Option (List Item)
  | .code (.seq x y) :: k => some (.code x :: .code y :: k)
  | .code .skip :: k => some k
  | .code (.block id c) :: k => some (.code c :: .inBlock id :: k)
  | .code (.exit id) :: k => exitTo id k
  | .code (.cond c x y) :: k => match a.eval c with
    | .bool true => some (.code x :: k)
    | .bool false => some (.code y :: k)
    | _ => none
  | .inBlock _ :: k => some k
  | .inRegion _ [] :: k => some k
  | _ => none
section
variable {P : Program} {main : Bool} {V : Nat → Option Wait} {Stop : Goroutine → World → Prop} {w : World} {b : Frame} {a : Act} {k k' : List Item} {cs : List Frame} {ops : Array Oper} {id : Nat}
theorem ctl_next (h : ctlNext a k = some k') : stepG P main (G (b.at a k) cs) w = .go (G (b.at a k') cs) w := by
  unfold ctlNext at h
  split at h
  · cases h; exact stepG_seq
  · cases h; exact stepG_skip
  · cases h; exact stepG_block
  · exact stepG_exit h
  · split at h
    · next e => cases h; exact (stepG_cond e).trans (by simp)
    · next e => cases h; exact (stepG_cond e).trans (by simp)
    · cases h
  · cases h; exact stepG_inBlock
  · cases h; exact stepG_region_end
  · cases h
theorem Walk.c (h : ctlNext a k = some k') (hw : Walk P main (DR V) Stop (G (b.at a k') cs) w) : Walk P main (DR V) Stop (G (b.at a k) cs) w := Walk.ctl rfl (fun _ => ctl_next h) hw
theorem Walk.cReg (hw : Walk P main (DR V) Stop (G (b.at a (.inRegion ops (List.range ops.size) :: k)) cs) w) : Walk P main (DR V) Stop (G (b.at a (.code (.region id ops false) :: k)) cs) w := Walk.ctl rfl (fun _ => stepG_region) hw
theorem Walk.cRet (hw : Walk P main (DR V) Stop (G { b.at a (.code .ret :: k) with mode := .returning } cs) w) : Walk P main (DR V) Stop (G (b.at a (.code .ret :: k)) cs) w := Walk.ctl rfl (fun _ => stepG_ret') hw
theorem Walk.cEnd (hw : Walk P main (DR V) Stop (G { b.at a [] with mode := .returning } cs) w) : Walk P main (DR V) Stop (G (b.at a []) cs) w := Walk.ctl rfl (fun _ => stepG_end) hw
end

/-- Operation number i of a region. -/
def nth : List Oper → Nat → Oper
  | [], _ => { dst := none, op := .nilCheck (.tmp 0), type := 0, pos := "", after := #[], guard := none }
  | x :: _, 0 => x
  | _ :: l, n + 1 => nth l n
theorem ho_of {ops : Array Oper} {i : Nat} {o : Oper} (hn : nth ops.toList i = o) (hs : ops[i]? = some (nth ops.toList i)) : ops[i]? = some o := hs.trans (congrArg some hn)

end Go.Relay
end

/- Small laws on what operations list (min, max of two integers: nothing). -/
section
namespace Go.Relay
open Go.Conc Go.RowKit
section
variable {P : Program} (w : World)
theorem events_max_ints (ts : Array TypeId) (t : TypeId) (k k' : IntKind) (x y : Int) (es : Array Event) : (Builtin.max_ ts t #[.int k x, .int k' y]).events P w es = es := by
  simp [Builtin.max_, Builtin.max2]
theorem events_min_ints (ts : Array TypeId) (t : TypeId) (k k' : IntKind) (x y : Int) (es : Array Event) : (Builtin.min_ ts t #[.int k x, .int k' y]).events P w es = es := by
  simp [Builtin.min_, Builtin.min2]
theorem ev_store_bool (P : Program) (es : Array Event) (a : Addr) (x : Bool) (m : Mode) : (store a (.bool x) m).events P w es = storedEv P w es a (.bool x) m := events_store P w es a _ m rfl
theorem ev_store_int (P : Program) (es : Array Event) (a : Addr) (k : IntKind) (x : Int) (m : Mode) : (store a (.int k x) m).events P w es = storedEv P w es a (.int k x) m := events_store P w es a _ m rfl
theorem ev_store_slice (P : Program) (es : Array Event) (a : Addr) (b : Option Addr) (n c : Nat) (m : Mode) : (store a (.slice b n c) m).events P w es = storedEv P w es a (.slice b n c) m := events_store P w es a _ m rfl
theorem ev_store_pointer (P : Program) (es : Array Event) (a : Addr) (b : Option Addr) (m : Mode) : (store a (.pointer b) m).events P w es = storedEv P w es a (.pointer b) m := events_store P w es a _ m rfl
theorem cell_lt {a : Addr} {v : Value} (h : w.cell? a = some v) : a.block < w.heap.size := by
  unfold World.cell? at h
  split at h
  · rename_i h'; exact (Array.getElem?_eq_some_iff.1 h').1
  · cases h
theorem cell_alloc {a : Addr} {v : Value} (o : Obj) (h : w.cell? a = some v) : (w.alloc o).cell? a = some v := (World.cell?_alloc_lt _ _ _ (cell_lt w h)).trans h
theorem frozen_alloc {a : Addr} {v : Value} {x : Bool} (o : Obj) (h : w.cell? a = some v) (hz : w.frozen? a = x) : (w.alloc o).frozen? a = x := by
  have hlt := cell_lt w h
  rw [← hz]
  unfold World.frozen?
  rw [Below.heap_alloc _ _ _ hlt]
end
end Go.Relay
end

/- Package turn's smaller functions, in company: clampMost. -/
section
namespace Go.Proofs.Ytgiiicdpbdfemaa
open Go.Conc Go.RowKit Go.Relay

variable {main : Bool} {V : Nat → Option Wait}

set_option maxHeartbeats 4000000 in
set_option maxRecDepth 100000 in
theorem clampMost_w (m : Int) (w : World) : CallV Try.prog main V 62 #[.int .i64 m] w (.int .i64 (min (max m 0) 1048576)) w := by
  refine callW_in Try.func62 rfl fun fr cs => ?_
  simp only [Try.ntmps62, List.size_toArray, List.length_cons, List.length_nil, Nat.reduceAdd, Nat.reduceSub, Array.replicate_succ, Array.replicate_zero, List.push_toArray, List.append_toArray, List.nil_append, List.cons_append]
  have hmx := @events_max_ints Try.prog
  have hmn := @events_min_ints Try.prog
  repeat (first | (refine Walk.c rfl ?_) | (refine Walk.cReg ?_; simp only [List.size_toArray, List.length_cons, List.length_nil, Nat.reduceAdd, Nat.zero_add, List.range, List.range.loop]) | (refine Walk.cRet ?_) | (refine Walk.cEnd ?_) | (refine Walk.opq (ho_of (by conv => lhs; whnf) (by kernel_rfl)) (by rfl) (by decide) (fun dd e he => ?_) (fun dd K hK => ?_); (· (simp [go_sem, *] at he; try (subst he; exact evR_read _ _))); go_simp; refine hK _ ?_; clear hK K; try walk_nrm) | (refine Walk.ctl rfl (fun w => stepG_unwanted (ho_of (by conv => lhs; whnf) (by kernel_rfl)) (by rfl)) ?_; walk_nrm))
  exact Walk.ret1 rfl rfl Try.func62 rfl fun d => ⟨by simp, d, rfl⟩

set_option maxHeartbeats 4000000 in
set_option maxRecDepth 100000 in
theorem over_w (B : Nat) (going most : Int) (sa : Option Addr) (n cap : Nat) (w : World) (h1 : w.cell? ⟨B, 1, none⟩ = some (.int .i64 going)) (h2 : w.cell? ⟨B, 2, none⟩ = some (.int .i64 most)) (h3 : w.cell? ⟨B, 3, none⟩ = some (.slice sa n cap)) :
    CallV Try.prog main V 80 #[.pointer (some ⟨B, 0, none⟩)] w (.bool (decide (going = 0) || decide (most ≤ n))) w := by
  refine callW_in Try.func80 rfl fun fr cs => ?_
  simp only [Try.ntmps80, List.size_toArray, List.length_cons, List.length_nil, Nat.reduceAdd, Nat.reduceSub, Array.replicate_succ, Array.replicate_zero, List.push_toArray, List.append_toArray, List.nil_append, List.cons_append]
  repeat (first | (refine Walk.c rfl ?_) | (refine Walk.cReg ?_; simp only [List.size_toArray, List.length_cons, List.length_nil, Nat.reduceAdd, Nat.zero_add, List.range, List.range.loop]) | (refine Walk.cRet ?_) | (refine Walk.cEnd ?_) | (refine Walk.opq (ho_of (by conv => lhs; whnf) (by kernel_rfl)) (by rfl) (by decide) (fun dd e he => ?_) (fun dd K hK => ?_); (· (simp [go_sem, *] at he; try (subst he; exact evR_read _ _))); go_simp; refine hK _ ?_; clear hK K; try walk_nrm) | (refine Walk.ctl rfl (fun w => stepG_unwanted (ho_of (by conv => lhs; whnf) (by kernel_rfl)) (by rfl)) ?_; walk_nrm))
  let S : World → Prop := fun w' => ∃ d, w' = w.at d
  have hrl : ∀ w₁ w₂, S w₁ → AtRel w₁ w₂ → S w₂ := by
    rintro _ _ ⟨d, rfl⟩ ⟨d', rfl⟩; exact ⟨d', rfl⟩
  have hF : S w := ⟨w.drawn, rfl⟩
  refine Walk.held S hrl hF (by kernel_rfl) (by decide) (Q := fun a' => a'.tmps.getD 2 undef = .bool (decide (going = 0) || decide (most ≤ n)) ∧ a'.defers = []) (fun w₁ hF => ?_) ?_
  · simp only [List.size_toArray, List.length_cons, List.length_nil, Nat.reduceAdd, Nat.zero_add]
    by_cases hg : going = 0
    · (co_applyP anyCH_take termsR (fun _ _ h r => hrl _ _ h r) (fun _ _ _ h r => ⟨h.1, hrl _ _ h.2.1 r, h.2.2⟩) (i := 0) rfl (by first | kernel_rfl | decide +kernel) (by first | kernel_rfl | decide +kernel) (by first | kernel_rfl | decide +kernel) (.inl ⟨by rfl, fun _ hw => ⟨run_eq_of ?run1, ?guar1⟩⟩) hF ?rest1; (case run1 => (intro K hK; obtain ⟨dx, hdx⟩ := hw; subst hdx; go_simp; exact hK)); (case guar1 => (obtain ⟨dx, hdx⟩ := hw; subst hdx; refine DR.quiet (fun e he => ?_); have hm := mem_listed he; simp [go_sem, *] at hm; try (subst hm; exact evR_read _ _))); try walk_nrm)
      (co_applyP anyCH_take termsR (fun _ _ h r => hrl _ _ h r) (fun _ _ _ h r => ⟨h.1, hrl _ _ h.2.1 r, h.2.2⟩) (i := 1) rfl (by first | kernel_rfl | decide +kernel) (by first | kernel_rfl | decide +kernel) (by first | kernel_rfl | decide +kernel) (.inl ⟨by rfl, fun _ hw => ⟨run_eq_of ?run2, ?guar2⟩⟩) hF ?rest2; (case run2 => (intro K hK; obtain ⟨dx, hdx⟩ := hw; subst hdx; go_simp; exact hK)); (case guar2 => (obtain ⟨dx, hdx⟩ := hw; subst hdx; refine DR.quiet (fun e he => ?_); have hm := mem_listed he; simp [go_sem, *] at hm; try (subst hm; exact evR_read _ _))); try walk_nrm)
      (co_applyP anyCH_take termsR (fun _ _ h r => hrl _ _ h r) (fun _ _ _ h r => ⟨h.1, hrl _ _ h.2.1 r, h.2.2⟩) (i := 2) rfl (by first | kernel_rfl | decide +kernel) (by first | kernel_rfl | decide +kernel) (by first | kernel_rfl | decide +kernel) (.inl ⟨by rfl, fun _ hw => ⟨run_eq_of ?run3, ?guar3⟩⟩) hF ?rest3; (case run3 => (intro K hK; obtain ⟨dx, hdx⟩ := hw; subst hdx; go_simp; exact hK)); (case guar3 => (obtain ⟨dx, hdx⟩ := hw; subst hdx; refine DR.quiet (fun e he => ?_); have hm := mem_listed he; simp [go_sem, *] at hm; try (subst hm; exact evR_read _ _))); try walk_nrm)
      (co_applyP anyCH_take termsR (fun _ _ h r => hrl _ _ h r) (fun _ _ _ h r => ⟨h.1, hrl _ _ h.2.1 r, h.2.2⟩) (i := 3) rfl (by first | kernel_rfl | decide +kernel) (by first | kernel_rfl | decide +kernel) (by first | kernel_rfl | decide +kernel) (.inl ⟨by rfl, fun _ hw => ⟨run_eq_of ?run4, ?guar4⟩⟩) hF ?rest4; (case run4 => (intro K hK; obtain ⟨dx, hdx⟩ := hw; subst hdx; go_simp; exact hK)); (case guar4 => (obtain ⟨dx, hdx⟩ := hw; subst hdx; refine DR.quiet (fun e he => ?_); have hm := mem_listed he; simp [go_sem, *] at hm; try (subst hm; exact evR_read _ _))); try walk_nrm)
      (co_applyP anyCH_take termsR (fun _ _ h r => hrl _ _ h r) (fun _ _ _ h r => ⟨h.1, hrl _ _ h.2.1 r, h.2.2⟩) (i := 4) rfl (by first | kernel_rfl | decide +kernel) (by first | kernel_rfl | decide +kernel) (by first | kernel_rfl | decide +kernel) (.inl ⟨by rfl, fun _ hw => ⟨run_eq_of ?run5, ?guar5⟩⟩) hF ?rest5; (case run5 => (intro K hK; obtain ⟨dx, hdx⟩ := hw; subst hdx; go_simp; exact hK)); (case guar5 => (obtain ⟨dx, hdx⟩ := hw; subst hdx; refine DR.quiet (fun e he => ?_); have hm := mem_listed he; simp [go_sem, *] at hm; try (subst hm; exact evR_read _ _))); try walk_nrm)
      (co_applyP anyCH_take termsR (fun _ _ h r => hrl _ _ h r) (fun _ _ _ h r => ⟨h.1, hrl _ _ h.2.1 r, h.2.2⟩) (i := 5) rfl (by first | kernel_rfl | decide +kernel) (by first | kernel_rfl | decide +kernel) (by first | kernel_rfl | decide +kernel) (.inl ⟨by rfl, fun _ hw => ⟨run_eq_of ?run6, ?guar6⟩⟩) hF ?rest6; (case run6 => (intro K hK; obtain ⟨dx, hdx⟩ := hw; subst hdx; go_simp; exact hK)); (case guar6 => (obtain ⟨dx, hdx⟩ := hw; subst hdx; refine DR.quiet (fun e he => ?_); have hm := mem_listed he; simp [go_sem, *] at hm; try (subst hm; exact evR_read _ _))); try walk_nrm)
      (co_applyP anyCH_take termsR (fun _ _ h r => hrl _ _ h r) (fun _ _ _ h r => ⟨h.1, hrl _ _ h.2.1 r, h.2.2⟩) (i := 6) rfl (by first | kernel_rfl | decide +kernel) (by first | kernel_rfl | decide +kernel) (by first | kernel_rfl | decide +kernel) (.inr ⟨by rfl, rfl⟩) hF ?rest27; try walk_nrm)
      (co_applyP anyCH_take termsR (fun _ _ h r => hrl _ _ h r) (fun _ _ _ h r => ⟨h.1, hrl _ _ h.2.1 r, h.2.2⟩) (i := 7) rfl (by first | kernel_rfl | decide +kernel) (by first | kernel_rfl | decide +kernel) (by first | kernel_rfl | decide +kernel) (.inr ⟨by rfl, rfl⟩) hF ?rest28; try walk_nrm)
      (co_applyP anyCH_take termsR (fun _ _ h r => hrl _ _ h r) (fun _ _ _ h r => ⟨h.1, hrl _ _ h.2.1 r, h.2.2⟩) (i := 8) rfl (by first | kernel_rfl | decide +kernel) (by first | kernel_rfl | decide +kernel) (by first | kernel_rfl | decide +kernel) (.inr ⟨by rfl, rfl⟩) hF ?rest29; try walk_nrm)
      (co_applyP anyCH_take termsR (fun _ _ h r => hrl _ _ h r) (fun _ _ _ h r => ⟨h.1, hrl _ _ h.2.1 r, h.2.2⟩) (i := 9) rfl (by first | kernel_rfl | decide +kernel) (by first | kernel_rfl | decide +kernel) (by first | kernel_rfl | decide +kernel) (.inr ⟨by rfl, rfl⟩) hF ?rest30; try walk_nrm)
      (co_applyP anyCH_take termsR (fun _ _ h r => hrl _ _ h r) (fun _ _ _ h r => ⟨h.1, hrl _ _ h.2.1 r, h.2.2⟩) (i := 10) rfl (by first | kernel_rfl | decide +kernel) (by first | kernel_rfl | decide +kernel) (by first | kernel_rfl | decide +kernel) (.inr ⟨by rfl, rfl⟩) hF ?rest31; try walk_nrm)
      (co_applyP anyCH_take termsR (fun _ _ h r => hrl _ _ h r) (fun _ _ _ h r => ⟨h.1, hrl _ _ h.2.1 r, h.2.2⟩) (i := 11) rfl (by first | kernel_rfl | decide +kernel) (by first | kernel_rfl | decide +kernel) (by first | kernel_rfl | decide +kernel) (.inr ⟨by rfl, rfl⟩) hF ?rest32; try walk_nrm)
      (co_applyP anyCH_take termsR (fun _ _ h r => hrl _ _ h r) (fun _ _ _ h r => ⟨h.1, hrl _ _ h.2.1 r, h.2.2⟩) (i := 12) rfl (by first | kernel_rfl | decide +kernel) (by first | kernel_rfl | decide +kernel) (by first | kernel_rfl | decide +kernel) (.inr ⟨by rfl, rfl⟩) hF ?rest33; try walk_nrm)
      (co_applyP anyCH_take termsR (fun _ _ h r => hrl _ _ h r) (fun _ _ _ h r => ⟨h.1, hrl _ _ h.2.1 r, h.2.2⟩) (i := 13) rfl (by first | kernel_rfl | decide +kernel) (by first | kernel_rfl | decide +kernel) (by first | kernel_rfl | decide +kernel) (.inr ⟨by rfl, rfl⟩) hF ?rest34; try walk_nrm)
      (co_applyP anyCH_take termsR (fun _ _ h r => hrl _ _ h r) (fun _ _ _ h r => ⟨h.1, hrl _ _ h.2.1 r, h.2.2⟩) (i := 14) rfl (by first | kernel_rfl | decide +kernel) (by first | kernel_rfl | decide +kernel) (by first | kernel_rfl | decide +kernel) (.inr ⟨by rfl, rfl⟩) hF ?rest35; try walk_nrm)
      (co_applyP anyCH_take termsR (fun _ _ h r => hrl _ _ h r) (fun _ _ _ h r => ⟨h.1, hrl _ _ h.2.1 r, h.2.2⟩) (i := 15) rfl (by first | kernel_rfl | decide +kernel) (by first | kernel_rfl | decide +kernel) (by first | kernel_rfl | decide +kernel) (.inr ⟨by rfl, rfl⟩) hF ?rest36; try walk_nrm)
      (co_applyP anyCH_take termsR (fun _ _ h r => hrl _ _ h r) (fun _ _ _ h r => ⟨h.1, hrl _ _ h.2.1 r, h.2.2⟩) (i := 16) rfl (by first | kernel_rfl | decide +kernel) (by first | kernel_rfl | decide +kernel) (by first | kernel_rfl | decide +kernel) (.inl ⟨by rfl, fun _ hw => ⟨run_eq_of ?run7, ?guar7⟩⟩) hF ?rest7; (case run7 => (intro K hK; obtain ⟨dx, hdx⟩ := hw; subst hdx; go_simp; exact hK)); (case guar7 => (obtain ⟨dx, hdx⟩ := hw; subst hdx; refine DR.quiet (fun e he => ?_); have hm := mem_listed he; simp [go_sem, *] at hm; try (subst hm; exact evR_read _ _))); try walk_nrm)
      (co_applyP anyCH_take termsR (fun _ _ h r => hrl _ _ h r) (fun _ _ _ h r => ⟨h.1, hrl _ _ h.2.1 r, h.2.2⟩) (i := 17) rfl (by first | kernel_rfl | decide +kernel) (by first | kernel_rfl | decide +kernel) (by first | kernel_rfl | decide +kernel) (.inl ⟨by rfl, fun _ hw => ⟨run_eq_of ?run8, ?guar8⟩⟩) hF ?rest8; (case run8 => (intro K hK; obtain ⟨dx, hdx⟩ := hw; subst hdx; go_simp; exact hK)); (case guar8 => (obtain ⟨dx, hdx⟩ := hw; subst hdx; refine DR.quiet (fun e he => ?_); have hm := mem_listed he; simp [go_sem, *] at hm; try (subst hm; exact evR_read _ _))); try walk_nrm)
      refine anyCH_done (by first | kernel_rfl | decide +kernel) ⟨rfl, hF, by simp [hg], rfl⟩ _
    · have hg1 : decide (going = 0) = false := by simpa using hg
      have hg2 : (going == 0) = false := by simpa using hg
      (co_applyP anyCH_take termsR (fun _ _ h r => hrl _ _ h r) (fun _ _ _ h r => ⟨h.1, hrl _ _ h.2.1 r, h.2.2⟩) (i := 0) rfl (by first | kernel_rfl | decide +kernel) (by first | kernel_rfl | decide +kernel) (by first | kernel_rfl | decide +kernel) (.inl ⟨by rfl, fun _ hw => ⟨run_eq_of ?run9, ?guar9⟩⟩) hF ?rest9; (case run9 => (intro K hK; obtain ⟨dx, hdx⟩ := hw; subst hdx; go_simp; exact hK)); (case guar9 => (obtain ⟨dx, hdx⟩ := hw; subst hdx; refine DR.quiet (fun e he => ?_); have hm := mem_listed he; simp [go_sem, *] at hm; try (subst hm; exact evR_read _ _))); try walk_nrm)
      (co_applyP anyCH_take termsR (fun _ _ h r => hrl _ _ h r) (fun _ _ _ h r => ⟨h.1, hrl _ _ h.2.1 r, h.2.2⟩) (i := 1) rfl (by first | kernel_rfl | decide +kernel) (by first | kernel_rfl | decide +kernel) (by first | kernel_rfl | decide +kernel) (.inl ⟨by rfl, fun _ hw => ⟨run_eq_of ?run10, ?guar10⟩⟩) hF ?rest10; (case run10 => (intro K hK; obtain ⟨dx, hdx⟩ := hw; subst hdx; go_simp; exact hK)); (case guar10 => (obtain ⟨dx, hdx⟩ := hw; subst hdx; refine DR.quiet (fun e he => ?_); have hm := mem_listed he; simp [go_sem, *] at hm; try (subst hm; exact evR_read _ _))); try walk_nrm)
      (co_applyP anyCH_take termsR (fun _ _ h r => hrl _ _ h r) (fun _ _ _ h r => ⟨h.1, hrl _ _ h.2.1 r, h.2.2⟩) (i := 2) rfl (by first | kernel_rfl | decide +kernel) (by first | kernel_rfl | decide +kernel) (by first | kernel_rfl | decide +kernel) (.inl ⟨by rfl, fun _ hw => ⟨run_eq_of ?run11, ?guar11⟩⟩) hF ?rest11; (case run11 => (intro K hK; obtain ⟨dx, hdx⟩ := hw; subst hdx; go_simp; exact hK)); (case guar11 => (obtain ⟨dx, hdx⟩ := hw; subst hdx; refine DR.quiet (fun e he => ?_); have hm := mem_listed he; simp [go_sem, *] at hm; try (subst hm; exact evR_read _ _))); try walk_nrm)
      (co_applyP anyCH_take termsR (fun _ _ h r => hrl _ _ h r) (fun _ _ _ h r => ⟨h.1, hrl _ _ h.2.1 r, h.2.2⟩) (i := 3) rfl (by first | kernel_rfl | decide +kernel) (by first | kernel_rfl | decide +kernel) (by first | kernel_rfl | decide +kernel) (.inl ⟨by rfl, fun _ hw => ⟨run_eq_of ?run12, ?guar12⟩⟩) hF ?rest12; (case run12 => (intro K hK; obtain ⟨dx, hdx⟩ := hw; subst hdx; go_simp; exact hK)); (case guar12 => (obtain ⟨dx, hdx⟩ := hw; subst hdx; refine DR.quiet (fun e he => ?_); have hm := mem_listed he; simp [go_sem, *] at hm; try (subst hm; exact evR_read _ _))); try walk_nrm)
      (co_applyP anyCH_take termsR (fun _ _ h r => hrl _ _ h r) (fun _ _ _ h r => ⟨h.1, hrl _ _ h.2.1 r, h.2.2⟩) (i := 4) rfl (by first | kernel_rfl | decide +kernel) (by first | kernel_rfl | decide +kernel) (by first | kernel_rfl | decide +kernel) (.inl ⟨by rfl, fun _ hw => ⟨run_eq_of ?run13, ?guar13⟩⟩) hF ?rest13; (case run13 => (intro K hK; obtain ⟨dx, hdx⟩ := hw; subst hdx; go_simp; exact hK)); (case guar13 => (obtain ⟨dx, hdx⟩ := hw; subst hdx; refine DR.quiet (fun e he => ?_); have hm := mem_listed he; simp [go_sem, *] at hm; try (subst hm; exact evR_read _ _))); try walk_nrm)
      (co_applyP anyCH_take termsR (fun _ _ h r => hrl _ _ h r) (fun _ _ _ h r => ⟨h.1, hrl _ _ h.2.1 r, h.2.2⟩) (i := 5) rfl (by first | kernel_rfl | decide +kernel) (by first | kernel_rfl | decide +kernel) (by first | kernel_rfl | decide +kernel) (.inl ⟨by rfl, fun _ hw => ⟨run_eq_of ?run14, ?guar14⟩⟩) hF ?rest14; (case run14 => (intro K hK; obtain ⟨dx, hdx⟩ := hw; subst hdx; go_simp; exact hK)); (case guar14 => (obtain ⟨dx, hdx⟩ := hw; subst hdx; refine DR.quiet (fun e he => ?_); have hm := mem_listed he; simp [go_sem, *] at hm; try (subst hm; exact evR_read _ _))); try walk_nrm)
      (co_applyP anyCH_take termsR (fun _ _ h r => hrl _ _ h r) (fun _ _ _ h r => ⟨h.1, hrl _ _ h.2.1 r, h.2.2⟩) (i := 6) rfl (by first | kernel_rfl | decide +kernel) (by first | kernel_rfl | decide +kernel) (by first | kernel_rfl | decide +kernel) (.inl ⟨by rfl, fun _ hw => ⟨run_eq_of ?run15, ?guar15⟩⟩) hF ?rest15; (case run15 => (intro K hK; obtain ⟨dx, hdx⟩ := hw; subst hdx; go_simp; exact hK)); (case guar15 => (obtain ⟨dx, hdx⟩ := hw; subst hdx; refine DR.quiet (fun e he => ?_); have hm := mem_listed he; simp [go_sem, *] at hm; try (subst hm; exact evR_read _ _))); try walk_nrm)
      (co_applyP anyCH_take termsR (fun _ _ h r => hrl _ _ h r) (fun _ _ _ h r => ⟨h.1, hrl _ _ h.2.1 r, h.2.2⟩) (i := 7) rfl (by first | kernel_rfl | decide +kernel) (by first | kernel_rfl | decide +kernel) (by first | kernel_rfl | decide +kernel) (.inl ⟨by rfl, fun _ hw => ⟨run_eq_of ?run16, ?guar16⟩⟩) hF ?rest16; (case run16 => (intro K hK; obtain ⟨dx, hdx⟩ := hw; subst hdx; go_simp; exact hK)); (case guar16 => (obtain ⟨dx, hdx⟩ := hw; subst hdx; refine DR.quiet (fun e he => ?_); have hm := mem_listed he; simp [go_sem, *] at hm; try (subst hm; exact evR_read _ _))); try walk_nrm)
      (co_applyP anyCH_take termsR (fun _ _ h r => hrl _ _ h r) (fun _ _ _ h r => ⟨h.1, hrl _ _ h.2.1 r, h.2.2⟩) (i := 8) rfl (by first | kernel_rfl | decide +kernel) (by first | kernel_rfl | decide +kernel) (by first | kernel_rfl | decide +kernel) (.inl ⟨by rfl, fun _ hw => ⟨run_eq_of ?run17, ?guar17⟩⟩) hF ?rest17; (case run17 => (intro K hK; obtain ⟨dx, hdx⟩ := hw; subst hdx; go_simp; exact hK)); (case guar17 => (obtain ⟨dx, hdx⟩ := hw; subst hdx; refine DR.quiet (fun e he => ?_); have hm := mem_listed he; simp [go_sem, *] at hm; try (subst hm; exact evR_read _ _))); try walk_nrm)
      (co_applyP anyCH_take termsR (fun _ _ h r => hrl _ _ h r) (fun _ _ _ h r => ⟨h.1, hrl _ _ h.2.1 r, h.2.2⟩) (i := 9) rfl (by first | kernel_rfl | decide +kernel) (by first | kernel_rfl | decide +kernel) (by first | kernel_rfl | decide +kernel) (.inl ⟨by rfl, fun _ hw => ⟨run_eq_of ?run18, ?guar18⟩⟩) hF ?rest18; (case run18 => (intro K hK; obtain ⟨dx, hdx⟩ := hw; subst hdx; go_simp; exact hK)); (case guar18 => (obtain ⟨dx, hdx⟩ := hw; subst hdx; refine DR.quiet (fun e he => ?_); have hm := mem_listed he; simp [go_sem, *] at hm; try (subst hm; exact evR_read _ _))); try walk_nrm)
      (co_applyP anyCH_take termsR (fun _ _ h r => hrl _ _ h r) (fun _ _ _ h r => ⟨h.1, hrl _ _ h.2.1 r, h.2.2⟩) (i := 10) rfl (by first | kernel_rfl | decide +kernel) (by first | kernel_rfl | decide +kernel) (by first | kernel_rfl | decide +kernel) (.inl ⟨by rfl, fun _ hw => ⟨run_eq_of ?run19, ?guar19⟩⟩) hF ?rest19; (case run19 => (intro K hK; obtain ⟨dx, hdx⟩ := hw; subst hdx; go_simp; exact hK)); (case guar19 => (obtain ⟨dx, hdx⟩ := hw; subst hdx; refine DR.quiet (fun e he => ?_); have hm := mem_listed he; simp [go_sem, *] at hm; try (subst hm; exact evR_read _ _))); try walk_nrm)
      (co_applyP anyCH_take termsR (fun _ _ h r => hrl _ _ h r) (fun _ _ _ h r => ⟨h.1, hrl _ _ h.2.1 r, h.2.2⟩) (i := 11) rfl (by first | kernel_rfl | decide +kernel) (by first | kernel_rfl | decide +kernel) (by first | kernel_rfl | decide +kernel) (.inl ⟨by rfl, fun _ hw => ⟨run_eq_of ?run20, ?guar20⟩⟩) hF ?rest20; (case run20 => (intro K hK; obtain ⟨dx, hdx⟩ := hw; subst hdx; go_simp; exact hK)); (case guar20 => (obtain ⟨dx, hdx⟩ := hw; subst hdx; refine DR.quiet (fun e he => ?_); have hm := mem_listed he; simp [go_sem, *] at hm; try (subst hm; exact evR_read _ _))); try walk_nrm)
      (co_applyP anyCH_take termsR (fun _ _ h r => hrl _ _ h r) (fun _ _ _ h r => ⟨h.1, hrl _ _ h.2.1 r, h.2.2⟩) (i := 12) rfl (by first | kernel_rfl | decide +kernel) (by first | kernel_rfl | decide +kernel) (by first | kernel_rfl | decide +kernel) (.inl ⟨by rfl, fun _ hw => ⟨run_eq_of ?run21, ?guar21⟩⟩) hF ?rest21; (case run21 => (intro K hK; obtain ⟨dx, hdx⟩ := hw; subst hdx; go_simp; exact hK)); (case guar21 => (obtain ⟨dx, hdx⟩ := hw; subst hdx; refine DR.quiet (fun e he => ?_); have hm := mem_listed he; simp [go_sem, *] at hm; try (subst hm; exact evR_read _ _))); try walk_nrm)
      (co_applyP anyCH_take termsR (fun _ _ h r => hrl _ _ h r) (fun _ _ _ h r => ⟨h.1, hrl _ _ h.2.1 r, h.2.2⟩) (i := 13) rfl (by first | kernel_rfl | decide +kernel) (by first | kernel_rfl | decide +kernel) (by first | kernel_rfl | decide +kernel) (.inl ⟨by rfl, fun _ hw => ⟨run_eq_of ?run22, ?guar22⟩⟩) hF ?rest22; (case run22 => (intro K hK; obtain ⟨dx, hdx⟩ := hw; subst hdx; go_simp; exact hK)); (case guar22 => (obtain ⟨dx, hdx⟩ := hw; subst hdx; refine DR.quiet (fun e he => ?_); have hm := mem_listed he; simp [go_sem, *] at hm; try (subst hm; exact evR_read _ _))); try walk_nrm)
      (co_applyP anyCH_take termsR (fun _ _ h r => hrl _ _ h r) (fun _ _ _ h r => ⟨h.1, hrl _ _ h.2.1 r, h.2.2⟩) (i := 14) rfl (by first | kernel_rfl | decide +kernel) (by first | kernel_rfl | decide +kernel) (by first | kernel_rfl | decide +kernel) (.inl ⟨by rfl, fun _ hw => ⟨run_eq_of ?run23, ?guar23⟩⟩) hF ?rest23; (case run23 => (intro K hK; obtain ⟨dx, hdx⟩ := hw; subst hdx; go_simp; exact hK)); (case guar23 => (obtain ⟨dx, hdx⟩ := hw; subst hdx; refine DR.quiet (fun e he => ?_); have hm := mem_listed he; simp [go_sem, *] at hm; try (subst hm; exact evR_read _ _))); try walk_nrm)
      (co_applyP anyCH_take termsR (fun _ _ h r => hrl _ _ h r) (fun _ _ _ h r => ⟨h.1, hrl _ _ h.2.1 r, h.2.2⟩) (i := 15) rfl (by first | kernel_rfl | decide +kernel) (by first | kernel_rfl | decide +kernel) (by first | kernel_rfl | decide +kernel) (.inl ⟨by rfl, fun _ hw => ⟨run_eq_of ?run24, ?guar24⟩⟩) hF ?rest24; (case run24 => (intro K hK; obtain ⟨dx, hdx⟩ := hw; subst hdx; go_simp; exact hK)); (case guar24 => (obtain ⟨dx, hdx⟩ := hw; subst hdx; refine DR.quiet (fun e he => ?_); have hm := mem_listed he; simp [go_sem, *] at hm; try (subst hm; exact evR_read _ _))); try walk_nrm)
      (co_applyP anyCH_take termsR (fun _ _ h r => hrl _ _ h r) (fun _ _ _ h r => ⟨h.1, hrl _ _ h.2.1 r, h.2.2⟩) (i := 16) rfl (by first | kernel_rfl | decide +kernel) (by first | kernel_rfl | decide +kernel) (by first | kernel_rfl | decide +kernel) (.inl ⟨by rfl, fun _ hw => ⟨run_eq_of ?run25, ?guar25⟩⟩) hF ?rest25; (case run25 => (intro K hK; obtain ⟨dx, hdx⟩ := hw; subst hdx; go_simp; exact hK)); (case guar25 => (obtain ⟨dx, hdx⟩ := hw; subst hdx; refine DR.quiet (fun e he => ?_); have hm := mem_listed he; simp [go_sem, *] at hm; try (subst hm; exact evR_read _ _))); try walk_nrm)
      (co_applyP anyCH_take termsR (fun _ _ h r => hrl _ _ h r) (fun _ _ _ h r => ⟨h.1, hrl _ _ h.2.1 r, h.2.2⟩) (i := 17) rfl (by first | kernel_rfl | decide +kernel) (by first | kernel_rfl | decide +kernel) (by first | kernel_rfl | decide +kernel) (.inl ⟨by rfl, fun _ hw => ⟨run_eq_of ?run26, ?guar26⟩⟩) hF ?rest26; (case run26 => (intro K hK; obtain ⟨dx, hdx⟩ := hw; subst hdx; go_simp; exact hK)); (case guar26 => (obtain ⟨dx, hdx⟩ := hw; subst hdx; refine DR.quiet (fun e he => ?_); have hm := mem_listed he; simp [go_sem, *] at hm; try (subst hm; exact evR_read _ _))); try walk_nrm)
      refine anyCH_done (by first | kernel_rfl | decide +kernel) ⟨rfl, hF, by simp [hg], rfl⟩ _
  · rintro a' w' ⟨d, rfl⟩ ⟨h, hd⟩
    repeat (first | (refine Walk.c rfl ?_) | (refine Walk.cReg ?_; simp only [List.size_toArray, List.length_cons, List.length_nil, Nat.reduceAdd, Nat.zero_add, List.range, List.range.loop]) | (refine Walk.cRet ?_) | (refine Walk.cEnd ?_) | (refine Walk.opq (ho_of (by conv => lhs; whnf) (by kernel_rfl)) (by rfl) (by decide) (fun dd e he => ?_) (fun dd K hK => ?_); (· (simp [go_sem, *] at he; try (subst he; exact evR_read _ _))); go_simp; refine hK _ ?_; clear hK K; try walk_nrm) | (refine Walk.ctl rfl (fun w => stepG_unwanted (ho_of (by conv => lhs; whnf) (by kernel_rfl)) (by rfl)) ?_; walk_nrm))
    exact Walk.ret1 rfl hd Try.func80 rfl fun d' => ⟨h, d', rfl⟩
end Go.Proofs.Ytgiiicdpbdfemaa
end

/- The relay's walk through a panic: it is raised, frames are left, a deferred call is made, it recovers, the frame returns; step by step, under what each step asks of the frame. -/
section
namespace Go.Relay
open Go.Conc Go.RowKit

section
variable {P : Program} {main : Bool} {V : Nat → Option Wait} {Stop : Goroutine → World → Prop} {w : World} {b fr c : Frame} {a : Act} {k : List Item} {cs : List Frame} {ops : Array Oper} {i : Nat} {rest : List Nat} {o : Oper}

theorem stepG_raise {x : Value} (ho : ops[i]? = some o) (hw : Region.wanted o (yielded ops a.tmps) = true) (hk : b.kind ≠ .early) (hr : (execOp a.eval o).run P w = .halt (.panic x) w) (he : (execOp a.eval o).events P w #[] = #[]) :
    stepG P main (G (b.at a (.inRegion ops (i :: rest) :: k)) cs) w = .go (G { b.at a (.inRegion ops (i :: rest) :: k) with mode := .panicking [{ v := x, recovered := false }] } cs) w := by
  have hk' : (b.kind == CallKind.early) = false := by simpa using hk
  rw [stepG_oper ho hw]
  simp [stepG.apply, hr, he, G, Frame.at, Frame.raise, hk', GStep.after, seen_none]

theorem stepG_pop {chain : List PanicEntry} (hm : fr.mode = .panicking chain) (hd : fr.defers = []) (hc : fr.catches P = false) : stepG P main (G fr (c :: cs)) w = .go (G (c.raise chain) cs) w := by
  simp [G, stepG, unwind, hm, hd, hc]

theorem stepG_deferred {d : Deferred} {ds : List Deferred} {f : FuncId} {fn : Func} {cap : Array Value} (hm : fr.mode ≠ .run) (hd : fr.defers = d :: ds) (ht : d.target = .fn (.func f) cap) (hf : P.funcs[f]? = some fn)
    (hname : (fn.name == "runtime.NumGoroutine") = false) (hb : fn.body.isNone = false) :
    stepG P main (G fr cs) w = .go (G (Frame.enter P f (d.args ++ cap) .deferred) ({ fr with defers := ds } :: cs)) w := by
  have h1 : ¬ fn.name = "runtime.NumGoroutine" := by simpa using hname
  have h2 : ¬ fn.body = none := by cases hx : fn.body <;> simp_all
  obtain ⟨t, ars⟩ := d
  subst ht
  have hs : stepG P main (G fr cs) w = unwind P main fr cs none w := by
    cases hmm : fr.mode <;> simp_all [G, stepG]
  rw [hs]
  simp [unwind, hd, callDeferred, invoke, callFunc, hf, h1, h2, GStep.after, seen_none, G]

theorem stepG_recover {v : Value} {older : List PanicEntry} {ats : Array TypeId} (ho : ops[i]? = some o) (hw : Region.wanted o (yielded ops a.tmps) = true) (hk : b.kind = .deferred) (hop : o.op = .call { callee := .builtin .recover, args := #[], argTypes := ats })
    (hc : c.mode = .panicking ({ v, recovered := false, goexit := false } :: older)) :
    stepG P main (G (b.at a (.inRegion ops (i :: rest) :: k)) (c :: cs)) w = .go (G (b.at (a.put o.dst v) (.inRegion ops rest :: k)) ({ c with mode := .panicking ({ v, recovered := true } :: older) } :: cs)) w := by
  have hrun : (execOp a.eval o).run P w = .ok .recover w := by
    unfold execOp
    simp [hop, resolve, invoke, builtin]
  have hev : (execOp a.eval o).events P w #[] = #[] := by
    unfold execOp
    simp [hop, resolve, invoke, builtin]
  have hfin : (b.at a (.inRegion ops (i :: rest) :: k)).finish v = b.at (a.put o.dst v) (.inRegion ops rest :: k) := by rw [Frame.finish_at, ho]; rfl
  rw [stepG_oper ho hw, ← hfin]

  simp [stepG.apply, hrun, hev, G, Frame.at, hk, GStep.after, seen_none, tryRecover, hc]

theorem stepG_recoverNone {ats : Array TypeId} (ho : ops[i]? = some o) (hw : Region.wanted o (yielded ops a.tmps) = true) (hk : b.kind = .deferred) (hop : o.op = .call { callee := .builtin .recover, args := #[], argTypes := ats })
    (hc : c.mode = .returning) :
    stepG P main (G (b.at a (.inRegion ops (i :: rest) :: k)) (c :: cs)) w = .go (G (b.at (a.put o.dst .nilIface) (.inRegion ops rest :: k)) (c :: cs)) w := by
  have hrun : (execOp a.eval o).run P w = .ok .recover w := by
    unfold execOp
    simp [hop, resolve, invoke, builtin]
  have hev : (execOp a.eval o).events P w #[] = #[] := by
    unfold execOp
    simp [hop, resolve, invoke, builtin]
  have hfin : (b.at a (.inRegion ops (i :: rest) :: k)).finish .nilIface = b.at (a.put o.dst .nilIface) (.inRegion ops rest :: k) := by rw [Frame.finish_at, ho]; rfl
  rw [stepG_oper ho hw, ← hfin]

  simp [stepG.apply, hrun, hev, G, Frame.at, hk, GStep.after, seen_none, tryRecover, hc]

/-- A deferred call's return, its caller unwinding: recovered, the caller returns. -/
theorem stepG_leaveRecovered {todo : List Item} {fn : Func} {v x : Value} (hn : b.kind = .deferred) (hd : a.defers = []) (hf : P.funcs[b.fn]? = some fn) (hr : (results fn a.tmps).run P w = .ok x w) (he : (results fn a.tmps).events P w #[] = #[])
    (hc : c.mode = .panicking [{ v, recovered := true }]) :
    stepG P main (G { b.at a todo with mode := .returning } (c :: cs)) w = .go (G { c with mode := .returning } cs) w := by
  simp [G, stepG, unwind, doReturn, Frame.at, hn, hd, hf, hr, he, hc, seen, GStep.after]

theorem stepG_leaveReturning {todo : List Item} {fn : Func} {x : Value} (hn : b.kind = .deferred) (hd : a.defers = []) (hf : P.funcs[b.fn]? = some fn) (hr : (results fn a.tmps).run P w = .ok x w) (he : (results fn a.tmps).events P w #[] = #[]) (hc : c.mode = .returning) :
    stepG P main (G { b.at a todo with mode := .returning } (c :: cs)) w = .go (G c cs) w := by
  simp [G, stepG, unwind, doReturn, Frame.at, hn, hd, hf, hr, he, hc, seen, GStep.after]

/-- The deferred close of an open channel. -/
theorem stepG_deferClose {ds : List Deferred} {ats : Array TypeId} {t : TypeId} {cons : Array Bool} {ch : Nat} {kk : Nat} (hm : fr.mode = .returning) (hd : fr.defers = { target := .builtin .close ats t cons, args := #[.chan (some ch)] } :: ds)
    (hq : (P.funcs[fr.fn]?).any (·.norace) = false) (hc : w.heap[ch]? = some (.chan 0 #[] false kk kk false)) :
    stepG P main (G fr cs) w = .go (G { fr with defers := ds } cs) (w.setChan ch 0 #[] true kk kk false) (closeEvents ch) := by
  have hr : (invoke (.builtin .close ats t cons) #[.chan (some ch)]).run P w = .ok (.value (.tuple #[])) (w.setChan ch 0 #[] true kk kk false) := by
    simp [invoke, builtin, run_close_open _ _ hc, World.setChan]
  have he : (invoke (.builtin .close ats t cons) #[.chan (some ch)]).events P w #[] = closeEvents ch := by
    simp [invoke, builtin, events_close_open _ _ hc, closeEvents]
  have hs : seen P fr.fn (closeEvents ch) = closeEvents ch := seen_eq hq (by intro e he f; simp only [closeEvents, List.mem_toArray, List.mem_cons, List.not_mem_nil, or_false] at he; rcases he with rfl | rfl <;> simp)
  simp [G, stepG, unwind, hm, hd, callDeferred, hr, he, hs, GStep.after]
/-- A deferring operation. -/
theorem stepG_deferOp {d : Deferred} (ho : ops[i]? = some o) (hw : Region.wanted o (yielded ops a.tmps) = true) (hk : b.kind ≠ .early) (hr : (execOp a.eval o).run P w = .ok (.defer d) w) (he : (execOp a.eval o).events P w #[] = #[]) :
    stepG P main (G (b.at a (.inRegion ops (i :: rest) :: k)) cs) w = .go (G (b.at (Act.put ⟨a.tmps, d :: a.defers⟩ o.dst undef) (.inRegion ops rest :: k)) cs) w #[] := by
  have hfin : (b.at ⟨a.tmps, d :: a.defers⟩ (.inRegion ops (i :: rest) :: k)).finish undef = b.at (Act.put ⟨a.tmps, d :: a.defers⟩ o.dst undef) (.inRegion ops rest :: k) := by rw [Frame.finish_at, ho]; rfl
  have hk' : (b.kind == CallKind.early) = false := by simpa using hk
  rw [stepG_oper ho hw, ← hfin]
  simp [stepG.apply, hr, he, G, Frame.at, hk', GStep.after, seen_none]

/-- A call of a function value. -/
theorem stepG_callValue {f : FuncId} {fn : Func} {x : Operand} {args : Array Operand} {ats : Array TypeId} {first cap : Array Value} (ho : ops[i]? = some o) (hw : Region.wanted o (yielded ops a.tmps) = true) (hk : b.kind ≠ .early)
    (hop : o.op = .call { callee := .value x, args, argTypes := ats }) (hx : a.eval x = .func (.func f) first cap) (hf : P.funcs[f]? = some fn) (hname : (fn.name == "runtime.NumGoroutine") = false) (hb : fn.body.isNone = false) :
    stepG P main (G (b.at a (.inRegion ops (i :: rest) :: k)) cs) w = .go (G (Frame.enter P f (first ++ args.map a.eval ++ cap) .normal) (b.at a (.inRegion ops (i :: rest) :: k) :: cs)) w := by
  have h1 : ¬ fn.name = "runtime.NumGoroutine" := by simpa using hname
  have h2 : ¬ fn.body = none := by cases hx : fn.body <;> simp_all
  have hr : (execOp a.eval o).run P w = .ok (.enter f (first ++ args.map a.eval ++ cap)) w := by
    unfold execOp
    simp [hop, resolve, Deferred.ofValue, invoke, callFunc, hf, h1, h2, hx]
  have he : (execOp a.eval o).events P w #[] = #[] := by
    unfold execOp
    simp [hop, resolve, Deferred.ofValue, invoke, callFunc, hf, h1, h2, hx]
  rw [stepG_enter ho hw hk hr]
  have : listed P b.fn a o w = #[] := by unfold listed; rw [he]; exact seen_none P _
  rw [this]

/-- A return that reads its results: what the reading lists. -/
theorem stepG_leaveE {fn : Func} {todo : List Item} {v : Value} (hn : b.kind = .normal) (hd : a.defers = []) (hf : P.funcs[b.fn]? = some fn) (hr : (results fn a.tmps).run P w = .ok v w) :
    stepG P main (G { b.at a todo with mode := .returning } (c :: cs)) w = .go (G (c.finish v) cs) w (seen P b.fn ((results fn a.tmps).events P w #[])) := by
  simp [G, stepG, unwind, doReturn, Frame.at, hn, hd, hf, hr, GStep.after]

theorem run_assert_same (t s : TypeId) (v : Value) {u : TypeDesc} (hu : P.underlying t = some u) (h : ∀ ms, u ≠ .interface ms) : (Instr.typeAssert (.iface t v) s t true).run P w = .ok (.tuple #[v, .bool true]) w := by
  cases u <;> first | (exact absurd rfl (h _)) | simp [Instr.typeAssert, run_underlying hu]
theorem run_assert_other (t t' s : TypeId) (v z : Value) {u : TypeDesc} (hu : P.underlying t = some u) (h : ∀ ms, u ≠ .interface ms) (ht : t' ≠ t) (hz : (zeroValue t).run P w = .ok z w) : (Instr.typeAssert (.iface t' v) s t true).run P w = .ok (.tuple #[z, .bool false]) w := by
  cases u <;> first | (exact absurd rfl (h _)) | simp [Instr.typeAssert, run_underlying hu, ht, hz]
theorem ev_assert_same (t s : TypeId) (v : Value) (es : Array Event) {u : TypeDesc} (hu : P.underlying t = some u) (h : ∀ ms, u ≠ .interface ms) : (Instr.typeAssert (.iface t v) s t true).events P w es = es := by
  cases u <;> first | (exact absurd rfl (h _)) | simp [Instr.typeAssert, run_underlying hu]
theorem ev_assert_other (t t' s : TypeId) (v : Value) (es : Array Event) {u : TypeDesc} (hu : P.underlying t = some u) (h : ∀ ms, u ≠ .interface ms) (ht : t' ≠ t) (hze : (zeroValue t).events P w es = es) : (Instr.typeAssert (.iface t' v) s t true).events P w es = es := by
  cases u <;> first | (exact absurd rfl (h _)) | simp [Instr.typeAssert, run_underlying hu, ht, hze]
theorem stepG_leaveF {fn : Func} {v : Value} (hm : fr.mode = .returning) (hn : fr.kind = .normal) (hd : fr.defers = []) (hf : P.funcs[fr.fn]? = some fn) (hr : (results fn fr.tmps).run P w = .ok v w) :
    stepG P main (G fr (c :: cs)) w = .go (G (c.finish v) cs) w (seen P fr.fn ((results fn fr.tmps).events P w #[])) := by
  simp [G, stepG, unwind, doReturn, hm, hn, hd, hf, hr, GStep.after]

/-- A step that turns nothing and lists what is well. -/
theorem Walk.evs {g g' : Goroutine} (E : Nat → Array Event) (hr : g.status = .running) (hs : ∀ d, stepG P main g (w.at d) = .go g' (w.at d) (E d)) (he : ∀ d, ∀ e ∈ E d, EvR V e) (h : Walk P main (DR V) Stop g' w) : Walk P main (DR V) Stop g w :=
  .step hr (fun _ => g') (fun d => w.at d) E hs (fun d => DR.quiet (he d)) fun d => h.back d

theorem run_eqIn_func (d : Nat) (t : TypeId) (f : Fn) (x y : Array Value) {a b c} (hu : P.underlying t = some (.func a b c)) : (Op.equalIn (d + 1) t (.func f x y) .nilFunc).run P w = .ok false w := by simp [Op.equalIn, run_underlying hu]
theorem ev_eqIn_func (d : Nat) (t : TypeId) (f : Fn) (x y : Array Value) (es : Array Event) {a b c} (hu : P.underlying t = some (.func a b c)) : (Op.equalIn (d + 1) t (.func f x y) .nilFunc).events P w es = es := by simp [Op.equalIn, run_underlying hu]
theorem run_neq_func (t : TypeId) (f : Fn) (x y : Array Value) {a b c} (hu : P.underlying t = some (.func a b c)) : (binOp .neq t (.func f x y) .nilFunc).run P w = .ok (.bool true) w := by
  simp only [binOp]
  simp [Op.equal, Op.maxDepth, run_eqIn_func (w := w) 9999 t f x y hu]
theorem ev_neq_func (t : TypeId) (f : Fn) (x y : Array Value) (es : Array Event) {a b c} (hu : P.underlying t = some (.func a b c)) : (binOp .neq t (.func f x y) .nilFunc).events P w es = es := by
  simp only [binOp]
  simp [Op.equal, Op.maxDepth, run_eqIn_func (w := w) 9999 t f x y hu, ev_eqIn_func (w := w) 9999 t f x y es hu]
theorem run_eqIn_nilFunc (d : Nat) (t : TypeId)  {a b c} (hu : P.underlying t = some (.func a b c)) : (Op.equalIn (d + 1) t .nilFunc .nilFunc).run P w = .ok true w := by simp [Op.equalIn, run_underlying hu]
theorem ev_eqIn_nilFunc (d : Nat) (t : TypeId)  (es : Array Event) {a b c} (hu : P.underlying t = some (.func a b c)) : (Op.equalIn (d + 1) t .nilFunc .nilFunc).events P w es = es := by simp [Op.equalIn, run_underlying hu]
theorem run_neq_nilFunc (t : TypeId)  {a b c} (hu : P.underlying t = some (.func a b c)) : (binOp .neq t .nilFunc .nilFunc).run P w = .ok (.bool false) w := by
  simp only [binOp]
  simp [Op.equal, Op.maxDepth, run_eqIn_nilFunc (w := w) 9999 t  hu]
theorem ev_neq_nilFunc (t : TypeId)  (es : Array Event) {a b c} (hu : P.underlying t = some (.func a b c)) : (binOp .neq t .nilFunc .nilFunc).events P w es = es := by
  simp only [binOp]
  simp [Op.equal, Op.maxDepth, run_eqIn_nilFunc (w := w) 9999 t  hu, ev_eqIn_nilFunc (w := w) 9999 t  es hu]
theorem run_eqIn_iface (d : Nat) (t : TypeId) (s : TypeId) (x : Value) {ms} (hu : P.underlying t = some (.interface ms)) : (Op.equalIn (d + 1) t (.iface s x) .nilIface).run P w = .ok false w := by simp [Op.equalIn, run_underlying hu]
theorem ev_eqIn_iface (d : Nat) (t : TypeId) (s : TypeId) (x : Value) (es : Array Event) {ms} (hu : P.underlying t = some (.interface ms)) : (Op.equalIn (d + 1) t (.iface s x) .nilIface).events P w es = es := by simp [Op.equalIn, run_underlying hu]
theorem run_neq_iface (t : TypeId) (s : TypeId) (x : Value) {ms} (hu : P.underlying t = some (.interface ms)) : (binOp .neq t (.iface s x) .nilIface).run P w = .ok (.bool true) w := by
  simp only [binOp]
  simp [Op.equal, Op.maxDepth, run_eqIn_iface (w := w) 9999 t s x hu]
theorem ev_neq_iface (t : TypeId) (s : TypeId) (x : Value) (es : Array Event) {ms} (hu : P.underlying t = some (.interface ms)) : (binOp .neq t (.iface s x) .nilIface).events P w es = es := by
  simp only [binOp]
  simp [Op.equal, Op.maxDepth, run_eqIn_iface (w := w) 9999 t s x hu, ev_eqIn_iface (w := w) 9999 t s x es hu]
theorem run_eqIn_nilIface (d : Nat) (t : TypeId)  {ms} (hu : P.underlying t = some (.interface ms)) : (Op.equalIn (d + 1) t .nilIface .nilIface).run P w = .ok true w := by simp [Op.equalIn, run_underlying hu]
theorem ev_eqIn_nilIface (d : Nat) (t : TypeId)  (es : Array Event) {ms} (hu : P.underlying t = some (.interface ms)) : (Op.equalIn (d + 1) t .nilIface .nilIface).events P w es = es := by simp [Op.equalIn, run_underlying hu]
theorem run_neq_nilIface (t : TypeId)  {ms} (hu : P.underlying t = some (.interface ms)) : (binOp .neq t .nilIface .nilIface).run P w = .ok (.bool false) w := by
  simp only [binOp]
  simp [Op.equal, Op.maxDepth, run_eqIn_nilIface (w := w) 9999 t  hu]
theorem ev_neq_nilIface (t : TypeId)  (es : Array Event) {ms} (hu : P.underlying t = some (.interface ms)) : (binOp .neq t .nilIface .nilIface).events P w es = es := by
  simp only [binOp]
  simp [Op.equal, Op.maxDepth, run_eqIn_nilIface (w := w) 9999 t  hu, ev_eqIn_nilIface (w := w) 9999 t  es hu]
end
end Go.Relay
end

/- The relay's walk through an append of a slice's elements to a slice that is nil or the call's own: the new value and the new world are not known, what they are good for is; under the bounds of the library's law, where no other goroutine reads the block. -/
section
namespace Go.Relay
open Go.Conc Go.RowKit

/-- No waiting goroutine has anything to do with this block. -/
def Apart (V : Nat → Option Wait) (g : Nat) : Prop := (∀ a : Addr, a.block = g → Free V a) ∧ ∀ i u, V i = some u → u.ch ≠ g

section
variable {P : Program} {main : Bool} {V : Nat → Option Wait} {Stop : Goroutine → World → Prop} {w : World} {b : Frame} {a : Act} {k : List Item} {cs : List Frame} {ops : Array Oper} {i : Nat} {rest : List Nat} {o : Oper}

theorem evR_isRead {e : Event} (h : e.isRead) : EvR V e := by
  obtain ⟨ad, hl, hw⟩ := h
  obtain ⟨l, wr, s⟩ := e
  simp only at hl hw
  subst hl; subst hw
  exact evR_read ad s
theorem evR_cell {e : Event} {ad : Addr} (h : e.loc = .cell ad) (hf : Free V ad) : EvR V e := by
  obtain ⟨l, wr, s⟩ := e
  simp only at h
  subst h
  cases wr with
  | true => exact evR_write ad s hf
  | false => exact evR_read ad s
theorem evR_noRoom : EvR V ⟨.mark .noRoom, false, true⟩ := ⟨fun x hx => (by simp [MemAct.ofEvent, MemAct.touch?] at hx), by simp, by simp⟩

theorem DR.grown {w w' : World} {es : Array Event} {row : Option Nat} (hg : w.grownBy w' row) (hr : ∀ g, row = some g → Apart V g) (he : ∀ e ∈ es, EvR V e) : DR V w w' es := by
  refine ⟨fun i v e hK ad z hz => ?_, fun i v o e ho _ => ?_, he, ⟨hg.os, hg.output⟩⟩
  · have hc := hK ad z hz
    have hlt := cell_lt w hc
    rw [World.cell?_of_block (hg.block _ hlt fun e' => ?_)]
    · exact hc
    · rw [(hr _ e'.symm).1 ad rfl i v e] at hz; cases hz
  · rw [hg.block _ (Array.getElem?_eq_some_iff.1 ho).1 fun e' => (hr _ e'.symm).2 i v e rfl]
    exact ho

theorem Walk.append (s x : Operand) (t : TypeId) (ho : ops[i]? = some o) (hw : Region.wanted o (yielded ops a.tmps) = true) (hk : b.kind ≠ .early) (hop : o.op = .call { callee := .builtin .append, args := #[s, x], argTypes := #[t, t] })
    (base : Nat) (e : TypeId) (ti : TypeInfo) (z : Value) (size bytes : Nat) (ht : P.underlying t = some (.slice e)) (hi : P.info? e = some ti) (hz : ti.zero = some z) (hsize : ti.size = size) (hby : ti.bytes = bytes) (hzs : z.cells.size = size) (hsz : 0 < size)
    (v : Value) (n : Nat) (xs : List Value) (hs : a.eval s = v) (hown : w.ownsRow base e size v n xs)
    (ad : Addr) (m c : Nat) (news : List Value) (hx : a.eval x = .slice (some ad) m c) (hl : news.length = m * size) (hnews : ∀ j u, news[j]? = some u → w.cell? (ad.add j) = some u) (h1 : ∀ u ∈ news, u.oneCell' = true)
    (hm : 0 < m) (h63 : n + m ≤ maxLen) (hbytes : (n + m) * bytes ≤ 140737488355328) (hbase : base ≤ w.heap.size) (hap : ∀ g, v.ownBlock = some g → Apart V g)
    (h : ∀ g cap w', w'.ownsRow base e size (.slice (some ⟨g, 0, none⟩) (n + m) cap) (n + m) (xs ++ news) → w.grownBy w' v.ownBlock → (v.ownBlock = some g ∨ g = w.heap.size) → g < w'.heap.size →
      Walk P main (DR V) Stop (G (b.at (a.put o.dst (.slice (some ⟨g, 0, none⟩) (n + m) cap)) (.inRegion ops rest :: k)) cs) w') :
    Walk P main (DR V) Stop (G (b.at a (.inRegion ops (i :: rest) :: k)) cs) w := by
  refine Walk.go rfl fun d => goes_oper_k ho hw hk fun K hK => ?_
  obtain ⟨g, cap, w', hr, hown', hg, hat, hlt⟩ := run_append_lies (P := P) (w := w.at d) t o.type base e ti z size bytes ht hi hz hsize hby hzs hsz v n xs hown ad m c news hl hnews h1 hm h63 hbytes hbase w.heap.size rfl
  refine uponK_append s x t hop hs hx hr (hK _ _ ⟨DR.grown hg hap fun ev hev => ?_, h g cap w' hown' ⟨hg.os, hg.tape, hg.output, hg.size, hg.block⟩ hat hlt⟩)
  have hm' := mem_listed hev
  rw [events_append_op s x t hop hs hx] at hm'
  rcases events_append_own (w.at d) base t o.type e ti z size bytes ht hi hz hsize hby v n xs hown ad m c news hl hnews h1 h63 hbytes ev hm' with h' | ⟨ad', h', hb⟩ | ⟨mk, h', hn⟩
  · exact evR_isRead h'
  · exact evR_cell h' ((hap _ hb.symm).1 ad' rfl)
  · rw [h', show mk = .noRoom from hn]; exact evR_noRoom
end
end Go.Relay
end

/- The relay's walk through a make of a slice and of a channel. -/
section
namespace Go.Relay
open Go.Conc Go.RowKit

section
variable {P : Program} {main : Bool} {V : Nat → Option Wait} {Stop : Goroutine → World → Prop} {w : World} {b : Frame} {a : Act} {k : List Item} {cs : List Frame} {ops : Array Oper} {i : Nat} {rest : List Nat} {o : Oper}

theorem Walk.make (t : TypeId) (l c : Operand) (ho : ops[i]? = some o) (hw : Region.wanted o (yielded ops a.tmps) = true) (hk : b.kind ≠ .early) (hop : o.op = .makeSlice t l c)
    (e : TypeId) (ti : TypeInfo) (z : Value) (size bytes : Nat) (ht : P.underlying t = some (.slice e)) (hi : P.info? e = some ti) (hz : ti.zero = some z) (hsize : ti.size = size) (hby : ti.bytes = bytes)
    (n : Nat) (hl : a.eval l = .int .i64 n) (hc : a.eval c = .int .i64 n) (hbytes : n * bytes ≤ 140737488355328) (h63 : n ≤ 1048576)
    (h : Walk P main (DR V) Stop (G (b.at (a.put o.dst (.slice (some ⟨w.heap.size, 0, none⟩) n n)) (.inRegion ops rest :: k)) cs) (w.alloc (.cells (madeCells z.cells (n * size)) e))) :
    Walk P main (DR V) Stop (G (b.at a (.inRegion ops (i :: rest) :: k)) cs) w := by
  subst hsize
  subst hby
  have hb' : (ti.bytes : Int) * (n : Int) ≤ 281474976710656 := by
    have h : ((ti.bytes * n : Nat) : Int) ≤ 281474976710656 := by rw [Nat.mul_comm]; omega
    rwa [Int.natCast_mul] at h
  refine Walk.go rfl fun d => goes_oper_k ho hw hk fun K hK => ?_
  have hr := run_make (P := P) (w.at d) t e ti z ht hi hz .i64 .i64 n n (by omega) (Int.le_refl _) hb' (by omega)
  have he := events_make (P := P) (w.at d) t e ti z ht hi hz .i64 .i64 n n (by omega) (Int.le_refl _) hb' (by omega) (by simpa using hbytes) #[]
  simp only [Int.toNat_natCast] at hr
  have hx : (execOp a.eval o).run P (w.at d) = .ok (.value (.slice (some ⟨w.heap.size, 0, none⟩) n n)) ((w.alloc (.cells (madeCells z.cells (n * ti.size)) e)).at d) := by
    simp only [execOp, hop, hl, hc, Sem.run_bind, hr]
    rfl
  have hv : (execOp a.eval o).events P (w.at d) #[] = #[] := by
    simp only [execOp, hop, hl, hc, Sem.events_bind, hr, he]
    rfl
  rw [hx]
  refine hK _ _ ⟨DR.alloc' d _ fun ev hm => ?_, h.back d⟩
  have hm' := mem_listed hm
  rw [hv] at hm'
  exact absurd hm' (by simp)

theorem Walk.chan (t : TypeId) (n : Operand) (ho : ops[i]? = some o) (hw : Region.wanted o (yielded ops a.tmps) = true) (hk : b.kind ≠ .early) (hop : o.op = .makeChan t n)
    (dir : ChanDir) (e : TypeId) (ti : TypeInfo) (ht : P.underlying t = some (.chan dir e)) (hi : P.info? e = some ti) (hn : a.eval n = .int .i64 0)
    (h : Walk P main (DR V) Stop (G (b.at (a.put o.dst (.chan (some w.heap.size))) (.inRegion ops rest :: k)) cs) (w.alloc (.chan 0 #[] false 0 0 false))) :
    Walk P main (DR V) Stop (G (b.at a (.inRegion ops (i :: rest) :: k)) cs) w := by
  refine Walk.go rfl fun d => goes_oper_k ho hw hk fun K hK => ?_
  have hr := run_makeChan (P := P) (w := w.at d) ht hi .i64 0 (by decide) (by simp)
  have he := events_makeChan (P := P) (w := w.at d) ht hi .i64 0 (by decide) (by simp) #[]
  simp only [Int.ofNat_zero, Int.natCast_zero, Int.cast_ofNat_Int] at hr he
  have hx : (execOp a.eval o).run P (w.at d) = .ok (.value (.chan (some w.heap.size))) ((w.alloc (.chan 0 #[] false 0 0 false)).at d) := by
    simp only [execOp, hop, hn, Sem.run_bind, hr]
    rfl
  have hv : (execOp a.eval o).events P (w.at d) #[] = #[] := by
    simp only [execOp, hop, hn, Sem.events_bind, hr, he]
    rfl
  rw [hx]
  refine hK _ _ ⟨DR.alloc' d _ fun ev hm => ?_, h.back d⟩
  have hm' := mem_listed hm
  rw [hv] at hm'
  exact absurd hm' (by simp)

/-- Into a call. -/
theorem Walk.callE {f : FuncId} {fn : Func} {args : Array Operand} {ats : Array TypeId} (ho : ops[i]? = some o) (hw : Region.wanted o (yielded ops a.tmps) = true) (hk : b.kind ≠ .early) (hop : o.op = .call { callee := .value (.func f), args, argTypes := ats })
    (hf : P.funcs[f]? = some fn) (hname : (fn.name == "runtime.NumGoroutine") = false) (hb : fn.body.isNone = false)
    (h : Walk P main (DR V) Stop (G (Frame.enter P f (args.map a.eval) .normal) (b.at a (.inRegion ops (i :: rest) :: k) :: cs)) w) :
    Walk P main (DR V) Stop (G (b.at a (.inRegion ops (i :: rest) :: k)) cs) w := by
  refine Walk.ctl rfl (fun w => ?_) h
  rw [stepG_enter ho hw hk (run_call_body hop hf hname hb)]
  have : listed P b.fn a o w = #[] := by unfold listed; rw [events_call_body hop hf hname hb]; exact seen_none P _
  rw [this]

/-- A region that draws its order, its operations turning the world as they come. -/
theorem Walk.drawn {id : Nat} (hm : P.follows .mixedOrders = true) (hk : b.kind ≠ .early) {Q : Act → World → Prop}
    (h : ∀ d, AnyCH P AtRel (DR V) b.fn .any ops (fun e a' w' => e = .normal ∧ Q a' w') (fun _ => True) ops.size (Array.replicate ops.size false) a (w.at d))
    (hc : ∀ a' w', Q a' w' → Walk P main (DR V) Stop (G (b.at a' k) cs) w') : Walk P main (DR V) Stop (G (b.at a (.code (.region id ops true) :: k)) cs) w :=
  Walk.code (n := ops.size + 1 + 1) (Q := Q) (wpC_region_held termsR drawsR hm fun _ hr => by obtain ⟨d, rfl⟩ := hr; exact h (d + 1)) hk hc

/-- An operation of it that makes the world W. -/
theorem opC_new {W : World} {x : Value} {fn : FuncId} {d0 : Nat} {K : Act → World → Prop} (ho : ops[i]? = some o) (hw : Region.wanted o (yielded ops a.tmps) = true) (hr : ∀ d, (execOp a.eval o).run P (w.at d) = .ok (.value x) (W.at d)) (hd : ∀ d, DR V (w.at d) (W.at d) (listed P fn a o (w.at d)))
    (h : ∀ d, K (a.put o.dst x) (W.at d)) : OpC P AtRel (DR V) fn ops i K a (w.at d0) := by
  unfold OpC
  simp only [ho, hw, if_true]
  rintro _ ⟨d, rfl⟩
  have := hr d
  show uponK o a _ ((execOp a.eval o).run P (w.at d))
  rw [this]
  exact ⟨hd d, h d⟩
end
end Go.Relay
end

/- The statement's side: slots; adder. -/
section
namespace Go.Proofs.Ytgiiicdpbdfemaa
open Go.Conc Go.RowKit Go.Relay
open Go.ConcN (upd upd_ne upd_same)

variable {main : Bool} {V : Nat → Option Wait}

/-- A frame's slots, as a loop's head has them. -/
theorem at_slots {b : Frame} {A : Array Value} {todo : List Item} {cs : List Frame} {F : (Nat → Value) → Goroutine} (h : G (b.at ⟨A, []⟩ todo) cs = F (fun k => A.getD k undef)) : ∃ u, G (b.at ⟨A, []⟩ todo) cs = F u := ⟨_, h⟩

/-- The five codes of one that adds one. -/
def adderCells : Array Value := #[.int .i64 7, .int .i64 0, .int .i64 0, .int .i64 0, .int .i64 0, .int .i64 1, .int .i64 1, .int .i64 0, .int .i64 0, .int .i64 1, .int .i64 3, .int .i64 0, .int .i64 0, .int .i64 1, .int .i64 0, .int .i64 8, .int .i64 0, .int .i64 0, .int .i64 0, .int .i64 0, .int .i64 6, .int .i64 0, .int .i64 0, .int .i64 0, .int .i64 0]

set_option maxHeartbeats 8000000 in
set_option maxRecDepth 100000 in
theorem adder_w (w : World) : CallV Try.prog main V 38 #[] w (.slice (some ⟨w.heap.size, 0, none⟩) 5 5) (w.alloc (.cells adderCells 96)) := by
  refine callW_in Try.func38 rfl fun fr cs => ?_
  simp only [Try.ntmps38, List.size_toArray, List.length_cons, List.length_nil, Nat.reduceAdd, Nat.reduceSub, Array.replicate_succ, Array.replicate_zero, List.push_toArray, List.append_toArray, List.nil_append, List.cons_append]
  repeat (first | (refine Walk.c rfl ?_) | (refine Walk.cReg ?_; simp only [List.size_toArray, List.length_cons, List.length_nil, Nat.reduceAdd, Nat.zero_add, List.range, List.range.loop]) | (refine Walk.cRet ?_) | (refine Walk.cEnd ?_) | (refine Walk.opq (ho_of (by conv => lhs; whnf) (by kernel_rfl)) (by rfl) (by decide) (fun dd e he => ?_) (fun dd K hK => ?_); (· (simp [go_sem, *] at he; try (subst he; exact evR_read _ _))); go_simp; refine hK _ ?_; clear hK K; try walk_nrm) | (refine Walk.ctl rfl (fun w => stepG_unwanted (ho_of (by conv => lhs; whnf) (by kernel_rfl)) (by rfl)) ?_; walk_nrm))
  (co_applyP Walk.opw (ho_of (by conv => lhs; whnf) (by kernel_rfl)) (by rfl) (by decide) ?wev1 ?wdr1 ?wrun1; (case' wrun1 => (intro dd K hK; go_simp; simp only [alloc_at', setCell_at']; refine hK _ ?wmore1; clear hK K)); (case wdr1 => exact fun dd es hes => DR.alloc' dd es hes); (case wev1 => (intro dd e he; simp [go_sem, *] at he)); try walk_nrm)
  repeat (first | (refine Walk.c rfl ?_) | (refine Walk.cReg ?_; simp only [List.size_toArray, List.length_cons, List.length_nil, Nat.reduceAdd, Nat.zero_add, List.range, List.range.loop]) | (refine Walk.cRet ?_) | (refine Walk.cEnd ?_) | (refine Walk.opq (ho_of (by conv => lhs; whnf) (by kernel_rfl)) (by rfl) (by decide) (fun dd e he => ?_) (fun dd K hK => ?_); (· (simp [go_sem, *] at he; try (subst he; exact evR_read _ _))); go_simp; refine hK _ ?_; clear hK K; try walk_nrm) | (refine Walk.ctl rfl (fun w => stepG_unwanted (ho_of (by conv => lhs; whnf) (by kernel_rfl)) (by rfl)) ?_; walk_nrm))
  exact Walk.ret1 rfl rfl Try.func38 rfl fun d => ⟨rfl, d, rfl⟩
end Go.Proofs.Ytgiiicdpbdfemaa
end

/- Package turn's programs, in company: the atomic operations and the registers. -/
section
namespace Go.Proofs.Ytgiiicdpbdfemaa
open Go.Conc Go.RowKit Go.Relay

variable {main : Bool} {V : Nat → Option Wait}

/-- A step that turns the world. -/
theorem Walk.turn {P : Program} {Stop : Goroutine → World → Prop} {g g' : Goroutine} {w W : World} {es : Array Event} (hr : g.status = .running) (hs : ∀ d, stepG P main g (w.at d) = .go g' (W.at d) es) (hd : ∀ d, DR V (w.at d) (W.at d) es) (h : Walk P main (DR V) Stop g' W) : Walk P main (DR V) Stop g w :=
  Walk.step hr (fun _ => g') (fun d => W.at d) (fun _ => es) hs hd (fun d => h.back d)

theorem evR_rw {ad : Addr} (hf : Free V ad) : ∀ e ∈ (#[⟨.cell ad, false, true⟩, ⟨.cell ad, true, true⟩] : Array Event), EvR V e := by
  intro e he
  simp only [List.mem_toArray, List.mem_cons, List.not_mem_nil, or_false] at he
  rcases he with rfl | rfl
  · exact evR_read _ _
  · exact evR_write _ _ hf

set_option maxHeartbeats 8000000 in
set_option maxRecDepth 100000 in
theorem load63 (ad : Addr) (v : Int) (w : World) (hc : w.cell? ad = some (.int .i64 v)) : CallV Try.prog main V 63 #[.pointer (some ad)] w (.int .i64 v) w := by
  refine callW_in Try.func63 rfl fun fr cs => ?_
  simp only [Try.ntmps63, List.size_toArray, List.length_cons, List.length_nil, Nat.reduceAdd, Nat.reduceSub, Array.replicate_succ, Array.replicate_zero, List.push_toArray, List.append_toArray, List.nil_append, List.cons_append]
  repeat (first | (refine Walk.c rfl ?_) | (refine Walk.cReg ?_; simp only [List.size_toArray, List.length_cons, List.length_nil, Nat.reduceAdd, Nat.zero_add, List.range, List.range.loop]) | (refine Walk.cRet ?_) | (refine Walk.cEnd ?_) | (refine Walk.opq (ho_of (by conv => lhs; whnf) (by kernel_rfl)) (by rfl) (by decide) (fun dd e he => ?_) (fun dd K hK => ?_); (· (simp [go_sem, *] at he; try (subst he; exact evR_read _ _))); go_simp; refine hK _ ?_; clear hK K; try walk_nrm) | (refine Walk.ctl rfl (fun w => stepG_unwanted (ho_of (by conv => lhs; whnf) (by kernel_rfl)) (by rfl)) ?_; walk_nrm))
  refine Walk.evs (fun _ => #[⟨.cell ad, false, true⟩]) rfl (fun d => stepG_load_atomic (w := w.at d) rfl (by rfl) (by decide) rfl Try.func98 (by kernel_rfl) (by rfl) (by kernel_rfl) .i64 (by kernel_rfl) rfl hc) (fun d e he => by simp at he; subst he; exact evR_read _ _) ?_
  walk_nrm
  repeat (first | (refine Walk.c rfl ?_) | (refine Walk.cReg ?_; simp only [List.size_toArray, List.length_cons, List.length_nil, Nat.reduceAdd, Nat.zero_add, List.range, List.range.loop]) | (refine Walk.cRet ?_) | (refine Walk.cEnd ?_) | (refine Walk.opq (ho_of (by conv => lhs; whnf) (by kernel_rfl)) (by rfl) (by decide) (fun dd e he => ?_) (fun dd K hK => ?_); (· (simp [go_sem, *] at he; try (subst he; exact evR_read _ _))); go_simp; refine hK _ ?_; clear hK K; try walk_nrm) | (refine Walk.ctl rfl (fun w => stepG_unwanted (ho_of (by conv => lhs; whnf) (by kernel_rfl)) (by rfl)) ?_; walk_nrm))
  exact Walk.ret1 rfl rfl Try.func63 rfl fun d => ⟨rfl, d, rfl⟩

set_option maxHeartbeats 8000000 in
set_option maxRecDepth 100000 in
theorem store69 (ad : Addr) (u : Value) (v : Int) (w : World) (hc : w.cell? ad = some u) (hz : w.frozen? ad = false) (hf : Free V ad) : CallV Try.prog main V 69 #[.pointer (some ad), .int .i64 v] w (.tuple #[]) (w.setCell ad (.int .i64 v)) := by
  refine callW_in Try.func69 rfl fun fr cs => ?_
  simp only [Try.ntmps69, List.size_toArray, List.length_cons, List.length_nil, Nat.reduceAdd, Nat.reduceSub, Array.replicate_succ, Array.replicate_zero, List.push_toArray, List.append_toArray, List.nil_append, List.cons_append]
  repeat (first | (refine Walk.c rfl ?_) | (refine Walk.cReg ?_; simp only [List.size_toArray, List.length_cons, List.length_nil, Nat.reduceAdd, Nat.zero_add, List.range, List.range.loop]) | (refine Walk.cRet ?_) | (refine Walk.cEnd ?_) | (refine Walk.opq (ho_of (by conv => lhs; whnf) (by kernel_rfl)) (by rfl) (by decide) (fun dd e he => ?_) (fun dd K hK => ?_); (· (simp [go_sem, *] at he; try (subst he; exact evR_read _ _))); go_simp; refine hK _ ?_; clear hK K; try walk_nrm) | (refine Walk.ctl rfl (fun w => stepG_unwanted (ho_of (by conv => lhs; whnf) (by kernel_rfl)) (by rfl)) ?_; walk_nrm))
  refine Walk.turn (W := w.setCell ad (.int .i64 v)) rfl (fun d => stepG_store_atomic (w := w.at d) rfl (by rfl) (by decide) rfl Try.func103 (by kernel_rfl) (by rfl) (by kernel_rfl) (by kernel_rfl) rfl rfl hc hz) (fun d => DR.set' hf hc d _ (fun e he => by simp at he; subst he; exact evR_write _ _ hf)) ?_
  walk_nrm
  repeat (first | (refine Walk.c rfl ?_) | (refine Walk.cReg ?_; simp only [List.size_toArray, List.length_cons, List.length_nil, Nat.reduceAdd, Nat.zero_add, List.range, List.range.loop]) | (refine Walk.cRet ?_) | (refine Walk.cEnd ?_) | (refine Walk.opq (ho_of (by conv => lhs; whnf) (by kernel_rfl)) (by rfl) (by decide) (fun dd e he => ?_) (fun dd K hK => ?_); (· (simp [go_sem, *] at he; try (subst he; exact evR_read _ _))); go_simp; refine hK _ ?_; clear hK K; try walk_nrm) | (refine Walk.ctl rfl (fun w => stepG_unwanted (ho_of (by conv => lhs; whnf) (by kernel_rfl)) (by rfl)) ?_; walk_nrm))
  exact Walk.ret0 rfl rfl Try.func69 rfl fun d => ⟨rfl, d, rfl⟩

set_option maxHeartbeats 8000000 in
set_option maxRecDepth 100000 in
theorem add105 (ad : Addr) (v x : Int) (w : World) (hc : w.cell? ad = some (.int .i64 v)) (hz : w.frozen? ad = false) (hf : Free V ad) : CallV Try.prog main V 105 #[.pointer (some ad), .int .i64 x] w (.int .i64 (IntKind.i64.wrap (v + x))) (w.setCell ad (.int .i64 (IntKind.i64.wrap (v + x)))) := by
  refine callW_in Try.func105 rfl fun fr cs => ?_
  simp only [Try.ntmps105, List.size_toArray, List.length_cons, List.length_nil, Nat.reduceAdd, Nat.reduceSub, Array.replicate_succ, Array.replicate_zero, List.push_toArray, List.append_toArray, List.nil_append, List.cons_append]
  repeat (first | (refine Walk.c rfl ?_) | (refine Walk.cReg ?_; simp only [List.size_toArray, List.length_cons, List.length_nil, Nat.reduceAdd, Nat.zero_add, List.range, List.range.loop]) | (refine Walk.cRet ?_) | (refine Walk.cEnd ?_) | (refine Walk.opq (ho_of (by conv => lhs; whnf) (by kernel_rfl)) (by rfl) (by decide) (fun dd e he => ?_) (fun dd K hK => ?_); (· (simp [go_sem, *] at he; try (subst he; exact evR_read _ _))); go_simp; refine hK _ ?_; clear hK K; try walk_nrm) | (refine Walk.ctl rfl (fun w => stepG_unwanted (ho_of (by conv => lhs; whnf) (by kernel_rfl)) (by rfl)) ?_; walk_nrm))
  refine Walk.turn (W := w.setCell ad (.int .i64 (IntKind.i64.wrap (v + x)))) rfl (fun d => stepG_add_atomic (w := w.at d) rfl (by rfl) (by decide) rfl Try.func119 (by kernel_rfl) (by rfl) (by kernel_rfl) .i64 (by kernel_rfl) rfl rfl hc hz) (fun d => DR.set' hf hc d _ (evR_rw hf)) ?_
  walk_nrm
  repeat (first | (refine Walk.c rfl ?_) | (refine Walk.cReg ?_; simp only [List.size_toArray, List.length_cons, List.length_nil, Nat.reduceAdd, Nat.zero_add, List.range, List.range.loop]) | (refine Walk.cRet ?_) | (refine Walk.cEnd ?_) | (refine Walk.opq (ho_of (by conv => lhs; whnf) (by kernel_rfl)) (by rfl) (by decide) (fun dd e he => ?_) (fun dd K hK => ?_); (· (simp [go_sem, *] at he; try (subst he; exact evR_read _ _))); go_simp; refine hK _ ?_; clear hK K; try walk_nrm) | (refine Walk.ctl rfl (fun w => stepG_unwanted (ho_of (by conv => lhs; whnf) (by kernel_rfl)) (by rfl)) ?_; walk_nrm))
  exact Walk.ret1 rfl rfl Try.func105 rfl fun d => ⟨rfl, d, rfl⟩

set_option maxHeartbeats 8000000 in
set_option maxRecDepth 100000 in
theorem cas64_hit (ad : Addr) (v x : Int) (w : World) (hc : w.cell? ad = some (.int .i64 v)) (hz : w.frozen? ad = false) (hf : Free V ad) : CallV Try.prog main V 64 #[.pointer (some ad), .int .i64 v, .int .i64 x] w (.bool true) (w.setCell ad (.int .i64 x)) := by
  refine callW_in Try.func64 rfl fun fr cs => ?_
  simp only [Try.ntmps64, List.size_toArray, List.length_cons, List.length_nil, Nat.reduceAdd, Nat.reduceSub, Array.replicate_succ, Array.replicate_zero, List.push_toArray, List.append_toArray, List.nil_append, List.cons_append]
  repeat (first | (refine Walk.c rfl ?_) | (refine Walk.cReg ?_; simp only [List.size_toArray, List.length_cons, List.length_nil, Nat.reduceAdd, Nat.zero_add, List.range, List.range.loop]) | (refine Walk.cRet ?_) | (refine Walk.cEnd ?_) | (refine Walk.opq (ho_of (by conv => lhs; whnf) (by kernel_rfl)) (by rfl) (by decide) (fun dd e he => ?_) (fun dd K hK => ?_); (· (simp [go_sem, *] at he; try (subst he; exact evR_read _ _))); go_simp; refine hK _ ?_; clear hK K; try walk_nrm) | (refine Walk.ctl rfl (fun w => stepG_unwanted (ho_of (by conv => lhs; whnf) (by kernel_rfl)) (by rfl)) ?_; walk_nrm))
  refine Walk.turn (W := w.setCell ad (.int .i64 x)) rfl (fun d => stepG_cas_hit (w := w.at d) rfl (by rfl) (by decide) rfl Try.func99 (by kernel_rfl) (by rfl) (by kernel_rfl) .i64 (by kernel_rfl) rfl rfl rfl hc hz) (fun d => DR.set' hf hc d _ (evR_rw hf)) ?_
  walk_nrm
  repeat (first | (refine Walk.c rfl ?_) | (refine Walk.cReg ?_; simp only [List.size_toArray, List.length_cons, List.length_nil, Nat.reduceAdd, Nat.zero_add, List.range, List.range.loop]) | (refine Walk.cRet ?_) | (refine Walk.cEnd ?_) | (refine Walk.opq (ho_of (by conv => lhs; whnf) (by kernel_rfl)) (by rfl) (by decide) (fun dd e he => ?_) (fun dd K hK => ?_); (· (simp [go_sem, *] at he; try (subst he; exact evR_read _ _))); go_simp; refine hK _ ?_; clear hK K; try walk_nrm) | (refine Walk.ctl rfl (fun w => stepG_unwanted (ho_of (by conv => lhs; whnf) (by kernel_rfl)) (by rfl)) ?_; walk_nrm))
  exact Walk.ret1 rfl rfl Try.func64 rfl fun d => ⟨rfl, d, rfl⟩

set_option maxHeartbeats 8000000 in
set_option maxRecDepth 100000 in
theorem cas64_miss (ad : Addr) (v old x : Int) (w : World) (hc : w.cell? ad = some (.int .i64 v)) (hz : w.frozen? ad = false) (hne : ¬ v = old) : CallV Try.prog main V 64 #[.pointer (some ad), .int .i64 old, .int .i64 x] w (.bool false) w := by
  refine callW_in Try.func64 rfl fun fr cs => ?_
  simp only [Try.ntmps64, List.size_toArray, List.length_cons, List.length_nil, Nat.reduceAdd, Nat.reduceSub, Array.replicate_succ, Array.replicate_zero, List.push_toArray, List.append_toArray, List.nil_append, List.cons_append]
  repeat (first | (refine Walk.c rfl ?_) | (refine Walk.cReg ?_; simp only [List.size_toArray, List.length_cons, List.length_nil, Nat.reduceAdd, Nat.zero_add, List.range, List.range.loop]) | (refine Walk.cRet ?_) | (refine Walk.cEnd ?_) | (refine Walk.opq (ho_of (by conv => lhs; whnf) (by kernel_rfl)) (by rfl) (by decide) (fun dd e he => ?_) (fun dd K hK => ?_); (· (simp [go_sem, *] at he; try (subst he; exact evR_read _ _))); go_simp; refine hK _ ?_; clear hK K; try walk_nrm) | (refine Walk.ctl rfl (fun w => stepG_unwanted (ho_of (by conv => lhs; whnf) (by kernel_rfl)) (by rfl)) ?_; walk_nrm))
  refine Walk.evs (fun _ => #[⟨.cell ad, false, true⟩]) rfl (fun d => stepG_cas_miss (w := w.at d) rfl (by rfl) (by decide) rfl Try.func99 (by kernel_rfl) (by rfl) (by kernel_rfl) .i64 (by kernel_rfl) rfl rfl rfl hc hz hne) (fun d e he => by simp at he; subst he; exact evR_read _ _) ?_
  walk_nrm
  repeat (first | (refine Walk.c rfl ?_) | (refine Walk.cReg ?_; simp only [List.size_toArray, List.length_cons, List.length_nil, Nat.reduceAdd, Nat.zero_add, List.range, List.range.loop]) | (refine Walk.cRet ?_) | (refine Walk.cEnd ?_) | (refine Walk.opq (ho_of (by conv => lhs; whnf) (by kernel_rfl)) (by rfl) (by decide) (fun dd e he => ?_) (fun dd K hK => ?_); (· (simp [go_sem, *] at he; try (subst he; exact evR_read _ _))); go_simp; refine hK _ ?_; clear hK K; try walk_nrm) | (refine Walk.ctl rfl (fun w => stepG_unwanted (ho_of (by conv => lhs; whnf) (by kernel_rfl)) (by rfl)) ?_; walk_nrm))
  exact Walk.ret1 rfl rfl Try.func64 rfl fun d => ⟨rfl, d, rfl⟩

end Go.Proofs.Ytgiiicdpbdfemaa
end
