/- Part 3. -/
import Derived.Test.YtdcjgmlgmjjogaaJ2
import Derived.Lib.MinMax
import Derived.Conc.DeferLaws
import Derived.Conc.AppendWalk
import Derived.Conc.AppendEvents2
import Derived.Deep.AppendLies
import Derived.Conc.SmallLaws
set_option linter.unusedSimpArgs false
set_option maxHeartbeats 8000000
set_option maxRecDepth 100000
namespace Go.Relay
section
open Go.Conc Go.RowKit
section
variable {P : Program} {main : Bool} {v : Wait} {g : Goroutine}
def Yonder (P : Program) (main : Bool) (v : Wait) (g : Goroutine) : Prop := ∃ B k, ∀ w, Goes P main (RK v.K) (DS v.S B) (fun g _ => ∃ g₂, AtIn P main v.K v.S B v.seat g g₂) k g w
theorem Yonder.waits (h : Yonder P main v g) : ∃ B k, Waits P main B v k g := by
  obtain ⟨B, k, h⟩ := h
  exact ⟨B, k + 1, .inl ⟨k, default, rfl, h default⟩⟩
theorem ds_mono {S : Loc → Prop} {B B' : Nat} (hB : B ≤ B') (w w' : World) (es : Array Event) (h : DS S B w w' es) : DS S B' w w' es := ⟨h.1, fun e he => evC_mono hB (h.2 e he)⟩
theorem Yonder.step (hr : g.status = .running) (h : ∃ g' B', Yonder P main v g' ∧ ∀ w, v.K w → ∃ es, stepG P main g w = .go g' w es ∧ ∀ e ∈ es, EvC v.S B' e) : Yonder P main v g := by
  obtain ⟨g', B', ⟨B, k, hW⟩, hs⟩ := h
  refine ⟨max B B', k + 1, fun w => Goes.step hr fun w₁ h₁ => ?_⟩
  obtain ⟨es, he, hes⟩ := hs w₁ h₁
  rw [he, goes_go]
  exact ⟨⟨rfl, fun e hm => evC_mono (Nat.le_max_right _ _) (hes e hm)⟩, goes_mono (ds_mono (Nat.le_max_left _ _)) (fun _ _ ⟨g₂, h⟩ => ⟨g₂, atIn_mono (Nat.le_max_left _ _) h⟩) (hW w₁)⟩
theorem Yonder.ctl {g' : Goroutine} (hr : g.status = .running) (hs : ∀ w, stepG P main g w = .go g' w) (h : Yonder P main v g') : Yonder P main v g :=
  .step hr ⟨g', 0, h, fun w _ => ⟨#[], hs w, by simp⟩⟩
variable {b : Frame} {a : Act} {k : List Item} {cs : List Frame} {ops : Array Oper} {i : Nat} {rest : List Nat} {o : Oper}
theorem Yonder.op {x : Value} {B : Nat} (ho : ops[i]? = some o) (hw : Region.wanted o (yielded ops a.tmps) = true) (hk : b.kind ≠ .early)
    (hr : ∀ w, v.K w → ∀ K : Result Next → Prop, K (.ok (.value x) w) → K ((execOp a.eval o).run P w)) (he : ∀ w, v.K w → ∀ e ∈ (execOp a.eval o).events P w #[], EvC v.S B e) (h : Yonder P main v (G (b.at (a.put o.dst x) (.inRegion ops rest :: k)) cs)) :
    Yonder P main v (G (b.at a (.inRegion ops (i :: rest) :: k)) cs) :=
  .step rfl ⟨_, B, h, fun w hK => ⟨_, stepG_value ho hw hk (run_eq_of (hr w hK)), fun e hm => he w hK e (mem_listed hm)⟩⟩
theorem Yonder.opq {x : Value} (ho : ops[i]? = some o) (hw : Region.wanted o (yielded ops a.tmps) = true) (hk : b.kind ≠ .early)
    (hr : ∀ w, v.K w → ∀ K : Result Next → Prop, K (.ok (.value x) w) → K ((execOp a.eval o).run P w)) (he : ∀ w, v.K w → ∀ e ∈ (execOp a.eval o).events P w #[], False) (h : Yonder P main v (G (b.at (a.put o.dst x) (.inRegion ops rest :: k)) cs)) :
    Yonder P main v (G (b.at a (.inRegion ops (i :: rest) :: k)) cs) := Yonder.op (B := 0) ho hw hk hr (fun w hK e he' => (he w hK e he').elim) h
theorem Yonder.oq {x : Value} (h : Yonder P main v (G (b.at (a.put o.dst x) (.inRegion ops rest :: k)) cs)) (ho : ops[i]? = some o := by rfl) (hw : Region.wanted o (yielded ops a.tmps) = true := by rfl) (hk : b.kind ≠ .early := by decide)
    (hr : ∀ w, v.K w → ∀ K : Result Next → Prop, K (.ok (.value x) w) → K ((execOp a.eval o).run P w) := by intro w hw K hK; go_simp; exact hK) (he : ∀ w, v.K w → ∀ e ∈ (execOp a.eval o).events P w #[], False := by intro w hw e he; simp [go_sem, *] at he; done) : Yonder P main v (G (b.at a (.inRegion ops (i :: rest) :: k)) cs) := Yonder.opq ho hw hk hr he h
theorem Yonder.c {k' : List Item} (h : ctlNext a k = some k') (hw : Yonder P main v (G (b.at a k') cs)) : Yonder P main v (G (b.at a k) cs) := Yonder.ctl rfl (fun _ => ctl_next h) hw
theorem Yonder.cR {l : List Nat} {id : Nat} (h : Yonder P main v (G (b.at a (.inRegion ops l :: k)) cs)) (hl : List.range ops.size = l := by (simp only [List.size_toArray, List.length_cons, List.length_nil, Nat.reduceAdd, Nat.zero_add, List.range, List.range.loop]; first | done | rfl)) : Yonder P main v (G (b.at a (.code (.region id ops false) :: k)) cs) := Yonder.ctl rfl (fun _ => stepG_region) (hl ▸ h)
theorem Yonder.cE (h : Yonder P main v (G { b.at a [] with mode := .returning } cs)) : Yonder P main v (G (b.at a []) cs) := Yonder.ctl rfl (fun _ => stepG_end) h
theorem Yonder.cT (h : Yonder P main v (G { b.at a (.code .ret :: k) with mode := .returning } cs)) : Yonder P main v (G (b.at a (.code .ret :: k)) cs) := Yonder.ctl rfl (fun _ => stepG_ret') h
theorem Yonder.ld {x y : Value} (c : Addr) (hc : v.f c = some y) (ho : ops[i]? = some o) (hw : Region.wanted o (yielded ops a.tmps) = true) (hk : b.kind ≠ .early)
    (hr : ∀ w, v.K w → ∀ K : Result Next → Prop, K (.ok (.value x) w) → K ((execOp a.eval o).run P w)) (he : ∀ w, v.K w → ∀ e ∈ (execOp a.eval o).events P w #[], e = ⟨.cell c, false, false⟩) (h : Yonder P main v (G (b.at (a.put o.dst x) (.inRegion ops rest :: k)) cs)) :
    Yonder P main v (G (b.at a (.inRegion ops (i :: rest) :: k)) cs) := Yonder.op (B := c.block + 1) ho hw hk hr (fun w hK e he' => ⟨c, he w hK e he', ⟨c, y, rfl, hc⟩, Nat.lt_succ_self _⟩) h
theorem Yonder.call {f : FuncId} {fn : Func} {c : Code} {args : Array Operand} {ats : Array TypeId} (ho : ops[i]? = some o) (hw : Region.wanted o (yielded ops a.tmps) = true) (hk : b.kind ≠ .early) (hop : o.op = .call { callee := .value (.func f), args, argTypes := ats })
    (hf : P.funcs[f]? = some fn) (hname : (fn.name == "runtime.NumGoroutine") = false) (hb : fn.body = some c)
    (h : Yonder P main v (G ((base f).at { tmps := args.map a.eval ++ Array.replicate (fn.ntmps - (args.map a.eval).size) undef, defers := [] } [.code c]) (b.at a (.inRegion ops (i :: rest) :: k) :: cs))) :
    Yonder P main v (G (b.at a (.inRegion ops (i :: rest) :: k)) cs) := by
  refine .ctl rfl (fun w => ?_) h
  have hb' : fn.body.isNone = false := by rw [hb]; rfl
  rw [stepG_enter ho hw hk (run_call_body hop hf hname hb'), enter_at _ hf hb]
  have : listed P b.fn a o w = #[] := by unfold listed; rw [events_call_body hop hf hname hb']; exact seen_none P _
  rw [this]
theorem Yonder.callE {f : FuncId} {fn : Func} {args : Array Operand} {ats : Array TypeId} (ho : ops[i]? = some o) (hw : Region.wanted o (yielded ops a.tmps) = true) (hk : b.kind ≠ .early) (hop : o.op = .call { callee := .value (.func f), args, argTypes := ats })
    (hf : P.funcs[f]? = some fn) (hname : (fn.name == "runtime.NumGoroutine") = false) (hb : fn.body.isNone = false) (h : Yonder P main v (G (Frame.enter P f (args.map a.eval) .normal) (b.at a (.inRegion ops (i :: rest) :: k) :: cs))) :
    Yonder P main v (G (b.at a (.inRegion ops (i :: rest) :: k)) cs) := by
  refine .ctl rfl (fun w => ?_) h
  rw [stepG_enter ho hw hk (run_call_body hop hf hname hb)]
  have : listed P b.fn a o w = #[] := by unfold listed; rw [events_call_body hop hf hname hb]; exact seen_none P _
  rw [this]
theorem Yonder.there (ho : ops[i]? = some o) (hw : Region.wanted o (yielded ops a.tmps) = true) (hk : b.kind ≠ .early)
    (hr : ∀ w, (execOp a.eval o).run P w = .ok (.comm #[rcase v.ch v.z] true (.recv v.ok)) w) (he : ∀ w, (execOp a.eval o).events P w #[] = #[]) (h : v.home (G (b.at a (.inRegion ops (i :: rest) :: k)) cs)) :
    Yonder P main v (G (b.at a (.inRegion ops (i :: rest) :: k)) cs) :=
  ⟨0, 0, fun _ _ _ => ⟨_, atIn_of (s := v.seat) ho hw hk (fun w => by rw [hr]; rfl) he h⟩⟩
end
end
section
open Go.Conc Go.RowKit
section
variable {P : Program} (w : World)
theorem events_max_ints (ts : Array TypeId) (t : TypeId) (k k' : IntKind) (x y : Int) (es : Array Event) : (Builtin.max_ ts t #[.int k x, .int k' y]).events P w es = es := by
  simp [Builtin.max_, Builtin.max2]
theorem events_min_ints (ts : Array TypeId) (t : TypeId) (k k' : IntKind) (x y : Int) (es : Array Event) : (Builtin.min_ ts t #[.int k x, .int k' y]).events P w es = es := by
  simp [Builtin.min_, Builtin.min2]
theorem ev_store_bool (P : Program) (es : Array Event) (a : Addr) (x : Bool) (m : Mode) : (store a (.bool x) m).events P w es = storedEv P w es a (.bool x) m := events_store P w es a _ m rfl
theorem ev_store_int (P : Program) (es : Array Event) (a : Addr) (k : IntKind) (x : Int) (m : Mode) : (store a (.int k x) m).events P w es = storedEv P w es a (.int k x) m := events_store P w es a _ m rfl
theorem ev_store_slice (P : Program) (es : Array Event) (a : Addr) (b : Option Addr) (n c : Nat) (m : Mode) : (store a (.slice b n c) m).events P w es = storedEv P w es a (.slice b n c) m := events_store P w es a _ m rfl
theorem ev_store_pointer (P : Program) (es : Array Event) (a : Addr) (b : Option Addr) (m : Mode) : (store a (.pointer b) m).events P w es = storedEv P w es a (.pointer b) m := events_store P w es a _ m rfl
theorem cell_lt {a : Addr} {v : Value} (h : w.cell? a = some v) : a.block < w.heap.size := by
  unfold World.cell? at h
  split at h
  · rename_i h'; exact (Array.getElem?_eq_some_iff.1 h').1
  · cases h
theorem cell_alloc {a : Addr} {v : Value} (o : Obj) (h : w.cell? a = some v) : (w.alloc o).cell? a = some v := (World.cell?_alloc_lt _ _ _ (cell_lt w h)).trans h
theorem frozen_alloc {a : Addr} {v : Value} {x : Bool} (o : Obj) (h : w.cell? a = some v) (hz : w.frozen? a = x) : (w.alloc o).frozen? a = x := by
  have hlt := cell_lt w h
  rw [← hz]
  unfold World.frozen?
  rw [Below.heap_alloc _ _ _ hlt]
end
end
section
open Go.Conc Go.RowKit
section
variable {P : Program} {main : Bool} {V : Nat → Option Wait} {Stop : Goroutine → World → Prop} {w : World} {b fr c : Frame} {a : Act} {k : List Item} {cs : List Frame} {ops : Array Oper} {i : Nat} {rest : List Nat} {o : Oper}
theorem stepG_raise {x : Value} (ho : ops[i]? = some o) (hw : Region.wanted o (yielded ops a.tmps) = true) (hk : b.kind ≠ .early) (hr : (execOp a.eval o).run P w = .halt (.panic x) w) (he : (execOp a.eval o).events P w #[] = #[]) :
    stepG P main (G (b.at a (.inRegion ops (i :: rest) :: k)) cs) w = .go (G { b.at a (.inRegion ops (i :: rest) :: k) with mode := .panicking [{ v := x, recovered := false }] } cs) w := by
  have hk' : (b.kind == CallKind.early) = false := by simpa using hk
  rw [stepG_oper ho hw]
  simp [stepG.apply, hr, he, G, Frame.at, Frame.raise, hk', GStep.after, seen_none]
theorem stepG_pop {chain : List PanicEntry} (hm : fr.mode = .panicking chain) (hd : fr.defers = []) (hc : fr.catches P = false) : stepG P main (G fr (c :: cs)) w = .go (G (c.raise chain) cs) w := by
  simp [G, stepG, unwind, hm, hd, hc]
theorem stepG_deferred {d : Deferred} {ds : List Deferred} {f : FuncId} {fn : Func} {cap : Array Value} (hm : fr.mode ≠ .run) (hd : fr.defers = d :: ds) (ht : d.target = .fn (.func f) cap) (hf : P.funcs[f]? = some fn)
    (hname : (fn.name == "runtime.NumGoroutine") = false) (hb : fn.body.isNone = false) :
    stepG P main (G fr cs) w = .go (G (Frame.enter P f (d.args ++ cap) .deferred) ({ fr with defers := ds } :: cs)) w := by
  have h1 : ¬ fn.name = "runtime.NumGoroutine" := by simpa using hname
  have h2 : ¬ fn.body = none := by cases hx : fn.body <;> simp_all
  obtain ⟨t, ars⟩ := d
  subst ht
  have hs : stepG P main (G fr cs) w = unwind P main fr cs none w := by
    cases hmm : fr.mode <;> simp_all [G, stepG]
  rw [hs]
  simp [unwind, hd, callDeferred, invoke, callFunc, hf, h1, h2, GStep.after, seen_none, G]
theorem stepG_recover {v : Value} {older : List PanicEntry} {ats : Array TypeId} (ho : ops[i]? = some o) (hw : Region.wanted o (yielded ops a.tmps) = true) (hk : b.kind = .deferred) (hop : o.op = .call { callee := .builtin .recover, args := #[], argTypes := ats })
    (hc : c.mode = .panicking ({ v, recovered := false, goexit := false } :: older)) :
    stepG P main (G (b.at a (.inRegion ops (i :: rest) :: k)) (c :: cs)) w = .go (G (b.at (a.put o.dst v) (.inRegion ops rest :: k)) ({ c with mode := .panicking ({ v, recovered := true } :: older) } :: cs)) w := by
  have hrun : (execOp a.eval o).run P w = .ok .recover w := by
    unfold execOp
    simp [hop, resolve, invoke, builtin]
  have hev : (execOp a.eval o).events P w #[] = #[] := by
    unfold execOp
    simp [hop, resolve, invoke, builtin]
  have hfin : (b.at a (.inRegion ops (i :: rest) :: k)).finish v = b.at (a.put o.dst v) (.inRegion ops rest :: k) := by rw [Frame.finish_at, ho]; rfl
  rw [stepG_oper ho hw, ← hfin]
  simp [stepG.apply, hrun, hev, G, Frame.at, hk, GStep.after, seen_none, tryRecover, hc]
theorem stepG_recoverNone {ats : Array TypeId} (ho : ops[i]? = some o) (hw : Region.wanted o (yielded ops a.tmps) = true) (hk : b.kind = .deferred) (hop : o.op = .call { callee := .builtin .recover, args := #[], argTypes := ats })
    (hc : c.mode = .returning) :
    stepG P main (G (b.at a (.inRegion ops (i :: rest) :: k)) (c :: cs)) w = .go (G (b.at (a.put o.dst .nilIface) (.inRegion ops rest :: k)) (c :: cs)) w := by
  have hrun : (execOp a.eval o).run P w = .ok .recover w := by
    unfold execOp
    simp [hop, resolve, invoke, builtin]
  have hev : (execOp a.eval o).events P w #[] = #[] := by
    unfold execOp
    simp [hop, resolve, invoke, builtin]
  have hfin : (b.at a (.inRegion ops (i :: rest) :: k)).finish .nilIface = b.at (a.put o.dst .nilIface) (.inRegion ops rest :: k) := by rw [Frame.finish_at, ho]; rfl
  rw [stepG_oper ho hw, ← hfin]
  simp [stepG.apply, hrun, hev, G, Frame.at, hk, GStep.after, seen_none, tryRecover, hc]
theorem stepG_leaveRecovered {todo : List Item} {fn : Func} {v x : Value} (hn : b.kind = .deferred) (hd : a.defers = []) (hf : P.funcs[b.fn]? = some fn) (hr : (results fn a.tmps).run P w = .ok x w) (he : (results fn a.tmps).events P w #[] = #[])
    (hc : c.mode = .panicking [{ v, recovered := true }]) :
    stepG P main (G { b.at a todo with mode := .returning } (c :: cs)) w = .go (G { c with mode := .returning } cs) w := by
  simp [G, stepG, unwind, doReturn, Frame.at, hn, hd, hf, hr, he, hc, seen, GStep.after]
theorem stepG_leaveReturning {todo : List Item} {fn : Func} {x : Value} (hn : b.kind = .deferred) (hd : a.defers = []) (hf : P.funcs[b.fn]? = some fn) (hr : (results fn a.tmps).run P w = .ok x w) (he : (results fn a.tmps).events P w #[] = #[]) (hc : c.mode = .returning) :
    stepG P main (G { b.at a todo with mode := .returning } (c :: cs)) w = .go (G c cs) w := by
  simp [G, stepG, unwind, doReturn, Frame.at, hn, hd, hf, hr, he, hc, seen, GStep.after]
theorem stepG_deferClose {ds : List Deferred} {ats : Array TypeId} {t : TypeId} {cons : Array Bool} {ch : Nat} {kk : Nat} (hm : fr.mode = .returning) (hd : fr.defers = { target := .builtin .close ats t cons, args := #[.chan (some ch)] } :: ds)
    (hq : (P.funcs[fr.fn]?).any (·.norace) = false) (hc : w.heap[ch]? = some (.chan 0 #[] false kk kk false)) :
    stepG P main (G fr cs) w = .go (G { fr with defers := ds } cs) (w.setChan ch 0 #[] true kk kk false) (closeEvents ch) := by
  have hr : (invoke (.builtin .close ats t cons) #[.chan (some ch)]).run P w = .ok (.value (.tuple #[])) (w.setChan ch 0 #[] true kk kk false) := by
    simp [invoke, builtin, run_close_open _ _ hc, World.setChan]
  have he : (invoke (.builtin .close ats t cons) #[.chan (some ch)]).events P w #[] = closeEvents ch := by
    simp [invoke, builtin, events_close_open _ _ hc, closeEvents]
  have hs : seen P fr.fn (closeEvents ch) = closeEvents ch := seen_eq hq (by intro e he f; simp only [closeEvents, List.mem_toArray, List.mem_cons, List.not_mem_nil, or_false] at he; rcases he with rfl | rfl <;> simp)
  simp [G, stepG, unwind, hm, hd, callDeferred, hr, he, hs, GStep.after]
theorem stepG_deferOp {d : Deferred} (ho : ops[i]? = some o) (hw : Region.wanted o (yielded ops a.tmps) = true) (hk : b.kind ≠ .early) (hr : (execOp a.eval o).run P w = .ok (.defer d) w) (he : (execOp a.eval o).events P w #[] = #[]) :
    stepG P main (G (b.at a (.inRegion ops (i :: rest) :: k)) cs) w = .go (G (b.at (Act.put ⟨a.tmps, d :: a.defers⟩ o.dst undef) (.inRegion ops rest :: k)) cs) w #[] := by
  have hfin : (b.at ⟨a.tmps, d :: a.defers⟩ (.inRegion ops (i :: rest) :: k)).finish undef = b.at (Act.put ⟨a.tmps, d :: a.defers⟩ o.dst undef) (.inRegion ops rest :: k) := by rw [Frame.finish_at, ho]; rfl
  have hk' : (b.kind == CallKind.early) = false := by simpa using hk
  rw [stepG_oper ho hw, ← hfin]
  simp [stepG.apply, hr, he, G, Frame.at, hk', GStep.after, seen_none]
theorem stepG_callValue {f : FuncId} {fn : Func} {x : Operand} {args : Array Operand} {ats : Array TypeId} {first cap : Array Value} (ho : ops[i]? = some o) (hw : Region.wanted o (yielded ops a.tmps) = true) (hk : b.kind ≠ .early)
    (hop : o.op = .call { callee := .value x, args, argTypes := ats }) (hx : a.eval x = .func (.func f) first cap) (hf : P.funcs[f]? = some fn) (hname : (fn.name == "runtime.NumGoroutine") = false) (hb : fn.body.isNone = false) :
    stepG P main (G (b.at a (.inRegion ops (i :: rest) :: k)) cs) w = .go (G (Frame.enter P f (first ++ args.map a.eval ++ cap) .normal) (b.at a (.inRegion ops (i :: rest) :: k) :: cs)) w := by
  have h1 : ¬ fn.name = "runtime.NumGoroutine" := by simpa using hname
  have h2 : ¬ fn.body = none := by cases hx : fn.body <;> simp_all
  have hr : (execOp a.eval o).run P w = .ok (.enter f (first ++ args.map a.eval ++ cap)) w := by
    unfold execOp
    simp [hop, resolve, Deferred.ofValue, invoke, callFunc, hf, h1, h2, hx]
  have he : (execOp a.eval o).events P w #[] = #[] := by
    unfold execOp
    simp [hop, resolve, Deferred.ofValue, invoke, callFunc, hf, h1, h2, hx]
  rw [stepG_enter ho hw hk hr]
  have : listed P b.fn a o w = #[] := by unfold listed; rw [he]; exact seen_none P _
  rw [this]
theorem run_assert_same (t s : TypeId) (v : Value) {u : TypeDesc} (hu : P.underlying t = some u) (h : ∀ ms, u ≠ .interface ms) : (Instr.typeAssert (.iface t v) s t true).run P w = .ok (.tuple #[v, .bool true]) w := by
  cases u <;> first | (exact absurd rfl (h _)) | simp [Instr.typeAssert, run_underlying hu]
theorem run_assert_other (t t' s : TypeId) (v z : Value) {u : TypeDesc} (hu : P.underlying t = some u) (h : ∀ ms, u ≠ .interface ms) (ht : t' ≠ t) (hz : (zeroValue t).run P w = .ok z w) : (Instr.typeAssert (.iface t' v) s t true).run P w = .ok (.tuple #[z, .bool false]) w := by
  cases u <;> first | (exact absurd rfl (h _)) | simp [Instr.typeAssert, run_underlying hu, ht, hz]
theorem ev_assert_same (t s : TypeId) (v : Value) (es : Array Event) {u : TypeDesc} (hu : P.underlying t = some u) (h : ∀ ms, u ≠ .interface ms) : (Instr.typeAssert (.iface t v) s t true).events P w es = es := by
  cases u <;> first | (exact absurd rfl (h _)) | simp [Instr.typeAssert, run_underlying hu]
theorem ev_assert_other (t t' s : TypeId) (v : Value) (es : Array Event) {u : TypeDesc} (hu : P.underlying t = some u) (h : ∀ ms, u ≠ .interface ms) (ht : t' ≠ t) (hze : (zeroValue t).events P w es = es) : (Instr.typeAssert (.iface t' v) s t true).events P w es = es := by
  cases u <;> first | (exact absurd rfl (h _)) | simp [Instr.typeAssert, run_underlying hu, ht, hze]
theorem stepG_leaveF {fn : Func} {v : Value} (hm : fr.mode = .returning) (hn : fr.kind = .normal) (hd : fr.defers = []) (hf : P.funcs[fr.fn]? = some fn) (hr : (results fn fr.tmps).run P w = .ok v w) :
    stepG P main (G fr (c :: cs)) w = .go (G (c.finish v) cs) w (seen P fr.fn ((results fn fr.tmps).events P w #[])) := by
  simp [G, stepG, unwind, doReturn, hm, hn, hd, hf, hr, GStep.after]
theorem Walk.evs {g g' : Goroutine} (E : Nat → Array Event) (hr : g.status = .running) (hs : ∀ d, stepG P main g (w.at d) = .go g' (w.at d) (E d)) (he : ∀ d, ∀ e ∈ E d, EvR V e) (h : Walk P main (DR V) Stop g' w) : Walk P main (DR V) Stop g w :=
  .step hr (fun _ => g') (fun d => w.at d) E hs (fun d => DR.quiet (he d)) fun d => h.back d
theorem run_eqIn_func (d : Nat) (t : TypeId) (f : Fn) (x y : Array Value) {a b c} (hu : P.underlying t = some (.func a b c)) : (Op.equalIn (d + 1) t (.func f x y) .nilFunc).run P w = .ok false w := by simp [Op.equalIn, run_underlying hu]
theorem ev_eqIn_func (d : Nat) (t : TypeId) (f : Fn) (x y : Array Value) (es : Array Event) {a b c} (hu : P.underlying t = some (.func a b c)) : (Op.equalIn (d + 1) t (.func f x y) .nilFunc).events P w es = es := by simp [Op.equalIn, run_underlying hu]
theorem run_neq_func (t : TypeId) (f : Fn) (x y : Array Value) {a b c} (hu : P.underlying t = some (.func a b c)) : (binOp .neq t (.func f x y) .nilFunc).run P w = .ok (.bool true) w := by
  simp only [binOp]
  simp [Op.equal, Op.maxDepth, run_eqIn_func (w := w) 9999 t f x y hu]
theorem ev_neq_func (t : TypeId) (f : Fn) (x y : Array Value) (es : Array Event) {a b c} (hu : P.underlying t = some (.func a b c)) : (binOp .neq t (.func f x y) .nilFunc).events P w es = es := by
  simp only [binOp]
  simp [Op.equal, Op.maxDepth, run_eqIn_func (w := w) 9999 t f x y hu, ev_eqIn_func (w := w) 9999 t f x y es hu]
theorem run_eqIn_nilFunc (d : Nat) (t : TypeId)  {a b c} (hu : P.underlying t = some (.func a b c)) : (Op.equalIn (d + 1) t .nilFunc .nilFunc).run P w = .ok true w := by simp [Op.equalIn, run_underlying hu]
theorem ev_eqIn_nilFunc (d : Nat) (t : TypeId)  (es : Array Event) {a b c} (hu : P.underlying t = some (.func a b c)) : (Op.equalIn (d + 1) t .nilFunc .nilFunc).events P w es = es := by simp [Op.equalIn, run_underlying hu]
theorem run_neq_nilFunc (t : TypeId)  {a b c} (hu : P.underlying t = some (.func a b c)) : (binOp .neq t .nilFunc .nilFunc).run P w = .ok (.bool false) w := by
  simp only [binOp]
  simp [Op.equal, Op.maxDepth, run_eqIn_nilFunc (w := w) 9999 t  hu]
theorem ev_neq_nilFunc (t : TypeId)  (es : Array Event) {a b c} (hu : P.underlying t = some (.func a b c)) : (binOp .neq t .nilFunc .nilFunc).events P w es = es := by
  simp only [binOp]
  simp [Op.equal, Op.maxDepth, run_eqIn_nilFunc (w := w) 9999 t  hu, ev_eqIn_nilFunc (w := w) 9999 t  es hu]
theorem run_eqIn_iface (d : Nat) (t : TypeId) (s : TypeId) (x : Value) {ms} (hu : P.underlying t = some (.interface ms)) : (Op.equalIn (d + 1) t (.iface s x) .nilIface).run P w = .ok false w := by simp [Op.equalIn, run_underlying hu]
theorem ev_eqIn_iface (d : Nat) (t : TypeId) (s : TypeId) (x : Value) (es : Array Event) {ms} (hu : P.underlying t = some (.interface ms)) : (Op.equalIn (d + 1) t (.iface s x) .nilIface).events P w es = es := by simp [Op.equalIn, run_underlying hu]
theorem run_neq_iface (t : TypeId) (s : TypeId) (x : Value) {ms} (hu : P.underlying t = some (.interface ms)) : (binOp .neq t (.iface s x) .nilIface).run P w = .ok (.bool true) w := by
  simp only [binOp]
  simp [Op.equal, Op.maxDepth, run_eqIn_iface (w := w) 9999 t s x hu]
theorem ev_neq_iface (t : TypeId) (s : TypeId) (x : Value) (es : Array Event) {ms} (hu : P.underlying t = some (.interface ms)) : (binOp .neq t (.iface s x) .nilIface).events P w es = es := by
  simp only [binOp]
  simp [Op.equal, Op.maxDepth, run_eqIn_iface (w := w) 9999 t s x hu, ev_eqIn_iface (w := w) 9999 t s x es hu]
theorem run_eqIn_nilIface (d : Nat) (t : TypeId)  {ms} (hu : P.underlying t = some (.interface ms)) : (Op.equalIn (d + 1) t .nilIface .nilIface).run P w = .ok true w := by simp [Op.equalIn, run_underlying hu]
theorem ev_eqIn_nilIface (d : Nat) (t : TypeId)  (es : Array Event) {ms} (hu : P.underlying t = some (.interface ms)) : (Op.equalIn (d + 1) t .nilIface .nilIface).events P w es = es := by simp [Op.equalIn, run_underlying hu]
theorem run_neq_nilIface (t : TypeId)  {ms} (hu : P.underlying t = some (.interface ms)) : (binOp .neq t .nilIface .nilIface).run P w = .ok (.bool false) w := by
  simp only [binOp]
  simp [Op.equal, Op.maxDepth, run_eqIn_nilIface (w := w) 9999 t  hu]
theorem ev_neq_nilIface (t : TypeId)  (es : Array Event) {ms} (hu : P.underlying t = some (.interface ms)) : (binOp .neq t .nilIface .nilIface).events P w es = es := by
  simp only [binOp]
  simp [Op.equal, Op.maxDepth, run_eqIn_nilIface (w := w) 9999 t  hu, ev_eqIn_nilIface (w := w) 9999 t  es hu]
end
end
section
open Go.Conc Go.RowKit
def Apart (V : Nat → Option Wait) (g : Nat) : Prop := (∀ a : Addr, a.block = g → Free V a) ∧ ∀ i u, V i = some u → u.ch ≠ g
section
variable {P : Program} {main : Bool} {V : Nat → Option Wait} {Stop : Goroutine → World → Prop} {w : World} {b : Frame} {a : Act} {k : List Item} {cs : List Frame} {ops : Array Oper} {i : Nat} {rest : List Nat} {o : Oper}
theorem evR_isRead {e : Event} (h : e.isRead) : EvR V e := by
  obtain ⟨ad, hl, hw⟩ := h
  obtain ⟨l, wr, s⟩ := e
  simp only at hl hw
  subst hl; subst hw
  exact evR_read ad s
theorem evR_cell {e : Event} {ad : Addr} (h : e.loc = .cell ad) (hf : Free V ad) : EvR V e := by
  obtain ⟨l, wr, s⟩ := e
  simp only at h
  subst h
  cases wr with
  | true => exact evR_write ad s hf
  | false => exact evR_read ad s
theorem evR_noRoom : EvR V ⟨.mark .noRoom, false, true⟩ := ⟨fun x hx => (by simp [MemAct.ofEvent, MemAct.touch?] at hx), by simp, by simp⟩
theorem DR.grown {w w' : World} {es : Array Event} {row : Option Nat} (hg : w.grownBy w' row) (hr : ∀ g, row = some g → Apart V g) (he : ∀ e ∈ es, EvR V e) : DR V w w' es := by
  refine ⟨fun i v e hK ad z hz => ?_, fun i v o e ho _ => ?_, he, ⟨hg.os, hg.output⟩⟩
  · have hc := hK ad z hz
    have hlt := cell_lt w hc
    rw [World.cell?_of_block (hg.block _ hlt fun e' => ?_)]
    · exact hc
    · rw [(hr _ e'.symm).1 ad rfl i v e] at hz; cases hz
  · rw [hg.block _ (Array.getElem?_eq_some_iff.1 ho).1 fun e' => (hr _ e'.symm).2 i v e rfl]
    exact ho
theorem Walk.append (s x : Operand) (t : TypeId) (ho : ops[i]? = some o) (hw : Region.wanted o (yielded ops a.tmps) = true) (hk : b.kind ≠ .early) (hop : o.op = .call { callee := .builtin .append, args := #[s, x], argTypes := #[t, t] })
    (base : Nat) (e : TypeId) (ti : TypeInfo) (z : Value) (size bytes : Nat) (ht : P.underlying t = some (.slice e)) (hi : P.info? e = some ti) (hz : ti.zero = some z) (hsize : ti.size = size) (hby : ti.bytes = bytes) (hzs : z.cells.size = size) (hsz : 0 < size)
    (v : Value) (n : Nat) (xs : List Value) (hs : a.eval s = v) (hown : w.ownsRow base e size v n xs)
    (ad : Addr) (m c : Nat) (news : List Value) (hx : a.eval x = .slice (some ad) m c) (hl : news.length = m * size) (hnews : ∀ j u, news[j]? = some u → w.cell? (ad.add j) = some u) (h1 : ∀ u ∈ news, u.oneCell' = true)
    (hm : 0 < m) (h63 : n + m ≤ maxLen) (hbytes : (n + m) * bytes ≤ 140737488355328) (hbase : base ≤ w.heap.size) (hap : ∀ g, v.ownBlock = some g → Apart V g)
    (h : ∀ g cap w', w'.ownsRow base e size (.slice (some ⟨g, 0, none⟩) (n + m) cap) (n + m) (xs ++ news) → w.grownBy w' v.ownBlock → (v.ownBlock = some g ∨ g = w.heap.size) → g < w'.heap.size →
      Walk P main (DR V) Stop (G (b.at (a.put o.dst (.slice (some ⟨g, 0, none⟩) (n + m) cap)) (.inRegion ops rest :: k)) cs) w') :
    Walk P main (DR V) Stop (G (b.at a (.inRegion ops (i :: rest) :: k)) cs) w := by
  refine Walk.go rfl fun d => goes_oper_k ho hw hk fun K hK => ?_
  obtain ⟨g, cap, w', hr, hown', hg, hat, hlt⟩ := run_append_lies (P := P) (w := w.at d) t o.type base e ti z size bytes ht hi hz hsize hby hzs hsz v n xs hown ad m c news hl hnews h1 hm h63 hbytes hbase w.heap.size rfl
  refine uponK_append s x t hop hs hx hr (hK _ _ ⟨DR.grown hg hap fun ev hev => ?_, h g cap w' hown' ⟨hg.os, hg.tape, hg.output, hg.size, hg.block⟩ hat hlt⟩)
  have hm' := mem_listed hev
  rw [events_append_op s x t hop hs hx] at hm'
  rcases events_append_own (w.at d) base t o.type e ti z size bytes ht hi hz hsize hby v n xs hown ad m c news hl hnews h1 h63 hbytes ev hm' with h' | ⟨ad', h', hb⟩ | ⟨mk, h', hn⟩
  · exact evR_isRead h'
  · exact evR_cell h' ((hap _ hb.symm).1 ad' rfl)
  · rw [h', show mk = .noRoom from hn]; exact evR_noRoom
end
end
section
open Go.Conc Go.RowKit
section
variable {P : Program} {main : Bool} {V : Nat → Option Wait} {Stop : Goroutine → World → Prop} {w : World} {b : Frame} {a : Act} {k : List Item} {cs : List Frame} {ops : Array Oper} {i : Nat} {rest : List Nat} {o : Oper}
theorem Walk.make (t : TypeId) (l c : Operand) (ho : ops[i]? = some o) (hw : Region.wanted o (yielded ops a.tmps) = true) (hk : b.kind ≠ .early) (hop : o.op = .makeSlice t l c)
    (e : TypeId) (ti : TypeInfo) (z : Value) (size bytes : Nat) (ht : P.underlying t = some (.slice e)) (hi : P.info? e = some ti) (hz : ti.zero = some z) (hsize : ti.size = size) (hby : ti.bytes = bytes)
    (n : Nat) (hl : a.eval l = .int .i64 n) (hc : a.eval c = .int .i64 n) (hbytes : n * bytes ≤ 140737488355328) (h63 : n ≤ 17592186044416)
    (h : Walk P main (DR V) Stop (G (b.at (a.put o.dst (.slice (some ⟨w.heap.size, 0, none⟩) n n)) (.inRegion ops rest :: k)) cs) (w.alloc (.cells (madeCells z.cells (n * size)) e))) :
    Walk P main (DR V) Stop (G (b.at a (.inRegion ops (i :: rest) :: k)) cs) w := by
  subst hsize
  subst hby
  have hb' : (ti.bytes : Int) * (n : Int) ≤ 281474976710656 := by
    have h : ((ti.bytes * n : Nat) : Int) ≤ 281474976710656 := by rw [Nat.mul_comm]; omega
    rwa [Int.natCast_mul] at h
  refine Walk.go rfl fun d => goes_oper_k ho hw hk fun K hK => ?_
  have hr := run_make (P := P) (w.at d) t e ti z ht hi hz .i64 .i64 n n (by omega) (Int.le_refl _) hb' (by omega)
  have he := events_make (P := P) (w.at d) t e ti z ht hi hz .i64 .i64 n n (by omega) (Int.le_refl _) hb' (by omega) (by simpa using hbytes) #[]
  simp only [Int.toNat_natCast] at hr
  have hx : (execOp a.eval o).run P (w.at d) = .ok (.value (.slice (some ⟨w.heap.size, 0, none⟩) n n)) ((w.alloc (.cells (madeCells z.cells (n * ti.size)) e)).at d) := by
    simp only [execOp, hop, hl, hc, Sem.run_bind, hr]
    rfl
  have hv : (execOp a.eval o).events P (w.at d) #[] = #[] := by
    simp only [execOp, hop, hl, hc, Sem.events_bind, hr, he]
    rfl
  rw [hx]
  refine hK _ _ ⟨DR.alloc' d _ fun ev hm => ?_, h.back d⟩
  have hm' := mem_listed hm
  rw [hv] at hm'
  exact absurd hm' (by simp)
theorem Walk.chan (t : TypeId) (n : Operand) (ho : ops[i]? = some o) (hw : Region.wanted o (yielded ops a.tmps) = true) (hk : b.kind ≠ .early) (hop : o.op = .makeChan t n)
    (dir : ChanDir) (e : TypeId) (ti : TypeInfo) (ht : P.underlying t = some (.chan dir e)) (hi : P.info? e = some ti) (hn : a.eval n = .int .i64 0)
    (h : Walk P main (DR V) Stop (G (b.at (a.put o.dst (.chan (some w.heap.size))) (.inRegion ops rest :: k)) cs) (w.alloc (.chan 0 #[] false 0 0 false))) :
    Walk P main (DR V) Stop (G (b.at a (.inRegion ops (i :: rest) :: k)) cs) w := by
  refine Walk.go rfl fun d => goes_oper_k ho hw hk fun K hK => ?_
  have hr := run_makeChan (P := P) (w := w.at d) ht hi .i64 0 (by decide) (by simp)
  have he := events_makeChan (P := P) (w := w.at d) ht hi .i64 0 (by decide) (by simp) #[]
  simp only [Int.ofNat_zero, Int.natCast_zero, Int.cast_ofNat_Int] at hr he
  have hx : (execOp a.eval o).run P (w.at d) = .ok (.value (.chan (some w.heap.size))) ((w.alloc (.chan 0 #[] false 0 0 false)).at d) := by
    simp only [execOp, hop, hn, Sem.run_bind, hr]
    rfl
  have hv : (execOp a.eval o).events P (w.at d) #[] = #[] := by
    simp only [execOp, hop, hn, Sem.events_bind, hr, he]
    rfl
  rw [hx]
  refine hK _ _ ⟨DR.alloc' d _ fun ev hm => ?_, h.back d⟩
  have hm' := mem_listed hm
  rw [hv] at hm'
  exact absurd hm' (by simp)
theorem Walk.callE {f : FuncId} {fn : Func} {args : Array Operand} {ats : Array TypeId} (ho : ops[i]? = some o) (hw : Region.wanted o (yielded ops a.tmps) = true) (hk : b.kind ≠ .early) (hop : o.op = .call { callee := .value (.func f), args, argTypes := ats })
    (hf : P.funcs[f]? = some fn) (hname : (fn.name == "runtime.NumGoroutine") = false) (hb : fn.body.isNone = false)
    (h : Walk P main (DR V) Stop (G (Frame.enter P f (args.map a.eval) .normal) (b.at a (.inRegion ops (i :: rest) :: k) :: cs)) w) :
    Walk P main (DR V) Stop (G (b.at a (.inRegion ops (i :: rest) :: k)) cs) w := by
  refine Walk.ctl rfl (fun w => ?_) h
  rw [stepG_enter ho hw hk (run_call_body hop hf hname hb)]
  have : listed P b.fn a o w = #[] := by unfold listed; rw [events_call_body hop hf hname hb]; exact seen_none P _
  rw [this]
theorem Walk.drawn {id : Nat} (hm : P.follows .mixedOrders = true) (hk : b.kind ≠ .early) {Q : Act → World → Prop}
    (h : ∀ d, AnyCH P AtRel (DR V) b.fn .any ops (fun e a' w' => e = .normal ∧ Q a' w') (fun _ => True) ops.size (Array.replicate ops.size false) a (w.at d))
    (hc : ∀ a' w', Q a' w' → Walk P main (DR V) Stop (G (b.at a' k) cs) w') : Walk P main (DR V) Stop (G (b.at a (.code (.region id ops true) :: k)) cs) w :=
  Walk.code (n := ops.size + 1 + 1) (Q := Q) (wpC_region_held termsR drawsR hm fun _ hr => by obtain ⟨d, rfl⟩ := hr; exact h (d + 1)) hk hc
theorem opC_new {W : World} {x : Value} {fn : FuncId} {d0 : Nat} {K : Act → World → Prop} (ho : ops[i]? = some o) (hw : Region.wanted o (yielded ops a.tmps) = true) (hr : ∀ d, (execOp a.eval o).run P (w.at d) = .ok (.value x) (W.at d)) (hd : ∀ d, DR V (w.at d) (W.at d) (listed P fn a o (w.at d)))
    (h : ∀ d, K (a.put o.dst x) (W.at d)) : OpC P AtRel (DR V) fn ops i K a (w.at d0) := by
  unfold OpC
  simp only [ho, hw, if_true]
  rintro _ ⟨d, rfl⟩
  have := hr d
  show uponK o a _ ((execOp a.eval o).run P (w.at d))
  rw [this]
  exact ⟨hd d, h d⟩
end
end
section
open Go.Conc Go.RowKit
section
variable (P : Program) (main : Bool) (V : Nat → Option Wait) (Stop : Goroutine → World → Prop) (b : Frame) (k : List Item) (cs : List Frame) (ops : Array Oper)
def OpW (i : Nat) (K : Act → World → Prop) (a : Act) (w : World) : Prop :=
  ∀ rest, (∀ a' w', K a' w' → Walk P main (DR V) Stop (G (b.at a' (.inRegion ops rest :: k)) cs) w') → Walk P main (DR V) Stop (G (b.at a (.inRegion ops (i :: rest) :: k)) cs) w
def AnyW (md : Region.Mode) (Q : Act → World → Prop) : Nat → Array Bool → Act → World → Prop
  | 0, listed, a, w => Region.ready md ops listed = [] ∧ Q a w
  | fuel + 1, listed, a, w => (Region.ready md ops listed = [] → Q a w) ∧ ∀ i ∈ Region.ready md ops listed, OpW P main V Stop b k cs ops i (fun a' w' => AnyW md Q fuel (listed.setIfInBounds i true) a' w') a w
end
section
variable {P : Program} {main : Bool} {V : Nat → Option Wait} {Stop : Goroutine → World → Prop} {b : Frame} {k : List Item} {cs : List Frame} {ops : Array Oper} {md : Region.Mode} {Q : Act → World → Prop}
theorem anyW_sound (hc : ∀ a w, Q a w → Walk P main (DR V) Stop (G (b.at a (.inRegion ops [] :: k)) cs) w) : ∀ (fuel t : Nat) (listed : Array Bool) (a : Act) (w : World), AnyW P main V Stop b k cs ops md Q fuel listed a w →
    Walk P main (DR V) Stop (G (b.at a (.inRegion ops (Region.linearise.go md ops fuel t listed []) :: k)) cs) w := by
  intro fuel
  induction fuel with
  | zero => intro t listed a w h; exact hc _ _ h.2
  | succ fuel ih =>
    intro t listed a w h
    obtain ⟨h₀, h₁⟩ := h
    simp only [Region.linearise.go]
    change Walk P main (DR V) Stop (G (b.at a (.inRegion ops (match (Region.ready md ops listed)[t % (Region.ready md ops listed).length]? with
      | some i => Region.linearise.go md ops fuel (t / (Region.ready md ops listed).length) (listed.setIfInBounds i true) [i]
      | none => [].reverse) :: k)) cs) w
    cases hi : (Region.ready md ops listed)[t % (Region.ready md ops listed).length]? with
    | none =>
      have hnil : Region.ready md ops listed = [] := by
        cases hr : Region.ready md ops listed with
        | nil => rfl
        | cons x xs =>
          rw [hr] at hi
          have hlt : t % (x :: xs).length < (x :: xs).length := Nat.mod_lt _ (by simp)
          simp at hi
          simp at hlt
          omega
      exact hc _ _ (h₀ hnil)
    | some i =>
      simp only []
      rw [linearise_go_acc, List.reverse_singleton, List.singleton_append]
      exact h₁ i (List.mem_of_getElem? hi) _ fun a' w' x => ih _ _ a' w' x
theorem anyW_all {rs : List Nat} {fuel : Nat} {listed : Array Bool} {a : Act} {w : World} (hr : Region.ready md ops listed = rs) (hne : rs ≠ [])
    (h : ∀ i ∈ rs, OpW P main V Stop b k cs ops i (fun a' w' => AnyW P main V Stop b k cs ops md Q fuel (listed.setIfInBounds i true) a' w') a w) : AnyW P main V Stop b k cs ops md Q (fuel + 1) listed a w :=
  ⟨fun h0 => absurd (hr ▸ h0) hne, hr ▸ h⟩
theorem anyW_done {listed : Array Bool} {a : Act} {w : World} (hr : Region.ready md ops listed = []) (h : Q a w) : ∀ fuel, AnyW P main V Stop b k cs ops md Q fuel listed a w
  | 0 => ⟨hr, h⟩
  | _ + 1 => ⟨fun _ => h, fun i hi => by rw [hr] at hi; cases hi⟩
theorem Walk.drawnW {id : Nat} {a : Act} {w : World} (hm : P.follows .mixedOrders = true)
    (h : ∀ d, AnyW P main V Stop b k cs ops .any Q ops.size (Array.replicate ops.size false) a (w.at d))
    (hc : ∀ a' w', Q a' w' → Walk P main (DR V) Stop (G (b.at a' (.inRegion ops [] :: k)) cs) w') : Walk P main (DR V) Stop (G (b.at a (.code (.region id ops true) :: k)) cs) w := by
  refine Walk.step rfl (fun d => G (b.at a (.inRegion ops (Region.linearise .any ops (w.tape d (.order b.fn id))) :: k)) cs) (fun d => w.at (d + 1)) (fun _ => #[]) (fun d => ?_) (fun d => drawsR _) (fun d => anyW_sound hc ops.size _ _ a _ (h (d + 1)))
  rw [stepG_region_draw]
  simp only [Region.schedule, hm, Bool.true_or, if_true]
  rfl
end
end
end Go.Relay
