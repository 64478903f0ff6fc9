/- Part 3. -/
import Derived.Test.YtjenoiekfkhafaaJ2
import Derived.Lib.MinMax
import Derived.Conc.DeferLaws
import Derived.Test.YtjenoiekfkhafaaProg
import Derived.Laws.Build
import Derived.KernelRfl
import Derived.Handy
set_option linter.unusedSimpArgs false
set_option linter.unusedVariables false
set_option maxHeartbeats 8000000
set_option maxRecDepth 100000
namespace Go.Relay
section
open Go.Conc Go.RowKit
section
variable {P : Program} (w : World)
theorem events_max_ints (ts : Array TypeId) (t : TypeId) (k k' : IntKind) (x y : Int) (es : Array Event) : (Builtin.max_ ts t #[.int k x, .int k' y]).events P w es = es := by
  simp [Builtin.max_, Builtin.max2]
theorem events_min_ints (ts : Array TypeId) (t : TypeId) (k k' : IntKind) (x y : Int) (es : Array Event) : (Builtin.min_ ts t #[.int k x, .int k' y]).events P w es = es := by
  simp [Builtin.min_, Builtin.min2]
theorem ev_store_bool (P : Program) (es : Array Event) (a : Addr) (x : Bool) (m : Mode) : (store a (.bool x) m).events P w es = storedEv P w es a (.bool x) m := events_store P w es a _ m rfl
theorem ev_store_int (P : Program) (es : Array Event) (a : Addr) (k : IntKind) (x : Int) (m : Mode) : (store a (.int k x) m).events P w es = storedEv P w es a (.int k x) m := events_store P w es a _ m rfl
theorem ev_store_slice (P : Program) (es : Array Event) (a : Addr) (b : Option Addr) (n c : Nat) (m : Mode) : (store a (.slice b n c) m).events P w es = storedEv P w es a (.slice b n c) m := events_store P w es a _ m rfl
theorem ev_store_pointer (P : Program) (es : Array Event) (a : Addr) (b : Option Addr) (m : Mode) : (store a (.pointer b) m).events P w es = storedEv P w es a (.pointer b) m := events_store P w es a _ m rfl
theorem cell_lt {a : Addr} {v : Value} (h : w.cell? a = some v) : a.block < w.heap.size := by
  unfold World.cell? at h
  split at h
  · rename_i h'; exact (Array.getElem?_eq_some_iff.1 h').1
  · cases h
theorem cell_alloc {a : Addr} {v : Value} (o : Obj) (h : w.cell? a = some v) : (w.alloc o).cell? a = some v := (World.cell?_alloc_lt _ _ _ (cell_lt w h)).trans h
theorem frozen_alloc {a : Addr} {v : Value} {x : Bool} (o : Obj) (h : w.cell? a = some v) (hz : w.frozen? a = x) : (w.alloc o).frozen? a = x := by
  have hlt := cell_lt w h
  rw [← hz]
  unfold World.frozen?
  rw [Below.heap_alloc _ _ _ hlt]
end
end
section
open Go.Conc Go.RowKit
section
variable {P : Program} {main : Bool} {V : Nat → Option Wait} {Stop : Goroutine → World → Prop} {w : World} {b fr c : Frame} {a : Act} {k : List Item} {cs : List Frame} {ops : Array Oper} {i : Nat} {rest : List Nat} {o : Oper}
theorem stepG_raise {x : Value} (ho : ops[i]? = some o) (hw : Region.wanted o (yielded ops a.tmps) = true) (hk : b.kind ≠ .early) (hr : (execOp a.eval o).run P w = .halt (.panic x) w) (he : (execOp a.eval o).events P w #[] = #[]) :
    stepG P main (G (b.at a (.inRegion ops (i :: rest) :: k)) cs) w = .go (G { b.at a (.inRegion ops (i :: rest) :: k) with mode := .panicking [{ v := x, recovered := false }] } cs) w := by
  have hk' : (b.kind == CallKind.early) = false := by simpa using hk
  rw [stepG_oper ho hw]
  simp [stepG.apply, hr, he, G, Frame.at, Frame.raise, hk', GStep.after, seen_none]
theorem stepG_pop {chain : List PanicEntry} (hm : fr.mode = .panicking chain) (hd : fr.defers = []) (hc : fr.catches P = false) : stepG P main (G fr (c :: cs)) w = .go (G (c.raise chain) cs) w := by
  simp [G, stepG, unwind, hm, hd, hc]
theorem stepG_deferred {d : Deferred} {ds : List Deferred} {f : FuncId} {fn : Func} {cap : Array Value} (hm : fr.mode ≠ .run) (hd : fr.defers = d :: ds) (ht : d.target = .fn (.func f) cap) (hf : P.funcs[f]? = some fn)
    (hname : (fn.name == "runtime.NumGoroutine") = false) (hb : fn.body.isNone = false) :
    stepG P main (G fr cs) w = .go (G (Frame.enter P f (d.args ++ cap) .deferred) ({ fr with defers := ds } :: cs)) w := by
  have h1 : ¬ fn.name = "runtime.NumGoroutine" := by simpa using hname
  have h2 : ¬ fn.body = none := by cases hx : fn.body <;> simp_all
  obtain ⟨t, ars⟩ := d
  subst ht
  have hs : stepG P main (G fr cs) w = unwind P main fr cs none w := by
    cases hmm : fr.mode <;> simp_all [G, stepG]
  rw [hs]
  simp [unwind, hd, callDeferred, invoke, callFunc, hf, h1, h2, GStep.after, seen_none, G]
theorem stepG_recover {v : Value} {older : List PanicEntry} {ats : Array TypeId} (ho : ops[i]? = some o) (hw : Region.wanted o (yielded ops a.tmps) = true) (hk : b.kind = .deferred) (hop : o.op = .call { callee := .builtin .recover, args := #[], argTypes := ats })
    (hc : c.mode = .panicking ({ v, recovered := false, goexit := false } :: older)) :
    stepG P main (G (b.at a (.inRegion ops (i :: rest) :: k)) (c :: cs)) w = .go (G (b.at (a.put o.dst v) (.inRegion ops rest :: k)) ({ c with mode := .panicking ({ v, recovered := true } :: older) } :: cs)) w := by
  have hrun : (execOp a.eval o).run P w = .ok .recover w := by
    unfold execOp
    simp [hop, resolve, invoke, builtin]
  have hev : (execOp a.eval o).events P w #[] = #[] := by
    unfold execOp
    simp [hop, resolve, invoke, builtin]
  have hfin : (b.at a (.inRegion ops (i :: rest) :: k)).finish v = b.at (a.put o.dst v) (.inRegion ops rest :: k) := by rw [Frame.finish_at, ho]; rfl
  rw [stepG_oper ho hw, ← hfin]
  simp [stepG.apply, hrun, hev, G, Frame.at, hk, GStep.after, seen_none, tryRecover, hc]
theorem stepG_recoverNone {ats : Array TypeId} (ho : ops[i]? = some o) (hw : Region.wanted o (yielded ops a.tmps) = true) (hk : b.kind = .deferred) (hop : o.op = .call { callee := .builtin .recover, args := #[], argTypes := ats })
    (hc : c.mode = .returning) :
    stepG P main (G (b.at a (.inRegion ops (i :: rest) :: k)) (c :: cs)) w = .go (G (b.at (a.put o.dst .nilIface) (.inRegion ops rest :: k)) (c :: cs)) w := by
  have hrun : (execOp a.eval o).run P w = .ok .recover w := by
    unfold execOp
    simp [hop, resolve, invoke, builtin]
  have hev : (execOp a.eval o).events P w #[] = #[] := by
    unfold execOp
    simp [hop, resolve, invoke, builtin]
  have hfin : (b.at a (.inRegion ops (i :: rest) :: k)).finish .nilIface = b.at (a.put o.dst .nilIface) (.inRegion ops rest :: k) := by rw [Frame.finish_at, ho]; rfl
  rw [stepG_oper ho hw, ← hfin]
  simp [stepG.apply, hrun, hev, G, Frame.at, hk, GStep.after, seen_none, tryRecover, hc]
theorem stepG_leaveRecovered {todo : List Item} {fn : Func} {v x : Value} (hn : b.kind = .deferred) (hd : a.defers = []) (hf : P.funcs[b.fn]? = some fn) (hr : (results fn a.tmps).run P w = .ok x w) (he : (results fn a.tmps).events P w #[] = #[])
    (hc : c.mode = .panicking [{ v, recovered := true }]) :
    stepG P main (G { b.at a todo with mode := .returning } (c :: cs)) w = .go (G { c with mode := .returning } cs) w := by
  simp [G, stepG, unwind, doReturn, Frame.at, hn, hd, hf, hr, he, hc, seen, GStep.after]
theorem stepG_leaveReturning {todo : List Item} {fn : Func} {x : Value} (hn : b.kind = .deferred) (hd : a.defers = []) (hf : P.funcs[b.fn]? = some fn) (hr : (results fn a.tmps).run P w = .ok x w) (he : (results fn a.tmps).events P w #[] = #[]) (hc : c.mode = .returning) :
    stepG P main (G { b.at a todo with mode := .returning } (c :: cs)) w = .go (G c cs) w := by
  simp [G, stepG, unwind, doReturn, Frame.at, hn, hd, hf, hr, he, hc, seen, GStep.after]
theorem stepG_deferClose {ds : List Deferred} {ats : Array TypeId} {t : TypeId} {cons : Array Bool} {ch : Nat} {kk : Nat} (hm : fr.mode = .returning) (hd : fr.defers = { target := .builtin .close ats t cons, args := #[.chan (some ch)] } :: ds)
    (hq : (P.funcs[fr.fn]?).any (·.norace) = false) (hc : w.heap[ch]? = some (.chan 0 #[] false kk kk false)) :
    stepG P main (G fr cs) w = .go (G { fr with defers := ds } cs) (w.setChan ch 0 #[] true kk kk false) (closeEvents ch) := by
  have hr : (invoke (.builtin .close ats t cons) #[.chan (some ch)]).run P w = .ok (.value (.tuple #[])) (w.setChan ch 0 #[] true kk kk false) := by
    simp [invoke, builtin, run_close_open _ _ hc, World.setChan]
  have he : (invoke (.builtin .close ats t cons) #[.chan (some ch)]).events P w #[] = closeEvents ch := by
    simp [invoke, builtin, events_close_open _ _ hc, closeEvents]
  have hs : seen P fr.fn (closeEvents ch) = closeEvents ch := seen_eq hq (by intro e he f; simp only [closeEvents, List.mem_toArray, List.mem_cons, List.not_mem_nil, or_false] at he; rcases he with rfl | rfl <;> simp)
  simp [G, stepG, unwind, hm, hd, callDeferred, hr, he, hs, GStep.after]
theorem stepG_deferOp {d : Deferred} (ho : ops[i]? = some o) (hw : Region.wanted o (yielded ops a.tmps) = true) (hk : b.kind ≠ .early) (hr : (execOp a.eval o).run P w = .ok (.defer d) w) (he : (execOp a.eval o).events P w #[] = #[]) :
    stepG P main (G (b.at a (.inRegion ops (i :: rest) :: k)) cs) w = .go (G (b.at (Act.put ⟨a.tmps, d :: a.defers⟩ o.dst undef) (.inRegion ops rest :: k)) cs) w #[] := by
  have hfin : (b.at ⟨a.tmps, d :: a.defers⟩ (.inRegion ops (i :: rest) :: k)).finish undef = b.at (Act.put ⟨a.tmps, d :: a.defers⟩ o.dst undef) (.inRegion ops rest :: k) := by rw [Frame.finish_at, ho]; rfl
  have hk' : (b.kind == CallKind.early) = false := by simpa using hk
  rw [stepG_oper ho hw, ← hfin]
  simp [stepG.apply, hr, he, G, Frame.at, hk', GStep.after, seen_none]
theorem stepG_callValue {f : FuncId} {fn : Func} {x : Operand} {args : Array Operand} {ats : Array TypeId} {first cap : Array Value} (ho : ops[i]? = some o) (hw : Region.wanted o (yielded ops a.tmps) = true) (hk : b.kind ≠ .early)
    (hop : o.op = .call { callee := .value x, args, argTypes := ats }) (hx : a.eval x = .func (.func f) first cap) (hf : P.funcs[f]? = some fn) (hname : (fn.name == "runtime.NumGoroutine") = false) (hb : fn.body.isNone = false) :
    stepG P main (G (b.at a (.inRegion ops (i :: rest) :: k)) cs) w = .go (G (Frame.enter P f (first ++ args.map a.eval ++ cap) .normal) (b.at a (.inRegion ops (i :: rest) :: k) :: cs)) w := by
  have h1 : ¬ fn.name = "runtime.NumGoroutine" := by simpa using hname
  have h2 : ¬ fn.body = none := by cases hx : fn.body <;> simp_all
  have hr : (execOp a.eval o).run P w = .ok (.enter f (first ++ args.map a.eval ++ cap)) w := by
    unfold execOp
    simp [hop, resolve, Deferred.ofValue, invoke, callFunc, hf, h1, h2, hx]
  have he : (execOp a.eval o).events P w #[] = #[] := by
    unfold execOp
    simp [hop, resolve, Deferred.ofValue, invoke, callFunc, hf, h1, h2, hx]
  rw [stepG_enter ho hw hk hr]
  have : listed P b.fn a o w = #[] := by unfold listed; rw [he]; exact seen_none P _
  rw [this]
theorem run_assert_same (t s : TypeId) (v : Value) {u : TypeDesc} (hu : P.underlying t = some u) (h : ∀ ms, u ≠ .interface ms) : (Instr.typeAssert (.iface t v) s t true).run P w = .ok (.tuple #[v, .bool true]) w := by
  cases u <;> first | (exact absurd rfl (h _)) | simp [Instr.typeAssert, run_underlying hu]
theorem run_assert_other (t t' s : TypeId) (v z : Value) {u : TypeDesc} (hu : P.underlying t = some u) (h : ∀ ms, u ≠ .interface ms) (ht : t' ≠ t) (hz : (zeroValue t).run P w = .ok z w) : (Instr.typeAssert (.iface t' v) s t true).run P w = .ok (.tuple #[z, .bool false]) w := by
  cases u <;> first | (exact absurd rfl (h _)) | simp [Instr.typeAssert, run_underlying hu, ht, hz]
theorem ev_assert_same (t s : TypeId) (v : Value) (es : Array Event) {u : TypeDesc} (hu : P.underlying t = some u) (h : ∀ ms, u ≠ .interface ms) : (Instr.typeAssert (.iface t v) s t true).events P w es = es := by
  cases u <;> first | (exact absurd rfl (h _)) | simp [Instr.typeAssert, run_underlying hu]
theorem ev_assert_other (t t' s : TypeId) (v : Value) (es : Array Event) {u : TypeDesc} (hu : P.underlying t = some u) (h : ∀ ms, u ≠ .interface ms) (ht : t' ≠ t) (hze : (zeroValue t).events P w es = es) : (Instr.typeAssert (.iface t' v) s t true).events P w es = es := by
  cases u <;> first | (exact absurd rfl (h _)) | simp [Instr.typeAssert, run_underlying hu, ht, hze]
theorem stepG_leaveF {fn : Func} {v : Value} (hm : fr.mode = .returning) (hn : fr.kind = .normal) (hd : fr.defers = []) (hf : P.funcs[fr.fn]? = some fn) (hr : (results fn fr.tmps).run P w = .ok v w) :
    stepG P main (G fr (c :: cs)) w = .go (G (c.finish v) cs) w (seen P fr.fn ((results fn fr.tmps).events P w #[])) := by
  simp [G, stepG, unwind, doReturn, hm, hn, hd, hf, hr, GStep.after]
theorem Walk.evs {g g' : Goroutine} (E : Nat → Array Event) (hr : g.status = .running) (hs : ∀ d, stepG P main g (w.at d) = .go g' (w.at d) (E d)) (he : ∀ d, ∀ e ∈ E d, EvR V e) (h : Walk P main (DR V) Stop g' w) : Walk P main (DR V) Stop g w :=
  .step hr (fun _ => g') (fun d => w.at d) E hs (fun d => DR.quiet (he d)) fun d => h.back d
theorem run_eqIn_func (d : Nat) (t : TypeId) (f : Fn) (x y : Array Value) {a b c} (hu : P.underlying t = some (.func a b c)) : (Op.equalIn (d + 1) t (.func f x y) .nilFunc).run P w = .ok false w := by simp [Op.equalIn, run_underlying hu]
theorem ev_eqIn_func (d : Nat) (t : TypeId) (f : Fn) (x y : Array Value) (es : Array Event) {a b c} (hu : P.underlying t = some (.func a b c)) : (Op.equalIn (d + 1) t (.func f x y) .nilFunc).events P w es = es := by simp [Op.equalIn, run_underlying hu]
theorem run_neq_func (t : TypeId) (f : Fn) (x y : Array Value) {a b c} (hu : P.underlying t = some (.func a b c)) : (binOp .neq t (.func f x y) .nilFunc).run P w = .ok (.bool true) w := by
  simp only [binOp]
  simp [Op.equal, Op.maxDepth, run_eqIn_func (w := w) 9999 t f x y hu]
theorem ev_neq_func (t : TypeId) (f : Fn) (x y : Array Value) (es : Array Event) {a b c} (hu : P.underlying t = some (.func a b c)) : (binOp .neq t (.func f x y) .nilFunc).events P w es = es := by
  simp only [binOp]
  simp [Op.equal, Op.maxDepth, run_eqIn_func (w := w) 9999 t f x y hu, ev_eqIn_func (w := w) 9999 t f x y es hu]
theorem run_eqIn_nilFunc (d : Nat) (t : TypeId)  {a b c} (hu : P.underlying t = some (.func a b c)) : (Op.equalIn (d + 1) t .nilFunc .nilFunc).run P w = .ok true w := by simp [Op.equalIn, run_underlying hu]
theorem ev_eqIn_nilFunc (d : Nat) (t : TypeId)  (es : Array Event) {a b c} (hu : P.underlying t = some (.func a b c)) : (Op.equalIn (d + 1) t .nilFunc .nilFunc).events P w es = es := by simp [Op.equalIn, run_underlying hu]
theorem run_neq_nilFunc (t : TypeId)  {a b c} (hu : P.underlying t = some (.func a b c)) : (binOp .neq t .nilFunc .nilFunc).run P w = .ok (.bool false) w := by
  simp only [binOp]
  simp [Op.equal, Op.maxDepth, run_eqIn_nilFunc (w := w) 9999 t  hu]
theorem ev_neq_nilFunc (t : TypeId)  (es : Array Event) {a b c} (hu : P.underlying t = some (.func a b c)) : (binOp .neq t .nilFunc .nilFunc).events P w es = es := by
  simp only [binOp]
  simp [Op.equal, Op.maxDepth, run_eqIn_nilFunc (w := w) 9999 t  hu, ev_eqIn_nilFunc (w := w) 9999 t  es hu]
theorem run_eqIn_iface (d : Nat) (t : TypeId) (s : TypeId) (x : Value) {ms} (hu : P.underlying t = some (.interface ms)) : (Op.equalIn (d + 1) t (.iface s x) .nilIface).run P w = .ok false w := by simp [Op.equalIn, run_underlying hu]
theorem ev_eqIn_iface (d : Nat) (t : TypeId) (s : TypeId) (x : Value) (es : Array Event) {ms} (hu : P.underlying t = some (.interface ms)) : (Op.equalIn (d + 1) t (.iface s x) .nilIface).events P w es = es := by simp [Op.equalIn, run_underlying hu]
theorem run_neq_iface (t : TypeId) (s : TypeId) (x : Value) {ms} (hu : P.underlying t = some (.interface ms)) : (binOp .neq t (.iface s x) .nilIface).run P w = .ok (.bool true) w := by
  simp only [binOp]
  simp [Op.equal, Op.maxDepth, run_eqIn_iface (w := w) 9999 t s x hu]
theorem ev_neq_iface (t : TypeId) (s : TypeId) (x : Value) (es : Array Event) {ms} (hu : P.underlying t = some (.interface ms)) : (binOp .neq t (.iface s x) .nilIface).events P w es = es := by
  simp only [binOp]
  simp [Op.equal, Op.maxDepth, run_eqIn_iface (w := w) 9999 t s x hu, ev_eqIn_iface (w := w) 9999 t s x es hu]
theorem run_eqIn_nilIface (d : Nat) (t : TypeId)  {ms} (hu : P.underlying t = some (.interface ms)) : (Op.equalIn (d + 1) t .nilIface .nilIface).run P w = .ok true w := by simp [Op.equalIn, run_underlying hu]
theorem ev_eqIn_nilIface (d : Nat) (t : TypeId)  (es : Array Event) {ms} (hu : P.underlying t = some (.interface ms)) : (Op.equalIn (d + 1) t .nilIface .nilIface).events P w es = es := by simp [Op.equalIn, run_underlying hu]
theorem run_neq_nilIface (t : TypeId)  {ms} (hu : P.underlying t = some (.interface ms)) : (binOp .neq t .nilIface .nilIface).run P w = .ok (.bool false) w := by
  simp only [binOp]
  simp [Op.equal, Op.maxDepth, run_eqIn_nilIface (w := w) 9999 t  hu]
theorem ev_neq_nilIface (t : TypeId)  (es : Array Event) {ms} (hu : P.underlying t = some (.interface ms)) : (binOp .neq t .nilIface .nilIface).events P w es = es := by
  simp only [binOp]
  simp [Op.equal, Op.maxDepth, run_eqIn_nilIface (w := w) 9999 t  hu, ev_eqIn_nilIface (w := w) 9999 t  es hu]
end
end
end Go.Relay
namespace Go.Proofs.Ytjenoiekfkhafaa
open Go.Conc Go.RowKit Go.Relay
open Go.ConcN (upd upd_ne upd_same)
section
variable {main : Bool} {V : Nat → Option Wait}
def def60 (N : Nat) : Deferred := { target := .fn (.func 95) #[.pointer (some ⟨N, 0, none⟩)], args := #[] }
noncomputable def todo60 : Option (Array Oper × Code) := match Try.f79.body with | some (.seq _ (.seq _ (.seq (.seq _ (.cond _ (.region _ ops _) _)) c))) => some (ops, c) | _ => none
noncomputable def ops60 : Array Oper := (todo60.getD (#[], .skip)).1
noncomputable def rest60 : Code := (todo60.getD (#[], .skip)).2
noncomputable def fr60 (N : Nat) (F S : Value) : Frame :=
  (base 79).at { tmps := #[F, S, undef, undef, .bool false, .pointer (some ⟨N, 0, none⟩), .func (.func 95) #[] #[.pointer (some ⟨N, 0, none⟩)], F, .bool true, F, S, undef], defers := [def60 N] } [.inRegion ops60 [2], .code rest60]
theorem ride_in {Stop : Goroutine → World → Prop} (f : FuncId) (fn : Func) (first cap : Array Value) (S : Value) (cs : List Frame) (w : World) (hf : Try.prog.funcs[f]? = some fn) (hname : (fn.name == "runtime.NumGoroutine") = false) (hb : fn.body.isNone = false)
    (hk : Walk Try.prog main (DR V) Stop (G (Frame.enter Try.prog f (first ++ #[S] ++ cap) .normal) (fr60 w.heap.size (.func (.func f) first cap) S :: cs)) (w.alloc (.cells #[.bool false] 4))) :
    Walk Try.prog main (DR V) Stop (G (Frame.enter Try.prog 79 #[.func (.func f) first cap, S] .normal) cs) w := by
  simp only [fr60, ops60, rest60, todo60, Try.f79, Option.getD_some] at hk
  rw [enter_at _ Try.func79 rfl]
  simp only [Try.f79, ez, Nat.reduceAdd, Nat.reduceSub]
  have hn1 := fun w => run_neq_func (P := Try.prog) (w := w) 114 (.func f) first cap (by kernel_rfl : Try.prog.underlying 114 = some (.func #[90] #[] false))
  have hn2 := fun w es => ev_neq_func (P := Try.prog) (w := w) 114 (.func f) first cap es (by kernel_rfl : Try.prog.underlying 114 = some (.func #[90] #[] false))
  repeat (first | refine Walk.cx ?_ | refine Walk.cR ?_ | (refine Walk.oq ?_; try walk_nrm) | (refine Walk.un ?_; walk_nrm))
  (refine Walk.oa ?_; try walk_nrm)
  repeat (first | refine Walk.cx ?_ | refine Walk.cR ?_ | (refine Walk.oq ?_; try walk_nrm) | (refine Walk.un ?_; walk_nrm))
  refine Walk.ctl rfl (fun w' => stepG_deferOp (d := def60 w.heap.size) rfl (by rfl) (by decide) (by simp [go_sem, execOp, Deferred.ofValue, def60]) (by simp [go_sem, execOp, Deferred.ofValue])) ?_
  walk_nrm
  repeat (first | refine Walk.cx ?_ | refine Walk.cR ?_ | (refine Walk.oq ?_; try walk_nrm) | (refine Walk.un ?_; walk_nrm))
  refine Walk.ctl rfl (fun w' => stepG_callValue rfl (by rfl) (by decide) rfl rfl hf hname hb) ?_
  walk_nrm
  exact hk
end
section
variable {main : Bool} {V : Nat → Option Wait}
theorem und20 : ∃ ms, Try.prog.underlying 20 = some (.interface ms) := ⟨#[], by kernel_rfl⟩
theorem results60 (tmps : Array Value) (N : Nat) (x y : Bool) (w : World) (h4 : tmps.getD 4 undef = .bool x) (h5 : tmps.getD 5 undef = .pointer (some ⟨N, 0, none⟩)) (hN : w.cell? ⟨N, 0, none⟩ = some (.bool y)) :
    (results Try.f79 tmps).run Try.prog w = .ok (.tuple #[.bool x, .bool y]) w ∧ ∀ e ∈ (results Try.f79 tmps).events Try.prog w #[], EvR V e := by
  simp only [Array.getD_eq_getD_getElem?] at h4 h5
  constructor
  · simp only [results, Try.f79]
    simp [h4, h5, go_sem, hN, asAddr, loadVar]
  · intro e he
    simp only [results, Try.f79] at he
    simp [h4, h5, go_sem, hN, asAddr, loadVar] at he
    subst he
    exact evR_read _ _
theorem leave60 {fr : Frame} {c : Frame} {cs : List Frame} {N : Nat} {x y : Bool} {w : World} (hf : fr.fn = 79) (hm : fr.mode = .returning) (hn : fr.kind = .normal) (hd : fr.defers = []) (h4 : fr.tmps.getD 4 undef = .bool x) (h5 : fr.tmps.getD 5 undef = .pointer (some ⟨N, 0, none⟩)) (hN : w.cell? ⟨N, 0, none⟩ = some (.bool y)) :
    Walk Try.prog main (DR V) (fun g w' => g = G (c.finish (.tuple #[.bool x, .bool y])) cs ∧ ∃ d, w' = w.at d) (G fr (c :: cs)) w :=
  Walk.evs (fun d => seen Try.prog fr.fn ((results Try.f79 fr.tmps).events Try.prog (w.at d) #[])) rfl (fun d => stepG_leaveF hm hn hd (by rw [hf]; exact Try.func79) (results60 (V := V) fr.tmps N x y (w.at d) h4 h5 hN).1)
    (fun d e he => (results60 (V := V) fr.tmps N x y (w.at d) h4 h5 hN).2 e (mem_seen he)) (.stop fun d => ⟨rfl, d, rfl⟩)
theorem ride_done (N : Nat) (F S : Value) (c : Frame) (cs : List Frame) (w : World) (x : Bool) (hN : w.cell? ⟨N, 0, none⟩ = some (.bool x)) (hz : w.frozen? ⟨N, 0, none⟩ = false) (hfr : Free V ⟨N, 0, none⟩) :
    Walk Try.prog main (DR V) (fun g w' => g = G (c.finish (.tuple #[.bool true, .bool false])) cs ∧ ∃ d, w' = (w.setCell ⟨N, 0, none⟩ (.bool false)).at d) (G ((fr60 N F S).finish (.tuple #[])) (c :: cs)) w := by
  obtain ⟨ms, h20⟩ := und20
  have hn1 := fun w => run_neq_nilIface (P := Try.prog) (w := w) 20 h20
  have hn2 := fun w es => ev_neq_nilIface (P := Try.prog) (w := w) 20 es h20
  unfold fr60
  rw [Frame.finish_at]
  simp only [ops60, rest60, todo60, Try.f79, Option.getD_some]
  walk_nrm
  repeat (first | refine Walk.cx ?_ | refine Walk.cR ?_ | (refine Walk.oq ?_; try walk_nrm) | (refine Walk.un ?_; walk_nrm))
  (refine Walk.os hfr hN ?_; try walk_nrm)
  repeat (first | refine Walk.cx ?_ | refine Walk.cR ?_ | (refine Walk.oq ?_; try walk_nrm) | (refine Walk.un ?_; walk_nrm))
  have hN' := World.cell?_setCell_same w ⟨N, 0, none⟩ (.bool false) hN
  refine Walk.ctl rfl (fun w => stepG_deferred (d := def60 N) (ds := []) (by simp [Frame.at]) rfl rfl Try.func95 (by kernel_rfl) (by rfl)) ?_
  simp only [def60, List.append_toArray, List.nil_append]
  rw [enter_atD _ Try.func95 rfl]
  simp only [Try.f95, ez, Nat.reduceAdd, Nat.reduceSub]
  repeat (first | refine Walk.cx ?_ | refine Walk.cR ?_ | (refine Walk.oq ?_; try walk_nrm) | (refine Walk.un ?_; walk_nrm))
  refine Walk.ctl rfl (fun w => stepG_recoverNone rfl (by rfl) rfl rfl rfl) ?_
  walk_nrm
  repeat (first | refine Walk.cx ?_ | refine Walk.cR ?_ | (refine Walk.oq ?_; try walk_nrm) | (refine Walk.un ?_; walk_nrm))
  refine Walk.ctl rfl (fun w => stepG_leaveReturning rfl rfl Try.func95 (results_none rfl _ _ w) (events_results_none rfl _ _) rfl) ?_
  exact leave60 rfl rfl rfl rfl rfl rfl hN'
theorem ride_stopped (N : Nat) (F S : Value) (c : Frame) (cs : List Frame) (w : World) (x : Bool) (hN : w.cell? ⟨N, 0, none⟩ = some (.bool x)) (hz : w.frozen? ⟨N, 0, none⟩ = false) (hfr : Free V ⟨N, 0, none⟩) :
    Walk Try.prog main (DR V) (fun g w' => g = G (c.finish (.tuple #[.bool false, .bool false])) cs ∧ ∃ d, w' = ((w.alloc (.cells #[] 158)).setCell ⟨N, 0, none⟩ (.bool false)).at d) (G ((fr60 N F S).raise [{ v := .iface 158 (.agg #[]), recovered := false }]) (c :: cs)) w := by
  obtain ⟨ms, h20⟩ := und20
  have hn1 := fun w => run_neq_iface (P := Try.prog) (w := w) 20 158 (.agg #[]) h20
  have hn2 := fun w es => ev_neq_iface (P := Try.prog) (w := w) 20 158 (.agg #[]) es h20
  unfold fr60
  rw [Frame.raise_at]
  simp only [ops60, rest60, todo60, Try.f79, Option.getD_some]
  refine Walk.ctl rfl (fun w => stepG_deferred (d := def60 N) (ds := []) (by simp [Frame.at]) rfl rfl Try.func95 (by kernel_rfl) (by rfl)) ?_
  simp only [def60, List.append_toArray, List.nil_append]
  rw [enter_atD _ Try.func95 rfl]
  simp only [Try.f95, ez, Nat.reduceAdd, Nat.reduceSub]
  repeat (first | refine Walk.cx ?_ | refine Walk.cR ?_ | (refine Walk.oq ?_; try walk_nrm) | (refine Walk.un ?_; walk_nrm))
  refine Walk.ctl rfl (fun w => stepG_recover rfl (by rfl) rfl rfl rfl) ?_
  walk_nrm
  have h147 := fun w => run_assert_same (P := Try.prog) (w := w) 158 20 (.agg #[]) (u := .struct #[]) (by kernel_rfl) (fun _ h => by cases h)
  have e147 := fun w es => ev_assert_same (P := Try.prog) (w := w) 158 20 (.agg #[]) es (u := .struct #[]) (by kernel_rfl) (fun _ h => by cases h)
  repeat (first | refine Walk.cx ?_ | refine Walk.cR ?_ | (refine Walk.oq ?_; try walk_nrm) | (refine Walk.un ?_; walk_nrm))
  (refine Walk.oa ?_; try walk_nrm)
  have ha := cell_alloc w (.cells #[] 158) hN
  have haz := frozen_alloc w (.cells #[] 158) hN hz
  repeat (first | refine Walk.cx ?_ | refine Walk.cR ?_ | (refine Walk.oq ?_; try walk_nrm) | (refine Walk.un ?_; walk_nrm))
  (refine Walk.os hfr ha ?_; try walk_nrm)
  have hN' := World.cell?_setCell_same (w.alloc (.cells #[] 158)) ⟨N, 0, none⟩ (.bool false) ha
  repeat (first | refine Walk.cx ?_ | refine Walk.cR ?_ | (refine Walk.oq ?_; try walk_nrm) | (refine Walk.un ?_; walk_nrm))
  refine Walk.ctl rfl (fun w => stepG_leaveRecovered rfl rfl Try.func95 (results_none rfl _ _ w) (events_results_none rfl _ _) rfl) ?_
  exact leave60 rfl rfl rfl rfl rfl rfl hN'
end
section
variable {main : Bool} {V : Nat → Option Wait}
noncomputable def bornfr : Frame := { (default : Frame) with fn := Try.prog.funcs.size, defers := [], mode := .panicking [goexitEntry] }
noncomputable def def78 (r : Nat) : Deferred := { target := .builtin .close #[140] 0 #[false], args := #[.chan (some r)] }
noncomputable def ops78 : Array Oper := match Try.f84.body with | some (.seq _ (.region _ ops _)) => ops | _ => #[]
noncomputable def fr78 (p r : Nat) (F : Value) : Frame :=
  (baseD 84).at { tmps := #[.pointer (some ⟨p, 0, none⟩), F, undef, undef, .pointer (some ⟨p, 0, none⟩), .pointer (some ⟨p, 0, none⟩), .pointer (some ⟨p, 1, none⟩), .chan (some r), undef, .pointer (some ⟨p, 0, none⟩), F, .pointer (some ⟨p, 0, none⟩), .iface 150 (.pointer (some ⟨p, 0, none⟩)), undef, undef, undef, undef, undef], defers := [def78 r] } [.inRegion ops78 [4, 5, 6, 7, 8, 9, 10]]
noncomputable def rec78 (p r : Nat) (F : Value) (back broken : Bool) : Goroutine :=
  G { (baseD 84).at { tmps := #[.pointer (some ⟨p, 0, none⟩), F, undef, undef, .pointer (some ⟨p, 0, none⟩), .pointer (some ⟨p, 0, none⟩), .pointer (some ⟨p, 1, none⟩), .chan (some r), .tuple #[.bool back, .bool broken], .pointer (some ⟨p, 0, none⟩), F, .pointer (some ⟨p, 0, none⟩), .iface 150 (.pointer (some ⟨p, 0, none⟩)), .tuple #[.bool back, .bool broken], .bool back, .bool broken, .pointer (some ⟨p, 0, none⟩), .pointer (some ⟨p, 3, none⟩)], defers := [def78 r] } [] with mode := .returning } [bornfr]
theorem und161 : Try.prog.underlying 150 = some (.pointer 155) := by kernel_rfl
theorem run_iface161 (a : Option Addr) (w : World) : (Instr.makeInterface 150 (.pointer a)).run Try.prog w = .ok (.iface 150 (.pointer a)) w := by simp [Instr.makeInterface, run_underlying und161]
theorem ev_iface161 (a : Option Addr) (w : World) (es : Array Event) : (Instr.makeInterface 150 (.pointer a)).events Try.prog w es = es := by simp [Instr.makeInterface, run_underlying und161]
theorem run_enters {Stop : Goroutine → World → Prop} (p r : Nat) (F : Value) (w : World) (h1 : w.cell? ⟨p, 1, none⟩ = some (.chan (some r)))
    (hk : Walk Try.prog main (DR V) Stop (G (Frame.enter Try.prog 79 #[F, .iface 150 (.pointer (some ⟨p, 0, none⟩))] .normal) [fr78 p r F, bornfr]) w) :
    Walk Try.prog main (DR V) Stop (born Try.prog { target := .fn (.func 84) #[], args := #[.pointer (some ⟨p, 0, none⟩), F] }) w := by
  simp only [fr78, ops78, Try.f84] at hk
  refine Walk.ctl rfl (fun w => stepG_deferred (d := { target := .fn (.func 84) #[], args := #[.pointer (some ⟨p, 0, none⟩), F] }) (ds := []) (fr := { (default : Frame) with fn := Try.prog.funcs.size, defers := [{ target := .fn (.func 84) #[], args := #[.pointer (some ⟨p, 0, none⟩), F] }], mode := .panicking [goexitEntry] }) (cs := []) (by simp) rfl rfl Try.func84 (by kernel_rfl) (by rfl)) ?_
  simp only [Array.append_empty]
  rw [enter_atD _ Try.func84 rfl]
  simp only [Try.f84, ez, Nat.reduceAdd, Nat.reduceSub]
  have hi1 := run_iface161
  have hi2 := ev_iface161
  repeat (first | refine Walk.cx ?_ | refine Walk.cR ?_ | (refine Walk.oq ?_; try walk_nrm) | (refine Walk.un ?_; walk_nrm))
  refine Walk.ctl rfl (fun w' => stepG_deferOp (d := def78 r) rfl (by rfl) (by decide) (by simp [go_sem, execOp, Deferred.ofValue, def78]) (by simp [go_sem, execOp, Deferred.ofValue])) ?_
  walk_nrm
  repeat (first | refine Walk.cx ?_ | refine Walk.cR ?_ | (refine Walk.oq ?_; try walk_nrm) | (refine Walk.un ?_; walk_nrm))
  refine Walk.ctl rfl (fun w => stepG_callValue (f := 79) (first := #[]) (cap := #[]) rfl (by rfl) (by decide) rfl rfl Try.func79 (by kernel_rfl) (by rfl)) ?_
  walk_nrm
  try simp only [Array.append_empty, Array.empty_append]
  exact hk
theorem run_out (p r : Nat) (F : Value) (back broken x : Bool) (w : World) (h3 : w.cell? ⟨p, 3, none⟩ = some (.bool x)) (hz : w.frozen? ⟨p, 3, none⟩ = false) (hfr : Free V ⟨p, 3, none⟩) :
    Walk Try.prog main (DR V) (fun g w' => g = rec78 p r F back broken ∧ ∃ d, w' = (w.setCell ⟨p, 3, none⟩ (.bool broken)).at d) (G ((fr78 p r F).finish (.tuple #[.bool back, .bool broken])) [bornfr]) w := by
  unfold fr78
  rw [Frame.finish_at]
  simp only [ops78, Try.f84]
  walk_nrm
  repeat (first | refine Walk.cx ?_ | refine Walk.cR ?_ | (refine Walk.oq ?_; try walk_nrm) | (refine Walk.un ?_; walk_nrm))
  (refine Walk.os hfr h3 ?_; try walk_nrm)
  repeat (first | refine Walk.cx ?_ | refine Walk.cR ?_ | (refine Walk.oq ?_; try walk_nrm) | (refine Walk.un ?_; walk_nrm))
  exact .stop fun d => ⟨rfl, d, rfl⟩
theorem close78 (p r : Nat) (F : Value) (back broken : Bool) (w : World) (k : Nat) (hc : w.heap[r]? = some (.chan 0 #[] false k k false)) :
    stepG Try.prog main (rec78 p r F back broken) w = .go (G { (rec78 p r F back broken).frame with defers := [] } [bornfr]) (w.setChan r 0 #[] true k k false) (closeEvents r) := by
  unfold rec78
  exact stepG_deferClose (ds := []) rfl rfl (by kernel_rfl) hc
theorem wake78 (p r : Nat) (F : Value) (back broken : Bool) : mayWake Try.prog (rec78 p r F back broken) = true := rfl
theorem quit78 (p r : Nat) (F : Value) (back broken : Bool) : QuitsD Try.prog 2 0 (G { (rec78 p r F back broken).frame with defers := [] } [bornfr]) := by
  refine QuitsD.ctl rfl (g' := G bornfr []) (fun w => ?_) (QuitsD.ctl rfl (g' := { frame := bornfr, callers := [], status := .finished, dying := none }) (fun w => ?_) ⟨rfl, rfl⟩)
  · have hr : (results Try.f84 (rec78 p r F back broken).frame.tmps).run Try.prog w = .ok (.tuple #[]) w := results_none rfl _ _ w
    have he : (results Try.f84 (rec78 p r F back broken).frame.tmps).events Try.prog w #[] = #[] := events_results_none rfl _ _
    simp only [rec78, Frame.at, baseD, G] at hr he ⊢
    simp [stepG, unwind, doReturn, Try.func84, hr, he, bornfr, goexitEntry, seen, GStep.after]
  · have h0 : (default : Frame).todo = [] := rfl
    simp [G, stepG, unwind, bornfr, goexitEntry, Frame.catches, h0]
end
section
variable {main : Bool} {V : Nat → Option Wait}
theorem undAtomic : Try.prog.underlying 119 = some (.pointer 70) := by kernel_rfl
noncomputable def rowLoadB : Bool := match Try.prog.info? 119 with
  | some ti => (match ti.methods.find? (·.name == "Load") with
    | some m => m.path.isEmpty && (m.func == some (137, true))
    | none => false)
  | none => false
theorem rowLoad : ∃ ti m, Try.prog.info? 119 = some ti ∧ ti.methods.find? (·.name == "Load") = some m ∧ m.path = #[] ∧ m.func = some (137, true) := by
  have h : rowLoadB = true := by kernel_rfl
  unfold rowLoadB at h
  revert h
  cases h1 : Try.prog.info? 119 with
  | none => simp
  | some ti =>
    simp only []
    cases h2 : ti.methods.find? (·.name == "Load") with
    | none => simp
    | some m =>
      simp only [Bool.and_eq_true, Array.isEmpty_iff, beq_iff_eq]
      exact fun h => ⟨ti, m, rfl, h2, h.1, h.2⟩
theorem method_load (p q : Nat) (w : World) (es : Array Event) : (method (Try.prog.types.size + Made.depth) 119 (.pointer (some ⟨p, q, none⟩)) "Load").run Try.prog w = .ok (137, .pointer (some ⟨p, q, none⟩)) w ∧ (method (Try.prog.types.size + Made.depth) 119 (.pointer (some ⟨p, q, none⟩)) "Load").events Try.prog w es = es := by
  obtain ⟨ti, m, h1, h2, h3, h4⟩ := rowLoad
  obtain ⟨k, hk⟩ : ∃ k, Try.prog.types.size + Made.depth = k + 1 := ⟨Try.prog.types.size + (Made.depth - 1), by have : 1 ≤ Made.depth := by decide
                                                                                                                omega⟩
  rw [hk]
  unfold method
  refine ⟨?_, ?_⟩
  · simp [typeInfo, h1, h2, h3, h4, follow, receiverAt, run_underlying undAtomic, Place.get]
  · simp [typeInfo, h1, h2, h3, h4, follow, receiverAt, run_underlying undAtomic, Place.get]
section
variable {Stop : Goroutine → World → Prop} {w : World} {b : Frame} {a : Act} {k : List Item} {cs : List Frame} {ops : Array Oper} {i : Nat} {rest : List Nat} {o : Oper}
theorem stepG_invokeLoad {x : Operand} {ats : Array TypeId} (p q : Nat) (ho : ops[i]? = some o) (hw : Region.wanted o (yielded ops a.tmps) = true) (hk : b.kind ≠ .early) (hop : o.op = .call { callee := .invoke x "Load", args := #[], argTypes := ats }) (hx : a.eval x = .iface 119 (.pointer (some ⟨p, q, none⟩))) :
    stepG Try.prog main (G (b.at a (.inRegion ops (i :: rest) :: k)) cs) w = .go (G (Frame.enter Try.prog 137 #[.pointer (some ⟨p, q, none⟩)] .normal) (b.at a (.inRegion ops (i :: rest) :: k) :: cs)) w := by
  have h1 : ¬ Try.f137.name = "runtime.NumGoroutine" := by decide
  have h2 : ¬ Try.f137.body = none := by simp [Try.f137]
  have hm := method_load p q w #[]
  rw [show Try.prog.types.size = 197 from by kernel_rfl] at hm
  have hr : (execOp a.eval o).run Try.prog w = .ok (.enter 137 #[.pointer (some ⟨p, q, none⟩)]) w := by
    unfold execOp
    simp [hop, resolve, invoke, callMethod, callFunc, hm.1, Try.func137, h1, h2, hx]
  have he : (execOp a.eval o).events Try.prog w #[] = #[] := by
    unfold execOp
    simp [hop, resolve, invoke, callMethod, callFunc, hm.1, hm.2, Try.func137, h1, h2, hx]
  rw [stepG_enter ho hw hk hr]
  have : listed Try.prog b.fn a o w = #[] := by unfold listed; rw [he]; exact seen_none Try.prog _
  rw [this]
theorem Walk.invokeLoad {x : Operand} {ats : Array TypeId} (p q : Nat) (ho : ops[i]? = some o) (hw : Region.wanted o (yielded ops a.tmps) = true) (hk : b.kind ≠ .early) (hop : o.op = .call { callee := .invoke x "Load", args := #[], argTypes := ats }) (hx : a.eval x = .iface 119 (.pointer (some ⟨p, q, none⟩)))
    (h : Walk Try.prog main (DR V) Stop (G (Frame.enter Try.prog 137 #[.pointer (some ⟨p, q, none⟩)] .normal) (b.at a (.inRegion ops (i :: rest) :: k) :: cs)) w) : Walk Try.prog main (DR V) Stop (G (b.at a (.inRegion ops (i :: rest) :: k)) cs) w :=
  Walk.ctl rfl (fun _ => stepG_invokeLoad p q ho hw hk hop hx) h
end
section
variable {P : Program}
theorem eqIn_ptr (d : Nat) (t : TypeId) (q : Option Addr) (w : World) (es : Array Event) {e} (hu : P.underlying t = some (.pointer e)) : (Op.equalIn (d + 1) t (.pointer q) (.pointer none)).run P w = .ok q.isNone w ∧ (Op.equalIn (d + 1) t (.pointer q) (.pointer none)).events P w es = es := by
  cases q <;> simp [Op.equalIn, run_underlying hu]
theorem run_eql_ptr (t : TypeId) {e} (hu : P.underlying t = some (.pointer e)) (q : Option Addr) (w : World) : (binOp .eql t (.pointer q) (.pointer none)).run P w = .ok (.bool q.isNone) w := by
  simp only [binOp]
  simp [Op.equal, Op.maxDepth, (eqIn_ptr 9999 t q w #[] hu).1]
theorem ev_eql_ptr (t : TypeId) {e} (hu : P.underlying t = some (.pointer e)) (q : Option Addr) (w : World) (es : Array Event) : (binOp .eql t (.pointer q) (.pointer none)).events P w es = es := by
  simp only [binOp]
  simp [Op.equal, Op.maxDepth, (eqIn_ptr 9999 t q w #[] hu).1, (eqIn_ptr 9999 t q w es hu).2]
end
section
theorem run_ifaceAtomic (a : Option Addr) (w : World) : (Instr.makeInterface 119 (.pointer a)).run Try.prog w = .ok (.iface 119 (.pointer a)) w := by simp [Instr.makeInterface, run_underlying undAtomic]
theorem ev_ifaceAtomic (a : Option Addr) (w : World) (es : Array Event) : (Instr.makeInterface 119 (.pointer a)).events Try.prog w es = es := by simp [Instr.makeInterface, run_underlying undAtomic]
theorem undWord : Try.prog.underlying 93 = some (.pointer 72) := by kernel_rfl
end
end
end Go.Proofs.Ytjenoiekfkhafaa
namespace Go.Relay
section
open Go.Conc Go.RowKit
section
variable {P : Program} {main : Bool} {v : Wait} {g : Goroutine}
def Yonder (P : Program) (main : Bool) (v : Wait) (g : Goroutine) : Prop := ∃ B k, ∀ w, Goes P main (RK v.K) (DS v.S B) (fun g _ => ∃ g₂, AtIn P main v.K v.S B v.seat g g₂) k g w
theorem Yonder.waits (h : Yonder P main v g) : ∃ B k, Waits P main B v k g := by
  obtain ⟨B, k, h⟩ := h
  exact ⟨B, k + 1, .inl ⟨k, default, rfl, h default⟩⟩
theorem ds_mono {S : Loc → Prop} {B B' : Nat} (hB : B ≤ B') (w w' : World) (es : Array Event) (h : DS S B w w' es) : DS S B' w w' es := ⟨h.1, fun e he => evC_mono hB (h.2 e he)⟩
theorem Yonder.step (hr : g.status = .running) (h : ∃ g' B', Yonder P main v g' ∧ ∀ w, v.K w → ∃ es, stepG P main g w = .go g' w es ∧ ∀ e ∈ es, EvC v.S B' e) : Yonder P main v g := by
  obtain ⟨g', B', ⟨B, k, hW⟩, hs⟩ := h
  refine ⟨max B B', k + 1, fun w => Goes.step hr fun w₁ h₁ => ?_⟩
  obtain ⟨es, he, hes⟩ := hs w₁ h₁
  rw [he, goes_go]
  exact ⟨⟨rfl, fun e hm => evC_mono (Nat.le_max_right _ _) (hes e hm)⟩, goes_mono (ds_mono (Nat.le_max_left _ _)) (fun _ _ ⟨g₂, h⟩ => ⟨g₂, atIn_mono (Nat.le_max_left _ _) h⟩) (hW w₁)⟩
theorem Yonder.ctl {g' : Goroutine} (hr : g.status = .running) (hs : ∀ w, stepG P main g w = .go g' w) (h : Yonder P main v g') : Yonder P main v g :=
  .step hr ⟨g', 0, h, fun w _ => ⟨#[], hs w, by simp⟩⟩
variable {b : Frame} {a : Act} {k : List Item} {cs : List Frame} {ops : Array Oper} {i : Nat} {rest : List Nat} {o : Oper}
theorem Yonder.op {x : Value} {B : Nat} (ho : ops[i]? = some o) (hw : Region.wanted o (yielded ops a.tmps) = true) (hk : b.kind ≠ .early)
    (hr : ∀ w, v.K w → ∀ K : Result Next → Prop, K (.ok (.value x) w) → K ((execOp a.eval o).run P w)) (he : ∀ w, v.K w → ∀ e ∈ (execOp a.eval o).events P w #[], EvC v.S B e) (h : Yonder P main v (G (b.at (a.put o.dst x) (.inRegion ops rest :: k)) cs)) :
    Yonder P main v (G (b.at a (.inRegion ops (i :: rest) :: k)) cs) :=
  .step rfl ⟨_, B, h, fun w hK => ⟨_, stepG_value ho hw hk (run_eq_of (hr w hK)), fun e hm => he w hK e (mem_listed hm)⟩⟩
theorem Yonder.opq {x : Value} (ho : ops[i]? = some o) (hw : Region.wanted o (yielded ops a.tmps) = true) (hk : b.kind ≠ .early)
    (hr : ∀ w, v.K w → ∀ K : Result Next → Prop, K (.ok (.value x) w) → K ((execOp a.eval o).run P w)) (he : ∀ w, v.K w → ∀ e ∈ (execOp a.eval o).events P w #[], False) (h : Yonder P main v (G (b.at (a.put o.dst x) (.inRegion ops rest :: k)) cs)) :
    Yonder P main v (G (b.at a (.inRegion ops (i :: rest) :: k)) cs) := Yonder.op (B := 0) ho hw hk hr (fun w hK e he' => (he w hK e he').elim) h
theorem Yonder.oq {x : Value} (h : Yonder P main v (G (b.at (a.put o.dst x) (.inRegion ops rest :: k)) cs)) (ho : ops[i]? = some o := by rfl) (hw : Region.wanted o (yielded ops a.tmps) = true := by rfl) (hk : b.kind ≠ .early := by decide)
    (hr : ∀ w, v.K w → ∀ K : Result Next → Prop, K (.ok (.value x) w) → K ((execOp a.eval o).run P w) := by intro w hw K hK; go_simp; exact hK) (he : ∀ w, v.K w → ∀ e ∈ (execOp a.eval o).events P w #[], False := by intro w hw e he; simp [go_sem, *] at he; done) : Yonder P main v (G (b.at a (.inRegion ops (i :: rest) :: k)) cs) := Yonder.opq ho hw hk hr he h
theorem Yonder.c {k' : List Item} (h : ctlNext a k = some k') (hw : Yonder P main v (G (b.at a k') cs)) : Yonder P main v (G (b.at a k) cs) := Yonder.ctl rfl (fun _ => ctl_next h) hw
theorem Yonder.cR {l : List Nat} {id : Nat} (h : Yonder P main v (G (b.at a (.inRegion ops l :: k)) cs)) (hl : List.range ops.size = l := by (simp only [List.size_toArray, List.length_cons, List.length_nil, Nat.reduceAdd, Nat.zero_add, List.range, List.range.loop]; first | done | rfl)) : Yonder P main v (G (b.at a (.code (.region id ops false) :: k)) cs) := Yonder.ctl rfl (fun _ => stepG_region) (hl ▸ h)
theorem Yonder.cE (h : Yonder P main v (G { b.at a [] with mode := .returning } cs)) : Yonder P main v (G (b.at a []) cs) := Yonder.ctl rfl (fun _ => stepG_end) h
theorem Yonder.cT (h : Yonder P main v (G { b.at a (.code .ret :: k) with mode := .returning } cs)) : Yonder P main v (G (b.at a (.code .ret :: k)) cs) := Yonder.ctl rfl (fun _ => stepG_ret') h
theorem Yonder.ld {x y : Value} (c : Addr) (hc : v.f c = some y) (ho : ops[i]? = some o) (hw : Region.wanted o (yielded ops a.tmps) = true) (hk : b.kind ≠ .early)
    (hr : ∀ w, v.K w → ∀ K : Result Next → Prop, K (.ok (.value x) w) → K ((execOp a.eval o).run P w)) (he : ∀ w, v.K w → ∀ e ∈ (execOp a.eval o).events P w #[], e = ⟨.cell c, false, false⟩) (h : Yonder P main v (G (b.at (a.put o.dst x) (.inRegion ops rest :: k)) cs)) :
    Yonder P main v (G (b.at a (.inRegion ops (i :: rest) :: k)) cs) := Yonder.op (B := c.block + 1) ho hw hk hr (fun w hK e he' => ⟨c, he w hK e he', ⟨c, y, rfl, hc⟩, Nat.lt_succ_self _⟩) h
theorem Yonder.call {f : FuncId} {fn : Func} {c : Code} {args : Array Operand} {ats : Array TypeId} (ho : ops[i]? = some o) (hw : Region.wanted o (yielded ops a.tmps) = true) (hk : b.kind ≠ .early) (hop : o.op = .call { callee := .value (.func f), args, argTypes := ats })
    (hf : P.funcs[f]? = some fn) (hname : (fn.name == "runtime.NumGoroutine") = false) (hb : fn.body = some c)
    (h : Yonder P main v (G ((base f).at { tmps := args.map a.eval ++ Array.replicate (fn.ntmps - (args.map a.eval).size) undef, defers := [] } [.code c]) (b.at a (.inRegion ops (i :: rest) :: k) :: cs))) :
    Yonder P main v (G (b.at a (.inRegion ops (i :: rest) :: k)) cs) := by
  refine .ctl rfl (fun w => ?_) h
  have hb' : fn.body.isNone = false := by rw [hb]; rfl
  rw [stepG_enter ho hw hk (run_call_body hop hf hname hb'), enter_at _ hf hb]
  have : listed P b.fn a o w = #[] := by unfold listed; rw [events_call_body hop hf hname hb']; exact seen_none P _
  rw [this]
theorem Yonder.callE {f : FuncId} {fn : Func} {args : Array Operand} {ats : Array TypeId} (ho : ops[i]? = some o) (hw : Region.wanted o (yielded ops a.tmps) = true) (hk : b.kind ≠ .early) (hop : o.op = .call { callee := .value (.func f), args, argTypes := ats })
    (hf : P.funcs[f]? = some fn) (hname : (fn.name == "runtime.NumGoroutine") = false) (hb : fn.body.isNone = false) (h : Yonder P main v (G (Frame.enter P f (args.map a.eval) .normal) (b.at a (.inRegion ops (i :: rest) :: k) :: cs))) :
    Yonder P main v (G (b.at a (.inRegion ops (i :: rest) :: k)) cs) := by
  refine .ctl rfl (fun w => ?_) h
  rw [stepG_enter ho hw hk (run_call_body hop hf hname hb)]
  have : listed P b.fn a o w = #[] := by unfold listed; rw [events_call_body hop hf hname hb]; exact seen_none P _
  rw [this]
theorem Yonder.there (ho : ops[i]? = some o) (hw : Region.wanted o (yielded ops a.tmps) = true) (hk : b.kind ≠ .early)
    (hr : ∀ w, (execOp a.eval o).run P w = .ok (.comm #[rcase v.ch v.z] true (.recv v.ok)) w) (he : ∀ w, (execOp a.eval o).events P w #[] = #[]) (h : v.home (G (b.at a (.inRegion ops (i :: rest) :: k)) cs)) :
    Yonder P main v (G (b.at a (.inRegion ops (i :: rest) :: k)) cs) :=
  ⟨0, 0, fun _ _ _ => ⟨_, atIn_of (s := v.seat) ho hw hk (fun w => by rw [hr]; rfl) he h⟩⟩
end
end
end Go.Relay
