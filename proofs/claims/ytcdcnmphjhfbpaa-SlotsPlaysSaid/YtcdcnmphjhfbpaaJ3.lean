/- Part 3. -/
import Derived.Test.YtcdcnmphjhfbpaaJ2
import Derived.Conc.DeferLaws
import Derived.Conc.AppendWalk
import Derived.Conc.AppendEvents2
import Derived.Deep.AppendLies
import Derived.Conc.SmallLaws
import Derived.Laws.Tables
import Derived.Laws.Cells
import Derived.Conc.AppendEvents
set_option linter.unusedSimpArgs false
set_option linter.unusedVariables false
set_option maxHeartbeats 8000000
set_option maxRecDepth 100000
namespace Go.Relay
section
open Go.Conc Go.RowKit
section
variable {P : Program} {main : Bool} {V : Nat -> Option Wait} {Stop : Goroutine -> World -> Prop} {w : World} {b fr c : Frame} {a : Act} {k : List Item} {cs : List Frame} {ops : Array Oper} {i : Nat} {rest : List Nat} {o : Oper}
theorem stepG_raise {x : Value} (ho : ops[i]? = some o) (hw : Region.wanted o (yielded ops a.tmps) = true) (hk : b.kind ≠ .early) (hr : (execOp a.eval o).run P w = .halt (.panic x) w) (he : (execOp a.eval o).events P w #[] = #[]) :
  stepG P main (G (b.at a (.inRegion ops (i :: rest) :: k)) cs) w = .go (G { b.at a (.inRegion ops (i :: rest) :: k) with mode := .panicking [{ v := x, recovered := false }] } cs) w := by
 have hk' : (b.kind == CallKind.early) = false := by simpa using hk
 rw [stepG_oper ho hw]
 simp [stepG.apply, hr, he, G, Frame.at, Frame.raise, hk', GStep.after, seen_none]
theorem stepG_pop {chain : List PanicEntry} (hm : fr.mode = .panicking chain) (hd : fr.defers = []) (hc : fr.catches P = false) : stepG P main (G fr (c :: cs)) w = .go (G (c.raise chain) cs) w := by
 simp [G, stepG, unwind, hm, hd, hc]
theorem Cx {d : Deferred} {ds : List Deferred} {f : FuncId} {fn : Func} {cap : Array Value} (hm : fr.mode ≠ .run) (hd : fr.defers = d :: ds) (ht : d.target = .fn (.func f) cap) (hf : P.funcs[f]? = some fn)
  (hname : (fn.name == "runtime.NumGoroutine") = false) (hb : fn.body.isNone = false) :
  stepG P main (G fr cs) w = .go (G (Frame.enter P f (d.args ++ cap) .deferred) ({ fr with defers := ds } :: cs)) w := by
 have h1 : ¬ fn.name = "runtime.NumGoroutine" := by simpa using hname
 have h2 : ¬ fn.body = none := by cases hx : fn.body <;> simp_all
 obtain ⟨t, ars⟩ := d
 subst ht
 have hs : stepG P main (G fr cs) w = unwind P main fr cs none w := by
  cases hmm : fr.mode <;> simp_all [G, stepG]
 rw [hs]
 simp [unwind, hd, callDeferred, invoke, callFunc, hf, h1, h2, GStep.after, seen_none, G]
theorem Ii {v : Value} {older : List PanicEntry} {ats : Array TypeId} (ho : ops[i]? = some o) (hw : Region.wanted o (yielded ops a.tmps) = true) (hk : b.kind = .deferred) (hop : o.op = .call { callee := .builtin .recover, args := #[], argTypes := ats })
  (hc : c.mode = .panicking ({ v, recovered := false, goexit := false } :: older)) :
  stepG P main (G (b.at a (.inRegion ops (i :: rest) :: k)) (c :: cs)) w = .go (G (b.at (a.put o.dst v) (.inRegion ops rest :: k)) ({ c with mode := .panicking ({ v, recovered := true } :: older) } :: cs)) w := by
 have hrun : (execOp a.eval o).run P w = .ok .recover w := by
  unfold execOp
  simp [hop, resolve, invoke, builtin]
 have hev : (execOp a.eval o).events P w #[] = #[] := by
  unfold execOp
  simp [hop, resolve, invoke, builtin]
 have hfin : (b.at a (.inRegion ops (i :: rest) :: k)).finish v = b.at (a.put o.dst v) (.inRegion ops rest :: k) := by rw [Frame.finish_at, ho]; rfl
 rw [stepG_oper ho hw, <- hfin]
 simp [stepG.apply, hrun, hev, G, Frame.at, hk, GStep.after, seen_none, tryRecover, hc]
theorem Fk {ats : Array TypeId} (ho : ops[i]? = some o) (hw : Region.wanted o (yielded ops a.tmps) = true) (hk : b.kind = .deferred) (hop : o.op = .call { callee := .builtin .recover, args := #[], argTypes := ats })
  (hc : c.mode = .returning) :
  stepG P main (G (b.at a (.inRegion ops (i :: rest) :: k)) (c :: cs)) w = .go (G (b.at (a.put o.dst .nilIface) (.inRegion ops rest :: k)) (c :: cs)) w := by
 have hrun : (execOp a.eval o).run P w = .ok .recover w := by
  unfold execOp
  simp [hop, resolve, invoke, builtin]
 have hev : (execOp a.eval o).events P w #[] = #[] := by
  unfold execOp
  simp [hop, resolve, invoke, builtin]
 have hfin : (b.at a (.inRegion ops (i :: rest) :: k)).finish .nilIface = b.at (a.put o.dst .nilIface) (.inRegion ops rest :: k) := by rw [Frame.finish_at, ho]; rfl
 rw [stepG_oper ho hw, <- hfin]
 simp [stepG.apply, hrun, hev, G, Frame.at, hk, GStep.after, seen_none, tryRecover, hc]
theorem Ep {todo : List Item} {fn : Func} {v x : Value} (hn : b.kind = .deferred) (hd : a.defers = []) (hf : P.funcs[b.fn]? = some fn) (hr : (results fn a.tmps).run P w = .ok x w) (he : (results fn a.tmps).events P w #[] = #[])
  (hc : c.mode = .panicking [{ v, recovered := true }]) :
  stepG P main (G { b.at a todo with mode := .returning } (c :: cs)) w = .go (G { c with mode := .returning } cs) w := by
 simp [G, stepG, unwind, doReturn, Frame.at, hn, hd, hf, hr, he, hc, seen, GStep.after]
theorem Eo {todo : List Item} {fn : Func} {x : Value} (hn : b.kind = .deferred) (hd : a.defers = []) (hf : P.funcs[b.fn]? = some fn) (hr : (results fn a.tmps).run P w = .ok x w) (he : (results fn a.tmps).events P w #[] = #[]) (hc : c.mode = .returning) :
  stepG P main (G { b.at a todo with mode := .returning } (c :: cs)) w = .go (G c cs) w := by
 simp [G, stepG, unwind, doReturn, Frame.at, hn, hd, hf, hr, he, hc, seen, GStep.after]
theorem stepG_deferClose {ds : List Deferred} {ats : Array TypeId} {t : TypeId} {cons : Array Bool} {ch : Nat} {kk : Nat} (hm : fr.mode = .returning) (hd : fr.defers = { target := .builtin .close ats t cons, args := #[.chan (some ch)] } :: ds)
  (hq : (P.funcs[fr.fn]?).any (·.norace) = false) (hc : w.heap[ch]? = some (.chan 0 #[] false kk kk false)) :
  stepG P main (G fr cs) w = .go (G { fr with defers := ds } cs) (w.setChan ch 0 #[] true kk kk false) (closeEvents ch) := by
 have hr : (invoke (.builtin .close ats t cons) #[.chan (some ch)]).run P w = .ok (.value (.tuple #[])) (w.setChan ch 0 #[] true kk kk false) := by
  simp [invoke, builtin, run_close_open _ _ hc, World.setChan]
 have he : (invoke (.builtin .close ats t cons) #[.chan (some ch)]).events P w #[] = closeEvents ch := by
  simp [invoke, builtin, events_close_open _ _ hc, closeEvents]
 have hs : seen P fr.fn (closeEvents ch) = closeEvents ch := seen_eq hq (by intro e he f; simp only [closeEvents, List.mem_toArray, List.mem_cons, List.not_mem_nil, or_false] at he; rcases he with rfl | rfl <;> simp)
 simp [G, stepG, unwind, hm, hd, callDeferred, hr, he, hs, GStep.after]
theorem Fu {d : Deferred} (ho : ops[i]? = some o) (hw : Region.wanted o (yielded ops a.tmps) = true) (hk : b.kind ≠ .early) (hr : (execOp a.eval o).run P w = .ok (.defer d) w) (he : (execOp a.eval o).events P w #[] = #[]) :
  stepG P main (G (b.at a (.inRegion ops (i :: rest) :: k)) cs) w = .go (G (b.at (Act.put ⟨a.tmps, d :: a.defers⟩ o.dst undef) (.inRegion ops rest :: k)) cs) w #[] := by
 have hfin : (b.at ⟨a.tmps, d :: a.defers⟩ (.inRegion ops (i :: rest) :: k)).finish undef = b.at (Act.put ⟨a.tmps, d :: a.defers⟩ o.dst undef) (.inRegion ops rest :: k) := by rw [Frame.finish_at, ho]; rfl
 have hk' : (b.kind == CallKind.early) = false := by simpa using hk
 rw [stepG_oper ho hw, <- hfin]
 simp [stepG.apply, hr, he, G, Frame.at, hk', GStep.after, seen_none]
theorem Dm {f : FuncId} {fn : Func} {x : Operand} {args : Array Operand} {ats : Array TypeId} {first cap : Array Value} (ho : ops[i]? = some o) (hw : Region.wanted o (yielded ops a.tmps) = true) (hk : b.kind ≠ .early)
  (hop : o.op = .call { callee := .value x, args, argTypes := ats }) (hx : a.eval x = .func (.func f) first cap) (hf : P.funcs[f]? = some fn) (hname : (fn.name == "runtime.NumGoroutine") = false) (hb : fn.body.isNone = false) :
  stepG P main (G (b.at a (.inRegion ops (i :: rest) :: k)) cs) w = .go (G (Frame.enter P f (first ++ args.map a.eval ++ cap) .normal) (b.at a (.inRegion ops (i :: rest) :: k) :: cs)) w := by
 have h1 : ¬ fn.name = "runtime.NumGoroutine" := by simpa using hname
 have h2 : ¬ fn.body = none := by cases hx : fn.body <;> simp_all
 have hr : (execOp a.eval o).run P w = .ok (.enter f (first ++ args.map a.eval ++ cap)) w := by
  unfold execOp
  simp [hop, resolve, Deferred.ofValue, invoke, callFunc, hf, h1, h2, hx]
 have he : (execOp a.eval o).events P w #[] = #[] := by
  unfold execOp
  simp [hop, resolve, Deferred.ofValue, invoke, callFunc, hf, h1, h2, hx]
 rw [stepG_enter ho hw hk hr]
 have : listed P b.fn a o w = #[] := by unfold listed; rw [he]; exact seen_none P _
 rw [this]
theorem run_assert_same (t s : TypeId) (v : Value) {u : TypeDesc} (hu : P.underlying t = some u) (h : ∀ ms, u ≠ .interface ms) : (Instr.typeAssert (.iface t v) s t true).run P w = .ok (.tuple #[v, .bool true]) w := by
 cases u <;> first | (exact absurd rfl (h _)) | simp [Instr.typeAssert, run_underlying hu]
theorem run_assert_other (t t' s : TypeId) (v z : Value) {u : TypeDesc} (hu : P.underlying t = some u) (h : ∀ ms, u ≠ .interface ms) (ht : t' ≠ t) (hz : (zeroValue t).run P w = .ok z w) : (Instr.typeAssert (.iface t' v) s t true).run P w = .ok (.tuple #[z, .bool false]) w := by
 cases u <;> first | (exact absurd rfl (h _)) | simp [Instr.typeAssert, run_underlying hu, ht, hz]
theorem ev_assert_same (t s : TypeId) (v : Value) (es : Array Event) {u : TypeDesc} (hu : P.underlying t = some u) (h : ∀ ms, u ≠ .interface ms) : (Instr.typeAssert (.iface t v) s t true).events P w es = es := by
 cases u <;> first | (exact absurd rfl (h _)) | simp [Instr.typeAssert, run_underlying hu]
theorem ev_assert_other (t t' s : TypeId) (v : Value) (es : Array Event) {u : TypeDesc} (hu : P.underlying t = some u) (h : ∀ ms, u ≠ .interface ms) (ht : t' ≠ t) (hze : (zeroValue t).events P w es = es) : (Instr.typeAssert (.iface t' v) s t true).events P w es = es := by
 cases u <;> first | (exact absurd rfl (h _)) | simp [Instr.typeAssert, run_underlying hu, ht, hze]
theorem Iw {fn : Func} {v : Value} (hm : fr.mode = .returning) (hn : fr.kind = .normal) (hd : fr.defers = []) (hf : P.funcs[fr.fn]? = some fn) (hr : (results fn fr.tmps).run P w = .ok v w) :
  stepG P main (G fr (c :: cs)) w = .go (G (c.finish v) cs) w (seen P fr.fn ((results fn fr.tmps).events P w #[])) := by
 simp [G, stepG, unwind, doReturn, hm, hn, hd, hf, hr, GStep.after]
theorem Mx {g g' : Goroutine} (E : Nat -> Array Event) (hr : g.status = .running) (hs : ∀ d, stepG P main g (w.at d) = .go g' (w.at d) (E d)) (he : ∀ d, ∀ e ∈ E d, Ig V e) (h : Walk P main (DR V) Stop g' w) : Walk P main (DR V) Stop g w :=
 .step hr (fun _ => g') (fun d => w.at d) E hs (fun d => DR.quiet (he d)) fun d => h.back d
theorem Em (d : Nat) (t : TypeId) (f : Fn) (x y : Array Value) {a b c} (hu : P.underlying t = some (.func a b c)) : (Op.equalIn (d + 1) t (.func f x y) .nilFunc).run P w = .ok false w := by simp [Op.equalIn, run_underlying hu]
theorem Jh (d : Nat) (t : TypeId) (f : Fn) (x y : Array Value) (es : Array Event) {a b c} (hu : P.underlying t = some (.func a b c)) : (Op.equalIn (d + 1) t (.func f x y) .nilFunc).events P w es = es := by simp [Op.equalIn, run_underlying hu]
theorem run_neq_func (t : TypeId) (f : Fn) (x y : Array Value) {a b c} (hu : P.underlying t = some (.func a b c)) : (binOp .neq t (.func f x y) .nilFunc).run P w = .ok (.bool true) w := by
 simp only [binOp]
 simp [Op.equal, Op.maxDepth, Em (w := w) 9999 t f x y hu]
theorem ev_neq_func (t : TypeId) (f : Fn) (x y : Array Value) (es : Array Event) {a b c} (hu : P.underlying t = some (.func a b c)) : (binOp .neq t (.func f x y) .nilFunc).events P w es = es := by
 simp only [binOp]
 simp [Op.equal, Op.maxDepth, Em (w := w) 9999 t f x y hu, Jh (w := w) 9999 t f x y es hu]
theorem Gc (d : Nat) (t : TypeId)  {a b c} (hu : P.underlying t = some (.func a b c)) : (Op.equalIn (d + 1) t .nilFunc .nilFunc).run P w = .ok true w := by simp [Op.equalIn, run_underlying hu]
theorem ev_eqIn_nilFunc (d : Nat) (t : TypeId)  (es : Array Event) {a b c} (hu : P.underlying t = some (.func a b c)) : (Op.equalIn (d + 1) t .nilFunc .nilFunc).events P w es = es := by simp [Op.equalIn, run_underlying hu]
theorem run_neq_nilFunc (t : TypeId)  {a b c} (hu : P.underlying t = some (.func a b c)) : (binOp .neq t .nilFunc .nilFunc).run P w = .ok (.bool false) w := by
 simp only [binOp]
 simp [Op.equal, Op.maxDepth, Gc (w := w) 9999 t  hu]
theorem ev_neq_nilFunc (t : TypeId)  (es : Array Event) {a b c} (hu : P.underlying t = some (.func a b c)) : (binOp .neq t .nilFunc .nilFunc).events P w es = es := by
 simp only [binOp]
 simp [Op.equal, Op.maxDepth, Gc (w := w) 9999 t  hu, ev_eqIn_nilFunc (w := w) 9999 t  es hu]
theorem Hl (d : Nat) (t : TypeId) (s : TypeId) (x : Value) {ms} (hu : P.underlying t = some (.interface ms)) : (Op.equalIn (d + 1) t (.iface s x) .nilIface).run P w = .ok false w := by simp [Op.equalIn, run_underlying hu]
theorem ev_eqIn_iface (d : Nat) (t : TypeId) (s : TypeId) (x : Value) (es : Array Event) {ms} (hu : P.underlying t = some (.interface ms)) : (Op.equalIn (d + 1) t (.iface s x) .nilIface).events P w es = es := by simp [Op.equalIn, run_underlying hu]
theorem Fv (t : TypeId) (s : TypeId) (x : Value) {ms} (hu : P.underlying t = some (.interface ms)) : (binOp .neq t (.iface s x) .nilIface).run P w = .ok (.bool true) w := by
 simp only [binOp]
 simp [Op.equal, Op.maxDepth, Hl (w := w) 9999 t s x hu]
theorem Gs (t : TypeId) (s : TypeId) (x : Value) (es : Array Event) {ms} (hu : P.underlying t = some (.interface ms)) : (binOp .neq t (.iface s x) .nilIface).events P w es = es := by
 simp only [binOp]
 simp [Op.equal, Op.maxDepth, Hl (w := w) 9999 t s x hu, ev_eqIn_iface (w := w) 9999 t s x es hu]
theorem Fm (d : Nat) (t : TypeId)  {ms} (hu : P.underlying t = some (.interface ms)) : (Op.equalIn (d + 1) t .nilIface .nilIface).run P w = .ok true w := by simp [Op.equalIn, run_underlying hu]
theorem ev_eqIn_nilIface (d : Nat) (t : TypeId)  (es : Array Event) {ms} (hu : P.underlying t = some (.interface ms)) : (Op.equalIn (d + 1) t .nilIface .nilIface).events P w es = es := by simp [Op.equalIn, run_underlying hu]
theorem Dd (t : TypeId)  {ms} (hu : P.underlying t = some (.interface ms)) : (binOp .neq t .nilIface .nilIface).run P w = .ok (.bool false) w := by
 simp only [binOp]
 simp [Op.equal, Op.maxDepth, Fm (w := w) 9999 t  hu]
theorem Dn (t : TypeId)  (es : Array Event) {ms} (hu : P.underlying t = some (.interface ms)) : (binOp .neq t .nilIface .nilIface).events P w es = es := by
 simp only [binOp]
 simp [Op.equal, Op.maxDepth, Fm (w := w) 9999 t  hu, ev_eqIn_nilIface (w := w) 9999 t  es hu]
end
end
section
open Go.Conc Go.RowKit
def Bd (V : Nat -> Option Wait) (g : Nat) : Prop := (∀ a : Addr, a.block = g -> Di V a) /\ ∀ i u, V i = some u -> u.ch ≠ g
section
variable {P : Program} {main : Bool} {V : Nat -> Option Wait} {Stop : Goroutine -> World -> Prop} {w : World} {b : Frame} {a : Act} {k : List Item} {cs : List Frame} {ops : Array Oper} {i : Nat} {rest : List Nat} {o : Oper}
theorem Fg {e : Event} (h : e.isRead) : Ig V e := by
 obtain ⟨ad, hl, hw⟩ := h
 obtain ⟨l, wr, s⟩ := e
 simp only at hl hw
 subst hl; subst hw
 exact Cb ad s
theorem Mq {e : Event} {ad : Addr} (h : e.loc = .cell ad) (hf : Di V ad) : Ig V e := by
 obtain ⟨l, wr, s⟩ := e
 simp only at h
 subst h
 cases wr with
 | true => exact Ic ad s hf
 | false => exact Cb ad s
theorem Mp : Ig V ⟨.mark .noRoom, false, true⟩ := ⟨fun x hx => (by simp [MemAct.ofEvent, MemAct.touch?] at hx), by simp, by simp⟩
theorem DR.grown {w w' : World} {es : Array Event} {row : Option Nat} (hg : w.grownBy w' row) (hr : ∀ g, row = some g -> Bd V g) (he : ∀ e ∈ es, Ig V e) : DR V w w' es := by
 refine ⟨fun i v e hK ad z hz => ?_, fun i v o e ho _ => ?_, he, ⟨hg.os, hg.output⟩⟩
 ·have hc := hK ad z hz
  have hlt := Ci w hc
  rw [World.cell?_of_block (hg.block _ hlt fun e' => ?_)]
  ·exact hc
  ·rw [(hr _ e'.symm).1 ad rfl i v e] at hz; cases hz
 ·rw [hg.block _ (Array.getElem?_eq_some_iff.1 ho).1 fun e' => (hr _ e'.symm).2 i v e rfl]
  exact ho
theorem Walk.append (s x : Operand) (t : TypeId) (ho : ops[i]? = some o) (hw : Region.wanted o (yielded ops a.tmps) = true) (hk : b.kind ≠ .early) (hop : o.op = .call { callee := .builtin .append, args := #[s, x], argTypes := #[t, t] })
  (base : Nat) (e : TypeId) (ti : TypeInfo) (z : Value) (size bytes : Nat) (ht : P.underlying t = some (.slice e)) (hi : P.info? e = some ti) (hz : ti.zero = some z) (hsize : ti.size = size) (hby : ti.bytes = bytes) (hzs : z.cells.size = size) (hsz : 0 < size)
  (v : Value) (n : Nat) (xs : List Value) (hs : a.eval s = v) (hown : w.ownsRow base e size v n xs)
  (ad : Addr) (m c : Nat) (news : List Value) (hx : a.eval x = .slice (some ad) m c) (hl : news.length = m * size) (hnews : ∀ j u, news[j]? = some u -> w.cell? (ad.add j) = some u) (h1 : ∀ u ∈ news, u.oneCell' = true)
  (hm : 0 < m) (h63 : n + m <= maxLen) (hbytes : (n + m) * bytes <= 140737488355328) (hbase : base <= w.heap.size) (hap : ∀ g, v.ownBlock = some g -> Bd V g)
  (h : ∀ g cap w', w'.ownsRow base e size (.slice (some ⟨g, 0, none⟩) (n + m) cap) (n + m) (xs ++ news) -> w.grownBy w' v.ownBlock -> (v.ownBlock = some g ∨ g = w.heap.size) -> g < w'.heap.size ->
   Walk P main (DR V) Stop (G (b.at (a.put o.dst (.slice (some ⟨g, 0, none⟩) (n + m) cap)) (.inRegion ops rest :: k)) cs) w') :
  Walk P main (DR V) Stop (G (b.at a (.inRegion ops (i :: rest) :: k)) cs) w := by
 refine Walk.go rfl fun d => goes_oper_k ho hw hk fun K hK => ?_
 obtain ⟨g, cap, w', hr, hown', hg, hat, hlt⟩ := run_append_lies (P := P) (w := w.at d) t o.type base e ti z size bytes ht hi hz hsize hby hzs hsz v n xs hown ad m c news hl hnews h1 hm h63 hbytes hbase w.heap.size rfl
 refine uponK_append s x t hop hs hx hr (hK _ _ ⟨DR.grown hg hap fun ev hev => ?_, h g cap w' hown' ⟨hg.os, hg.tape, hg.output, hg.size, hg.block⟩ hat hlt⟩)
 have hm' := mem_listed hev
 rw [events_append_op s x t hop hs hx] at hm'
 rcases events_append_own (w.at d) base t o.type e ti z size bytes ht hi hz hsize hby v n xs hown ad m c news hl hnews h1 h63 hbytes ev hm' with h' | ⟨ad', h', hb⟩ | ⟨mk, h', hn⟩
 ·exact Fg h'
 ·exact Mq h' ((hap _ hb.symm).1 ad' rfl)
 ·rw [h', show mk = .noRoom from hn]; exact Mp
end
end
section
open Go.Conc Go.RowKit
section
variable {P : Program} {main : Bool} {V : Nat -> Option Wait} {Stop : Goroutine -> World -> Prop} {w : World} {b : Frame} {a : Act} {k : List Item} {cs : List Frame} {ops : Array Oper} {i : Nat} {rest : List Nat} {o : Oper}
theorem Ek (t : TypeId) (l c : Operand) (ho : ops[i]? = some o) (hw : Region.wanted o (yielded ops a.tmps) = true) (hk : b.kind ≠ .early) (hop : o.op = .makeSlice t l c)
  (e : TypeId) (ti : TypeInfo) (z : Value) (size bytes : Nat) (ht : P.underlying t = some (.slice e)) (hi : P.info? e = some ti) (hz : ti.zero = some z) (hsize : ti.size = size) (hby : ti.bytes = bytes)
  (n : Nat) (hl : a.eval l = .int .i64 n) (hc : a.eval c = .int .i64 n) (hbytes : n * bytes <= 140737488355328) (h63 : n <= 17592186044416)
  (h : Walk P main (DR V) Stop (G (b.at (a.put o.dst (.slice (some ⟨w.heap.size, 0, none⟩) n n)) (.inRegion ops rest :: k)) cs) (w.alloc (.cells (madeCells z.cells (n * size)) e))) :
  Walk P main (DR V) Stop (G (b.at a (.inRegion ops (i :: rest) :: k)) cs) w := by
 subst hsize
 subst hby
 have hb' : (ti.bytes : Int) * (n : Int) <= 281474976710656 := by
  have h : ((ti.bytes * n : Nat) : Int) <= 281474976710656 := by rw [Nat.mul_comm]; omega
  rwa [Int.natCast_mul] at h
 refine Walk.go rfl fun d => goes_oper_k ho hw hk fun K hK => ?_
 have hr := run_make (P := P) (w.at d) t e ti z ht hi hz .i64 .i64 n n (by omega) (Int.le_refl _) hb' (by omega)
 have he := events_make (P := P) (w.at d) t e ti z ht hi hz .i64 .i64 n n (by omega) (Int.le_refl _) hb' (by omega) (by simpa using hbytes) #[]
 simp only [Int.toNat_natCast] at hr
 have hx : (execOp a.eval o).run P (w.at d) = .ok (.value (.slice (some ⟨w.heap.size, 0, none⟩) n n)) ((w.alloc (.cells (madeCells z.cells (n * ti.size)) e)).at d) := by
  simp only [execOp, hop, hl, hc, Sem.run_bind, hr]
  rfl
 have hv : (execOp a.eval o).events P (w.at d) #[] = #[] := by
  simp only [execOp, hop, hl, hc, Sem.events_bind, hr, he]
  rfl
 rw [hx]
 refine hK _ _ ⟨Fb d _ fun ev hm => ?_, h.back d⟩
 have hm' := mem_listed hm
 rw [hv] at hm'
 exact absurd hm' (by simp)
theorem Walk.chan (t : TypeId) (n : Operand) (ho : ops[i]? = some o) (hw : Region.wanted o (yielded ops a.tmps) = true) (hk : b.kind ≠ .early) (hop : o.op = .makeChan t n)
  (dir : ChanDir) (e : TypeId) (ti : TypeInfo) (ht : P.underlying t = some (.chan dir e)) (hi : P.info? e = some ti) (hn : a.eval n = .int .i64 0)
  (h : Walk P main (DR V) Stop (G (b.at (a.put o.dst (.chan (some w.heap.size))) (.inRegion ops rest :: k)) cs) (w.alloc (.chan 0 #[] false 0 0 false))) :
  Walk P main (DR V) Stop (G (b.at a (.inRegion ops (i :: rest) :: k)) cs) w := by
 refine Walk.go rfl fun d => goes_oper_k ho hw hk fun K hK => ?_
 have hr := run_makeChan (P := P) (w := w.at d) ht hi .i64 0 (by decide) (by simp)
 have he := events_makeChan (P := P) (w := w.at d) ht hi .i64 0 (by decide) (by simp) #[]
 simp only [Int.ofNat_zero, Int.natCast_zero, Int.cast_ofNat_Int] at hr he
 have hx : (execOp a.eval o).run P (w.at d) = .ok (.value (.chan (some w.heap.size))) ((w.alloc (.chan 0 #[] false 0 0 false)).at d) := by
  simp only [execOp, hop, hn, Sem.run_bind, hr]
  rfl
 have hv : (execOp a.eval o).events P (w.at d) #[] = #[] := by
  simp only [execOp, hop, hn, Sem.events_bind, hr, he]
  rfl
 rw [hx]
 refine hK _ _ ⟨Fb d _ fun ev hm => ?_, h.back d⟩
 have hm' := mem_listed hm
 rw [hv] at hm'
 exact absurd hm' (by simp)
theorem Walk.callE {f : FuncId} {fn : Func} {args : Array Operand} {ats : Array TypeId} (ho : ops[i]? = some o) (hw : Region.wanted o (yielded ops a.tmps) = true) (hk : b.kind ≠ .early) (hop : o.op = .call { callee := .value (.func f), args, argTypes := ats })
  (hf : P.funcs[f]? = some fn) (hname : (fn.name == "runtime.NumGoroutine") = false) (hb : fn.body.isNone = false)
  (h : Walk P main (DR V) Stop (G (Frame.enter P f (args.map a.eval) .normal) (b.at a (.inRegion ops (i :: rest) :: k) :: cs)) w) :
  Walk P main (DR V) Stop (G (b.at a (.inRegion ops (i :: rest) :: k)) cs) w := by
 refine Walk.ctl rfl (fun w => ?_) h
 rw [stepG_enter ho hw hk (run_call_body hop hf hname hb)]
 have : listed P b.fn a o w = #[] := by unfold listed; rw [events_call_body hop hf hname hb]; exact seen_none P _
 rw [this]
theorem Walk.drawn {id : Nat} (hm : P.follows .mixedOrders = true) (hk : b.kind ≠ .early) {Q : Act -> World -> Prop}
  (h : ∀ d, AnyCH P AtRel (DR V) b.fn .any ops (fun e a' w' => e = .normal /\ Q a' w') (fun _ => True) ops.size (Array.replicate ops.size false) a (w.at d))
  (hc : ∀ a' w', Q a' w' -> Walk P main (DR V) Stop (G (b.at a' k) cs) w') : Walk P main (DR V) Stop (G (b.at a (.code (.region id ops true) :: k)) cs) w :=
 Walk.code (n := ops.size + 1 + 1) (Q := Q) (wpC_region_held termsR Ms hm fun _ hr => by obtain ⟨d, rfl⟩ := hr; exact h (d + 1)) hk hc
theorem En {W : World} {x : Value} {fn : FuncId} {d0 : Nat} {K : Act -> World -> Prop} (ho : ops[i]? = some o) (hw : Region.wanted o (yielded ops a.tmps) = true) (hr : ∀ d, (execOp a.eval o).run P (w.at d) = .ok (.value x) (W.at d)) (hd : ∀ d, DR V (w.at d) (W.at d) (listed P fn a o (w.at d)))
  (h : ∀ d, K (a.put o.dst x) (W.at d)) : OpC P AtRel (DR V) fn ops i K a (w.at d0) := by
 unfold OpC
 simp only [ho, hw, if_true]
 rintro _ ⟨d, rfl⟩
 have := hr d
 show uponK o a _ ((execOp a.eval o).run P (w.at d))
 rw [this]
 exact ⟨hd d, h d⟩
end
end
section
open Go.Conc Go.RowKit
section
variable (P : Program) (main : Bool) (V : Nat -> Option Wait) (Stop : Goroutine -> World -> Prop) (b : Frame) (k : List Item) (cs : List Frame) (ops : Array Oper)
def OpW (i : Nat) (K : Act -> World -> Prop) (a : Act) (w : World) : Prop :=
 ∀ rest, (∀ a' w', K a' w' -> Walk P main (DR V) Stop (G (b.at a' (.inRegion ops rest :: k)) cs) w') -> Walk P main (DR V) Stop (G (b.at a (.inRegion ops (i :: rest) :: k)) cs) w
def AnyW (md : Region.Mode) (Q : Act -> World -> Prop) : Nat -> Array Bool -> Act -> World -> Prop
 | 0, listed, a, w => Region.ready md ops listed = [] /\ Q a w
 | fuel + 1, listed, a, w => (Region.ready md ops listed = [] -> Q a w) /\ ∀ i ∈ Region.ready md ops listed, OpW P main V Stop b k cs ops i (fun a' w' => AnyW md Q fuel (listed.setIfInBounds i true) a' w') a w
end
section
variable {P : Program} {main : Bool} {V : Nat -> Option Wait} {Stop : Goroutine -> World -> Prop} {b : Frame} {k : List Item} {cs : List Frame} {ops : Array Oper} {md : Region.Mode} {Q : Act -> World -> Prop}
theorem anyW_sound (hc : ∀ a w, Q a w -> Walk P main (DR V) Stop (G (b.at a (.inRegion ops [] :: k)) cs) w) : ∀ (fuel t : Nat) (listed : Array Bool) (a : Act) (w : World), AnyW P main V Stop b k cs ops md Q fuel listed a w ->
  Walk P main (DR V) Stop (G (b.at a (.inRegion ops (Region.linearise.go md ops fuel t listed []) :: k)) cs) w := by
 intro fuel
 induction fuel with
 | zero => intro t listed a w h; exact hc _ _ h.2
 | succ fuel ih =>
  intro t listed a w h
  obtain ⟨h₀, h₁⟩ := h
  simp only [Region.linearise.go]
  change Walk P main (DR V) Stop (G (b.at a (.inRegion ops (match (Region.ready md ops listed)[t % (Region.ready md ops listed).length]? with
   | some i => Region.linearise.go md ops fuel (t / (Region.ready md ops listed).length) (listed.setIfInBounds i true) [i]
   | none => [].reverse) :: k)) cs) w
  cases hi : (Region.ready md ops listed)[t % (Region.ready md ops listed).length]? with
  | none =>
   have hnil : Region.ready md ops listed = [] := by
    cases hr : Region.ready md ops listed with
    | nil => rfl
    | cons x xs =>
     rw [hr] at hi
     have hlt : t % (x :: xs).length < (x :: xs).length := Nat.mod_lt _ (by simp)
     simp at hi
     simp at hlt
     omega
   exact hc _ _ (h₀ hnil)
  | some i =>
   simp only []
   rw [linearise_go_acc, List.reverse_singleton, List.singleton_append]
   exact h₁ i (List.mem_of_getElem? hi) _ fun a' w' x => ih _ _ a' w' x
theorem Walk.drawnW {id : Nat} {a : Act} {w : World} (hm : P.follows .mixedOrders = true)
  (h : ∀ d, AnyW P main V Stop b k cs ops .any Q ops.size (Array.replicate ops.size false) a (w.at d))
  (hc : ∀ a' w', Q a' w' -> Walk P main (DR V) Stop (G (b.at a' (.inRegion ops [] :: k)) cs) w') : Walk P main (DR V) Stop (G (b.at a (.code (.region id ops true) :: k)) cs) w := by
 refine Walk.step rfl (fun d => G (b.at a (.inRegion ops (Region.linearise .any ops (w.tape d (.order b.fn id))) :: k)) cs) (fun d => w.at (d + 1)) (fun _ => #[]) (fun d => ?_) (fun d => Ms _) (fun d => anyW_sound hc ops.size _ _ a _ (h (d + 1)))
 rw [stepG_region_draw]
 simp only [Region.schedule, hm, Bool.true_or, if_true]
 rfl
end
end
section
open Go.Conc Go.RowKit
open Go.ConcN (upd upd_ne upd_same)
def Oe (ops : Array Oper) : Bool := (List.range ops.size).all fun i => (ops[i]?).any fun o => o.after.all fun e => decide (e.on < i)
def depB (ops : Array Oper) (i : Nat) (l : List Nat) : Bool := (ops[i]?).any fun o => l.all fun j => o.after.any fun e => decide (e.on = j) && Region.binds .any e
def Do (L : Array Bool) : Nat -> Bool := fun j => L.getD j false
def leftOf (n : Nat) (f : Nat -> Bool) : Nat := (List.range n).countP (fun i => !f i)
theorem Iq {n : Nat} {f : Nat -> Bool} {i : Nat} (hi : i < n) (h : f i = false) : 1 <= leftOf n f := List.countP_pos_iff.2 ⟨i, by simpa using hi, by simp [h]⟩
theorem Mh {n : Nat} {f : Nat -> Bool} {i : Nat} (hi : i < n) (h : f i = false) : leftOf n (upd f i true) = leftOf n f - 1 := by
 unfold leftOf
 induction n with
 | zero => omega
 | succ n ih =>
  rw [List.range_succ, List.countP_append, List.countP_append]
  by_cases e : i = n
  ·subst e
   have : (List.range i).countP (fun j => !upd f i true j) = (List.range i).countP (fun j => !f j) := List.countP_congr fun j hj => by
    have : j ≠ i := by have := List.mem_range.1 hj; omega
    simp [upd_ne _ _ this]
   rw [this]
   simp [upd_same, h]
  ·have hp := Iq (n := n) (by omega) h
   unfold leftOf at hp
   have := ih (by omega)
   rw [this]
   simp only [List.countP_singleton, upd_ne _ _ (Ne.symm e)]
   omega
theorem Gb {L : Array Bool} {i : Nat} (hi : i < L.size) : Do (L.setIfInBounds i true) = upd (Do L) i true := by
 funext j
 unfold Do
 by_cases e : j = i
 ·subst e
  rw [upd_same, Array.getD_eq_getD_getElem?, Array.getElem?_setIfInBounds_self_of_lt hi]; rfl
 ·rw [upd_ne _ _ e, Array.getD_eq_getD_getElem?, Array.getElem?_setIfInBounds_ne (Ne.symm e), <- Array.getD_eq_getD_getElem?]
theorem Iu {L : Array Bool} {i : Nat} (hi : i < L.size) : L.getD i true = Do L i := by
 unfold Do
 rw [Array.getD_eq_getD_getElem?, Array.getD_eq_getD_getElem?, Array.getElem?_eq_getElem hi]; rfl
section
variable {P : Program} {main : Bool} {V : Nat -> Option Wait} {Stop : Goroutine -> World -> Prop} {b : Frame} {k : List Item} {cs : List Frame} {ops : Array Oper} {Q : Act -> World -> Prop}
theorem Bi {i : Nat} {l : List Nat} {o : Oper} {f : Nat -> Bool} (h : depB ops i l = true) (ho : ops[i]? = some o) (hd : ∀ e ∈ o.after, Region.binds .any e = true -> f e.on = true) : ∀ j ∈ l, f j = true := by
 intro j hj
 unfold depB at h
 rw [ho] at h
 simp only [Option.any_some, List.all_eq_true] at h
 have := h j hj
 obtain ⟨x, hx, hb⟩ := Array.any_eq_true.1 this
 simp only [Bool.and_eq_true, decide_eq_true_eq] at hb
 exact hb.1 ▸ hd _ (Array.getElem_mem hx) hb.2
theorem OpW.mono {i : Nat} {K K' : Act -> World -> Prop} {a : Act} {w : World} (h : OpW P main V Stop b k cs ops i K a w) (hK : ∀ a w, K a w -> K' a w) : OpW P main V Stop b k cs ops i K' a w :=
 fun rest hr => h rest fun a' w' x => hr a' w' (hK a' w' x)
theorem all_up (hlow : Oe ops = true) {L : Array Bool} (hL : L.size = ops.size) (hr : Region.ready .any ops L = []) : ∀ i, i < ops.size -> Do L i = true := by
 intro i
 induction i using Nat.strongRecOn with
 | _ i ih =>
  intro hi
  refine Classical.byContradiction fun hne => ?_
  have hf : Do L i = false := by simpa using hne
  have hm : i ∈ Region.ready .any ops L := mem_ready.2 ⟨by rw [Iu (by omega)]; exact hf, ops[i], Array.getElem?_eq_getElem hi, fun e he _ => ih e.on ?_ ?_⟩
  ·rw [hr] at hm; cases hm
  ·have := List.all_eq_true.1 hlow i (List.mem_range.2 hi)
   rw [Array.getElem?_eq_getElem hi] at this
   simp only [Option.any_some] at this
   have := (Array.all_eq_true_iff_forall_mem.1 this) e he
   simpa using this
  ·have := List.all_eq_true.1 hlow i (List.mem_range.2 hi)
   rw [Array.getElem?_eq_getElem hi] at this
   simp only [Option.any_some] at this
   have := (Array.all_eq_true_iff_forall_mem.1 this) e he
   have : e.on < i := by simpa using this
   omega
def Closed (ops : Array Oper) (f : Nat -> Bool) : Prop := ∀ j o, ops[j]? = some o -> f j = true -> ∀ e ∈ o.after, Region.binds .any e = true -> f e.on = true
theorem Closed.deps {f : Nat -> Bool} {i : Nat} {l : List Nat} (hC : Closed ops f) (hi : f i = true) (h : depB ops i l = true) : ∀ j ∈ l, f j = true := by
 cases ho : ops[i]? with
 | none => intro j hj; unfold depB at h; rw [ho] at h; cases h
 | some o => exact Bi h ho (hC i o ho hi)
theorem anyW_inv {Inv : (Nat -> Bool) -> Act -> World -> Prop} (hlow : Oe ops = true)
  (hop : ∀ f i o a w, Inv f a w -> Closed ops f -> f i = false -> ops[i]? = some o -> (∀ e ∈ o.after, Region.binds .any e = true -> f e.on = true) -> OpW P main V Stop b k cs ops i (fun a' w' => Inv (upd f i true) a' w') a w)
  (hend : ∀ f a w, Inv f a w -> (∀ i, i < ops.size -> f i = true) -> Q a w) :
  ∀ (fuel : Nat) (L : Array Bool) (a : Act) (w : World), L.size = ops.size -> Inv (Do L) a w -> Closed ops (Do L) -> leftOf ops.size (Do L) <= fuel -> AnyW P main V Stop b k cs ops .any Q fuel L a w := by
 intro fuel
 induction fuel with
 | zero =>
  intro L a w hL hI _ hf
  have hall : ∀ i, i < ops.size -> Do L i = true := fun i hi => by
   refine Classical.byContradiction fun hne => ?_
   have := Iq hi (f := Do L) (by simpa using hne)
   omega
  have hr : Region.ready .any ops L = [] := List.eq_nil_iff_forall_not_mem.2 fun i hm => by
   obtain ⟨h0, o, ho, _⟩ := mem_ready.1 hm
   have hi : i < ops.size := (Array.getElem?_eq_some_iff.1 ho).1
   rw [Iu (by omega), hall i hi] at h0
   cases h0
  exact ⟨hr, hend _ a w hI hall⟩
 | succ fuel ih =>
  intro L a w hL hI hC hf
  refine ⟨fun hr => hend _ a w hI (all_up hlow hL hr), fun i hm => ?_⟩
  obtain ⟨h0, o, ho, hd⟩ := mem_ready.1 hm
  have hi : i < ops.size := (Array.getElem?_eq_some_iff.1 ho).1
  rw [Iu (by omega)] at h0
  refine (hop (Do L) i o a w hI hC h0 ho hd).mono fun a' w' hI' => ?_
  refine ih _ a' w' (by simp [hL]) (by rw [Gb (by omega)]; exact hI') ?_ ?_
  ·rw [Gb (by omega)]
   intro j o' ho' hj e he hb
   have hup : ∀ x, Do L x = true -> upd (Do L) i true x = true := fun x hx => by
    by_cases ex : x = i
    ·subst ex; exact upd_same _ _ _
    ·rw [upd_ne _ _ ex]; exact hx
   by_cases ej : j = i
   ·subst ej
    rw [ho] at ho'; cases ho'
    exact hup _ (hd e he hb)
   ·rw [upd_ne _ _ ej] at hj
    exact hup _ (hC j o' ho' hj e he hb)
  ·rw [Gb (by omega), Mh hi h0]
   omega
theorem Et {id : Nat} {a : Act} {w : World} {Inv : (Nat -> Bool) -> Act -> World -> Prop} (hm : P.follows .mixedOrders = true) (hlow : Oe ops = true) (h0 : ∀ d, Inv (fun _ => false) a (w.at d))
  (hop : ∀ f i o a w, Inv f a w -> Closed ops f -> f i = false -> ops[i]? = some o -> (∀ e ∈ o.after, Region.binds .any e = true -> f e.on = true) -> OpW P main V Stop b k cs ops i (fun a' w' => Inv (upd f i true) a' w') a w)
  (hend : ∀ f a w, Inv f a w -> (∀ i, i < ops.size -> f i = true) -> Walk P main (DR V) Stop (G (b.at a (.inRegion ops [] :: k)) cs) w) : Walk P main (DR V) Stop (G (b.at a (.code (.region id ops true) :: k)) cs) w := by
 refine Walk.drawnW (Q := fun a w => Walk P main (DR V) Stop (G (b.at a (.inRegion ops [] :: k)) cs) w) hm (fun d => ?_) (fun a' w' h => h)
 have hu : Do (Array.replicate ops.size false) = fun _ => false := by
  funext j
  unfold Do
  rw [Array.getD_eq_getD_getElem?, Array.getElem?_replicate]
  split <;> rfl
 refine anyW_inv hlow hop hend _ _ a (w.at d) (by simp) (by rw [hu]; exact h0 d) (by rw [hu]; intro _ _ _ h; cases h) ?_
 unfold leftOf
 exact Nat.le_trans List.countP_le_length (by simp)
theorem Walk.drawnI {id : Nat} {a : Act} {w : World} {Inv : (Nat -> Bool) -> Act -> World -> Prop} (hm : P.follows .mixedOrders = true) (hlow : Oe ops = true) (h0 : ∀ d, Inv (fun _ => false) a (w.at d))
  (hop : ∀ f i o a w, Inv f a w -> f i = false -> ops[i]? = some o -> (∀ e ∈ o.after, Region.binds .any e = true -> f e.on = true) -> OpW P main V Stop b k cs ops i (fun a' w' => Inv (upd f i true) a' w') a w)
  (hend : ∀ f a w, Inv f a w -> (∀ i, i < ops.size -> f i = true) -> Walk P main (DR V) Stop (G (b.at a (.inRegion ops [] :: k)) cs) w) : Walk P main (DR V) Stop (G (b.at a (.code (.region id ops true) :: k)) cs) w :=
 Et hm hlow h0 (fun f i o a w h _ => hop f i o a w h) hend
end
def Facts (dsts : List Nat) (vals : List Value) (f : Nat -> Bool) (u : Nat -> Value) : Prop := ∀ j d v, f j = true -> dsts[j]? = some d -> vals[j]? = some v -> u d = v
theorem Facts.none (dsts : List Nat) (vals : List Value) (u : Nat -> Value) : Facts dsts vals (fun _ => false) u := fun _ _ _ h => by cases h
theorem Facts.set {dsts : List Nat} {vals : List Value} {f : Nat -> Bool} {u : Nat -> Value} (F : Facts dsts vals f u) (hn : dsts.Nodup) {i d : Nat} {v : Value} (hd : dsts[i]? = some d) (hv : vals[i]? = some v) : Facts dsts vals (upd f i true) (upd u d v) := by
 intro j d' v' hf hd' hv'
 by_cases e : j = i
 ·subst e
  rw [hd] at hd'; rw [hv] at hv'
  cases hd'; cases hv'
  exact upd_same _ _ _
 ·rw [upd_ne _ _ e] at hf
  have hne : d' ≠ d := fun h => by
   subst h
   obtain ⟨h1, h1'⟩ := List.getElem?_eq_some_iff.1 hd
   obtain ⟨h2, h2'⟩ := List.getElem?_eq_some_iff.1 hd'
   exact e ((List.getElem_inj hn).1 (h2'.trans h1'.symm))
  rw [upd_ne _ _ hne]
  exact F j d' v' hf hd' hv'
end
section
open Go.Conc Go.RowKit
variable {P : Program} {main : Bool} {V : Nat -> Option Wait} {Stop : Goroutine -> World -> Prop} {w : World} {b : Frame} {a : Act} {k : List Item} {cs : List Frame} {ops : Array Oper} {i : Nat} {rest : List Nat} {o : Oper}
theorem Bm (g o j : Nat) : (⟨g, o, none⟩ : Addr).add j = ⟨g, o + j, none⟩ := by unfold Addr.add; split <;> simp_all
theorem Hk (w : World) (g o : Nat) (ty : TypeId) (cs : List Value) (d : TypeDesc) (hc : ∀ j v, cs[j]? = some v -> w.cell? ⟨g, o + j, none⟩ = some v)
  (hu : P.underlying ty = some d) (hd : (match d with | .struct _ | .array _ _ => true | _ => false) = true) (hi : (P.info? ty).map (·.size) = some cs.length) :
  (loadVar ty ⟨g, o, none⟩).run P w = .ok (.agg cs.toArray) w := by
 have hl : (loadCells ⟨g, o, none⟩ cs.length).run P w = .ok cs.toArray w := run_loadCells_list (P := P) w ⟨g, o, none⟩ cs (fun j v hv => by rw [Bm]; exact hc j v hv)
 cases hq : P.info? ty with
 | none => simp [hq] at hi
 | some i =>
  have hs : i.size = cs.length := by simpa [hq] using hi
  have hagg : (isAgg ty).run P w = .ok true w := by
   unfold isAgg
   rw [Sem.run_bind, run_underlying hu w]
   cases d <;> simp_all
  simp [loadVar, Sem.run_bind, hagg, sizeOf, typeInfo, hq, hs, hl]
theorem Da (w : World) (ad : Addr) (ty : TypeId) {d : TypeDesc} (hu : P.underlying ty = some d) (hd : (match d with | .struct _ | .array _ _ => true | _ => false) = true) {n : Nat} (hi : (P.info? ty).map (·.size) = some n) :
  ∀ e ∈ (loadVar ty ad).events P w #[], e.isRead := by
 cases hq : P.info? ty with
 | none => simp [hq] at hi
 | some i =>
  have hagg : (isAgg ty).run P w = .ok true w := by
   unfold isAgg
   rw [Sem.run_bind, run_underlying hu w]
   cases d <;> simp_all
  have hagge : ∀ es, (isAgg ty).events P w es = es := fun es => by
   unfold isAgg
   simp only [Sem.events_bind, run_underlying hu w, events_underlying, Result.evThen_ok]
   cases d <;> simp
  intro e he
  have hsz : ∀ es, (sizeOf ty).events P w es = es := fun es => by simp [sizeOf, typeInfo, hq]
  have hszr : (sizeOf ty).run P w = .ok i.size w := by simp [sizeOf, typeInfo, hq]
  simp only [loadVar, Sem.events_bind, hagg, hagge, Result.evThen_ok, if_true, hszr, hsz, loadCells] at he
  have : e ∈ (loadCellsFrom ad 0 i.size #[]).events P w #[] := by
   revert he
   cases (loadCellsFrom ad 0 i.size #[]).run P w <;> simp
  rcases events_loadCellsFrom_reads _ _ _ _ _ _ e this with h | h
  ·simp at h
  ·exact h
theorem Walk.loadS (t : TypeId) (x : Operand) (ho : ops[i]? = some o) (hw : Region.wanted o (yielded ops a.tmps) = true) (hk : b.kind ≠ .early) (hop : o.op = .load t x) (g off : Nat) (vals : List Value) (d : TypeDesc) (hx : a.eval x = .pointer (some ⟨g, off, none⟩)) (hc : ∀ j v, vals[j]? = some v -> w.cell? ⟨g, off + j, none⟩ = some v)
  (hu : P.underlying t = some d) (hd : (match d with | .struct _ | .array _ _ => true | _ => false) = true) (hi : (P.info? t).map (·.size) = some vals.length)
  (h : Walk P main (DR V) Stop (G (b.at (a.put o.dst (.agg vals.toArray)) (.inRegion ops rest :: k)) cs) w) : Walk P main (DR V) Stop (G (b.at a (.inRegion ops (i :: rest) :: k)) cs) w := by
 refine Walk.opq ho hw hk (fun dd e he => ?_) (fun dd K hK => ?_)
 ·refine Fg (Da (P := P) (w.at dd) ⟨g, off, none⟩ t hu hd hi e ?_)
  unfold execOp at he
  simpa [hop, hx, Instr.loadAt, Instr.sureAddr, Sem.events_bind] using he
 ·unfold execOp
  simp only [hop, hx, Instr.loadAt, Instr.sureAddr, Sem.run_bind, Sem.run_pure, Result.andThen_ok, Hk (P := P) (w.at dd) g off t vals d hc hu hd hi]
  exact hK _ h
theorem Ir (w : World) (g : Nat) (t ty : TypeId) (old cells : Array Value) (hg : w.heap[g]? = some (.cells old t (0, 0))) (hi : (P.info? ty).map (·.size) = some cells.size) (ho : old.size = cells.size) (h1 : cells.all (·.oneCell') = true) :
  ∀ e ∈ (storeVar ty ⟨g, 0, none⟩ (.agg cells)).events P w #[], ∃ ad, e.loc = .cell ad /\ ad.block = g := by
 cases hq : P.info? ty with
 | none => simp [hq] at hi
 | some i =>
  have hs : cells.size = i.size := by simp [hq] at hi; omega
  intro e he
  have : e ∈ (storeCells ⟨g, 0, none⟩ cells.toList 0).events P w #[] := by
   simpa [storeVar, sizeOf, typeInfo, hq, Value.cells, hs, Sem.events_bind] using he
  rcases events_storeCells_at g 0 t cells.toList 0 old w #[] hg (by simp; omega) (fun v hv => (Array.all_eq_true_iff_forall_mem.1 h1) v (by simpa using hv)) e this with h | h
  ·simp at h
  ·exact h
theorem Az (t : TypeId) (x y : Operand) (ho : ops[i]? = some o) (hw : Region.wanted o (yielded ops a.tmps) = true) (hk : b.kind ≠ .early) (hop : o.op = .store t x y) (g : Nat) (cells old : Array Value) (tt : TypeId) (hx : a.eval x = .pointer (some ⟨g, 0, none⟩)) (hy : a.eval y = .agg cells)
  (hg : w.heap[g]? = some (.cells old tt (0, 0))) (hi : (P.info? t).map (·.size) = some cells.size) (hold : old.size = cells.size) (h1 : cells.all (·.oneCell') = true) (hap : Bd V g)
  (h : Walk P main (DR V) Stop (G (b.at (a.put o.dst undef) (.inRegion ops rest :: k)) cs) (w.setRow g cells)) : Walk P main (DR V) Stop (G (b.at a (.inRegion ops (i :: rest) :: k)) cs) w := by
 have hgr : ∀ d, (w.at d).grownBy ((w.setRow g cells).at d) (some g) := fun d => by
  refine ⟨rfl, rfl, rfl, ?_, fun k hk hne => ?_⟩
  ·simp [World.setRow, World.at]
  ·have : k ≠ g := fun e => hne (by rw [e])
   simp only [World.setRow, World.at]
   rw [Array.getElem?_modify, if_neg (Ne.symm this)]
 refine Jm (W := w.setRow g cells) ho hw hk (fun dd e he => ?_) (fun dd es hes => DR.grown (hgr dd) (fun g' e => by cases e; exact hap) hes) (fun dd K hK => ?_)
 ·obtain ⟨ad, h1', h2'⟩ := Ir (P := P) (w.at dd) g tt t old cells hg hi hold h1 e (by
   unfold execOp at he
   have hr := run_storeVar_row (P := P) (w.at dd) g tt t old cells hg hi hold h1
   simpa [hop, hx, hy, Instr.storeAt, Instr.sureAddr, Sem.events_bind, hr] using he)
  exact Mq h1' (hap.1 ad h2')
 ·unfold execOp
  simp only [hop, hx, hy, Instr.storeAt, Instr.sureAddr, Sem.run_bind, Sem.run_pure, Result.andThen_ok, run_storeVar_row (P := P) (w.at dd) g tt t old cells hg hi hold h1]
  exact hK _ h
end
section
open Go.Conc Go.RowKit
open Go.ConcN (upd upd_ne upd_same)
def Il (ops : Array Oper) (i j : Nat) : Bool := (ops[i]?).any fun o => o.after.any fun e => decide (e.on = j) && Region.binds .any e
def Fr (ops : Array Oper) (m : Nat) : Bool := decide (m <= ops.size) && (List.range m).all fun i => (ops[i]?).any fun o => (match o.op with | .select _ _ => false | _ => true) && o.dst.isSome &&
 (List.range ops.size).all fun j => decide (j = i) && !(o.looksAt ops).any (fun t => o.dst == some t) ||
  (ops[j]?).any fun p => (o.dst != p.dst) && (!(o.looksAt ops).any (fun t => p.dst == some t) || decide (j < i) && Il ops i j)
section
variable (P : Program) (main : Bool) (V : Nat -> Option Wait) (ops : Array Oper) (Z : World -> Prop)
def Cm (K : Act -> Prop) : List Nat -> Act -> Prop
 | [], a => K a
 | i :: rest, a => ∃ o a', ops[i]? = some o /\ Cm K rest a' /\
  ((Region.wanted o (yielded ops a.tmps) = false /\ a' = a.put o.dst undef) ∨
   (Region.wanted o (yielded ops a.tmps) = true /\ (∀ w, Z w -> ∀ d, ∀ e ∈ (execOp a.eval o).events P (w.at d) #[], Ig V e) /\ ∀ w, Z w -> ∀ d, uponK o a (fun x w' => x = a' /\ w' = w.at d) ((execOp a.eval o).run P (w.at d))) ∨
   (Region.wanted o (yielded ops a.tmps) = true /\ ∃ (f : FuncId) (fn : Func) (args : Array Operand) (ats : Array TypeId) (x : Value), o.op = .call { callee := .value (.func f), args, argTypes := ats } /\ P.funcs[f]? = some fn /\ (fn.name == "runtime.NumGoroutine") = false /\ fn.body.isNone = false /\
    (∀ w, Z w -> As P main V f (args.map a.eval) w x w) /\ a' = a.put o.dst x))
end
section
variable {P : Program} {main : Bool} {V : Nat -> Option Wait} {ops : Array Oper} {Z : World -> Prop} {w : World} {K : Act -> Prop} {i : Nat} {rest : List Nat} {a : Act} {o : Oper}
theorem Cm.opq {a' : Act} (ho : ops[i]? = some o) (hw : Region.wanted o (yielded ops a.tmps) = true) (he : ∀ w, Z w -> ∀ d, ∀ e ∈ (execOp a.eval o).events P (w.at d) #[], Ig V e)
  (h : ∀ w, Z w -> ∀ d, ∀ K' : Act -> World -> Prop, K' a' (w.at d) -> uponK o a K' ((execOp a.eval o).run P (w.at d))) (hn : Cm P main V ops Z K rest a') : Cm P main V ops Z K (i :: rest) a :=
 ⟨o, a', ho, hn, .inr (.inl ⟨hw, he, fun w hz d => h w hz d _ ⟨rfl, rfl⟩⟩)⟩
theorem Cm.opqA (ho : ops[i]? = some o) (hw : Region.wanted o (yielded ops a.tmps) = true) (he : ∀ d, ∀ e ∈ (execOp a.eval o).events P (w.at d) #[], Ig V e)
  (h : ∃ a', (∀ d, ∀ K' : Act -> World -> Prop, K' a' (w.at d) -> uponK o a K' ((execOp a.eval o).run P (w.at d))) /\ Cm P main V ops (· = w) K rest a') : Cm P main V ops (· = w) K (i :: rest) a := by
 obtain ⟨a', h1, h2⟩ := h
 exact Cm.opq ho hw (fun _ e => e ▸ he) (fun _ e => e ▸ h1) h2
theorem Cm.oq {a' : Act} (h : Cm P main V ops (· = w) K rest a') (ho : ops[i]? = some o := by exact Nc (by conv => lhs; whnf) (by kernel_rfl)) (hw : Region.wanted o (yielded ops a.tmps) = true := by rfl)
  (he : ∀ d, ∀ e ∈ (execOp a.eval o).events P (w.at d) #[], Ig V e := by intro dd e he; simp [go_sem, *] at he; first | done | (subst he; exact Cb _ _))
  (hr : ∀ d, ∀ K' : Act -> World -> Prop, K' a' (w.at d) -> uponK o a K' ((execOp a.eval o).run P (w.at d)) := by intro dd K hK; go_simp; exact hK) : Cm P main V ops (· = w) K (i :: rest) a := Cm.opqA ho hw he ⟨a', hr, h⟩
theorem Cm.opqB {w1 : World} (ho : ops[i]? = some o) (hw : Region.wanted o (yielded ops a.tmps) = true) (he : ∀ d, ∀ e ∈ (execOp a.eval o).events P (w.at d) #[], Ig V e) (he' : ∀ d, ∀ e ∈ (execOp a.eval o).events P (w1.at d) #[], Ig V e)
  (h : ∃ a', (∀ d, ∀ K' : Act -> World -> Prop, K' a' (w.at d) -> uponK o a K' ((execOp a.eval o).run P (w.at d))) /\ (∀ d, ∀ K' : Act -> World -> Prop, K' a' (w1.at d) -> uponK o a K' ((execOp a.eval o).run P (w1.at d))) /\ Cm P main V ops (fun x => x = w ∨ x = w1) K rest a') : Cm P main V ops (fun x => x = w ∨ x = w1) K (i :: rest) a := by
 obtain ⟨a', h1, h1', h2⟩ := h
 refine Cm.opq ho hw (fun x e => ?_) (fun x e => ?_) h2
 ·rcases e with rfl | rfl
  ·exact he
  ·exact he'
 ·rcases e with rfl | rfl
  ·exact h1
  ·exact h1'
theorem Al (ho : ops[i]? = some o) (hw : Region.wanted o (yielded ops a.tmps) = false) (h : Cm P main V ops Z K rest (a.put o.dst undef)) : Cm P main V ops Z K (i :: rest) a :=
 ⟨o, _, ho, h, .inl ⟨hw, rfl⟩⟩
theorem Cm.callV {f : FuncId} {fn : Func} {args : Array Operand} {ats : Array TypeId} {x : Value} (hc : ∀ w, Z w -> As P main V f (args.map a.eval) w x w) (ho : ops[i]? = some o) (hw : Region.wanted o (yielded ops a.tmps) = true) (hop : o.op = .call { callee := .value (.func f), args, argTypes := ats })
  (hf : P.funcs[f]? = some fn) (hname : (fn.name == "runtime.NumGoroutine") = false) (hb : fn.body.isNone = false) (h : Cm P main V ops Z K rest (a.put o.dst x)) : Cm P main V ops Z K (i :: rest) a :=
 ⟨o, _, ho, h, .inr (.inr ⟨hw, f, fn, args, ats, x, hop, hf, hname, hb, hc, rfl⟩)⟩
theorem Cm.loadS (t : TypeId) (x : Operand) (ho : ops[i]? = some o) (hw : Region.wanted o (yielded ops a.tmps) = true) (hop : o.op = .load t x) (g off : Nat) (vals : List Value) (d : TypeDesc) (hx : a.eval x = .pointer (some ⟨g, off, none⟩)) (hc : ∀ w, Z w -> ∀ j v, vals[j]? = some v -> w.cell? ⟨g, off + j, none⟩ = some v)
  (hu : P.underlying t = some d) (hd : (match d with | .struct _ | .array _ _ => true | _ => false) = true) (hi : (P.info? t).map (·.size) = some vals.length) (h : Cm P main V ops Z K rest (a.put o.dst (.agg vals.toArray))) : Cm P main V ops Z K (i :: rest) a := by
 refine Cm.opq ho hw (fun w hz dd e he => ?_) (fun w hz dd K hK => ?_) h
 ·refine Fg (Da (P := P) (w.at dd) ⟨g, off, none⟩ t hu hd hi e ?_)
  unfold execOp at he
  simpa [hop, hx, Instr.loadAt, Instr.sureAddr, Sem.events_bind] using he
 ·unfold execOp
  simp only [hop, hx, Instr.loadAt, Instr.sureAddr, Sem.run_bind, Sem.run_pure, Result.andThen_ok, Hk (P := P) (w.at dd) g off t vals d (hc w hz) hu hd hi]
  exact hK
theorem Cm.done (h : K a) : Cm P main V ops Z K [] a := h
def Ec (ops : Array Oper) (vals : Nat -> Value) (f : Nat -> Bool) (l : List Nat) (a : Act) : Act := l.foldl (fun a j => if f j then a.put ((ops[j]?).bind (·.dst)) (vals j) else a) a
def Ax (ops : Array Oper) (vals : Nat -> Value) (f : Nat -> Bool) (a : Act) : Act := Ec ops vals f (List.range ops.size) a
theorem Eg (a : Act) (x : Option Tmp) (v : Value) : (a.put x v).defers = a.defers := by cases x <;> rfl
theorem put_size (a : Act) (x : Option Tmp) (v : Value) : (a.put x v).tmps.size = a.tmps.size := by cases x <;> simp [Act.put]
theorem Ca (a : Act) (x : Option Tmp) (v : Value) (t : Nat) : (a.put x v).tmps[t]? = if x = some t then (a.tmps[t]?).map (fun _ => v) else a.tmps[t]? := by
 cases x with
 | none => rfl
 | some d =>
  simp only [Act.put, Option.some.injEq]
  by_cases e : d = t
  ·subst e
   rw [if_pos rfl]
   by_cases hl : d < a.tmps.size
   ·rw [Array.getElem?_setIfInBounds_self_of_lt hl, Array.getElem?_eq_getElem hl]; rfl
   ·have h1 : (a.tmps.setIfInBounds d v)[d]? = none := Array.getElem?_eq_none (by simpa using hl)
    have h2 : a.tmps[d]? = none := Array.getElem?_eq_none (Nat.not_lt.1 hl)
    rw [h1, h2]; rfl
  ·rw [if_neg e, Array.getElem?_setIfInBounds_ne e]
theorem Gq (vals : Nat -> Value) (f : Nat -> Bool) : ∀ (l : List Nat) (a : Act), (Ec ops vals f l a).defers = a.defers
 | [], _ => rfl
 | j :: l, a => by
  show (Ec ops vals f l (if f j then a.put ((ops[j]?).bind (·.dst)) (vals j) else a)).defers = _
  rw [Gq vals f l]
  split
  ·exact Eg _ _ _
  ·rfl
theorem Ef {vals vals' : Nat -> Value} {f f' : Nat -> Bool} {t : Nat} : ∀ (l : List Nat) (a a' : Act), a.tmps[t]? = a'.tmps[t]? -> (∀ j ∈ l, (ops[j]?).bind (·.dst) = some t -> f j = f' j /\ vals j = vals' j) -> (Ec ops vals f l a).tmps[t]? = (Ec ops vals' f' l a').tmps[t]?
 | [], _, _, h, _ => h
 | j :: l, a, a', h, hf => by
  refine Ef l (if f j then a.put ((ops[j]?).bind (·.dst)) (vals j) else a) (if f' j then a'.put ((ops[j]?).bind (·.dst)) (vals' j) else a') ?_ fun k hk => hf k (List.mem_cons_of_mem _ hk)
  by_cases hd : (ops[j]?).bind (·.dst) = some t
  ·obtain ⟨h1, h2⟩ := hf j (List.mem_cons_self ..) hd
   rw [h1, h2]
   split
   ·rw [Ca, Ca, h]
   ·exact h
  ·have e : ∀ (x : Bool) (v : Value) (b : Act), (if x then b.put ((ops[j]?).bind (·.dst)) v else b).tmps[t]? = b.tmps[t]? := fun x v b => by
    cases x with
    | true => rw [if_pos rfl, Ca, if_neg hd]
    | false => rfl
   rw [e, e]; exact h
theorem Bo {vals vals' : Nat -> Value} {f f' : Nat -> Bool} (h : ∀ j, j < ops.size -> f j = f' j /\ (f j = true -> vals j = vals' j)) (a : Act) : Ax ops vals f a = Ax ops vals' f' a := by
 unfold Ax
 have : ∀ (l : List Nat) (a : Act), (∀ j ∈ l, j < ops.size) -> Ec ops vals f l a = Ec ops vals' f' l a := fun l => by
  induction l with
  | nil => intro a _; rfl
  | cons j l ih =>
   intro a hl
   obtain ⟨h1, h2⟩ := h j (hl j (List.mem_cons_self ..))
   have e : (if f j then a.put ((ops[j]?).bind (·.dst)) (vals j) else a) = (if f' j then a.put ((ops[j]?).bind (·.dst)) (vals' j) else a) := by
    rw [<- h1]
    cases hf : f j with
    | true => rw [h2 hf]
    | false => rfl
   show Ec ops vals f l (if f j then a.put ((ops[j]?).bind (·.dst)) (vals j) else a) = Ec ops vals' f' l (if f' j then a.put ((ops[j]?).bind (·.dst)) (vals' j) else a)
   rw [e]
   exact ih _ fun k hk => hl k (List.mem_cons_of_mem _ hk)
 exact this _ a fun j hj => List.mem_range.1 hj
theorem Ck {vals : Nat -> Value} {f : Nat -> Bool} : ∀ (l : List Nat) (a : Act), (∀ j ∈ l, f j = false) -> Ec ops vals f l a = a
 | [], _, _ => rfl
 | j :: l, a, h => by
  show Ec ops vals f l (if f j then _ else a) = a
  rw [h j (List.mem_cons_self ..)]
  exact Ck l a fun k hk => h k (List.mem_cons_of_mem _ hk)
theorem Ge (vals : Nat -> Value) (a : Act) : Ax ops vals (fun _ => false) a = a := Ck _ a fun _ _ => rfl
theorem puts_succ (vals : Nat -> Value) {i : Nat} (hi : i < ops.size) (a : Act) : Ax ops vals (fun j => decide (j < i + 1)) a = (Ax ops vals (fun j => decide (j < i)) a).put ((ops[i]?).bind (·.dst)) (vals i) := by
 have e : List.range ops.size = List.range i ++ (i :: List.range' (i + 1) (ops.size - (i + 1))) := by
  rw [List.range_eq_range', List.range_eq_range', <- List.range'_succ]
  have : ops.size - (i + 1) + 1 = ops.size - i := by omega
  rw [this, show (List.range' i (ops.size - i)) = List.range' (0 + 1 * i) (ops.size - i) by simp, List.range'_append]
  congr 1
  omega
 unfold Ax
 rw [e]
 unfold Ec
 rw [List.foldl_append, List.foldl_append, List.foldl_cons, List.foldl_cons]
 have h1 : ∀ a : Act, (List.range' (i + 1) (ops.size - (i + 1))).foldl (fun a j => if (fun j => decide (j < i + 1)) j then a.put ((ops[j]?).bind (·.dst)) (vals j) else a) a = a := fun a => Ck (f := fun j => decide (j < i + 1)) _ a fun j hj => by
  have := List.mem_range'_1.1 hj
  exact decide_eq_false (by omega)
 have h2 : ∀ a : Act, (List.range' (i + 1) (ops.size - (i + 1))).foldl (fun a j => if (fun j => decide (j < i)) j then a.put ((ops[j]?).bind (·.dst)) (vals j) else a) a = a := fun a => Ck (f := fun j => decide (j < i)) _ a fun j hj => by
  have := List.mem_range'_1.1 hj
  exact decide_eq_false (by omega)
 rw [h1, h2]
 have h3 : ∀ (l : List Nat) (a : Act), (∀ j ∈ l, j < i) -> l.foldl (fun a j => if (fun j => decide (j < i + 1)) j then a.put ((ops[j]?).bind (·.dst)) (vals j) else a) a = l.foldl (fun a j => if (fun j => decide (j < i)) j then a.put ((ops[j]?).bind (·.dst)) (vals j) else a) a := fun l => by
  induction l with
  | nil => intro a _; rfl
  | cons j l ih =>
   intro a hl
   have hj := hl j (List.mem_cons_self ..)
   rw [List.foldl_cons, List.foldl_cons]
   have e1 : decide (j < i + 1) = true := decide_eq_true (by omega)
   have e2 : decide (j < i) = true := decide_eq_true hj
   simp only [e1, e2]
   exact ih _ fun k hk => hl k (List.mem_cons_of_mem _ hk)
 rw [h3 _ a fun j hj => List.mem_range.1 hj]
 simp
theorem Lk {m : Nat} (hc : Fr ops m = true) {i : Nat} {o : Oper} (hi : i < m) (ho : ops[i]? = some o) : (∀ cs b, o.op ≠ .select cs b) /\ (∃ t, o.dst = some t /\ t ∉ o.looksAt ops) /\ ∀ (j : Nat) (p : Oper), ops[j]? = some p -> j ≠ i -> o.dst ≠ p.dst /\ ∀ t, p.dst = some t -> t ∈ o.looksAt ops -> j < i /\ Il ops i j = true := by
 have hc := (Bool.and_eq_true _ _ ▸ hc : _ /\ _)
 have h := List.all_eq_true.1 hc.2 i (List.mem_range.2 hi)
 rw [ho] at h
 simp only [Option.any_some, Bool.and_eq_true] at h
 obtain ⟨⟨h1, h2⟩, h3⟩ := h
 refine ⟨(fun cs b e => by rw [e] at h1; cases h1), ?_, fun j p hj hne => ?_⟩
 ·have h := List.all_eq_true.1 h3 i (List.mem_range.2 (Array.getElem?_eq_some_iff.1 ho).1)
  rw [ho] at h
  obtain ⟨t, ht⟩ := Option.isSome_iff_exists.1 h2
  refine ⟨t, ht, fun hm => ?_⟩
  have hl : (o.looksAt ops).any (fun t => o.dst == some t) = true := List.any_eq_true.2 ⟨t, hm, by simp [ht]⟩
  simp [hl] at h
 ·have h := List.all_eq_true.1 h3 j (List.mem_range.2 (Array.getElem?_eq_some_iff.1 hj).1)
  rw [hj] at h
  have hd : decide (j = i) = false := decide_eq_false hne
  rw [hd] at h
  simp only [Bool.false_and, Bool.false_or, Option.any_some, Bool.and_eq_true, bne_iff_ne, ne_eq] at h
  refine ⟨h.1, fun t ht hm => ?_⟩
  have hl : (o.looksAt ops).any (fun t => p.dst == some t) = true := List.any_eq_true.2 ⟨t, hm, by simp [ht]⟩
  rw [hl] at h
  simpa using h.2
theorem Hg {i j : Nat} {o : Oper} {f : Nat -> Bool} (h : Il ops i j = true) (ho : ops[i]? = some o) (hd : ∀ e ∈ o.after, Region.binds .any e = true -> f e.on = true) : f j = true := by
 unfold Il at h
 rw [ho] at h
 simp only [Option.any_some] at h
 obtain ⟨x, hx, hb⟩ := Array.any_eq_true.1 h
 simp only [Bool.and_eq_true, decide_eq_true_eq] at hb
 exact hb.1 ▸ hd _ (Array.getElem_mem hx) hb.2
theorem Js {a a' : Act} (h : ∀ t ∈ o.looksAt ops, a.tmps[t]? = a'.tmps[t]?) (hs : ∀ cs b, o.op ≠ .select cs b) : execOp a.eval o = execOp a'.eval o /\ Region.wanted o (yielded ops a.tmps) = Region.wanted o (yielded ops a'.tmps) /\ ∀ x ∈ o.op.operands, a.eval x = a'.eval x := by
 have hx : ∀ x ∈ o.op.operands, a.eval x = a'.eval x := fun x hx => by
  cases x with
  | tmp t =>
   have := h t (List.mem_append_left _ (List.mem_filterMap.2 ⟨.tmp t, by simpa using hx, rfl⟩))
   show a.tmps.getD t undef = a'.tmps.getD t undef
   rw [Array.getD_eq_getD_getElem?, Array.getD_eq_getD_getElem?, this]
  | _ => rfl
 refine ⟨execOp_congr o hs hx, ?_, hx⟩
 unfold Region.wanted
 cases hg : o.guard with
 | none => rfl
 | some gw =>
  obtain ⟨g, want⟩ := gw
  have hy : yielded ops a.tmps g = yielded ops a'.tmps g := by
   unfold yielded
   cases ht : (ops[g]?).bind (·.dst) with
   | none => rfl
   | some t =>
    have := h t (List.mem_append_right _ (by simp [hg, ht]))
    simp only [Option.bind_some, this]
  simp only [hy]
theorem Fe (vals : Nat -> Value) (f : Nat -> Bool) : ∀ (l : List Nat) (a : Act), (Ec ops vals f l a).tmps.size = a.tmps.size
 | [], _ => rfl
 | j :: l, a => by
  show (Ec ops vals f l (if f j then a.put ((ops[j]?).bind (·.dst)) (vals j) else a)).tmps.size = _
  rw [Fe vals f l]
  split
  ·exact put_size _ _ _
  ·rfl
theorem slot_keep {vals : Nat -> Value} {f : Nat -> Bool} {t i : Nat} {X : Option Value} : ∀ (l : List Nat) (a : Act), (∀ j ∈ l, (ops[j]?).bind (·.dst) = some t -> j = i) -> a.tmps[t]? = X.map (fun _ => vals i) -> (Ec ops vals f l a).tmps[t]? = X.map (fun _ => vals i)
 | [], _, _, h => h
 | j :: l, a, hl, h => by
  refine slot_keep l (if f j then a.put ((ops[j]?).bind (·.dst)) (vals j) else a) (fun k hk => hl k (List.mem_cons_of_mem _ hk)) ?_
  split
  ·rw [Ca]
   split
   ·next e =>
    have := hl j (List.mem_cons_self ..) e
    rw [h, this]
    cases X <;> rfl
   ·exact h
  ·exact h
theorem slot_only {vals : Nat -> Value} {f : Nat -> Bool} {t i : Nat} (hf : f i = true) (hd : (ops[i]?).bind (·.dst) = some t) : ∀ (l : List Nat) (a : Act), (∀ j ∈ l, (ops[j]?).bind (·.dst) = some t -> j = i) -> i ∈ l -> (Ec ops vals f l a).tmps[t]? = (a.tmps[t]?).map (fun _ => vals i)
 | [], _, _, h => by cases h
 | j :: l, a, hl, hm => by
  by_cases e : j = i
  ·subst e
   refine slot_keep l (if f j then a.put ((ops[j]?).bind (·.dst)) (vals j) else a) (fun k hk => hl k (List.mem_cons_of_mem _ hk)) ?_
   rw [hf, if_pos rfl, Ca, if_pos hd]
  ·have hm : i ∈ l := by
    rcases List.mem_cons.1 hm with h | h
    ·exact absurd h.symm e
    ·exact h
   have := slot_only (vals := vals) hf hd l (if f j then a.put ((ops[j]?).bind (·.dst)) (vals j) else a) (fun k hk => hl k (List.mem_cons_of_mem _ hk)) hm
   refine this.trans ?_
   have hne : (ops[j]?).bind (·.dst) ≠ some t := fun h => e (hl j (List.mem_cons_self ..) h)
   split
   ·rw [Ca, if_neg hne]
   ·rfl
theorem Ob {a b : Act} (ht : ∀ t : Nat, a.tmps[t]? = b.tmps[t]?) (hd : a.defers = b.defers) : a = b := by
 obtain ⟨x, y⟩ := a
 obtain ⟨x', y'⟩ := b
 have : x = x' := Array.ext_getElem? ht
 subst this
 have hd : y = y' := hd
 subst hd
 rfl
theorem Is (ho : ops[i]? = some o) : (ops[i]?).bind (·.dst) = o.dst := by rw [ho]; rfl
theorem Cy {m : Nat} (hc : Fr ops m = true) (hm : i < m) (vals : Nat -> Value) {f : Nat -> Bool} (hf : f i = false) (ho : ops[i]? = some o) (a : Act) : Ax ops vals (upd f i true) a = (Ax ops vals f a).put o.dst (vals i) := by
 have hi := (Array.getElem?_eq_some_iff.1 ho).1
 obtain ⟨_, ⟨t0, ht0, _⟩, hdist⟩ := Lk hc hm ho
 have only : ∀ j ∈ List.range ops.size, (ops[j]?).bind (·.dst) = some t0 -> j = i := fun j hj h => by
  refine Classical.byContradiction fun hne => ?_
  have hjl := List.mem_range.1 hj
  have hoj := Array.getElem?_eq_getElem hjl
  rw [hoj] at h
  exact (hdist j _ hoj hne).1 (ht0.trans h.symm)
 refine Ob (fun t => ?_) ?_
 ·rw [Ca, ht0]
  by_cases e : t0 = t
  ·subst e
   rw [if_pos rfl]
   have h1 := slot_only (vals := vals) (f := upd f i true) (upd_same _ _ _) ((Is ho).trans ht0) (List.range ops.size) a only (List.mem_range.2 hi)
   have h2 : (Ax ops vals f a).tmps[t0]? = a.tmps[t0]? := by
    have : (Ec ops vals f (List.range ops.size) a).tmps[t0]? = (Ec ops vals (fun _ => false) (List.range ops.size) a).tmps[t0]? := Ef _ a a rfl fun j hj h => by
     have := only j hj h
     subst this
     exact ⟨hf, rfl⟩
    rw [Ck _ a fun _ _ => rfl] at this
    exact this
   rw [h2]
   exact h1
  ·rw [if_neg (by simpa using e)]
   exact Ef _ a a rfl fun j _ h => by
    have hne : j ≠ i := fun h' => by
     subst h'
     rw [Is ho, ht0] at h
     exact e (Option.some.inj h)
    exact ⟨upd_ne _ _ hne, rfl⟩
 ·rw [Eg]
  unfold Ax
  rw [Gq, Gq]
def My (P : Program) (main : Bool) (V : Nat -> Option Wait) (ops : Array Oper) (Z : World -> Prop) (o : Oper) (a : Act) (v : Value) : Prop :=
 (Region.wanted o (yielded ops a.tmps) = false /\ v = undef) ∨
 (Region.wanted o (yielded ops a.tmps) = true /\ (∀ w, Z w -> ∀ d, ∀ e ∈ (execOp a.eval o).events P (w.at d) #[], Ig V e) /\ ∀ w, Z w -> ∀ d, uponK o a (fun x w' => x = a.put o.dst v /\ w' = w.at d) ((execOp a.eval o).run P (w.at d))) ∨
 (Region.wanted o (yielded ops a.tmps) = true /\ ∃ (f : FuncId) (fn : Func) (args : Array Operand) (ats : Array TypeId), o.op = .call { callee := .value (.func f), args, argTypes := ats } /\ P.funcs[f]? = some fn /\ (fn.name == "runtime.NumGoroutine") = false /\ fn.body.isNone = false /\ ∀ w, Z w -> As P main V f (args.map a.eval) w v w)
theorem Jk {m : Nat} (hz : Z w) (hm : m <= ops.size) : ∀ (r i : Nat) (vals : Nat -> Value) (a0 : Act), i + r = m -> Cm P main V ops Z K (List.range' i r) (Ax ops vals (fun j => decide (j < i)) a0) ->
  ∃ vals', (∀ j, j < i -> vals' j = vals j) /\ (∀ j o, i <= j -> j < m -> ops[j]? = some o -> My P main V ops Z o (Ax ops vals' (fun x => decide (x < j)) a0) (vals' j)) /\ K (Ax ops vals' (fun j => decide (j < m)) a0)
 | 0, i, vals, a0, hi, h => by
  have hi : i = m := hi
  refine ⟨vals, fun _ _ => rfl, fun j o hj hjm ho => ?_, ?_⟩
  ·omega
  ·rw [<- hi]; exact h
 | r + 1, i, vals, a0, hi, h => by
  have his : i < ops.size := by omega
  obtain ⟨o, a', ho, hn, hc⟩ := h
  obtain ⟨v, hv, hcond⟩ : ∃ v, a' = (Ax ops vals (fun j => decide (j < i)) a0).put o.dst v /\ My P main V ops Z o (Ax ops vals (fun j => decide (j < i)) a0) v := by
   rcases hc with ⟨h1, h2⟩ | ⟨h1, h2, h3⟩ | ⟨h1, f, fn, args, ats, x, e1, e2, e3, e4, e5, e6⟩
   ·exact ⟨undef, h2, .inl ⟨h1, rfl⟩⟩
   ·have h0 := h3 w hz 0
    obtain ⟨v, hv⟩ : ∃ v, a' = (Ax ops vals (fun j => decide (j < i)) a0).put o.dst v := by
     revert h0
     generalize (execOp _ o).run P (w.at 0) = rr
     intro h0
     unfold uponK at h0
     split at h0
     ·exact ⟨_, h0.1.symm⟩
     ·exact ⟨_, h0.1.symm⟩
     ·exact h0.elim
    exact ⟨v, hv, .inr (.inl ⟨h1, h2, hv ▸ h3⟩)⟩
   ·exact ⟨x, e6, .inr (.inr ⟨h1, f, fn, args, ats, e1, e2, e3, e4, e5⟩)⟩
  have hpre : Ax ops (upd vals i v) (fun j => decide (j < i)) a0 = Ax ops vals (fun j => decide (j < i)) a0 := Bo (fun j _ => ⟨rfl, fun hd => upd_ne _ _ (by have := of_decide_eq_true hd; omega)⟩) a0
  have hs := puts_succ (ops := ops) (upd vals i v) his a0
  rw [hpre, upd_same, Is ho, <- hv] at hs
  rw [<- hs] at hn
  obtain ⟨vals', k1, k2, k3⟩ := Jk hz hm r (i + 1) (upd vals i v) a0 (by omega) hn
  refine ⟨vals', fun j hj => (k1 j (by omega)).trans (upd_ne _ _ (by omega)), fun j o' hj hjm ho' => ?_, k3⟩
  by_cases e : j = i
  ·subst e
   rw [ho] at ho'
   cases ho'
   have e1 : Ax ops vals' (fun x => decide (x < j)) a0 = Ax ops vals (fun x => decide (x < j)) a0 := by
    rw [<- hpre]
    exact Bo (fun x _ => ⟨rfl, fun hd => k1 x (by have := of_decide_eq_true hd; omega)⟩) a0
   have e2 : vals' j = v := (k1 j (by omega)).trans (upd_same _ _ _)
   rw [e1, e2]
   exact hcond
  ·exact k2 j o' (by omega) hjm ho'
end
section
variable {P : Program} {main : Bool} {V : Nat -> Option Wait} {Stop : Goroutine -> World -> Prop} {b : Frame} {k : List Item} {cs : List Frame} {ops : Array Oper} {w : World} {a : Act}
theorem Fs {Z : World -> Prop} {m i : Nat} (hz : Z w) {o : Oper} {vals : Nat -> Value} {f : Nat -> Bool} {rest : List Nat} (hc : Fr ops m = true) (hk : b.kind ≠ .early) (hi : i < m) (ho : ops[i]? = some o) (hd : ∀ e ∈ o.after, Region.binds .any e = true -> f e.on = true)
  (hcond : My P main V ops Z o (Ax ops vals (fun x => decide (x < i)) a) (vals i)) (hr' : Walk P main (DR V) Stop (G (b.at ((Ax ops vals f a).put o.dst (vals i)) (.inRegion ops rest :: k)) cs) w) :
  Walk P main (DR V) Stop (G (b.at (Ax ops vals f a) (.inRegion ops (i :: rest) :: k)) cs) w := by
 obtain ⟨hsel, ⟨t0, ht0, hself⟩, hdist⟩ := Lk hc hi ho
 have hlook : ∀ t ∈ o.looksAt ops, (Ax ops vals f a).tmps[t]? = (Ax ops vals (fun j => decide (j < i)) a).tmps[t]? := fun t ht => Ef _ a a rfl fun j hj hjd => by
  have hjl := List.mem_range.1 hj
  have hoj := Array.getElem?_eq_getElem hjl
  have hne : j ≠ i := fun e => by
   subst e
   rw [Is ho, ht0] at hjd
   cases hjd
   exact hself ht
  rw [hoj] at hjd
  obtain ⟨h1, h2⟩ := (hdist j _ hoj hne).2 t hjd ht
  exact ⟨(Hg h2 ho hd).trans (decide_eq_true h1).symm, rfl⟩
 obtain ⟨s1, s2, s3⟩ := Js hlook hsel
 have hsz : (Ax ops vals f a).tmps.size = (Ax ops vals (fun j => decide (j < i)) a).tmps.size := by
  unfold Ax
  rw [Fe, Fe]
 have hput : ∀ v, (Ax ops vals (fun j => decide (j < i)) a).put o.dst v = (Ax ops vals (fun j => decide (j < i)) a).put o.dst (vals i) -> (Ax ops vals f a).put o.dst v = (Ax ops vals f a).put o.dst (vals i) := fun v e => by
  refine Ob (fun t => ?_) (by rw [Eg, Eg])
  rw [Ca, Ca]
  split
  ·next e' =>
   have h1 : ((Ax ops vals (fun j => decide (j < i)) a).put o.dst v).tmps[t]? = ((Ax ops vals (fun j => decide (j < i)) a).put o.dst (vals i)).tmps[t]? := by rw [e]
   rw [Ca, Ca, if_pos e', if_pos e'] at h1
   by_cases hl : t < (Ax ops vals f a).tmps.size
   ·rw [Array.getElem?_eq_getElem (hsz ▸ hl)] at h1
    simp only [Option.map_some] at h1
    rw [Array.getElem?_eq_getElem hl]
    exact h1
   ·rw [Array.getElem?_eq_none (by omega)]; rfl
  ·rfl
 rcases hcond with ⟨c1, c2⟩ | ⟨c1, c2, c3⟩ | ⟨c1, f', fn, args, ats, e1, e2, e3, e4, e5⟩
 ·rw [<- s2] at c1
  rw [c2] at hr'
  exact Walk.ctl rfl (fun w => stepG_unwanted ho c1) hr'
 ·rw [<- s2] at c1
  rw [<- s1] at c2 c3
  refine Walk.opq ho c1 hk (c2 w hz) fun d' K hK => ?_
  have h3 := c3 w hz d'
  revert h3
  generalize (execOp (Ax ops vals f a).eval o).run P (w.at d') = rr
  intro h3
  unfold uponK at h3 ⊢
  split at h3
  ·obtain ⟨x1, rfl⟩ := h3
   refine hK _ ?_
   rw [hput _ x1]; exact hr'
  ·obtain ⟨x1, rfl⟩ := h3
   refine hK _ ?_
   rw [hput _ x1]; exact hr'
  ·exact h3.elim
 ·rw [<- s2] at c1
  have hargs : args.map (Ax ops vals f a).eval = args.map (Ax ops vals (fun j => decide (j < i)) a).eval := Array.map_congr_left fun x hx => s3 x (by rw [e1]; simp [Op.operands, Call.operands, hx])
  rw [<- hargs] at e5
  exact Walk.callV (e5 w hz) ho c1 hk e1 e2 e3 e4 hr'
theorem Ba {id m : Nat} (hm : P.follows .mixedOrders = true) (hsz : ops.size = m) (hlow : Oe ops = true) (hc : Fr ops m = true) (hk : b.kind ≠ .early)
  (h : Cm P main V ops (· = w) (fun a => Walk P main (DR V) Stop (G (b.at a (.inRegion ops [] :: k)) cs) w) (List.range m) a) : Walk P main (DR V) Stop (G (b.at a (.code (.region id ops true) :: k)) cs) w := by
 rw [List.range_eq_range'] at h
 have h0 : Cm P main V ops (· = w) (fun a => Walk P main (DR V) Stop (G (b.at a (.inRegion ops [] :: k)) cs) w) (List.range' 0 m) (Ax ops (fun _ => undef) (fun j => decide (j < 0)) a) := by
  have : Ax ops (fun _ => undef) (fun j => decide (j < 0)) a = a := Ck _ a fun j _ => decide_eq_false (Nat.not_lt_zero j)
  rw [this]; exact h
 obtain ⟨vals, _, hcond, hend⟩ := Jk (Z := (· = w)) (w := w) rfl (Nat.le_of_eq hsz.symm) m 0 (fun _ => undef) a (by omega) h0
 refine Walk.drawnI (Inv := fun f x w' => x = Ax ops vals f a /\ ∃ d, w' = w.at d) hm hlow (fun d => ⟨(Ge vals a).symm, d, rfl⟩) ?_ ?_
 ·rintro f i o _ _ ⟨rfl, d, rfl⟩ hf ho hd rest hr
  have hi : i < m := by have := (Array.getElem?_eq_some_iff.1 ho).1; omega
  refine Walk.back ?_ d
  refine Fs (Z := (· = w)) rfl hc hk hi ho hd (hcond i o (Nat.zero_le _) hi ho) ?_
  rw [<- Cy hc hi vals hf ho a]
  exact hr _ (w.at w.drawn) ⟨rfl, w.drawn, rfl⟩
 ·rintro f _ _ ⟨rfl, d, rfl⟩ hall
  refine Walk.back ?_ d
  have : Ax ops vals f a = Ax ops vals (fun j => decide (j < m)) a := Bo (fun j hj => ⟨(hall j hj).trans (decide_eq_true (hsz ▸ hj)).symm, fun _ => rfl⟩) a
  rw [this]
  exact hend
def lastB (ops : Array Oper) (m : Nat) : Bool := (List.range m).all fun j => (List.range (m + 1)).any fun i => decide (j < i) && Il ops i j
theorem Jd {m : Nat} {o : Oper} {f : Nat -> Bool} (hl : lastB ops m = true) (hC : Closed ops f) (ho : ops[m]? = some o) (hd : ∀ e ∈ o.after, Region.binds .any e = true -> f e.on = true) : ∀ (r j : Nat), j + r = m -> 0 < r -> f j = true := by
 intro r
 induction r using Nat.strongRecOn with
 | _ r ih =>
  intro j hj hr
  have h := List.all_eq_true.1 hl j (List.mem_range.2 (by omega))
  obtain ⟨i, hi, h2⟩ := List.any_eq_true.1 h
  have hi := List.mem_range.1 hi
  simp only [Bool.and_eq_true, decide_eq_true_eq] at h2
  obtain ⟨h3, h4⟩ := h2
  by_cases e : i = m
  ·subst e
   exact Hg h4 ho hd
  ·have hfi := ih (m - i) (by omega) i (by omega) (by omega)
   unfold Il at h4
   cases hoi : ops[i]? with
   | none => rw [hoi] at h4; cases h4
   | some oi =>
    rw [hoi] at h4
    simp only [Option.any_some] at h4
    obtain ⟨x, hx, hb⟩ := Array.any_eq_true.1 h4
    simp only [Bool.and_eq_true, decide_eq_true_eq] at hb
    exact hb.1 ▸ hC i oi hoi hfi _ (Array.getElem_mem hx) hb.2
theorem Ay {id m : Nat} (hm : P.follows .mixedOrders = true) (hsz : ops.size = m + 1) (hlow : Oe ops = true) (hc : Fr ops m = true) (hl : lastB ops m = true) (hk : b.kind ≠ .early)
  (h : Cm P main V ops (· = w) (fun a => OpW P main V Stop b k cs ops m (fun a' w' => Walk P main (DR V) Stop (G (b.at a' (.inRegion ops [] :: k)) cs) w') a w) (List.range m) a) : Walk P main (DR V) Stop (G (b.at a (.code (.region id ops true) :: k)) cs) w := by
 rw [List.range_eq_range'] at h
 have h0 : Cm P main V ops (· = w) (fun a => OpW P main V Stop b k cs ops m (fun a' w' => Walk P main (DR V) Stop (G (b.at a' (.inRegion ops [] :: k)) cs) w') a w) (List.range' 0 m) (Ax ops (fun _ => undef) (fun j => decide (j < 0)) a) := by
  have : Ax ops (fun _ => undef) (fun j => decide (j < 0)) a = a := Ck _ a fun j _ => decide_eq_false (Nat.not_lt_zero j)
  rw [this]; exact h
 obtain ⟨vals, _, hcond, hend⟩ := Jk (Z := (· = w)) (ops := ops) (m := m) (w := w) rfl (by omega) m 0 (fun _ => undef) a (by omega) h0
 refine Et (Inv := fun f x w' => (f m = true /\ (∀ j, j < m -> f j = true) /\ Walk P main (DR V) Stop (G (b.at x (.inRegion ops [] :: k)) cs) w') ∨ (f m = false /\ x = Ax ops vals f a /\ ∃ d, w' = w.at d)) hm hlow (fun d => .inr ⟨rfl, (Ge vals a).symm, d, rfl⟩) ?_ ?_
 ·rintro f i o x w' hI hC hf ho hd rest hr
  have hi : i < m + 1 := by have := (Array.getElem?_eq_some_iff.1 ho).1; omega
  rcases hI with ⟨h1, h2, _⟩ | ⟨h1, rfl, d, rfl⟩
  ·exfalso
   by_cases e : i = m
   ·rw [e, h1] at hf; cases hf
   ·rw [h2 i (by omega)] at hf; cases hf
  ·refine Walk.back ?_ d
   by_cases e : i = m
   ·subst e
    have hall := Jd hl hC ho hd
    have : Ax ops vals f a = Ax ops vals (fun j => decide (j < i)) a := Bo (fun j hj => ⟨by
     by_cases hji : j < i
     ·rw [hall (i - j) j (by omega) (by omega)]; exact (decide_eq_true hji).symm
     ·have : j = i := by omega
      rw [this, hf]; simp, fun _ => rfl⟩) a
    rw [this]
    refine hend rest fun a' w' hw' => hr a' w' (.inl ⟨upd_same _ _ _, fun j hj => ?_, hw'⟩)
    rw [upd_ne _ _ (by omega)]
    exact hall (i - j) j (by omega) (by omega)
   ·have him : i < m := by omega
    refine Fs (Z := (· = w)) rfl hc hk him ho hd (hcond i o (Nat.zero_le _) him ho) ?_
    rw [<- Cy hc him vals hf ho a]
    exact hr _ (w.at w.drawn) (.inr ⟨by rw [upd_ne _ _ (Ne.symm e)]; exact h1, rfl, w.drawn, rfl⟩)
 ·rintro f x w' hI hall
  rcases hI with ⟨_, _, h3⟩ | ⟨h1, _⟩
  ·exact h3
  ·rw [hall m (by omega)] at h1; cases h1
theorem Walk.drawnB {id m : Nat} {w1 : World} {om : Oper} {vm : Value} (hm : P.follows .mixedOrders = true) (hsz : ops.size = m + 2) (hlow : Oe ops = true) (hc : Fr ops (m + 1) = true) (hl : lastB ops (m + 1) = true) (hk : b.kind ≠ .early) (hom : ops[m]? = some om)
  (hal : ∀ x, OpW P main V Stop b k cs ops m (fun x' w' => x' = x.put om.dst vm /\ ∃ d, w' = w1.at d) x w)
  (h : Cm P main V ops (fun x => x = w ∨ x = w1) (fun a => OpW P main V Stop b k cs ops (m + 1) (fun a' w' => Walk P main (DR V) Stop (G (b.at a' (.inRegion ops [] :: k)) cs) w') (a.put om.dst vm) w1) (List.range m) a) : Walk P main (DR V) Stop (G (b.at a (.code (.region id ops true) :: k)) cs) w := by
 rw [List.range_eq_range'] at h
 generalize hZ : (fun x : World => x = w ∨ x = w1) = Z at h
 have hz0 : Z w := hZ ▸ .inl rfl
 have hz1 : Z w1 := hZ ▸ .inr rfl
 have h0 : Cm P main V ops Z (fun a => OpW P main V Stop b k cs ops (m + 1) (fun a' w' => Walk P main (DR V) Stop (G (b.at a' (.inRegion ops [] :: k)) cs) w') (a.put om.dst vm) w1) (List.range' 0 m) (Ax ops (fun _ => undef) (fun j => decide (j < 0)) a) := by
  have : Ax ops (fun _ => undef) (fun j => decide (j < 0)) a = a := Ck _ a fun j _ => decide_eq_false (Nat.not_lt_zero j)
  rw [this]; exact h
 have hcm : Fr ops m = true := by
  unfold Fr at hc ⊢
  simp only [Bool.and_eq_true, decide_eq_true_eq] at hc ⊢
  exact ⟨by omega, List.all_eq_true.2 fun x hx => List.all_eq_true.1 hc.2 x (List.mem_range.2 (by have := List.mem_range.1 hx; omega))⟩
 obtain ⟨vals0, _, hcond0, hend0⟩ := Jk (ops := ops) (m := m) (w := w) hz0 (by omega) m 0 (fun _ => undef) a (by omega) h0
 generalize hvals : upd vals0 m vm = vals
 have hv : ∀ j, j < m -> vals j = vals0 j := fun j hj => by rw [<- hvals]; exact upd_ne _ _ (by omega)
 have hvm : vals m = vm := by rw [<- hvals]; exact upd_same _ _ _
 have hpre : ∀ i, i <= m -> Ax ops vals (fun j => decide (j < i)) a = Ax ops vals0 (fun j => decide (j < i)) a := fun i hi => Bo (fun j _ => ⟨rfl, fun hd => hv j (by have := of_decide_eq_true hd; omega)⟩) a
 have hcond : ∀ i o, i < m -> ops[i]? = some o -> My P main V ops Z o (Ax ops vals (fun x => decide (x < i)) a) (vals i) := fun i o hi ho => by
  rw [hpre i (by omega), hv i hi]
  exact hcond0 i o (Nat.zero_le _) hi ho
 have hend : OpW P main V Stop b k cs ops (m + 1) (fun a' w' => Walk P main (DR V) Stop (G (b.at a' (.inRegion ops [] :: k)) cs) w') (Ax ops vals (fun j => decide (j < m + 1)) a) w1 := by
  rw [puts_succ vals (by omega) a, hpre m (Nat.le_refl m), Is hom, hvm]
  exact hend0
 refine Et (Inv := fun f x w' => (f (m + 1) = true /\ (∀ j, j < m + 1 -> f j = true) /\ Walk P main (DR V) Stop (G (b.at x (.inRegion ops [] :: k)) cs) w') ∨ (f (m + 1) = false /\ x = Ax ops vals f a /\ ∃ d, w' = (if f m then w1 else w).at d)) hm hlow (fun d => .inr ⟨rfl, (Ge vals a).symm, d, rfl⟩) ?_ ?_
 ·rintro f i o x w' hI hC hf ho hd rest hr
  have hi : i < m + 2 := by have := (Array.getElem?_eq_some_iff.1 ho).1; omega
  rcases hI with ⟨h1, h2, _⟩ | ⟨h1, rfl, d, rfl⟩
  ·exfalso
   by_cases e : i = m + 1
   ·rw [e, h1] at hf; cases hf
   ·rw [h2 i (by omega)] at hf; cases hf
  ·refine Walk.back ?_ d
   by_cases e : i = m + 1
   ·subst e
    have hall := Jd hl hC ho hd
    have hfm : f m = true := hall 1 m (by omega) (by omega)
    rw [hfm, if_pos rfl]
    have : Ax ops vals f a = Ax ops vals (fun j => decide (j < m + 1)) a := Bo (fun j hj => ⟨by
     by_cases hji : j < m + 1
     ·rw [hall (m + 1 - j) j (by omega) (by omega)]; exact (decide_eq_true hji).symm
     ·have : j = m + 1 := by omega
      rw [this, hf]; simp, fun _ => rfl⟩) a
    rw [this]
    refine hend rest fun a' w' hw' => hr a' w' (.inl ⟨upd_same _ _ _, fun j hj => ?_, hw'⟩)
    rw [upd_ne _ _ (by omega)]
    exact hall (m + 1 - j) j (by omega) (by omega)
   ·by_cases e2 : i = m
    ·subst e2
     rw [hom] at ho
     cases ho
     rw [hf, if_neg (by simp)]
     refine hal _ rest ?_
     rintro x' w' ⟨rfl, d', rfl⟩
     refine hr _ _ (.inr ⟨by rw [upd_ne _ _ (by omega)]; exact h1, ?_, d', by rw [upd_same]; rfl⟩)
     rw [Cy hc (Nat.lt_succ_self _) vals hf hom a, hvm]
    ·have him : i < m := by omega
     generalize hWW : (if f m then w1 else w) = ww at *
     have hz : Z ww := by
      rw [<- hWW]
      split
      ·exact hz1
      ·exact hz0
     refine Fs (Z := Z) hz hcm hk him ho hd (hcond i o him ho) ?_
     rw [<- Cy hcm him vals hf ho a]
     exact hr _ (ww.at ww.drawn) (.inr ⟨by rw [upd_ne _ _ (by omega)]; exact h1, rfl, ww.drawn, by rw [upd_ne _ _ (by omega), hWW]⟩)
 ·rintro f x w' hI hall
  rcases hI with ⟨_, _, h3⟩ | ⟨h1, _⟩
  ·exact h3
  ·rw [hall (m + 1) (by omega)] at h1; cases h1
end
end
end Go.Relay
