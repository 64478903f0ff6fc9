/- Part 2. -/
import Derived.Test.YtmfkjceeeffamaaJ1
import Derived.Conc.CompanyMem
import Derived.Conc.TokenWords
import Derived.Lib.MinMax
import Derived.Conc.DeferLaws
import Derived.Test.YtmfkjceeeffamaaProg
import Derived.Laws.Build
import Derived.KernelRfl
import Derived.Handy
import Derived.Conc.AppendWalk
import Derived.Conc.AppendEvents2
import Derived.Deep.AppendLies
import Derived.Conc.SmallLaws
set_option linter.unusedSimpArgs false
set_option maxHeartbeats 8000000
set_option maxRecDepth 100000
namespace Go.Relay
section
open Go.Conc Go.RowKit
open Go.ConcN (upd)
section
variable {P : Program} {main : Bool} {V : Nat → Option Wait} {Stop Stop' : Goroutine → World → Prop} {g : Goroutine} {w w' : World} {es : Array Event}
theorem DR.quiet (h : ∀ e ∈ es, EvR V e) : DR V w w es := ⟨fun _ _ _ => id, fun _ _ _ _ h _ => h, h, OsSame.refl _⟩
theorem osSame_set (w : World) (a : Addr) (x : Value) : OsSame w (w.setCell a x) := by
  unfold World.setCell
  exact ⟨rfl, rfl⟩
theorem DR.idle : DR V w w #[] := DR.quiet (by simp)
theorem evR_read (a : Addr) (s : Bool) : EvR V ⟨.cell a, false, s⟩ :=
  ⟨fun x hx hw => (by simp only [ofEvent_cell0, MemAct.touch?, Option.some.injEq] at hx; subst hx; cases hw), by simp, by simp⟩
def Free (V : Nat → Option Wait) (a : Addr) : Prop := ∀ i v, V i = some v → v.f a = none
theorem evR_write (a : Addr) (s : Bool) (h : Free V a) : EvR V ⟨.cell a, true, s⟩ := by
  refine ⟨fun x hx _ i => ?_, by simp, by simp⟩
  simp only [ofEvent_cell0, MemAct.touch?, Option.some.injEq] at hx
  subst hx
  rintro ⟨v, e, b, y, hb, hf⟩
  cases hb
  rw [h i v e] at hf; cases hf
theorem DR.set {a : Addr} {x y : Value} (hf : Free V a) (hc : w.cell? a = some y) (h : ∀ e ∈ es, EvR V e) : DR V w (w.setCell a x) es := by
  refine ⟨fun i v e hK b z hb => ?_, fun i v o e ho hi => ?_, h, osSame_set w a x⟩
  · rw [World.cell?_setCell_other _ _ _ _ (fun eq => by subst eq; rw [hf i v e] at hb; cases hb)]
    exact hK b z hb
  · by_cases hb : v.ch = a.block
    · exfalso
      unfold World.cell? at hc
      rw [← hb, ho] at hc
      cases o <;> simp_all [Obj.isChan]
    · rw [Below.heap_setCell _ _ _ _ (fun e => hb e)]; exact ho
theorem DR.alloc {o : Obj} : DR V w (w.alloc o) #[] := by
  refine ⟨fun i v e hK b z hb => ?_, fun i v o' e ho hi => ?_, by simp, ⟨rfl, rfl⟩⟩
  · have := hK b z hb
    rw [World.cell?_alloc_lt]
    · exact this
    · unfold World.cell? at this
      split at this
      · rename_i h; exact (Array.getElem?_eq_some_iff.1 h).1
      · cases this
  · rw [Below.heap_alloc _ _ _ (Array.getElem?_eq_some_iff.1 ho).1]; exact ho
theorem Walk.back {D : World → World → Array Event → Prop} (h : Walk P main D Stop g w) (d : Nat) : Walk P main D Stop g (w.at d) := by
  cases h with
  | stop h => exact .stop fun d' => h d'
  | step hr G W E hs hd hn => exact .step hr G W E hs hd hn
theorem Walk.go {D : World → World → Array Event → Prop} (hr : g.status = .running) (h : ∀ d, (stepG P main g (w.at d)).goes fun g' w' es => D (w.at d) w' es ∧ Walk P main D Stop g' w') : Walk P main D Stop g w := by
  have hx : ∀ d, ∃ g' w' es, stepG P main g (w.at d) = .go g' w' es ∧ D (w.at d) w' es ∧ Walk P main D Stop g' w' := fun d => by
    have := h d
    cases hs : stepG P main g (w.at d) with
    | go g' w' es => rw [hs, goes_go] at this; exact ⟨g', w', es, rfl, this.1, this.2⟩
    | _ => rw [hs] at this; exact this.elim
  exact .step hr (fun d => (hx d).choose) (fun d => (hx d).choose_spec.choose) (fun d => (hx d).choose_spec.choose_spec.choose) (fun d => (hx d).choose_spec.choose_spec.choose_spec.1) (fun d => (hx d).choose_spec.choose_spec.choose_spec.2.1)
    (fun d => (hx d).choose_spec.choose_spec.choose_spec.2.2)
theorem Walk.then {D : World → World → Array Event → Prop} (h : Walk P main D Stop g w) (hk : ∀ g w, Stop g w → Walk P main D Stop' g w) : Walk P main D Stop' g w := by
  induction h with
  | stop h => exact hk _ _ (h (World.drawn _))
  | step hr G W E hs hd _ ih => exact .step hr G W E hs hd ih
theorem Walk.mono {D : World → World → Array Event → Prop} (h : Walk P main D Stop g w) (hk : ∀ g w, Stop g w → Stop' g w) : Walk P main D Stop' g w := by
  induction h with
  | stop h => exact .stop fun d => hk _ _ (h d)
  | step hr G W E hs hd _ ih => exact .step hr G W E hs hd ih
theorem Walk.ctl {g' : Goroutine} (hr : g.status = .running) (hs : ∀ w, stepG P main g w = .go g' w) (h : Walk P main (DR V) Stop g' w) : Walk P main (DR V) Stop g w :=
  .step hr (fun _ => g') (fun d => w.at d) (fun _ => #[]) (fun _ => hs _) (fun _ => DR.idle) fun d => h.back d
variable {b : Frame} {a : Act} {k : List Item} {cs : List Frame} {ops : Array Oper} {i : Nat} {rest : List Nat} {o : Oper}
theorem Walk.opq (ho : ops[i]? = some o) (hw : Region.wanted o (yielded ops a.tmps) = true) (hk : b.kind ≠ .early)
    (he : ∀ d, ∀ e ∈ (execOp a.eval o).events P (w.at d) #[], EvR V e)
    (h : ∀ d, ∀ K : Act → World → Prop, (∀ a', Walk P main (DR V) Stop (G (b.at a' (.inRegion ops rest :: k)) cs) w → K a' (w.at d)) → uponK o a K ((execOp a.eval o).run P (w.at d))) :
    Walk P main (DR V) Stop (G (b.at a (.inRegion ops (i :: rest) :: k)) cs) w := by
  refine Walk.go rfl fun d => goes_oper_k ho hw hk fun K hK => ?_
  have h' := h d (fun a' w' => K a' w') fun a' hW => hK a' _ ⟨DR.quiet fun e hm => he d e (mem_listed hm), hW.back d⟩
  exact h'
theorem Walk.opw {W : World} (ho : ops[i]? = some o) (hw : Region.wanted o (yielded ops a.tmps) = true) (hk : b.kind ≠ .early)
    (he : ∀ d, ∀ e ∈ (execOp a.eval o).events P (w.at d) #[], EvR V e) (hd : ∀ d es, (∀ e ∈ es, EvR V e) → DR V (w.at d) (W.at d) es)
    (h : ∀ d, ∀ K : Act → World → Prop, (∀ a', Walk P main (DR V) Stop (G (b.at a' (.inRegion ops rest :: k)) cs) W → K a' (W.at d)) → uponK o a K ((execOp a.eval o).run P (w.at d))) :
    Walk P main (DR V) Stop (G (b.at a (.inRegion ops (i :: rest) :: k)) cs) w := by
  refine Walk.go rfl fun d => goes_oper_k ho hw hk fun K hK => ?_
  exact h d (fun a' w' => K a' w') fun a' hW => hK a' _ ⟨hd d _ fun e hm => he d e (mem_listed hm), hW.back d⟩
theorem DR.set' {a : Addr} {x y : Value} (hf : Free V a) (hc : w.cell? a = some y) (d : Nat) (es : Array Event) (h : ∀ e ∈ es, EvR V e) : DR V (w.at d) ((w.setCell a x).at d) es := DR.set (w := w.at d) hf hc h
theorem DR.alloc' {o : Obj} (d : Nat) (es : Array Event) (h : ∀ e ∈ es, EvR V e) : DR V (w.at d) ((w.alloc o).at d) es := by
  obtain ⟨h1, h2, _⟩ := (DR.alloc : DR V (w.at d) ((w.at d).alloc o) #[])
  exact ⟨h1, h2, h, ⟨rfl, rfl⟩⟩
theorem Walk.call {f : FuncId} {fn : Func} {c : Code} {args : Array Operand} {ats : Array TypeId} (ho : ops[i]? = some o) (hw : Region.wanted o (yielded ops a.tmps) = true) (hk : b.kind ≠ .early) (hop : o.op = .call { callee := .value (.func f), args, argTypes := ats })
    (hf : P.funcs[f]? = some fn) (hname : (fn.name == "runtime.NumGoroutine") = false) (hb : fn.body = some c)
    (h : Walk P main (DR V) Stop (G ((base f).at { tmps := args.map a.eval ++ Array.replicate (fn.ntmps - (args.map a.eval).size) undef, defers := [] } [.code c]) (b.at a (.inRegion ops (i :: rest) :: k) :: cs)) w) :
    Walk P main (DR V) Stop (G (b.at a (.inRegion ops (i :: rest) :: k)) cs) w :=
  Walk.go rfl fun d => goes_call ho hw hk hop hf hname hb ⟨DR.idle, h.back d⟩
def CallW (P : Program) (main : Bool) (V : Nat → Option Wait) (f : FuncId) (args : Array Value) (w : World) (Post : Value → World → Prop) : Prop :=
  ∀ (c : Frame) (cs : List Frame), Walk P main (DR V) (fun g w' => ∃ v, Post v w' ∧ g = G (c.finish v) cs) (G (Frame.enter P f args .normal) (c :: cs)) w
theorem Walk.callW {f : FuncId} {fn : Func} {args : Array Operand} {ats : Array TypeId} {Post : Value → World → Prop} (hc : CallW P main V f (args.map a.eval) w Post) (ho : ops[i]? = some o) (hw : Region.wanted o (yielded ops a.tmps) = true) (hk : b.kind ≠ .early) (hop : o.op = .call { callee := .value (.func f), args, argTypes := ats })
    (hf : P.funcs[f]? = some fn) (hname : (fn.name == "runtime.NumGoroutine") = false) (hb : fn.body.isNone = false)
    (h : ∀ v w', Post v w' → Walk P main (DR V) Stop (G (b.at (a.put o.dst v) (.inRegion ops rest :: k)) cs) w') :
    Walk P main (DR V) Stop (G (b.at a (.inRegion ops (i :: rest) :: k)) cs) w := by
  refine Walk.ctl (g' := G (Frame.enter P f (args.map a.eval) .normal) (b.at a (.inRegion ops (i :: rest) :: k) :: cs)) rfl (fun w => ?_) ((hc _ cs).then ?_)
  · rw [stepG_enter ho hw hk (run_call_body hop hf hname hb)]
    have : listed P b.fn a o w = #[] := by unfold listed; rw [events_call_body hop hf hname hb]; exact seen_none P _
    rw [this]
  · rintro g' w' ⟨v, hp, rfl⟩
    rw [Frame.finish_at, ho]
    exact h v w' hp
theorem termsR : Terms AtRel (DR V) := ⟨atRel_trans, fun _ => DR.idle⟩
theorem drawsR : LetsDraw (DR V) := fun w => (DR.quiet (by simp) : DR V w w #[])
theorem Walk.code {c : Code} {n : Nat} {Q : Act → World → Prop} (h : c.wpC P main AtRel (DR V) b.fn n (fun e a' w' => e = .normal ∧ Q a' w') a w) (hk : b.kind ≠ .early)
    (hc : ∀ a' w', Q a' w' → Walk P main (DR V) Stop (G (b.at a' k) cs) w') : Walk P main (DR V) Stop (G (b.at a (.code c :: k)) cs) w := by
  refine Walk.of_goes (Stop := fun g w => Walk P main (DR V) Stop g w) (fun _ _ h => h) (wpC_goes (m := 0) h rfl hk fun e a' w' hq => ?_)
  obtain ⟨rfl, hQ⟩ := hq
  intro w₁ hr
  obtain ⟨d, rfl⟩ := hr
  exact (hc a' w' hQ).back d
def CallV (P : Program) (main : Bool) (V : Nat → Option Wait) (f : FuncId) (args : Array Value) (w : World) (x : Value) (W : World) : Prop := CallW P main V f args w fun v w' => v = x ∧ ∃ d, w' = W.at d
theorem Walk.callV {f : FuncId} {fn : Func} {args : Array Operand} {ats : Array TypeId} {x : Value} {W : World} (hc : CallV P main V f (args.map a.eval) w x W) (ho : ops[i]? = some o) (hw : Region.wanted o (yielded ops a.tmps) = true) (hk : b.kind ≠ .early) (hop : o.op = .call { callee := .value (.func f), args, argTypes := ats })
    (hf : P.funcs[f]? = some fn) (hname : (fn.name == "runtime.NumGoroutine") = false) (hb : fn.body.isNone = false) (h : Walk P main (DR V) Stop (G (b.at (a.put o.dst x) (.inRegion ops rest :: k)) cs) W) :
    Walk P main (DR V) Stop (G (b.at a (.inRegion ops (i :: rest) :: k)) cs) w :=
  Walk.callW hc ho hw hk hop hf hname hb fun v w' ⟨e, d, e'⟩ => by subst e; subst e'; exact h.back d
theorem callW_in {f : FuncId} {fn : Func} {c : Code} {args : Array Value} {Post : Value → World → Prop} (hf : P.funcs[f]? = some fn) (hb : fn.body = some c)
    (h : ∀ (fr : Frame) (cs : List Frame), Walk P main (DR V) (fun g w' => ∃ v, Post v w' ∧ g = G (fr.finish v) cs) (G ((base f).at { tmps := args ++ Array.replicate (fn.ntmps - args.size) undef, defers := [] } [.code c]) (fr :: cs)) w) : CallW P main V f args w Post := by
  intro fr cs
  rw [enter_at args hf hb]
  exact h fr cs
theorem Walk.ret1 {fn : Func} {todo : List Item} {c : Frame} {t : Tmp} {Post : Value → World → Prop} (hn : b.kind = .normal) (hd : a.defers = []) (hf : P.funcs[b.fn]? = some fn) (hr : fn.results = #[.tmp t]) (h : ∀ d, Post (a.tmps.getD t undef) (w.at d)) :
    Walk P main (DR V) (fun g w' => ∃ v, Post v w' ∧ g = G (c.finish v) cs) (G { b.at a todo with mode := .returning } (c :: cs)) w :=
  Walk.ctl rfl (fun w => stepG_leave hn hd hf (results_tmp hr _ P w) (events_results_tmp hr _ _)) (.stop fun d => ⟨_, h d, rfl⟩)
theorem Walk.ret0 {fn : Func} {todo : List Item} {c : Frame} {Post : Value → World → Prop} (hn : b.kind = .normal) (hd : a.defers = []) (hf : P.funcs[b.fn]? = some fn) (hr : fn.results = #[]) (h : ∀ d, Post (.tuple #[]) (w.at d)) :
    Walk P main (DR V) (fun g w' => ∃ v, Post v w' ∧ g = G (c.finish v) cs) (G { b.at a todo with mode := .returning } (c :: cs)) w :=
  Walk.ctl rfl (fun w => stepG_leave hn hd hf (results_none hr _ P w) (events_results_none hr _ _)) (.stop fun d => ⟨_, h d, rfl⟩)
end
def ctlNext (a : Act) : List Item → Option (List Item)
  | .code (.seq x y) :: k => some (.code x :: .code y :: k)
  | .code .skip :: k => some k
  | .code (.block id c) :: k => some (.code c :: .inBlock id :: k)
  | .code (.exit id) :: k => exitTo id k
  | .code (.cond c x y) :: k => match a.eval c with
    | .bool true => some (.code x :: k)
    | .bool false => some (.code y :: k)
    | _ => none
  | .inBlock _ :: k => some k
  | .inRegion _ [] :: k => some k
  | _ => none
section
variable {P : Program} {main : Bool} {V : Nat → Option Wait} {Stop : Goroutine → World → Prop} {w : World} {b : Frame} {a : Act} {k k' : List Item} {cs : List Frame} {ops : Array Oper} {id : Nat}
theorem ctl_next (h : ctlNext a k = some k') : stepG P main (G (b.at a k) cs) w = .go (G (b.at a k') cs) w := by
  unfold ctlNext at h
  split at h
  · cases h; exact stepG_seq
  · cases h; exact stepG_skip
  · cases h; exact stepG_block
  · exact stepG_exit h
  · split at h
    · next e => cases h; exact (stepG_cond e).trans (by simp)
    · next e => cases h; exact (stepG_cond e).trans (by simp)
    · cases h
  · cases h; exact stepG_inBlock
  · cases h; exact stepG_region_end
  · cases h
theorem Walk.c (h : ctlNext a k = some k') (hw : Walk P main (DR V) Stop (G (b.at a k') cs) w) : Walk P main (DR V) Stop (G (b.at a k) cs) w := Walk.ctl rfl (fun _ => ctl_next h) hw
theorem Walk.cReg (hw : Walk P main (DR V) Stop (G (b.at a (.inRegion ops (List.range ops.size) :: k)) cs) w) : Walk P main (DR V) Stop (G (b.at a (.code (.region id ops false) :: k)) cs) w := Walk.ctl rfl (fun _ => stepG_region) hw
theorem Walk.cRet (hw : Walk P main (DR V) Stop (G { b.at a (.code .ret :: k) with mode := .returning } cs) w) : Walk P main (DR V) Stop (G (b.at a (.code .ret :: k)) cs) w := Walk.ctl rfl (fun _ => stepG_ret') hw
theorem Walk.cEnd (hw : Walk P main (DR V) Stop (G { b.at a [] with mode := .returning } cs) w) : Walk P main (DR V) Stop (G (b.at a []) cs) w := Walk.ctl rfl (fun _ => stepG_end) hw
end
def nth : List Oper → Nat → Oper
  | [], _ => { dst := none, op := .nilCheck (.tmp 0), type := 0, pos := "", after := #[], guard := none }
  | x :: _, 0 => x
  | _ :: l, n + 1 => nth l n
theorem ho_of {ops : Array Oper} {i : Nat} {o : Oper} (hn : nth ops.toList i = o) (hs : ops[i]? = some (nth ops.toList i)) : ops[i]? = some o := hs.trans (congrArg some hn)
section
variable {P : Program} {main : Bool} {V : Nat → Option Wait} {Stop : Goroutine → World → Prop} {w : World} {b : Frame} {a a' : Act} {k : List Item} {cs : List Frame} {ops : Array Oper} {i id : Nat} {rest l : List Nat} {o : Oper}
theorem Walk.oq (h : Walk P main (DR V) Stop (G (b.at a' (.inRegion ops rest :: k)) cs) w) (ho : ops[i]? = some o := by exact ho_of (by conv => lhs; whnf) (by kernel_rfl)) (hw : Region.wanted o (yielded ops a.tmps) = true := by rfl) (hk : b.kind ≠ .early := by decide)
    (he : ∀ d, ∀ e ∈ (execOp a.eval o).events P (w.at d) #[], EvR V e := by intro dd e he; simp [go_sem, *] at he; first | done | (subst he; exact evR_read _ _))
    (hr : ∀ d, ∀ K : Act → World → Prop, K a' (w.at d) → uponK o a K ((execOp a.eval o).run P (w.at d)) := by intro dd K hK; go_simp; exact hK) : Walk P main (DR V) Stop (G (b.at a (.inRegion ops (i :: rest) :: k)) cs) w :=
  Walk.opq ho hw hk he fun d K hK => hr d K (hK a' h)
theorem Walk.un (h : Walk P main (DR V) Stop (G (b.at (a.put o.dst undef) (.inRegion ops rest :: k)) cs) w) (ho : ops[i]? = some o := by exact ho_of (by conv => lhs; whnf) (by kernel_rfl)) (hw : Region.wanted o (yielded ops a.tmps) = false := by rfl) : Walk P main (DR V) Stop (G (b.at a (.inRegion ops (i :: rest) :: k)) cs) w :=
  Walk.ctl rfl (fun _ => stepG_unwanted ho hw) h
theorem Walk.oa {ob : Obj} (h : Walk P main (DR V) Stop (G (b.at a' (.inRegion ops rest :: k)) cs) (w.alloc ob)) (ho : ops[i]? = some o := by exact ho_of (by conv => lhs; whnf) (by kernel_rfl)) (hw : Region.wanted o (yielded ops a.tmps) = true := by rfl) (hk : b.kind ≠ .early := by decide)
    (he : ∀ d, ∀ e ∈ (execOp a.eval o).events P (w.at d) #[], EvR V e := by intro dd e he; simp [go_sem, *] at he; done)
    (hr : ∀ d, ∀ K : Act → World → Prop, K a' ((w.alloc ob).at d) → uponK o a K ((execOp a.eval o).run P (w.at d)) := by intro dd K hK; go_simp; simp only [alloc_at', setCell_at']; exact hK) : Walk P main (DR V) Stop (G (b.at a (.inRegion ops (i :: rest) :: k)) cs) w :=
  Walk.opw ho hw hk he (fun _ _ hes => DR.alloc' _ _ hes) fun d K hK => hr d K (hK a' h)
theorem Walk.os {A : Addr} {x y : Value} (hf : Free V A) (hc : w.cell? A = some y) (h : Walk P main (DR V) Stop (G (b.at a' (.inRegion ops rest :: k)) cs) (w.setCell A x)) (ho : ops[i]? = some o := by exact ho_of (by conv => lhs; whnf) (by kernel_rfl)) (hw : Region.wanted o (yielded ops a.tmps) = true := by rfl) (hk : b.kind ≠ .early := by decide)
    (he : ∀ d, ∀ e ∈ (execOp a.eval o).events P (w.at d) #[], EvR V e := by intro dd e he; simp [go_sem, storedEv, ev_store_bool, ev_store_int, ev_store_slice, ev_store_pointer, *] at he; subst he; exact evR_write _ _ (by assumption))
    (hr : ∀ d, ∀ K : Act → World → Prop, K a' ((w.setCell A x).at d) → uponK o a K ((execOp a.eval o).run P (w.at d)) := by intro dd K hK; go_simp; simp only [alloc_at', setCell_at']; exact hK) : Walk P main (DR V) Stop (G (b.at a (.inRegion ops (i :: rest) :: k)) cs) w :=
  Walk.opw ho hw hk he (fun _ _ hes => DR.set' hf hc _ _ hes) fun d K hK => hr d K (hK a' h)
theorem Walk.cR (h : Walk P main (DR V) Stop (G (b.at a (.inRegion ops l :: k)) cs) w) (hl : List.range ops.size = l := by (simp only [List.size_toArray, List.length_cons, List.length_nil, Nat.reduceAdd, Nat.zero_add, List.range, List.range.loop]; first | done | rfl)) : Walk P main (DR V) Stop (G (b.at a (.code (.region id ops false) :: k)) cs) w := Walk.cReg (hl ▸ h)
end
end
section
open Go.Conc Go.RowKit
section
variable {P : Program} (w : World)
theorem events_max_ints (ts : Array TypeId) (t : TypeId) (k k' : IntKind) (x y : Int) (es : Array Event) : (Builtin.max_ ts t #[.int k x, .int k' y]).events P w es = es := by
  simp [Builtin.max_, Builtin.max2]
theorem events_min_ints (ts : Array TypeId) (t : TypeId) (k k' : IntKind) (x y : Int) (es : Array Event) : (Builtin.min_ ts t #[.int k x, .int k' y]).events P w es = es := by
  simp [Builtin.min_, Builtin.min2]
theorem ev_store_bool (P : Program) (es : Array Event) (a : Addr) (x : Bool) (m : Mode) : (store a (.bool x) m).events P w es = storedEv P w es a (.bool x) m := events_store P w es a _ m rfl
theorem ev_store_int (P : Program) (es : Array Event) (a : Addr) (k : IntKind) (x : Int) (m : Mode) : (store a (.int k x) m).events P w es = storedEv P w es a (.int k x) m := events_store P w es a _ m rfl
theorem ev_store_slice (P : Program) (es : Array Event) (a : Addr) (b : Option Addr) (n c : Nat) (m : Mode) : (store a (.slice b n c) m).events P w es = storedEv P w es a (.slice b n c) m := events_store P w es a _ m rfl
theorem ev_store_pointer (P : Program) (es : Array Event) (a : Addr) (b : Option Addr) (m : Mode) : (store a (.pointer b) m).events P w es = storedEv P w es a (.pointer b) m := events_store P w es a _ m rfl
theorem cell_lt {a : Addr} {v : Value} (h : w.cell? a = some v) : a.block < w.heap.size := by
  unfold World.cell? at h
  split at h
  · rename_i h'; exact (Array.getElem?_eq_some_iff.1 h').1
  · cases h
theorem cell_alloc {a : Addr} {v : Value} (o : Obj) (h : w.cell? a = some v) : (w.alloc o).cell? a = some v := (World.cell?_alloc_lt _ _ _ (cell_lt w h)).trans h
theorem frozen_alloc {a : Addr} {v : Value} {x : Bool} (o : Obj) (h : w.cell? a = some v) (hz : w.frozen? a = x) : (w.alloc o).frozen? a = x := by
  have hlt := cell_lt w h
  rw [← hz]
  unfold World.frozen?
  rw [Below.heap_alloc _ _ _ hlt]
end
end
section
open Go.Conc Go.RowKit
section
variable {P : Program} {main : Bool} {V : Nat → Option Wait} {Stop : Goroutine → World → Prop} {w : World} {b fr c : Frame} {a : Act} {k : List Item} {cs : List Frame} {ops : Array Oper} {i : Nat} {rest : List Nat} {o : Oper}
theorem stepG_raise {x : Value} (ho : ops[i]? = some o) (hw : Region.wanted o (yielded ops a.tmps) = true) (hk : b.kind ≠ .early) (hr : (execOp a.eval o).run P w = .halt (.panic x) w) (he : (execOp a.eval o).events P w #[] = #[]) :
    stepG P main (G (b.at a (.inRegion ops (i :: rest) :: k)) cs) w = .go (G { b.at a (.inRegion ops (i :: rest) :: k) with mode := .panicking [{ v := x, recovered := false }] } cs) w := by
  have hk' : (b.kind == CallKind.early) = false := by simpa using hk
  rw [stepG_oper ho hw]
  simp [stepG.apply, hr, he, G, Frame.at, Frame.raise, hk', GStep.after, seen_none]
theorem stepG_pop {chain : List PanicEntry} (hm : fr.mode = .panicking chain) (hd : fr.defers = []) (hc : fr.catches P = false) : stepG P main (G fr (c :: cs)) w = .go (G (c.raise chain) cs) w := by
  simp [G, stepG, unwind, hm, hd, hc]
theorem stepG_deferred {d : Deferred} {ds : List Deferred} {f : FuncId} {fn : Func} {cap : Array Value} (hm : fr.mode ≠ .run) (hd : fr.defers = d :: ds) (ht : d.target = .fn (.func f) cap) (hf : P.funcs[f]? = some fn)
    (hname : (fn.name == "runtime.NumGoroutine") = false) (hb : fn.body.isNone = false) :
    stepG P main (G fr cs) w = .go (G (Frame.enter P f (d.args ++ cap) .deferred) ({ fr with defers := ds } :: cs)) w := by
  have h1 : ¬ fn.name = "runtime.NumGoroutine" := by simpa using hname
  have h2 : ¬ fn.body = none := by cases hx : fn.body <;> simp_all
  obtain ⟨t, ars⟩ := d
  subst ht
  have hs : stepG P main (G fr cs) w = unwind P main fr cs none w := by
    cases hmm : fr.mode <;> simp_all [G, stepG]
  rw [hs]
  simp [unwind, hd, callDeferred, invoke, callFunc, hf, h1, h2, GStep.after, seen_none, G]
theorem stepG_recover {v : Value} {older : List PanicEntry} {ats : Array TypeId} (ho : ops[i]? = some o) (hw : Region.wanted o (yielded ops a.tmps) = true) (hk : b.kind = .deferred) (hop : o.op = .call { callee := .builtin .recover, args := #[], argTypes := ats })
    (hc : c.mode = .panicking ({ v, recovered := false, goexit := false } :: older)) :
    stepG P main (G (b.at a (.inRegion ops (i :: rest) :: k)) (c :: cs)) w = .go (G (b.at (a.put o.dst v) (.inRegion ops rest :: k)) ({ c with mode := .panicking ({ v, recovered := true } :: older) } :: cs)) w := by
  have hrun : (execOp a.eval o).run P w = .ok .recover w := by
    unfold execOp
    simp [hop, resolve, invoke, builtin]
  have hev : (execOp a.eval o).events P w #[] = #[] := by
    unfold execOp
    simp [hop, resolve, invoke, builtin]
  have hfin : (b.at a (.inRegion ops (i :: rest) :: k)).finish v = b.at (a.put o.dst v) (.inRegion ops rest :: k) := by rw [Frame.finish_at, ho]; rfl
  rw [stepG_oper ho hw, ← hfin]
  simp [stepG.apply, hrun, hev, G, Frame.at, hk, GStep.after, seen_none, tryRecover, hc]
theorem stepG_recoverNone {ats : Array TypeId} (ho : ops[i]? = some o) (hw : Region.wanted o (yielded ops a.tmps) = true) (hk : b.kind = .deferred) (hop : o.op = .call { callee := .builtin .recover, args := #[], argTypes := ats })
    (hc : c.mode = .returning) :
    stepG P main (G (b.at a (.inRegion ops (i :: rest) :: k)) (c :: cs)) w = .go (G (b.at (a.put o.dst .nilIface) (.inRegion ops rest :: k)) (c :: cs)) w := by
  have hrun : (execOp a.eval o).run P w = .ok .recover w := by
    unfold execOp
    simp [hop, resolve, invoke, builtin]
  have hev : (execOp a.eval o).events P w #[] = #[] := by
    unfold execOp
    simp [hop, resolve, invoke, builtin]
  have hfin : (b.at a (.inRegion ops (i :: rest) :: k)).finish .nilIface = b.at (a.put o.dst .nilIface) (.inRegion ops rest :: k) := by rw [Frame.finish_at, ho]; rfl
  rw [stepG_oper ho hw, ← hfin]
  simp [stepG.apply, hrun, hev, G, Frame.at, hk, GStep.after, seen_none, tryRecover, hc]
theorem stepG_leaveRecovered {todo : List Item} {fn : Func} {v x : Value} (hn : b.kind = .deferred) (hd : a.defers = []) (hf : P.funcs[b.fn]? = some fn) (hr : (results fn a.tmps).run P w = .ok x w) (he : (results fn a.tmps).events P w #[] = #[])
    (hc : c.mode = .panicking [{ v, recovered := true }]) :
    stepG P main (G { b.at a todo with mode := .returning } (c :: cs)) w = .go (G { c with mode := .returning } cs) w := by
  simp [G, stepG, unwind, doReturn, Frame.at, hn, hd, hf, hr, he, hc, seen, GStep.after]
theorem stepG_leaveReturning {todo : List Item} {fn : Func} {x : Value} (hn : b.kind = .deferred) (hd : a.defers = []) (hf : P.funcs[b.fn]? = some fn) (hr : (results fn a.tmps).run P w = .ok x w) (he : (results fn a.tmps).events P w #[] = #[]) (hc : c.mode = .returning) :
    stepG P main (G { b.at a todo with mode := .returning } (c :: cs)) w = .go (G c cs) w := by
  simp [G, stepG, unwind, doReturn, Frame.at, hn, hd, hf, hr, he, hc, seen, GStep.after]
theorem stepG_deferClose {ds : List Deferred} {ats : Array TypeId} {t : TypeId} {cons : Array Bool} {ch : Nat} {kk : Nat} (hm : fr.mode = .returning) (hd : fr.defers = { target := .builtin .close ats t cons, args := #[.chan (some ch)] } :: ds)
    (hq : (P.funcs[fr.fn]?).any (·.norace) = false) (hc : w.heap[ch]? = some (.chan 0 #[] false kk kk false)) :
    stepG P main (G fr cs) w = .go (G { fr with defers := ds } cs) (w.setChan ch 0 #[] true kk kk false) (closeEvents ch) := by
  have hr : (invoke (.builtin .close ats t cons) #[.chan (some ch)]).run P w = .ok (.value (.tuple #[])) (w.setChan ch 0 #[] true kk kk false) := by
    simp [invoke, builtin, run_close_open _ _ hc, World.setChan]
  have he : (invoke (.builtin .close ats t cons) #[.chan (some ch)]).events P w #[] = closeEvents ch := by
    simp [invoke, builtin, events_close_open _ _ hc, closeEvents]
  have hs : seen P fr.fn (closeEvents ch) = closeEvents ch := seen_eq hq (by intro e he f; simp only [closeEvents, List.mem_toArray, List.mem_cons, List.not_mem_nil, or_false] at he; rcases he with rfl | rfl <;> simp)
  simp [G, stepG, unwind, hm, hd, callDeferred, hr, he, hs, GStep.after]
theorem stepG_deferOp {d : Deferred} (ho : ops[i]? = some o) (hw : Region.wanted o (yielded ops a.tmps) = true) (hk : b.kind ≠ .early) (hr : (execOp a.eval o).run P w = .ok (.defer d) w) (he : (execOp a.eval o).events P w #[] = #[]) :
    stepG P main (G (b.at a (.inRegion ops (i :: rest) :: k)) cs) w = .go (G (b.at (Act.put ⟨a.tmps, d :: a.defers⟩ o.dst undef) (.inRegion ops rest :: k)) cs) w #[] := by
  have hfin : (b.at ⟨a.tmps, d :: a.defers⟩ (.inRegion ops (i :: rest) :: k)).finish undef = b.at (Act.put ⟨a.tmps, d :: a.defers⟩ o.dst undef) (.inRegion ops rest :: k) := by rw [Frame.finish_at, ho]; rfl
  have hk' : (b.kind == CallKind.early) = false := by simpa using hk
  rw [stepG_oper ho hw, ← hfin]
  simp [stepG.apply, hr, he, G, Frame.at, hk', GStep.after, seen_none]
theorem stepG_callValue {f : FuncId} {fn : Func} {x : Operand} {args : Array Operand} {ats : Array TypeId} {first cap : Array Value} (ho : ops[i]? = some o) (hw : Region.wanted o (yielded ops a.tmps) = true) (hk : b.kind ≠ .early)
    (hop : o.op = .call { callee := .value x, args, argTypes := ats }) (hx : a.eval x = .func (.func f) first cap) (hf : P.funcs[f]? = some fn) (hname : (fn.name == "runtime.NumGoroutine") = false) (hb : fn.body.isNone = false) :
    stepG P main (G (b.at a (.inRegion ops (i :: rest) :: k)) cs) w = .go (G (Frame.enter P f (first ++ args.map a.eval ++ cap) .normal) (b.at a (.inRegion ops (i :: rest) :: k) :: cs)) w := by
  have h1 : ¬ fn.name = "runtime.NumGoroutine" := by simpa using hname
  have h2 : ¬ fn.body = none := by cases hx : fn.body <;> simp_all
  have hr : (execOp a.eval o).run P w = .ok (.enter f (first ++ args.map a.eval ++ cap)) w := by
    unfold execOp
    simp [hop, resolve, Deferred.ofValue, invoke, callFunc, hf, h1, h2, hx]
  have he : (execOp a.eval o).events P w #[] = #[] := by
    unfold execOp
    simp [hop, resolve, Deferred.ofValue, invoke, callFunc, hf, h1, h2, hx]
  rw [stepG_enter ho hw hk hr]
  have : listed P b.fn a o w = #[] := by unfold listed; rw [he]; exact seen_none P _
  rw [this]
theorem run_assert_same (t s : TypeId) (v : Value) {u : TypeDesc} (hu : P.underlying t = some u) (h : ∀ ms, u ≠ .interface ms) : (Instr.typeAssert (.iface t v) s t true).run P w = .ok (.tuple #[v, .bool true]) w := by
  cases u <;> first | (exact absurd rfl (h _)) | simp [Instr.typeAssert, run_underlying hu]
theorem run_assert_other (t t' s : TypeId) (v z : Value) {u : TypeDesc} (hu : P.underlying t = some u) (h : ∀ ms, u ≠ .interface ms) (ht : t' ≠ t) (hz : (zeroValue t).run P w = .ok z w) : (Instr.typeAssert (.iface t' v) s t true).run P w = .ok (.tuple #[z, .bool false]) w := by
  cases u <;> first | (exact absurd rfl (h _)) | simp [Instr.typeAssert, run_underlying hu, ht, hz]
theorem ev_assert_same (t s : TypeId) (v : Value) (es : Array Event) {u : TypeDesc} (hu : P.underlying t = some u) (h : ∀ ms, u ≠ .interface ms) : (Instr.typeAssert (.iface t v) s t true).events P w es = es := by
  cases u <;> first | (exact absurd rfl (h _)) | simp [Instr.typeAssert, run_underlying hu]
theorem ev_assert_other (t t' s : TypeId) (v : Value) (es : Array Event) {u : TypeDesc} (hu : P.underlying t = some u) (h : ∀ ms, u ≠ .interface ms) (ht : t' ≠ t) (hze : (zeroValue t).events P w es = es) : (Instr.typeAssert (.iface t' v) s t true).events P w es = es := by
  cases u <;> first | (exact absurd rfl (h _)) | simp [Instr.typeAssert, run_underlying hu, ht, hze]
theorem stepG_leaveF {fn : Func} {v : Value} (hm : fr.mode = .returning) (hn : fr.kind = .normal) (hd : fr.defers = []) (hf : P.funcs[fr.fn]? = some fn) (hr : (results fn fr.tmps).run P w = .ok v w) :
    stepG P main (G fr (c :: cs)) w = .go (G (c.finish v) cs) w (seen P fr.fn ((results fn fr.tmps).events P w #[])) := by
  simp [G, stepG, unwind, doReturn, hm, hn, hd, hf, hr, GStep.after]
theorem Walk.evs {g g' : Goroutine} (E : Nat → Array Event) (hr : g.status = .running) (hs : ∀ d, stepG P main g (w.at d) = .go g' (w.at d) (E d)) (he : ∀ d, ∀ e ∈ E d, EvR V e) (h : Walk P main (DR V) Stop g' w) : Walk P main (DR V) Stop g w :=
  .step hr (fun _ => g') (fun d => w.at d) E hs (fun d => DR.quiet (he d)) fun d => h.back d
theorem run_eqIn_func (d : Nat) (t : TypeId) (f : Fn) (x y : Array Value) {a b c} (hu : P.underlying t = some (.func a b c)) : (Op.equalIn (d + 1) t (.func f x y) .nilFunc).run P w = .ok false w := by simp [Op.equalIn, run_underlying hu]
theorem ev_eqIn_func (d : Nat) (t : TypeId) (f : Fn) (x y : Array Value) (es : Array Event) {a b c} (hu : P.underlying t = some (.func a b c)) : (Op.equalIn (d + 1) t (.func f x y) .nilFunc).events P w es = es := by simp [Op.equalIn, run_underlying hu]
theorem run_neq_func (t : TypeId) (f : Fn) (x y : Array Value) {a b c} (hu : P.underlying t = some (.func a b c)) : (binOp .neq t (.func f x y) .nilFunc).run P w = .ok (.bool true) w := by
  simp only [binOp]
  simp [Op.equal, Op.maxDepth, run_eqIn_func (w := w) 9999 t f x y hu]
theorem ev_neq_func (t : TypeId) (f : Fn) (x y : Array Value) (es : Array Event) {a b c} (hu : P.underlying t = some (.func a b c)) : (binOp .neq t (.func f x y) .nilFunc).events P w es = es := by
  simp only [binOp]
  simp [Op.equal, Op.maxDepth, run_eqIn_func (w := w) 9999 t f x y hu, ev_eqIn_func (w := w) 9999 t f x y es hu]
theorem run_eqIn_nilFunc (d : Nat) (t : TypeId)  {a b c} (hu : P.underlying t = some (.func a b c)) : (Op.equalIn (d + 1) t .nilFunc .nilFunc).run P w = .ok true w := by simp [Op.equalIn, run_underlying hu]
theorem ev_eqIn_nilFunc (d : Nat) (t : TypeId)  (es : Array Event) {a b c} (hu : P.underlying t = some (.func a b c)) : (Op.equalIn (d + 1) t .nilFunc .nilFunc).events P w es = es := by simp [Op.equalIn, run_underlying hu]
theorem run_neq_nilFunc (t : TypeId)  {a b c} (hu : P.underlying t = some (.func a b c)) : (binOp .neq t .nilFunc .nilFunc).run P w = .ok (.bool false) w := by
  simp only [binOp]
  simp [Op.equal, Op.maxDepth, run_eqIn_nilFunc (w := w) 9999 t  hu]
theorem ev_neq_nilFunc (t : TypeId)  (es : Array Event) {a b c} (hu : P.underlying t = some (.func a b c)) : (binOp .neq t .nilFunc .nilFunc).events P w es = es := by
  simp only [binOp]
  simp [Op.equal, Op.maxDepth, run_eqIn_nilFunc (w := w) 9999 t  hu, ev_eqIn_nilFunc (w := w) 9999 t  es hu]
theorem run_eqIn_iface (d : Nat) (t : TypeId) (s : TypeId) (x : Value) {ms} (hu : P.underlying t = some (.interface ms)) : (Op.equalIn (d + 1) t (.iface s x) .nilIface).run P w = .ok false w := by simp [Op.equalIn, run_underlying hu]
theorem ev_eqIn_iface (d : Nat) (t : TypeId) (s : TypeId) (x : Value) (es : Array Event) {ms} (hu : P.underlying t = some (.interface ms)) : (Op.equalIn (d + 1) t (.iface s x) .nilIface).events P w es = es := by simp [Op.equalIn, run_underlying hu]
theorem run_neq_iface (t : TypeId) (s : TypeId) (x : Value) {ms} (hu : P.underlying t = some (.interface ms)) : (binOp .neq t (.iface s x) .nilIface).run P w = .ok (.bool true) w := by
  simp only [binOp]
  simp [Op.equal, Op.maxDepth, run_eqIn_iface (w := w) 9999 t s x hu]
theorem ev_neq_iface (t : TypeId) (s : TypeId) (x : Value) (es : Array Event) {ms} (hu : P.underlying t = some (.interface ms)) : (binOp .neq t (.iface s x) .nilIface).events P w es = es := by
  simp only [binOp]
  simp [Op.equal, Op.maxDepth, run_eqIn_iface (w := w) 9999 t s x hu, ev_eqIn_iface (w := w) 9999 t s x es hu]
theorem run_eqIn_nilIface (d : Nat) (t : TypeId)  {ms} (hu : P.underlying t = some (.interface ms)) : (Op.equalIn (d + 1) t .nilIface .nilIface).run P w = .ok true w := by simp [Op.equalIn, run_underlying hu]
theorem ev_eqIn_nilIface (d : Nat) (t : TypeId)  (es : Array Event) {ms} (hu : P.underlying t = some (.interface ms)) : (Op.equalIn (d + 1) t .nilIface .nilIface).events P w es = es := by simp [Op.equalIn, run_underlying hu]
theorem run_neq_nilIface (t : TypeId)  {ms} (hu : P.underlying t = some (.interface ms)) : (binOp .neq t .nilIface .nilIface).run P w = .ok (.bool false) w := by
  simp only [binOp]
  simp [Op.equal, Op.maxDepth, run_eqIn_nilIface (w := w) 9999 t  hu]
theorem ev_neq_nilIface (t : TypeId)  (es : Array Event) {ms} (hu : P.underlying t = some (.interface ms)) : (binOp .neq t .nilIface .nilIface).events P w es = es := by
  simp only [binOp]
  simp [Op.equal, Op.maxDepth, run_eqIn_nilIface (w := w) 9999 t  hu, ev_eqIn_nilIface (w := w) 9999 t  es hu]
end
end
end Go.Relay
namespace Go.Proofs.Ytmfkjceeeffamaa
open Go.Conc Go.RowKit Go.Relay
open Go.ConcN (upd upd_ne upd_same)
section
variable {main : Bool} {V : Nat → Option Wait}
def def60 (N : Nat) : Deferred := { target := .fn (.func 94) #[.pointer (some ⟨N, 0, none⟩)], args := #[] }
noncomputable def todo60 : Option (Array Oper × Code) := match Try.f79.body with | some (.seq _ (.seq _ (.seq (.seq _ (.cond _ (.region _ ops _) _)) c))) => some (ops, c) | _ => none
noncomputable def ops60 : Array Oper := (todo60.getD (#[], .skip)).1
noncomputable def rest60 : Code := (todo60.getD (#[], .skip)).2
noncomputable def fr60 (N : Nat) (F S : Value) : Frame :=
  (base 79).at { tmps := #[F, S, undef, undef, .bool false, .pointer (some ⟨N, 0, none⟩), .func (.func 94) #[] #[.pointer (some ⟨N, 0, none⟩)], F, .bool true, F, S, undef], defers := [def60 N] } [.inRegion ops60 [2], .code rest60]
theorem ride_in {Stop : Goroutine → World → Prop} (f : FuncId) (fn : Func) (first cap : Array Value) (S : Value) (cs : List Frame) (w : World) (hf : Try.prog.funcs[f]? = some fn) (hname : (fn.name == "runtime.NumGoroutine") = false) (hb : fn.body.isNone = false)
    (hk : Walk Try.prog main (DR V) Stop (G (Frame.enter Try.prog f (first ++ #[S] ++ cap) .normal) (fr60 w.heap.size (.func (.func f) first cap) S :: cs)) (w.alloc (.cells #[.bool false] 4))) :
    Walk Try.prog main (DR V) Stop (G (Frame.enter Try.prog 79 #[.func (.func f) first cap, S] .normal) cs) w := by
  simp only [fr60, ops60, rest60, todo60, Try.f79, Option.getD_some] at hk
  rw [enter_at _ Try.func79 rfl]
  simp only [Try.f79, List.size_toArray, List.length_cons, List.length_nil, Nat.reduceAdd, Nat.reduceSub, Array.replicate_succ, Array.replicate_zero, List.push_toArray, List.append_toArray, List.nil_append, List.cons_append]
  have hn1 := fun w => run_neq_func (P := Try.prog) (w := w) 126 (.func f) first cap (by kernel_rfl : Try.prog.underlying 126 = some (.func #[100] #[] false))
  have hn2 := fun w es => ev_neq_func (P := Try.prog) (w := w) 126 (.func f) first cap es (by kernel_rfl : Try.prog.underlying 126 = some (.func #[100] #[] false))
  repeat (first | refine Walk.c rfl ?_ | refine Walk.cR ?_ | refine Walk.cRet ?_ | refine Walk.cEnd ?_ | (refine Walk.oq ?_; try walk_nrm) | (refine Walk.un ?_; walk_nrm))
  (refine Walk.oa ?_; try walk_nrm)
  repeat (first | refine Walk.c rfl ?_ | refine Walk.cR ?_ | refine Walk.cRet ?_ | refine Walk.cEnd ?_ | (refine Walk.oq ?_; try walk_nrm) | (refine Walk.un ?_; walk_nrm))
  refine Walk.ctl rfl (fun w' => stepG_deferOp (d := def60 w.heap.size) rfl (by rfl) (by decide) (by simp [go_sem, execOp, Deferred.ofValue, def60]) (by simp [go_sem, execOp, Deferred.ofValue])) ?_
  walk_nrm
  repeat (first | refine Walk.c rfl ?_ | refine Walk.cR ?_ | refine Walk.cRet ?_ | refine Walk.cEnd ?_ | (refine Walk.oq ?_; try walk_nrm) | (refine Walk.un ?_; walk_nrm))
  refine Walk.ctl rfl (fun w' => stepG_callValue rfl (by rfl) (by decide) rfl rfl hf hname hb) ?_
  walk_nrm
  exact hk
end
section
variable {main : Bool} {V : Nat → Option Wait}
theorem und20 : ∃ ms, Try.prog.underlying 20 = some (.interface ms) := ⟨#[], by kernel_rfl⟩
theorem results60 (tmps : Array Value) (N : Nat) (x y : Bool) (w : World) (h4 : tmps.getD 4 undef = .bool x) (h5 : tmps.getD 5 undef = .pointer (some ⟨N, 0, none⟩)) (hN : w.cell? ⟨N, 0, none⟩ = some (.bool y)) :
    (results Try.f79 tmps).run Try.prog w = .ok (.tuple #[.bool x, .bool y]) w ∧ ∀ e ∈ (results Try.f79 tmps).events Try.prog w #[], EvR V e := by
  simp only [Array.getD_eq_getD_getElem?] at h4 h5
  constructor
  · simp only [results, Try.f79]
    simp [h4, h5, go_sem, hN, asAddr, loadVar]
  · intro e he
    simp only [results, Try.f79] at he
    simp [h4, h5, go_sem, hN, asAddr, loadVar] at he
    subst he
    exact evR_read _ _
theorem leave60 {fr : Frame} {c : Frame} {cs : List Frame} {N : Nat} {x y : Bool} {w : World} (hf : fr.fn = 79) (hm : fr.mode = .returning) (hn : fr.kind = .normal) (hd : fr.defers = []) (h4 : fr.tmps.getD 4 undef = .bool x) (h5 : fr.tmps.getD 5 undef = .pointer (some ⟨N, 0, none⟩)) (hN : w.cell? ⟨N, 0, none⟩ = some (.bool y)) :
    Walk Try.prog main (DR V) (fun g w' => g = G (c.finish (.tuple #[.bool x, .bool y])) cs ∧ ∃ d, w' = w.at d) (G fr (c :: cs)) w :=
  Walk.evs (fun d => seen Try.prog fr.fn ((results Try.f79 fr.tmps).events Try.prog (w.at d) #[])) rfl (fun d => stepG_leaveF hm hn hd (by rw [hf]; exact Try.func79) (results60 (V := V) fr.tmps N x y (w.at d) h4 h5 hN).1)
    (fun d e he => (results60 (V := V) fr.tmps N x y (w.at d) h4 h5 hN).2 e (mem_seen he)) (.stop fun d => ⟨rfl, d, rfl⟩)
theorem ride_done (N : Nat) (F S : Value) (c : Frame) (cs : List Frame) (w : World) (x : Bool) (hN : w.cell? ⟨N, 0, none⟩ = some (.bool x)) (hz : w.frozen? ⟨N, 0, none⟩ = false) (hfr : Free V ⟨N, 0, none⟩) :
    Walk Try.prog main (DR V) (fun g w' => g = G (c.finish (.tuple #[.bool true, .bool false])) cs ∧ ∃ d, w' = (w.setCell ⟨N, 0, none⟩ (.bool false)).at d) (G ((fr60 N F S).finish (.tuple #[])) (c :: cs)) w := by
  obtain ⟨ms, h20⟩ := und20
  have hn1 := fun w => run_neq_nilIface (P := Try.prog) (w := w) 20 h20
  have hn2 := fun w es => ev_neq_nilIface (P := Try.prog) (w := w) 20 es h20
  unfold fr60
  rw [Frame.finish_at]
  simp only [ops60, rest60, todo60, Try.f79, Option.getD_some]
  walk_nrm
  repeat (first | refine Walk.c rfl ?_ | refine Walk.cR ?_ | refine Walk.cRet ?_ | refine Walk.cEnd ?_ | (refine Walk.oq ?_; try walk_nrm) | (refine Walk.un ?_; walk_nrm))
  (refine Walk.os hfr hN ?_; try walk_nrm)
  repeat (first | refine Walk.c rfl ?_ | refine Walk.cR ?_ | refine Walk.cRet ?_ | refine Walk.cEnd ?_ | (refine Walk.oq ?_; try walk_nrm) | (refine Walk.un ?_; walk_nrm))
  have hN' := World.cell?_setCell_same w ⟨N, 0, none⟩ (.bool false) hN
  refine Walk.ctl rfl (fun w => stepG_deferred (d := def60 N) (ds := []) (by simp [Frame.at]) rfl rfl Try.func94 (by kernel_rfl) (by rfl)) ?_
  simp only [def60, List.append_toArray, List.nil_append]
  rw [enter_atD _ Try.func94 rfl]
  simp only [Try.f94, List.size_toArray, List.length_cons, List.length_nil, Nat.reduceAdd, Nat.reduceSub, Array.replicate_succ, Array.replicate_zero, List.push_toArray, List.append_toArray, List.nil_append, List.cons_append]
  repeat (first | refine Walk.c rfl ?_ | refine Walk.cR ?_ | refine Walk.cRet ?_ | refine Walk.cEnd ?_ | (refine Walk.oq ?_; try walk_nrm) | (refine Walk.un ?_; walk_nrm))
  refine Walk.ctl rfl (fun w => stepG_recoverNone rfl (by rfl) rfl rfl rfl) ?_
  walk_nrm
  repeat (first | refine Walk.c rfl ?_ | refine Walk.cR ?_ | refine Walk.cRet ?_ | refine Walk.cEnd ?_ | (refine Walk.oq ?_; try walk_nrm) | (refine Walk.un ?_; walk_nrm))
  refine Walk.ctl rfl (fun w => stepG_leaveReturning rfl rfl Try.func94 (results_none rfl _ _ w) (events_results_none rfl _ _) rfl) ?_
  exact leave60 rfl rfl rfl rfl rfl rfl hN'
theorem ride_stopped (N : Nat) (F S : Value) (c : Frame) (cs : List Frame) (w : World) (x : Bool) (hN : w.cell? ⟨N, 0, none⟩ = some (.bool x)) (hz : w.frozen? ⟨N, 0, none⟩ = false) (hfr : Free V ⟨N, 0, none⟩) :
    Walk Try.prog main (DR V) (fun g w' => g = G (c.finish (.tuple #[.bool false, .bool false])) cs ∧ ∃ d, w' = ((w.alloc (.cells #[] 168)).setCell ⟨N, 0, none⟩ (.bool false)).at d) (G ((fr60 N F S).raise [{ v := .iface 168 (.agg #[]), recovered := false }]) (c :: cs)) w := by
  obtain ⟨ms, h20⟩ := und20
  have hn1 := fun w => run_neq_iface (P := Try.prog) (w := w) 20 168 (.agg #[]) h20
  have hn2 := fun w es => ev_neq_iface (P := Try.prog) (w := w) 20 168 (.agg #[]) es h20
  unfold fr60
  rw [Frame.raise_at]
  simp only [ops60, rest60, todo60, Try.f79, Option.getD_some]
  refine Walk.ctl rfl (fun w => stepG_deferred (d := def60 N) (ds := []) (by simp [Frame.at]) rfl rfl Try.func94 (by kernel_rfl) (by rfl)) ?_
  simp only [def60, List.append_toArray, List.nil_append]
  rw [enter_atD _ Try.func94 rfl]
  simp only [Try.f94, List.size_toArray, List.length_cons, List.length_nil, Nat.reduceAdd, Nat.reduceSub, Array.replicate_succ, Array.replicate_zero, List.push_toArray, List.append_toArray, List.nil_append, List.cons_append]
  repeat (first | refine Walk.c rfl ?_ | refine Walk.cR ?_ | refine Walk.cRet ?_ | refine Walk.cEnd ?_ | (refine Walk.oq ?_; try walk_nrm) | (refine Walk.un ?_; walk_nrm))
  refine Walk.ctl rfl (fun w => stepG_recover rfl (by rfl) rfl rfl rfl) ?_
  walk_nrm
  have h147 := fun w => run_assert_same (P := Try.prog) (w := w) 168 20 (.agg #[]) (u := .struct #[]) (by kernel_rfl) (fun _ h => by cases h)
  have e147 := fun w es => ev_assert_same (P := Try.prog) (w := w) 168 20 (.agg #[]) es (u := .struct #[]) (by kernel_rfl) (fun _ h => by cases h)
  repeat (first | refine Walk.c rfl ?_ | refine Walk.cR ?_ | refine Walk.cRet ?_ | refine Walk.cEnd ?_ | (refine Walk.oq ?_; try walk_nrm) | (refine Walk.un ?_; walk_nrm))
  (refine Walk.oa ?_; try walk_nrm)
  have ha := cell_alloc w (.cells #[] 168) hN
  have haz := frozen_alloc w (.cells #[] 168) hN hz
  repeat (first | refine Walk.c rfl ?_ | refine Walk.cR ?_ | refine Walk.cRet ?_ | refine Walk.cEnd ?_ | (refine Walk.oq ?_; try walk_nrm) | (refine Walk.un ?_; walk_nrm))
  (refine Walk.os hfr ha ?_; try walk_nrm)
  have hN' := World.cell?_setCell_same (w.alloc (.cells #[] 168)) ⟨N, 0, none⟩ (.bool false) ha
  repeat (first | refine Walk.c rfl ?_ | refine Walk.cR ?_ | refine Walk.cRet ?_ | refine Walk.cEnd ?_ | (refine Walk.oq ?_; try walk_nrm) | (refine Walk.un ?_; walk_nrm))
  refine Walk.ctl rfl (fun w => stepG_leaveRecovered rfl rfl Try.func94 (results_none rfl _ _ w) (events_results_none rfl _ _) rfl) ?_
  exact leave60 rfl rfl rfl rfl rfl rfl hN'
end
section
variable {main : Bool} {V : Nat → Option Wait}
noncomputable def bornfr : Frame := { (default : Frame) with fn := Try.prog.funcs.size, defers := [], mode := .panicking [goexitEntry] }
noncomputable def def78 (r : Nat) : Deferred := { target := .builtin .close #[147] 0 #[false], args := #[.chan (some r)] }
noncomputable def ops78 : Array Oper := match Try.f85.body with | some (.seq _ (.region _ ops _)) => ops | _ => #[]
noncomputable def fr78 (p r : Nat) (F : Value) : Frame :=
  (baseD 85).at { tmps := #[.pointer (some ⟨p, 0, none⟩), F, undef, undef, .pointer (some ⟨p, 0, none⟩), .pointer (some ⟨p, 0, none⟩), .pointer (some ⟨p, 1, none⟩), .chan (some r), undef, .pointer (some ⟨p, 0, none⟩), F, .pointer (some ⟨p, 0, none⟩), .iface 160 (.pointer (some ⟨p, 0, none⟩)), undef, undef, undef, undef, undef], defers := [def78 r] } [.inRegion ops78 [4, 5, 6, 7, 8, 9, 10]]
noncomputable def rec78 (p r : Nat) (F : Value) (back broken : Bool) : Goroutine :=
  G { (baseD 85).at { tmps := #[.pointer (some ⟨p, 0, none⟩), F, undef, undef, .pointer (some ⟨p, 0, none⟩), .pointer (some ⟨p, 0, none⟩), .pointer (some ⟨p, 1, none⟩), .chan (some r), .tuple #[.bool back, .bool broken], .pointer (some ⟨p, 0, none⟩), F, .pointer (some ⟨p, 0, none⟩), .iface 160 (.pointer (some ⟨p, 0, none⟩)), .tuple #[.bool back, .bool broken], .bool back, .bool broken, .pointer (some ⟨p, 0, none⟩), .pointer (some ⟨p, 3, none⟩)], defers := [def78 r] } [] with mode := .returning } [bornfr]
theorem und161 : Try.prog.underlying 160 = some (.pointer 166) := by kernel_rfl
theorem run_iface161 (a : Option Addr) (w : World) : (Instr.makeInterface 160 (.pointer a)).run Try.prog w = .ok (.iface 160 (.pointer a)) w := by simp [Instr.makeInterface, run_underlying und161]
theorem ev_iface161 (a : Option Addr) (w : World) (es : Array Event) : (Instr.makeInterface 160 (.pointer a)).events Try.prog w es = es := by simp [Instr.makeInterface, run_underlying und161]
theorem run_enters {Stop : Goroutine → World → Prop} (p r : Nat) (F : Value) (w : World) (h1 : w.cell? ⟨p, 1, none⟩ = some (.chan (some r)))
    (hk : Walk Try.prog main (DR V) Stop (G (Frame.enter Try.prog 79 #[F, .iface 160 (.pointer (some ⟨p, 0, none⟩))] .normal) [fr78 p r F, bornfr]) w) :
    Walk Try.prog main (DR V) Stop (born Try.prog { target := .fn (.func 85) #[], args := #[.pointer (some ⟨p, 0, none⟩), F] }) w := by
  simp only [fr78, ops78, Try.f85] at hk
  refine Walk.ctl rfl (fun w => stepG_deferred (d := { target := .fn (.func 85) #[], args := #[.pointer (some ⟨p, 0, none⟩), F] }) (ds := []) (fr := { (default : Frame) with fn := Try.prog.funcs.size, defers := [{ target := .fn (.func 85) #[], args := #[.pointer (some ⟨p, 0, none⟩), F] }], mode := .panicking [goexitEntry] }) (cs := []) (by simp) rfl rfl Try.func85 (by kernel_rfl) (by rfl)) ?_
  simp only [Array.append_empty]
  rw [enter_atD _ Try.func85 rfl]
  simp only [Try.f85, List.size_toArray, List.length_cons, List.length_nil, Nat.reduceAdd, Nat.reduceSub, Array.replicate_succ, Array.replicate_zero, List.push_toArray, List.append_toArray, List.nil_append, List.cons_append]
  have hi1 := run_iface161
  have hi2 := ev_iface161
  repeat (first | refine Walk.c rfl ?_ | refine Walk.cR ?_ | refine Walk.cRet ?_ | refine Walk.cEnd ?_ | (refine Walk.oq ?_; try walk_nrm) | (refine Walk.un ?_; walk_nrm))
  refine Walk.ctl rfl (fun w' => stepG_deferOp (d := def78 r) rfl (by rfl) (by decide) (by simp [go_sem, execOp, Deferred.ofValue, def78]) (by simp [go_sem, execOp, Deferred.ofValue])) ?_
  walk_nrm
  repeat (first | refine Walk.c rfl ?_ | refine Walk.cR ?_ | refine Walk.cRet ?_ | refine Walk.cEnd ?_ | (refine Walk.oq ?_; try walk_nrm) | (refine Walk.un ?_; walk_nrm))
  refine Walk.ctl rfl (fun w => stepG_callValue (f := 79) (first := #[]) (cap := #[]) rfl (by rfl) (by decide) rfl rfl Try.func79 (by kernel_rfl) (by rfl)) ?_
  walk_nrm
  try simp only [Array.append_empty, Array.empty_append]
  exact hk
theorem run_out (p r : Nat) (F : Value) (back broken x : Bool) (w : World) (h3 : w.cell? ⟨p, 3, none⟩ = some (.bool x)) (hz : w.frozen? ⟨p, 3, none⟩ = false) (hfr : Free V ⟨p, 3, none⟩) :
    Walk Try.prog main (DR V) (fun g w' => g = rec78 p r F back broken ∧ ∃ d, w' = (w.setCell ⟨p, 3, none⟩ (.bool broken)).at d) (G ((fr78 p r F).finish (.tuple #[.bool back, .bool broken])) [bornfr]) w := by
  unfold fr78
  rw [Frame.finish_at]
  simp only [ops78, Try.f85]
  walk_nrm
  repeat (first | refine Walk.c rfl ?_ | refine Walk.cR ?_ | refine Walk.cRet ?_ | refine Walk.cEnd ?_ | (refine Walk.oq ?_; try walk_nrm) | (refine Walk.un ?_; walk_nrm))
  (refine Walk.os hfr h3 ?_; try walk_nrm)
  repeat (first | refine Walk.c rfl ?_ | refine Walk.cR ?_ | refine Walk.cRet ?_ | refine Walk.cEnd ?_ | (refine Walk.oq ?_; try walk_nrm) | (refine Walk.un ?_; walk_nrm))
  exact .stop fun d => ⟨rfl, d, rfl⟩
theorem close78 (p r : Nat) (F : Value) (back broken : Bool) (w : World) (k : Nat) (hc : w.heap[r]? = some (.chan 0 #[] false k k false)) :
    stepG Try.prog main (rec78 p r F back broken) w = .go (G { (rec78 p r F back broken).frame with defers := [] } [bornfr]) (w.setChan r 0 #[] true k k false) (closeEvents r) := by
  unfold rec78
  exact stepG_deferClose (ds := []) rfl rfl (by kernel_rfl) hc
theorem wake78 (p r : Nat) (F : Value) (back broken : Bool) : mayWake Try.prog (rec78 p r F back broken) = true := rfl
theorem quit78 (p r : Nat) (F : Value) (back broken : Bool) : QuitsD Try.prog 2 0 (G { (rec78 p r F back broken).frame with defers := [] } [bornfr]) := by
  refine QuitsD.ctl rfl (g' := G bornfr []) (fun w => ?_) (QuitsD.ctl rfl (g' := { frame := bornfr, callers := [], status := .finished, dying := none }) (fun w => ?_) ⟨rfl, rfl⟩)
  · have hr : (results Try.f85 (rec78 p r F back broken).frame.tmps).run Try.prog w = .ok (.tuple #[]) w := results_none rfl _ _ w
    have he : (results Try.f85 (rec78 p r F back broken).frame.tmps).events Try.prog w #[] = #[] := events_results_none rfl _ _
    simp only [rec78, Frame.at, baseD, G] at hr he ⊢
    simp [stepG, unwind, doReturn, Try.func85, hr, he, bornfr, goexitEntry, seen, GStep.after]
  · have h0 : (default : Frame).todo = [] := rfl
    simp [G, stepG, unwind, bornfr, goexitEntry, Frame.catches, h0]
end
section
variable {main : Bool} {V : Nat → Option Wait}
theorem undAtomic : Try.prog.underlying 132 = some (.pointer 63) := by kernel_rfl
noncomputable def rowLoadB : Bool := match Try.prog.info? 132 with
  | some ti => (match ti.methods.find? (·.name == "Load") with
    | some m => m.path.isEmpty && (m.func == some (138, true))
    | none => false)
  | none => false
theorem rowLoad : ∃ ti m, Try.prog.info? 132 = some ti ∧ ti.methods.find? (·.name == "Load") = some m ∧ m.path = #[] ∧ m.func = some (138, true) := by
  have h : rowLoadB = true := by kernel_rfl
  unfold rowLoadB at h
  revert h
  cases h1 : Try.prog.info? 132 with
  | none => simp
  | some ti =>
    simp only []
    cases h2 : ti.methods.find? (·.name == "Load") with
    | none => simp
    | some m =>
      simp only [Bool.and_eq_true, Array.isEmpty_iff, beq_iff_eq]
      exact fun h => ⟨ti, m, rfl, h2, h.1, h.2⟩
theorem method_load (p q : Nat) (w : World) (es : Array Event) : (method (Try.prog.types.size + Made.depth) 132 (.pointer (some ⟨p, q, none⟩)) "Load").run Try.prog w = .ok (138, .pointer (some ⟨p, q, none⟩)) w ∧ (method (Try.prog.types.size + Made.depth) 132 (.pointer (some ⟨p, q, none⟩)) "Load").events Try.prog w es = es := by
  obtain ⟨ti, m, h1, h2, h3, h4⟩ := rowLoad
  obtain ⟨k, hk⟩ : ∃ k, Try.prog.types.size + Made.depth = k + 1 := ⟨Try.prog.types.size + (Made.depth - 1), by have : 1 ≤ Made.depth := by decide
                                                                                                                omega⟩
  rw [hk]
  unfold method
  refine ⟨?_, ?_⟩
  · simp [typeInfo, h1, h2, h3, h4, follow, receiverAt, run_underlying undAtomic, Place.get]
  · simp [typeInfo, h1, h2, h3, h4, follow, receiverAt, run_underlying undAtomic, Place.get]
section
variable {Stop : Goroutine → World → Prop} {w : World} {b : Frame} {a : Act} {k : List Item} {cs : List Frame} {ops : Array Oper} {i : Nat} {rest : List Nat} {o : Oper}
theorem stepG_invokeLoad {x : Operand} {ats : Array TypeId} (p q : Nat) (ho : ops[i]? = some o) (hw : Region.wanted o (yielded ops a.tmps) = true) (hk : b.kind ≠ .early) (hop : o.op = .call { callee := .invoke x "Load", args := #[], argTypes := ats }) (hx : a.eval x = .iface 132 (.pointer (some ⟨p, q, none⟩))) :
    stepG Try.prog main (G (b.at a (.inRegion ops (i :: rest) :: k)) cs) w = .go (G (Frame.enter Try.prog 138 #[.pointer (some ⟨p, q, none⟩)] .normal) (b.at a (.inRegion ops (i :: rest) :: k) :: cs)) w := by
  have h1 : ¬ Try.f138.name = "runtime.NumGoroutine" := by decide
  have h2 : ¬ Try.f138.body = none := by simp [Try.f138]
  have hm := method_load p q w #[]
  rw [show Try.prog.types.size = 209 from by kernel_rfl] at hm
  have hr : (execOp a.eval o).run Try.prog w = .ok (.enter 138 #[.pointer (some ⟨p, q, none⟩)]) w := by
    unfold execOp
    simp [hop, resolve, invoke, callMethod, callFunc, hm.1, Try.func138, h1, h2, hx]
  have he : (execOp a.eval o).events Try.prog w #[] = #[] := by
    unfold execOp
    simp [hop, resolve, invoke, callMethod, callFunc, hm.1, hm.2, Try.func138, h1, h2, hx]
  rw [stepG_enter ho hw hk hr]
  have : listed Try.prog b.fn a o w = #[] := by unfold listed; rw [he]; exact seen_none Try.prog _
  rw [this]
theorem Walk.invokeLoad {x : Operand} {ats : Array TypeId} (p q : Nat) (ho : ops[i]? = some o) (hw : Region.wanted o (yielded ops a.tmps) = true) (hk : b.kind ≠ .early) (hop : o.op = .call { callee := .invoke x "Load", args := #[], argTypes := ats }) (hx : a.eval x = .iface 132 (.pointer (some ⟨p, q, none⟩)))
    (h : Walk Try.prog main (DR V) Stop (G (Frame.enter Try.prog 138 #[.pointer (some ⟨p, q, none⟩)] .normal) (b.at a (.inRegion ops (i :: rest) :: k) :: cs)) w) : Walk Try.prog main (DR V) Stop (G (b.at a (.inRegion ops (i :: rest) :: k)) cs) w :=
  Walk.ctl rfl (fun _ => stepG_invokeLoad p q ho hw hk hop hx) h
end
section
variable {P : Program}
theorem eqIn_ptr (d : Nat) (t : TypeId) (q : Option Addr) (w : World) (es : Array Event) {e} (hu : P.underlying t = some (.pointer e)) : (Op.equalIn (d + 1) t (.pointer q) (.pointer none)).run P w = .ok q.isNone w ∧ (Op.equalIn (d + 1) t (.pointer q) (.pointer none)).events P w es = es := by
  cases q <;> simp [Op.equalIn, run_underlying hu]
theorem run_eql_ptr (t : TypeId) {e} (hu : P.underlying t = some (.pointer e)) (q : Option Addr) (w : World) : (binOp .eql t (.pointer q) (.pointer none)).run P w = .ok (.bool q.isNone) w := by
  simp only [binOp]
  simp [Op.equal, Op.maxDepth, (eqIn_ptr 9999 t q w #[] hu).1]
theorem ev_eql_ptr (t : TypeId) {e} (hu : P.underlying t = some (.pointer e)) (q : Option Addr) (w : World) (es : Array Event) : (binOp .eql t (.pointer q) (.pointer none)).events P w es = es := by
  simp only [binOp]
  simp [Op.equal, Op.maxDepth, (eqIn_ptr 9999 t q w #[] hu).1, (eqIn_ptr 9999 t q w es hu).2]
end
section
theorem run_ifaceAtomic (a : Option Addr) (w : World) : (Instr.makeInterface 132 (.pointer a)).run Try.prog w = .ok (.iface 132 (.pointer a)) w := by simp [Instr.makeInterface, run_underlying undAtomic]
theorem ev_ifaceAtomic (a : Option Addr) (w : World) (es : Array Event) : (Instr.makeInterface 132 (.pointer a)).events Try.prog w es = es := by simp [Instr.makeInterface, run_underlying undAtomic]
theorem undWord : Try.prog.underlying 125 = some (.pointer 65) := by kernel_rfl
end
end
end Go.Proofs.Ytmfkjceeeffamaa
namespace Go.Relay
section
open Go.Conc Go.RowKit
section
variable {P : Program} {main : Bool} {v : Wait} {g : Goroutine}
def Yonder (P : Program) (main : Bool) (v : Wait) (g : Goroutine) : Prop := ∃ B k, ∀ w, Goes P main (RK v.K) (DS v.S B) (fun g _ => ∃ g₂, AtIn P main v.K v.S B v.seat g g₂) k g w
theorem Yonder.waits (h : Yonder P main v g) : ∃ B k, Waits P main B v k g := by
  obtain ⟨B, k, h⟩ := h
  exact ⟨B, k + 1, .inl ⟨k, default, rfl, h default⟩⟩
theorem ds_mono {S : Loc → Prop} {B B' : Nat} (hB : B ≤ B') (w w' : World) (es : Array Event) (h : DS S B w w' es) : DS S B' w w' es := ⟨h.1, fun e he => evC_mono hB (h.2 e he)⟩
theorem Yonder.step (hr : g.status = .running) (h : ∃ g' B', Yonder P main v g' ∧ ∀ w, v.K w → ∃ es, stepG P main g w = .go g' w es ∧ ∀ e ∈ es, EvC v.S B' e) : Yonder P main v g := by
  obtain ⟨g', B', ⟨B, k, hW⟩, hs⟩ := h
  refine ⟨max B B', k + 1, fun w => Goes.step hr fun w₁ h₁ => ?_⟩
  obtain ⟨es, he, hes⟩ := hs w₁ h₁
  rw [he, goes_go]
  exact ⟨⟨rfl, fun e hm => evC_mono (Nat.le_max_right _ _) (hes e hm)⟩, goes_mono (ds_mono (Nat.le_max_left _ _)) (fun _ _ ⟨g₂, h⟩ => ⟨g₂, atIn_mono (Nat.le_max_left _ _) h⟩) (hW w₁)⟩
theorem Yonder.ctl {g' : Goroutine} (hr : g.status = .running) (hs : ∀ w, stepG P main g w = .go g' w) (h : Yonder P main v g') : Yonder P main v g :=
  .step hr ⟨g', 0, h, fun w _ => ⟨#[], hs w, by simp⟩⟩
variable {b : Frame} {a : Act} {k : List Item} {cs : List Frame} {ops : Array Oper} {i : Nat} {rest : List Nat} {o : Oper}
theorem Yonder.op {x : Value} {B : Nat} (ho : ops[i]? = some o) (hw : Region.wanted o (yielded ops a.tmps) = true) (hk : b.kind ≠ .early)
    (hr : ∀ w, v.K w → ∀ K : Result Next → Prop, K (.ok (.value x) w) → K ((execOp a.eval o).run P w)) (he : ∀ w, v.K w → ∀ e ∈ (execOp a.eval o).events P w #[], EvC v.S B e) (h : Yonder P main v (G (b.at (a.put o.dst x) (.inRegion ops rest :: k)) cs)) :
    Yonder P main v (G (b.at a (.inRegion ops (i :: rest) :: k)) cs) :=
  .step rfl ⟨_, B, h, fun w hK => ⟨_, stepG_value ho hw hk (run_eq_of (hr w hK)), fun e hm => he w hK e (mem_listed hm)⟩⟩
theorem Yonder.opq {x : Value} (ho : ops[i]? = some o) (hw : Region.wanted o (yielded ops a.tmps) = true) (hk : b.kind ≠ .early)
    (hr : ∀ w, v.K w → ∀ K : Result Next → Prop, K (.ok (.value x) w) → K ((execOp a.eval o).run P w)) (he : ∀ w, v.K w → ∀ e ∈ (execOp a.eval o).events P w #[], False) (h : Yonder P main v (G (b.at (a.put o.dst x) (.inRegion ops rest :: k)) cs)) :
    Yonder P main v (G (b.at a (.inRegion ops (i :: rest) :: k)) cs) := Yonder.op (B := 0) ho hw hk hr (fun w hK e he' => (he w hK e he').elim) h
theorem Yonder.oq {x : Value} (h : Yonder P main v (G (b.at (a.put o.dst x) (.inRegion ops rest :: k)) cs)) (ho : ops[i]? = some o := by rfl) (hw : Region.wanted o (yielded ops a.tmps) = true := by rfl) (hk : b.kind ≠ .early := by decide)
    (hr : ∀ w, v.K w → ∀ K : Result Next → Prop, K (.ok (.value x) w) → K ((execOp a.eval o).run P w) := by intro w hw K hK; go_simp; exact hK) (he : ∀ w, v.K w → ∀ e ∈ (execOp a.eval o).events P w #[], False := by intro w hw e he; simp [go_sem, *] at he; done) : Yonder P main v (G (b.at a (.inRegion ops (i :: rest) :: k)) cs) := Yonder.opq ho hw hk hr he h
theorem Yonder.c {k' : List Item} (h : ctlNext a k = some k') (hw : Yonder P main v (G (b.at a k') cs)) : Yonder P main v (G (b.at a k) cs) := Yonder.ctl rfl (fun _ => ctl_next h) hw
theorem Yonder.cR {l : List Nat} {id : Nat} (h : Yonder P main v (G (b.at a (.inRegion ops l :: k)) cs)) (hl : List.range ops.size = l := by (simp only [List.size_toArray, List.length_cons, List.length_nil, Nat.reduceAdd, Nat.zero_add, List.range, List.range.loop]; first | done | rfl)) : Yonder P main v (G (b.at a (.code (.region id ops false) :: k)) cs) := Yonder.ctl rfl (fun _ => stepG_region) (hl ▸ h)
theorem Yonder.cE (h : Yonder P main v (G { b.at a [] with mode := .returning } cs)) : Yonder P main v (G (b.at a []) cs) := Yonder.ctl rfl (fun _ => stepG_end) h
theorem Yonder.cT (h : Yonder P main v (G { b.at a (.code .ret :: k) with mode := .returning } cs)) : Yonder P main v (G (b.at a (.code .ret :: k)) cs) := Yonder.ctl rfl (fun _ => stepG_ret') h
theorem Yonder.ld {x y : Value} (c : Addr) (hc : v.f c = some y) (ho : ops[i]? = some o) (hw : Region.wanted o (yielded ops a.tmps) = true) (hk : b.kind ≠ .early)
    (hr : ∀ w, v.K w → ∀ K : Result Next → Prop, K (.ok (.value x) w) → K ((execOp a.eval o).run P w)) (he : ∀ w, v.K w → ∀ e ∈ (execOp a.eval o).events P w #[], e = ⟨.cell c, false, false⟩) (h : Yonder P main v (G (b.at (a.put o.dst x) (.inRegion ops rest :: k)) cs)) :
    Yonder P main v (G (b.at a (.inRegion ops (i :: rest) :: k)) cs) := Yonder.op (B := c.block + 1) ho hw hk hr (fun w hK e he' => ⟨c, he w hK e he', ⟨c, y, rfl, hc⟩, Nat.lt_succ_self _⟩) h
theorem Yonder.call {f : FuncId} {fn : Func} {c : Code} {args : Array Operand} {ats : Array TypeId} (ho : ops[i]? = some o) (hw : Region.wanted o (yielded ops a.tmps) = true) (hk : b.kind ≠ .early) (hop : o.op = .call { callee := .value (.func f), args, argTypes := ats })
    (hf : P.funcs[f]? = some fn) (hname : (fn.name == "runtime.NumGoroutine") = false) (hb : fn.body = some c)
    (h : Yonder P main v (G ((base f).at { tmps := args.map a.eval ++ Array.replicate (fn.ntmps - (args.map a.eval).size) undef, defers := [] } [.code c]) (b.at a (.inRegion ops (i :: rest) :: k) :: cs))) :
    Yonder P main v (G (b.at a (.inRegion ops (i :: rest) :: k)) cs) := by
  refine .ctl rfl (fun w => ?_) h
  have hb' : fn.body.isNone = false := by rw [hb]; rfl
  rw [stepG_enter ho hw hk (run_call_body hop hf hname hb'), enter_at _ hf hb]
  have : listed P b.fn a o w = #[] := by unfold listed; rw [events_call_body hop hf hname hb']; exact seen_none P _
  rw [this]
theorem Yonder.callE {f : FuncId} {fn : Func} {args : Array Operand} {ats : Array TypeId} (ho : ops[i]? = some o) (hw : Region.wanted o (yielded ops a.tmps) = true) (hk : b.kind ≠ .early) (hop : o.op = .call { callee := .value (.func f), args, argTypes := ats })
    (hf : P.funcs[f]? = some fn) (hname : (fn.name == "runtime.NumGoroutine") = false) (hb : fn.body.isNone = false) (h : Yonder P main v (G (Frame.enter P f (args.map a.eval) .normal) (b.at a (.inRegion ops (i :: rest) :: k) :: cs))) :
    Yonder P main v (G (b.at a (.inRegion ops (i :: rest) :: k)) cs) := by
  refine .ctl rfl (fun w => ?_) h
  rw [stepG_enter ho hw hk (run_call_body hop hf hname hb)]
  have : listed P b.fn a o w = #[] := by unfold listed; rw [events_call_body hop hf hname hb]; exact seen_none P _
  rw [this]
theorem Yonder.there (ho : ops[i]? = some o) (hw : Region.wanted o (yielded ops a.tmps) = true) (hk : b.kind ≠ .early)
    (hr : ∀ w, (execOp a.eval o).run P w = .ok (.comm #[rcase v.ch v.z] true (.recv v.ok)) w) (he : ∀ w, (execOp a.eval o).events P w #[] = #[]) (h : v.home (G (b.at a (.inRegion ops (i :: rest) :: k)) cs)) :
    Yonder P main v (G (b.at a (.inRegion ops (i :: rest) :: k)) cs) :=
  ⟨0, 0, fun _ _ _ => ⟨_, atIn_of (s := v.seat) ho hw hk (fun w => by rw [hr]; rfl) he h⟩⟩
end
end
section
open Go.Conc Go.RowKit
def Apart (V : Nat → Option Wait) (g : Nat) : Prop := (∀ a : Addr, a.block = g → Free V a) ∧ ∀ i u, V i = some u → u.ch ≠ g
section
variable {P : Program} {main : Bool} {V : Nat → Option Wait} {Stop : Goroutine → World → Prop} {w : World} {b : Frame} {a : Act} {k : List Item} {cs : List Frame} {ops : Array Oper} {i : Nat} {rest : List Nat} {o : Oper}
theorem evR_isRead {e : Event} (h : e.isRead) : EvR V e := by
  obtain ⟨ad, hl, hw⟩ := h
  obtain ⟨l, wr, s⟩ := e
  simp only at hl hw
  subst hl; subst hw
  exact evR_read ad s
theorem evR_cell {e : Event} {ad : Addr} (h : e.loc = .cell ad) (hf : Free V ad) : EvR V e := by
  obtain ⟨l, wr, s⟩ := e
  simp only at h
  subst h
  cases wr with
  | true => exact evR_write ad s hf
  | false => exact evR_read ad s
theorem evR_noRoom : EvR V ⟨.mark .noRoom, false, true⟩ := ⟨fun x hx => (by simp [MemAct.ofEvent, MemAct.touch?] at hx), by simp, by simp⟩
theorem DR.grown {w w' : World} {es : Array Event} {row : Option Nat} (hg : w.grownBy w' row) (hr : ∀ g, row = some g → Apart V g) (he : ∀ e ∈ es, EvR V e) : DR V w w' es := by
  refine ⟨fun i v e hK ad z hz => ?_, fun i v o e ho _ => ?_, he, ⟨hg.os, hg.output⟩⟩
  · have hc := hK ad z hz
    have hlt := cell_lt w hc
    rw [World.cell?_of_block (hg.block _ hlt fun e' => ?_)]
    · exact hc
    · rw [(hr _ e'.symm).1 ad rfl i v e] at hz; cases hz
  · rw [hg.block _ (Array.getElem?_eq_some_iff.1 ho).1 fun e' => (hr _ e'.symm).2 i v e rfl]
    exact ho
theorem Walk.append (s x : Operand) (t : TypeId) (ho : ops[i]? = some o) (hw : Region.wanted o (yielded ops a.tmps) = true) (hk : b.kind ≠ .early) (hop : o.op = .call { callee := .builtin .append, args := #[s, x], argTypes := #[t, t] })
    (base : Nat) (e : TypeId) (ti : TypeInfo) (z : Value) (size bytes : Nat) (ht : P.underlying t = some (.slice e)) (hi : P.info? e = some ti) (hz : ti.zero = some z) (hsize : ti.size = size) (hby : ti.bytes = bytes) (hzs : z.cells.size = size) (hsz : 0 < size)
    (v : Value) (n : Nat) (xs : List Value) (hs : a.eval s = v) (hown : w.ownsRow base e size v n xs)
    (ad : Addr) (m c : Nat) (news : List Value) (hx : a.eval x = .slice (some ad) m c) (hl : news.length = m * size) (hnews : ∀ j u, news[j]? = some u → w.cell? (ad.add j) = some u) (h1 : ∀ u ∈ news, u.oneCell' = true)
    (hm : 0 < m) (h63 : n + m ≤ maxLen) (hbytes : (n + m) * bytes ≤ 140737488355328) (hbase : base ≤ w.heap.size) (hap : ∀ g, v.ownBlock = some g → Apart V g)
    (h : ∀ g cap w', w'.ownsRow base e size (.slice (some ⟨g, 0, none⟩) (n + m) cap) (n + m) (xs ++ news) → w.grownBy w' v.ownBlock → (v.ownBlock = some g ∨ g = w.heap.size) → g < w'.heap.size →
      Walk P main (DR V) Stop (G (b.at (a.put o.dst (.slice (some ⟨g, 0, none⟩) (n + m) cap)) (.inRegion ops rest :: k)) cs) w') :
    Walk P main (DR V) Stop (G (b.at a (.inRegion ops (i :: rest) :: k)) cs) w := by
  refine Walk.go rfl fun d => goes_oper_k ho hw hk fun K hK => ?_
  obtain ⟨g, cap, w', hr, hown', hg, hat, hlt⟩ := run_append_lies (P := P) (w := w.at d) t o.type base e ti z size bytes ht hi hz hsize hby hzs hsz v n xs hown ad m c news hl hnews h1 hm h63 hbytes hbase w.heap.size rfl
  refine uponK_append s x t hop hs hx hr (hK _ _ ⟨DR.grown hg hap fun ev hev => ?_, h g cap w' hown' ⟨hg.os, hg.tape, hg.output, hg.size, hg.block⟩ hat hlt⟩)
  have hm' := mem_listed hev
  rw [events_append_op s x t hop hs hx] at hm'
  rcases events_append_own (w.at d) base t o.type e ti z size bytes ht hi hz hsize hby v n xs hown ad m c news hl hnews h1 h63 hbytes ev hm' with h' | ⟨ad', h', hb⟩ | ⟨mk, h', hn⟩
  · exact evR_isRead h'
  · exact evR_cell h' ((hap _ hb.symm).1 ad' rfl)
  · rw [h', show mk = .noRoom from hn]; exact evR_noRoom
end
end
section
open Go.Conc Go.RowKit
section
variable {P : Program} {main : Bool} {V : Nat → Option Wait} {Stop : Goroutine → World → Prop} {w : World} {b : Frame} {a : Act} {k : List Item} {cs : List Frame} {ops : Array Oper} {i : Nat} {rest : List Nat} {o : Oper}
theorem Walk.make (t : TypeId) (l c : Operand) (ho : ops[i]? = some o) (hw : Region.wanted o (yielded ops a.tmps) = true) (hk : b.kind ≠ .early) (hop : o.op = .makeSlice t l c)
    (e : TypeId) (ti : TypeInfo) (z : Value) (size bytes : Nat) (ht : P.underlying t = some (.slice e)) (hi : P.info? e = some ti) (hz : ti.zero = some z) (hsize : ti.size = size) (hby : ti.bytes = bytes)
    (n : Nat) (hl : a.eval l = .int .i64 n) (hc : a.eval c = .int .i64 n) (hbytes : n * bytes ≤ 140737488355328) (h63 : n ≤ 17592186044416)
    (h : Walk P main (DR V) Stop (G (b.at (a.put o.dst (.slice (some ⟨w.heap.size, 0, none⟩) n n)) (.inRegion ops rest :: k)) cs) (w.alloc (.cells (madeCells z.cells (n * size)) e))) :
    Walk P main (DR V) Stop (G (b.at a (.inRegion ops (i :: rest) :: k)) cs) w := by
  subst hsize
  subst hby
  have hb' : (ti.bytes : Int) * (n : Int) ≤ 281474976710656 := by
    have h : ((ti.bytes * n : Nat) : Int) ≤ 281474976710656 := by rw [Nat.mul_comm]; omega
    rwa [Int.natCast_mul] at h
  refine Walk.go rfl fun d => goes_oper_k ho hw hk fun K hK => ?_
  have hr := run_make (P := P) (w.at d) t e ti z ht hi hz .i64 .i64 n n (by omega) (Int.le_refl _) hb' (by omega)
  have he := events_make (P := P) (w.at d) t e ti z ht hi hz .i64 .i64 n n (by omega) (Int.le_refl _) hb' (by omega) (by simpa using hbytes) #[]
  simp only [Int.toNat_natCast] at hr
  have hx : (execOp a.eval o).run P (w.at d) = .ok (.value (.slice (some ⟨w.heap.size, 0, none⟩) n n)) ((w.alloc (.cells (madeCells z.cells (n * ti.size)) e)).at d) := by
    simp only [execOp, hop, hl, hc, Sem.run_bind, hr]
    rfl
  have hv : (execOp a.eval o).events P (w.at d) #[] = #[] := by
    simp only [execOp, hop, hl, hc, Sem.events_bind, hr, he]
    rfl
  rw [hx]
  refine hK _ _ ⟨DR.alloc' d _ fun ev hm => ?_, h.back d⟩
  have hm' := mem_listed hm
  rw [hv] at hm'
  exact absurd hm' (by simp)
theorem Walk.chan (t : TypeId) (n : Operand) (ho : ops[i]? = some o) (hw : Region.wanted o (yielded ops a.tmps) = true) (hk : b.kind ≠ .early) (hop : o.op = .makeChan t n)
    (dir : ChanDir) (e : TypeId) (ti : TypeInfo) (ht : P.underlying t = some (.chan dir e)) (hi : P.info? e = some ti) (hn : a.eval n = .int .i64 0)
    (h : Walk P main (DR V) Stop (G (b.at (a.put o.dst (.chan (some w.heap.size))) (.inRegion ops rest :: k)) cs) (w.alloc (.chan 0 #[] false 0 0 false))) :
    Walk P main (DR V) Stop (G (b.at a (.inRegion ops (i :: rest) :: k)) cs) w := by
  refine Walk.go rfl fun d => goes_oper_k ho hw hk fun K hK => ?_
  have hr := run_makeChan (P := P) (w := w.at d) ht hi .i64 0 (by decide) (by simp)
  have he := events_makeChan (P := P) (w := w.at d) ht hi .i64 0 (by decide) (by simp) #[]
  simp only [Int.ofNat_zero, Int.natCast_zero, Int.cast_ofNat_Int] at hr he
  have hx : (execOp a.eval o).run P (w.at d) = .ok (.value (.chan (some w.heap.size))) ((w.alloc (.chan 0 #[] false 0 0 false)).at d) := by
    simp only [execOp, hop, hn, Sem.run_bind, hr]
    rfl
  have hv : (execOp a.eval o).events P (w.at d) #[] = #[] := by
    simp only [execOp, hop, hn, Sem.events_bind, hr, he]
    rfl
  rw [hx]
  refine hK _ _ ⟨DR.alloc' d _ fun ev hm => ?_, h.back d⟩
  have hm' := mem_listed hm
  rw [hv] at hm'
  exact absurd hm' (by simp)
theorem Walk.callE {f : FuncId} {fn : Func} {args : Array Operand} {ats : Array TypeId} (ho : ops[i]? = some o) (hw : Region.wanted o (yielded ops a.tmps) = true) (hk : b.kind ≠ .early) (hop : o.op = .call { callee := .value (.func f), args, argTypes := ats })
    (hf : P.funcs[f]? = some fn) (hname : (fn.name == "runtime.NumGoroutine") = false) (hb : fn.body.isNone = false)
    (h : Walk P main (DR V) Stop (G (Frame.enter P f (args.map a.eval) .normal) (b.at a (.inRegion ops (i :: rest) :: k) :: cs)) w) :
    Walk P main (DR V) Stop (G (b.at a (.inRegion ops (i :: rest) :: k)) cs) w := by
  refine Walk.ctl rfl (fun w => ?_) h
  rw [stepG_enter ho hw hk (run_call_body hop hf hname hb)]
  have : listed P b.fn a o w = #[] := by unfold listed; rw [events_call_body hop hf hname hb]; exact seen_none P _
  rw [this]
theorem Walk.drawn {id : Nat} (hm : P.follows .mixedOrders = true) (hk : b.kind ≠ .early) {Q : Act → World → Prop}
    (h : ∀ d, AnyCH P AtRel (DR V) b.fn .any ops (fun e a' w' => e = .normal ∧ Q a' w') (fun _ => True) ops.size (Array.replicate ops.size false) a (w.at d))
    (hc : ∀ a' w', Q a' w' → Walk P main (DR V) Stop (G (b.at a' k) cs) w') : Walk P main (DR V) Stop (G (b.at a (.code (.region id ops true) :: k)) cs) w :=
  Walk.code (n := ops.size + 1 + 1) (Q := Q) (wpC_region_held termsR drawsR hm fun _ hr => by obtain ⟨d, rfl⟩ := hr; exact h (d + 1)) hk hc
theorem opC_new {W : World} {x : Value} {fn : FuncId} {d0 : Nat} {K : Act → World → Prop} (ho : ops[i]? = some o) (hw : Region.wanted o (yielded ops a.tmps) = true) (hr : ∀ d, (execOp a.eval o).run P (w.at d) = .ok (.value x) (W.at d)) (hd : ∀ d, DR V (w.at d) (W.at d) (listed P fn a o (w.at d)))
    (h : ∀ d, K (a.put o.dst x) (W.at d)) : OpC P AtRel (DR V) fn ops i K a (w.at d0) := by
  unfold OpC
  simp only [ho, hw, if_true]
  rintro _ ⟨d, rfl⟩
  have := hr d
  show uponK o a _ ((execOp a.eval o).run P (w.at d))
  rw [this]
  exact ⟨hd d, h d⟩
end
end
end Go.Relay
