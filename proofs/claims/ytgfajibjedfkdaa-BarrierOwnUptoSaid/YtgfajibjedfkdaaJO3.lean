/- Part 3. -/
import Derived.Test.YtgfajibjedfkdaaJO1
import Derived.Test.YtgfajibjedfkdaaJO2
import Derived.Lib.MinMax
import Derived.Conc.DeferLaws
import Derived.Test.YtgfajibjedfkdaaProg
import Derived.Laws.Build
import Derived.KernelRfl
import Derived.Handy
set_option linter.unusedSimpArgs false
set_option linter.unusedVariables false
set_option maxHeartbeats 8000000
set_option maxRecDepth 100000
namespace Go.Relay
section
open Go.Conc Go.RowKit
section
variable {P : Program} (w : World)
theorem events_max_ints (ts : Array TypeId) (t : TypeId) (k k' : IntKind) (x y : Int) (es : Array Event) : (Builtin.max_ ts t #[.int k x, .int k' y]).events P w es = es := by
  simp [Builtin.max_, Builtin.max2]
theorem events_min_ints (ts : Array TypeId) (t : TypeId) (k k' : IntKind) (x y : Int) (es : Array Event) : (Builtin.min_ ts t #[.int k x, .int k' y]).events P w es = es := by
  simp [Builtin.min_, Builtin.min2]
theorem ev_store_bool (P : Program) (es : Array Event) (a : Addr) (x : Bool) (m : Mode) : (store a (.bool x) m).events P w es = storedEv P w es a (.bool x) m := events_store P w es a _ m rfl
theorem ev_store_int (P : Program) (es : Array Event) (a : Addr) (k : IntKind) (x : Int) (m : Mode) : (store a (.int k x) m).events P w es = storedEv P w es a (.int k x) m := events_store P w es a _ m rfl
theorem ev_store_slice (P : Program) (es : Array Event) (a : Addr) (b : Option Addr) (n c : Nat) (m : Mode) : (store a (.slice b n c) m).events P w es = storedEv P w es a (.slice b n c) m := events_store P w es a _ m rfl
theorem ev_store_pointer (P : Program) (es : Array Event) (a : Addr) (b : Option Addr) (m : Mode) : (store a (.pointer b) m).events P w es = storedEv P w es a (.pointer b) m := events_store P w es a _ m rfl
theorem cell_lt {a : Addr} {v : Value} (h : w.cell? a = some v) : a.block < w.heap.size := by
  unfold World.cell? at h
  split at h
  · rename_i h'; exact (Array.getElem?_eq_some_iff.1 h').1
  · cases h
theorem cell_alloc {a : Addr} {v : Value} (o : Obj) (h : w.cell? a = some v) : (w.alloc o).cell? a = some v := (World.cell?_alloc_lt _ _ _ (cell_lt w h)).trans h
theorem frozen_alloc {a : Addr} {v : Value} {x : Bool} (o : Obj) (h : w.cell? a = some v) (hz : w.frozen? a = x) : (w.alloc o).frozen? a = x := by
  have hlt := cell_lt w h
  rw [← hz]
  unfold World.frozen?
  rw [Below.heap_alloc _ _ _ hlt]
end
end
section
open Go.Conc Go.RowKit
section
variable {P : Program} {main : Bool} {V : Nat → Option Wait} {Stop : Goroutine → World → Prop} {w : World} {b fr c : Frame} {a : Act} {k : List Item} {cs : List Frame} {ops : Array Oper} {i : Nat} {rest : List Nat} {o : Oper}
theorem stepG_callValue {f : FuncId} {fn : Func} {x : Operand} {args : Array Operand} {ats : Array TypeId} {first cap : Array Value} (ho : ops[i]? = some o) (hw : Region.wanted o (yielded ops a.tmps) = true) (hk : b.kind ≠ .early)
    (hop : o.op = .call { callee := .value x, args, argTypes := ats }) (hx : a.eval x = .func (.func f) first cap) (hf : P.funcs[f]? = some fn) (hname : (fn.name == "runtime.NumGoroutine") = false) (hb : fn.body.isNone = false) :
    stepG P main (G (b.at a (.inRegion ops (i :: rest) :: k)) cs) w = .go (G (Frame.enter P f (first ++ args.map a.eval ++ cap) .normal) (b.at a (.inRegion ops (i :: rest) :: k) :: cs)) w := by
  have h1 : ¬ fn.name = "runtime.NumGoroutine" := by simpa using hname
  have h2 : ¬ fn.body = none := by cases hx : fn.body <;> simp_all
  have hr : (execOp a.eval o).run P w = .ok (.enter f (first ++ args.map a.eval ++ cap)) w := by
    unfold execOp
    simp [hop, resolve, Deferred.ofValue, invoke, callFunc, hf, h1, h2, hx]
  have he : (execOp a.eval o).events P w #[] = #[] := by
    unfold execOp
    simp [hop, resolve, Deferred.ofValue, invoke, callFunc, hf, h1, h2, hx]
  rw [stepG_enter ho hw hk hr]
  have : listed P b.fn a o w = #[] := by unfold listed; rw [he]; exact seen_none P _
  rw [this]
theorem Walk.evs {g g' : Goroutine} (E : Nat → Array Event) (hr : g.status = .running) (hs : ∀ d, stepG P main g (w.at d) = .go g' (w.at d) (E d)) (he : ∀ d, ∀ e ∈ E d, EvR V e) (h : Walk P main (DR V) Stop g' w) : Walk P main (DR V) Stop g w :=
  .step hr (fun _ => g') (fun d => w.at d) E hs (fun d => DR.quiet (he d)) fun d => h.back d
theorem run_eqIn_iface (d : Nat) (t : TypeId) (s : TypeId) (x : Value) {ms} (hu : P.underlying t = some (.interface ms)) : (Op.equalIn (d + 1) t (.iface s x) .nilIface).run P w = .ok false w := by simp [Op.equalIn, run_underlying hu]
theorem ev_eqIn_iface (d : Nat) (t : TypeId) (s : TypeId) (x : Value) (es : Array Event) {ms} (hu : P.underlying t = some (.interface ms)) : (Op.equalIn (d + 1) t (.iface s x) .nilIface).events P w es = es := by simp [Op.equalIn, run_underlying hu]
theorem run_neq_iface (t : TypeId) (s : TypeId) (x : Value) {ms} (hu : P.underlying t = some (.interface ms)) : (binOp .neq t (.iface s x) .nilIface).run P w = .ok (.bool true) w := by
  simp only [binOp]
  simp [Op.equal, Op.maxDepth, run_eqIn_iface (w := w) 9999 t s x hu]
theorem ev_neq_iface (t : TypeId) (s : TypeId) (x : Value) (es : Array Event) {ms} (hu : P.underlying t = some (.interface ms)) : (binOp .neq t (.iface s x) .nilIface).events P w es = es := by
  simp only [binOp]
  simp [Op.equal, Op.maxDepth, run_eqIn_iface (w := w) 9999 t s x hu, ev_eqIn_iface (w := w) 9999 t s x es hu]
theorem run_eqIn_nilIface (d : Nat) (t : TypeId)  {ms} (hu : P.underlying t = some (.interface ms)) : (Op.equalIn (d + 1) t .nilIface .nilIface).run P w = .ok true w := by simp [Op.equalIn, run_underlying hu]
theorem ev_eqIn_nilIface (d : Nat) (t : TypeId)  (es : Array Event) {ms} (hu : P.underlying t = some (.interface ms)) : (Op.equalIn (d + 1) t .nilIface .nilIface).events P w es = es := by simp [Op.equalIn, run_underlying hu]
theorem run_neq_nilIface (t : TypeId)  {ms} (hu : P.underlying t = some (.interface ms)) : (binOp .neq t .nilIface .nilIface).run P w = .ok (.bool false) w := by
  simp only [binOp]
  simp [Op.equal, Op.maxDepth, run_eqIn_nilIface (w := w) 9999 t  hu]
theorem ev_neq_nilIface (t : TypeId)  (es : Array Event) {ms} (hu : P.underlying t = some (.interface ms)) : (binOp .neq t .nilIface .nilIface).events P w es = es := by
  simp only [binOp]
  simp [Op.equal, Op.maxDepth, run_eqIn_nilIface (w := w) 9999 t  hu, ev_eqIn_nilIface (w := w) 9999 t  es hu]
end
end
end Go.Relay
namespace Go.Proofs.Ytgfajibjedfkdaa
open Go.Conc Go.RowKit Go.Relay
open Go.ConcN (upd upd_ne upd_same)
section
variable {main : Bool} {V : Nat → Option Wait}
def def60 (N : Nat) : Deferred := { target := .fn (.func 152) #[.pointer (some ⟨N, 0, none⟩)], args := #[] }
noncomputable def todo60 : Option (Array Oper × Code) := match Try.f148.body with | some (.seq _ (.seq _ (.seq (.seq _ (.cond _ (.region _ ops _) _)) c))) => some (ops, c) | _ => none
noncomputable def ops60 : Array Oper := (todo60.getD (#[], .skip)).1
noncomputable def rest60 : Code := (todo60.getD (#[], .skip)).2
noncomputable def fr60 (N : Nat) (F S : Value) : Frame :=
  (base 148).at { tmps := #[F, S, undef, undef, .bool false, .pointer (some ⟨N, 0, none⟩), .func (.func 152) #[] #[.pointer (some ⟨N, 0, none⟩)], F, .bool true, F, S, undef], defers := [def60 N] } [.inRegion ops60 [2], .code rest60]
end
section
variable {main : Bool} {V : Nat → Option Wait}
noncomputable def bornfr : Frame := { (default : Frame) with fn := Try.prog.funcs.size, defers := [], mode := .panicking [goexitEntry] }
noncomputable def def78 (r : Nat) : Deferred := { target := .builtin .close #[234] 0 #[false], args := #[.chan (some r)] }
noncomputable def ops78 : Array Oper := match Try.f137.body with | some (.seq _ (.region _ ops _)) => ops | _ => #[]
noncomputable def fr78 (p r : Nat) (F : Value) : Frame :=
  (baseD 137).at { tmps := #[.pointer (some ⟨p, 0, none⟩), F, undef, undef, .pointer (some ⟨p, 0, none⟩), .pointer (some ⟨p, 0, none⟩), .pointer (some ⟨p, 1, none⟩), .chan (some r), undef, .pointer (some ⟨p, 0, none⟩), F, .pointer (some ⟨p, 0, none⟩), .iface 230 (.pointer (some ⟨p, 0, none⟩)), undef, undef, undef, undef, undef], defers := [def78 r] } [.inRegion ops78 [4, 5, 6, 7, 8, 9, 10]]
theorem und161 : Try.prog.underlying 230 = some (.pointer 236) := by kernel_rfl
end
section
variable {main : Bool} {V : Nat → Option Wait}
section
variable {P : Program}
theorem eqIn_ptr (d : Nat) (t : TypeId) (q : Option Addr) (w : World) (es : Array Event) {e} (hu : P.underlying t = some (.pointer e)) : (Op.equalIn (d + 1) t (.pointer q) (.pointer none)).run P w = .ok q.isNone w ∧ (Op.equalIn (d + 1) t (.pointer q) (.pointer none)).events P w es = es := by
  cases q <;> simp [Op.equalIn, run_underlying hu]
theorem run_eql_ptr (t : TypeId) {e} (hu : P.underlying t = some (.pointer e)) (q : Option Addr) (w : World) : (binOp .eql t (.pointer q) (.pointer none)).run P w = .ok (.bool q.isNone) w := by
  simp only [binOp]
  simp [Op.equal, Op.maxDepth, (eqIn_ptr 9999 t q w #[] hu).1]
theorem ev_eql_ptr (t : TypeId) {e} (hu : P.underlying t = some (.pointer e)) (q : Option Addr) (w : World) (es : Array Event) : (binOp .eql t (.pointer q) (.pointer none)).events P w es = es := by
  simp only [binOp]
  simp [Op.equal, Op.maxDepth, (eqIn_ptr 9999 t q w #[] hu).1, (eqIn_ptr 9999 t q w es hu).2]
end
end
section
noncomputable def rowM (T : TypeId) (nm : String) (F : FuncId) : Bool := match Try.prog.info? T with
  | some ti => (match ti.methods.find? (·.name == nm) with
    | some m => m.path.isEmpty && (m.func == some (F, true))
    | none => false)
  | none => false
theorem rowM_is {T : TypeId} {nm : String} {F : FuncId} (h : rowM T nm F = true) : ∃ ti m, Try.prog.info? T = some ti ∧ ti.methods.find? (·.name == nm) = some m ∧ m.path = #[] ∧ m.func = some (F, true) := by
  unfold rowM at h
  revert h
  cases h1 : Try.prog.info? T with
  | none => simp
  | some ti =>
    simp only []
    cases h2 : ti.methods.find? (·.name == nm) with
    | none => simp
    | some m =>
      simp only [Bool.and_eq_true, Array.isEmpty_iff, beq_iff_eq]
      exact fun h => ⟨ti, m, rfl, h2, h.1, h.2⟩
theorem method_of {T T' : TypeId} {nm : String} {F : FuncId} (hu : Try.prog.underlying T = some (.pointer T')) (hrow : rowM T nm F = true) (p q : Nat) (w : World) (es : Array Event) : (method (Try.prog.types.size + Made.depth) T (.pointer (some ⟨p, q, none⟩)) nm).run Try.prog w = .ok (F, .pointer (some ⟨p, q, none⟩)) w ∧ (method (Try.prog.types.size + Made.depth) T (.pointer (some ⟨p, q, none⟩)) nm).events Try.prog w es = es := by
  obtain ⟨ti, m, h1, h2, h3, h4⟩ := rowM_is hrow
  obtain ⟨k, hk⟩ : ∃ k, Try.prog.types.size + Made.depth = k + 1 := ⟨Try.prog.types.size + (Made.depth - 1), by (have : 1 ≤ Made.depth := by decide); omega⟩
  rw [hk]
  unfold method
  refine ⟨?_, ?_⟩
  · simp [typeInfo, h1, h2, h3, h4, follow, receiverAt, run_underlying hu, Place.get]
  · simp [typeInfo, h1, h2, h3, h4, follow, receiverAt, run_underlying hu, Place.get]
section
variable {main : Bool} {V : Nat → Option Wait} {Stop : Goroutine → World → Prop} {w : World} {b : Frame} {a : Act} {k : List Item} {cs : List Frame} {ops : Array Oper} {i : Nat} {rest : List Nat} {o : Oper}
theorem stepG_invokeM {x : Operand} {nm : String} {ats : Array TypeId} {T T' : TypeId} {F : FuncId} {fn : Func} (hu : Try.prog.underlying T = some (.pointer T')) (hrow : rowM T nm F = true) (p q : Nat) (ho : ops[i]? = some o) (hw : Region.wanted o (yielded ops a.tmps) = true) (hk : b.kind ≠ .early) (hop : o.op = .call { callee := .invoke x nm, args := #[], argTypes := ats }) (hx : a.eval x = .iface T (.pointer (some ⟨p, q, none⟩)))
    (hf : Try.prog.funcs[F]? = some fn) (hname : (fn.name == "runtime.NumGoroutine") = false) (hb : fn.body.isNone = false) :
    stepG Try.prog main (G (b.at a (.inRegion ops (i :: rest) :: k)) cs) w = .go (G (Frame.enter Try.prog F #[.pointer (some ⟨p, q, none⟩)] .normal) (b.at a (.inRegion ops (i :: rest) :: k) :: cs)) w := by
  have h1 : ¬ fn.name = "runtime.NumGoroutine" := by simpa using hname
  have h2 : ¬ fn.body = none := fun e => by rw [e] at hb; cases hb
  have hm := method_of hu hrow p q w #[]
  rw [show Try.prog.types.size = 269 from by kernel_rfl] at hm
  have hr : (execOp a.eval o).run Try.prog w = .ok (.enter F #[.pointer (some ⟨p, q, none⟩)]) w := by
    unfold execOp
    simp [hop, resolve, invoke, callMethod, callFunc, hm.1, hf, h1, h2, hx]
  have he : (execOp a.eval o).events Try.prog w #[] = #[] := by
    unfold execOp
    simp [hop, resolve, invoke, callMethod, callFunc, hm.1, hm.2, hf, h1, h2, hx]
  rw [stepG_enter ho hw hk hr]
  have : listed Try.prog b.fn a o w = #[] := by unfold listed; rw [he]; exact seen_none Try.prog _
  rw [this]
theorem Walk.invokeM {x : Operand} {nm : String} {ats : Array TypeId} {T T' : TypeId} {F : FuncId} {fn : Func} (hu : Try.prog.underlying T = some (.pointer T')) (hrow : rowM T nm F = true) (p q : Nat) {Post : Value → World → Prop} (hc : CallW Try.prog main V F #[.pointer (some ⟨p, q, none⟩)] w Post) (ho : ops[i]? = some o) (hw : Region.wanted o (yielded ops a.tmps) = true) (hk : b.kind ≠ .early) (hop : o.op = .call { callee := .invoke x nm, args := #[], argTypes := ats }) (hx : a.eval x = .iface T (.pointer (some ⟨p, q, none⟩)))
    (hf : Try.prog.funcs[F]? = some fn) (hname : (fn.name == "runtime.NumGoroutine") = false) (hb : fn.body.isNone = false)
    (h : ∀ v w', Post v w' → Walk Try.prog main (DR V) Stop (G (b.at (a.put o.dst v) (.inRegion ops rest :: k)) cs) w') : Walk Try.prog main (DR V) Stop (G (b.at a (.inRegion ops (i :: rest) :: k)) cs) w := by
  refine Walk.ctl rfl (fun _ => stepG_invokeM hu hrow p q ho hw hk hop hx hf hname hb) ((hc _ cs).then ?_)
  rintro _ w' ⟨v, hv, rfl⟩
  rw [Frame.finish_at, ho]
  exact h v w' hv
theorem stepG_invokeM1 {x : Operand} {nm : String} {y : Operand} {ats : Array TypeId} {T T' : TypeId} {F : FuncId} {fn : Func} (hu : Try.prog.underlying T = some (.pointer T')) (hrow : rowM T nm F = true) (p q : Nat) (ho : ops[i]? = some o) (hw : Region.wanted o (yielded ops a.tmps) = true) (hk : b.kind ≠ .early) (hop : o.op = .call { callee := .invoke x nm, args := #[y], argTypes := ats }) (hx : a.eval x = .iface T (.pointer (some ⟨p, q, none⟩)))
    (hf : Try.prog.funcs[F]? = some fn) (hname : (fn.name == "runtime.NumGoroutine") = false) (hb : fn.body.isNone = false) :
    stepG Try.prog main (G (b.at a (.inRegion ops (i :: rest) :: k)) cs) w = .go (G (Frame.enter Try.prog F #[.pointer (some ⟨p, q, none⟩), a.eval y] .normal) (b.at a (.inRegion ops (i :: rest) :: k) :: cs)) w := by
  have h1 : ¬ fn.name = "runtime.NumGoroutine" := by simpa using hname
  have h2 : ¬ fn.body = none := fun e => by rw [e] at hb; cases hb
  have hm := method_of hu hrow p q w #[]
  rw [show Try.prog.types.size = 269 from by kernel_rfl] at hm
  have hr : (execOp a.eval o).run Try.prog w = .ok (.enter F #[.pointer (some ⟨p, q, none⟩), a.eval y]) w := by
    unfold execOp
    simp [hop, resolve, invoke, callMethod, callFunc, hm.1, hf, h1, h2, hx]
  have he : (execOp a.eval o).events Try.prog w #[] = #[] := by
    unfold execOp
    simp [hop, resolve, invoke, callMethod, callFunc, hm.1, hm.2, hf, h1, h2, hx]
  rw [stepG_enter ho hw hk hr]
  have : listed Try.prog b.fn a o w = #[] := by unfold listed; rw [he]; exact seen_none Try.prog _
  rw [this]
theorem Walk.invokeM1 {x : Operand} {nm : String} {y : Operand} {ats : Array TypeId} {T T' : TypeId} {F : FuncId} {fn : Func} (hu : Try.prog.underlying T = some (.pointer T')) (hrow : rowM T nm F = true) (p q : Nat) {Post : Value → World → Prop} (hc : CallW Try.prog main V F #[.pointer (some ⟨p, q, none⟩), a.eval y] w Post) (ho : ops[i]? = some o) (hw : Region.wanted o (yielded ops a.tmps) = true) (hk : b.kind ≠ .early) (hop : o.op = .call { callee := .invoke x nm, args := #[y], argTypes := ats }) (hx : a.eval x = .iface T (.pointer (some ⟨p, q, none⟩)))
    (hf : Try.prog.funcs[F]? = some fn) (hname : (fn.name == "runtime.NumGoroutine") = false) (hb : fn.body.isNone = false)
    (h : ∀ v w', Post v w' → Walk Try.prog main (DR V) Stop (G (b.at (a.put o.dst v) (.inRegion ops rest :: k)) cs) w') : Walk Try.prog main (DR V) Stop (G (b.at a (.inRegion ops (i :: rest) :: k)) cs) w := by
  refine Walk.ctl rfl (fun _ => stepG_invokeM1 hu hrow p q ho hw hk hop hx hf hname hb) ((hc _ cs).then ?_)
  rintro _ w' ⟨v, hv, rfl⟩
  rw [Frame.finish_at, ho]
  exact h v w' hv
end
end
structure Rs where
  n : Nat
  ld : Nat → Nat
  al : Bool
def rvl (l : List Int) (a : Nat) : Int := if l = [] then 0 else l.getD (min (a + 1) l.length - 1) 0
def Rs.tick (s : Rs) (dl : Nat) : Rs := ⟨s.n + dl, s.ld, s.al⟩
def Rs.load (s : Rs) (dl i : Nat) : Rs := ⟨s.n + dl, upd s.ld i (s.ld i + 1), s.al⟩
def Rs.lim (s : Rs) (dl : Nat) : Nat → Rs
  | 0 => s
  | i + 1 => (s.lim dl i).load dl i
def limV (ls : Nat → List Int) (s : Rs) (dl : Nat) : Nat → Int
  | 0 => 9223372036854775807
  | i + 1 => min (limV ls s dl i) (rvl (ls i) ((s.lim dl i).ld i))
def togR (ls : Nat → List Int) (k dl : Nat) (q : Int) (on : Nat) : Nat → Nat → Rs → Rs × Int × Int
  | 0, _, s => (s, 0, 4)
  | r + 1, t, s =>
    if t % on = 0 ∧ s.al = true then (s.tick dl, 0, 5) else
    if q ≤ limV ls (if t % on = 0 then s.tick dl else s) dl k then ((if t % on = 0 then s.tick dl else s).lim dl k, limV ls (if t % on = 0 then s.tick dl else s) dl k, 0)
    else togR ls k dl q on r (t + 1) ((if t % on = 0 then s.tick dl else s).lim dl k)
def oneR (ls : Nat → List Int) (k dl : Nat) (q : Int) : Nat → Nat → Int → Rs → Rs × Int × Int
  | 0, _, _, s => (s, 0, 4)
  | r + 1, j, m, s =>
    if s.al = true then (s.tick dl, 0, 5) else
    if rvl (ls j) ((s.tick dl).ld j) < q then oneR ls k dl q r j m ((s.tick dl).load dl j) else
    if j + 1 = k then ((s.tick dl).load dl j, min m (rvl (ls j) ((s.tick dl).ld j)), 0)
    else oneR ls k dl q r (j + 1) (min m (rvl (ls j) ((s.tick dl).ld j))) ((s.tick dl).load dl j)
def triesN (t : Int) : Nat := (min (max t 1) 1024).toNat
def waitR (ls : Nat → List Int) (k dl : Nat) (q tries way : Int) (s : Rs) : Rs × Int × Int :=
  if way < 1 ∨ 3 < way then (s, 0, 2) else if k = 0 then (s, 0, 6) else
  if way = 2 then oneR ls k dl q (triesN tries) 0 9223372036854775807 s else togR ls k dl q (if way = 3 then 8 else 1) (triesN tries) 0 s
theorem lim_ld (s : Rs) (dl : Nat) : ∀ (i j : Nat), (s.lim dl i).ld j = if j < i then s.ld j + 1 else s.ld j
  | 0, j => by simp [Rs.lim]
  | i + 1, j => by
    show upd (s.lim dl i).ld i ((s.lim dl i).ld i + 1) j = _
    by_cases e : j = i
    · subst e
      rw [upd_same, lim_ld s dl j j, if_neg (by omega), if_pos (by omega)]
    · rw [upd_ne _ _ e, lim_ld s dl i j]
      by_cases h : j < i
      · rw [if_pos h, if_pos (by omega)]
      · rw [if_neg h, if_neg (by omega)]
theorem lim_n (s : Rs) (dl : Nat) : ∀ i, (s.lim dl i).n = s.n + dl * i
  | 0 => by simp [Rs.lim]
  | i + 1 => by
    show (s.lim dl i).n + dl = _
    rw [lim_n s dl i, Nat.mul_add]
    omega
theorem lim_al (s : Rs) (dl : Nat) : ∀ i, (s.lim dl i).al = s.al
  | 0 => rfl
  | i + 1 => lim_al s dl i
def sumL (s : Rs) : Nat → Nat
  | 0 => 0
  | k + 1 => sumL s k + s.ld k
theorem sumL_load (s : Rs) (dl j : Nat) : ∀ k, sumL (s.load dl j) k = sumL s k + if j < k then 1 else 0
  | 0 => by simp [sumL]
  | k + 1 => by
    show sumL (s.load dl j) k + upd s.ld j (s.ld j + 1) k = sumL s k + s.ld k + _
    rw [sumL_load s dl j k]
    by_cases e : k = j
    · subst e
      rw [upd_same, if_neg (Nat.lt_irrefl _), if_pos (Nat.lt_succ_self _)]
      omega
    · rw [upd_ne _ _ e]
      by_cases h : j < k
      · rw [if_pos h, if_pos (by omega)]; omega
      · rw [if_neg h, if_neg (by omega)]; omega
theorem togR_is (ls : Nat → List Int) (k : Nat) (q : Int) (on : Nat) (A : Nat → Nat) (hA : ∀ t, A (t + 1) = A t + if t % on = 0 then 1 else 0) :
    ∀ (r t : Nat) (s : Rs), s.al = false → ∃ u, u ≤ r ∧ (∀ j, j < k → (togR ls k 1 q on r t s).1.ld j = s.ld j + u) ∧ (togR ls k 1 q on r t s).1.n + A t = s.n + k * u + A (t + u) ∧ (togR ls k 1 q on r t s).1.al = false ∧
      (((togR ls k 1 q on r t s).2.2 = 0 ∧ q ≤ (togR ls k 1 q on r t s).2.1 ∧ 1 ≤ u) ∨ ((togR ls k 1 q on r t s).2.2 = 4 ∧ (togR ls k 1 q on r t s).2.1 = 0 ∧ u = r))
  | 0, t, s, ha => ⟨0, Nat.le_refl _, fun j _ => rfl, by simp [togR], ha, .inr ⟨rfl, rfl, rfl⟩⟩
  | r + 1, t, s, ha => by
    have hat : A (t + 1) = A t + if t % on = 0 then 1 else 0 := hA t
    have hn : (if t % on = 0 then s.tick 1 else s).n = s.n + if t % on = 0 then 1 else 0 := by
      split <;> simp [Rs.tick]
    have hl : ∀ j, (if t % on = 0 then s.tick 1 else s).ld j = s.ld j := fun j => by split <;> rfl
    have hal : (if t % on = 0 then s.tick 1 else s).al = false := by split <;> exact ha
    have he : ¬ (t % on = 0 ∧ s.al = true) := fun h => by rw [ha] at h; cases h.2
    unfold togR
    rw [if_neg he]
    generalize (if t % on = 0 then s.tick 1 else s) = s1 at *
    by_cases hq : q ≤ limV ls s1 1 k
    · rw [if_pos hq]
      refine ⟨1, by omega, fun j hj => ?_, ?_, ?_, .inl ⟨rfl, hq, Nat.le_refl _⟩⟩
      · show (s1.lim 1 k).ld j = _
        rw [lim_ld, if_pos hj, hl]
      · show (s1.lim 1 k).n + A t = _
        rw [lim_n, hn, hat]
        omega
      · show (s1.lim 1 k).al = _
        rw [lim_al, hal]
    · rw [if_neg hq]
      obtain ⟨u, h1, h2, h3, h4, h5⟩ := togR_is ls k q on A hA r (t + 1) (s1.lim 1 k) (by rw [lim_al, hal])
      refine ⟨u + 1, by omega, fun j hj => ?_, ?_, h4, ?_⟩
      · rw [h2 j hj, lim_ld, if_pos hj, hl]
        omega
      · rw [lim_n, hn] at h3
        rw [Nat.mul_add, show t + (u + 1) = t + 1 + u by omega]
        omega
      · rcases h5 with ⟨a, b, c⟩ | ⟨a, b, c⟩
        · exact .inl ⟨a, b, by omega⟩
        · exact .inr ⟨a, b, by omega⟩
theorem oneR_is (ls : Nat → List Int) (k : Nat) (q : Int) : ∀ (r j : Nat) (m : Int) (s : Rs), s.al = false → j < k → q ≤ m → ∃ u, u ≤ r ∧ sumL (oneR ls k 1 q r j m s).1 k = sumL s k + u ∧ (oneR ls k 1 q r j m s).1.n = s.n + 2 * u ∧ (oneR ls k 1 q r j m s).1.al = false ∧
      (((oneR ls k 1 q r j m s).2.2 = 0 ∧ q ≤ (oneR ls k 1 q r j m s).2.1) ∨ ((oneR ls k 1 q r j m s).2.2 = 4 ∧ (oneR ls k 1 q r j m s).2.1 = 0 ∧ u = r))
  | 0, j, m, s, ha, _, _ => ⟨0, Nat.le_refl _, rfl, rfl, ha, .inr ⟨rfl, rfl, rfl⟩⟩
  | r + 1, j, m, s, ha, hj, hm => by
    have hs2 : sumL ((s.tick 1).load 1 j) k = sumL s k + 1 := by
      rw [sumL_load, if_pos hj]
      congr 1
      generalize k = n
      induction n with
      | zero => rfl
      | succ n ih => show sumL (s.tick 1) n + _ = sumL s n + _; rw [ih]; rfl
    have hn2 : ((s.tick 1).load 1 j).n = s.n + 2 := rfl
    have ha2 : ((s.tick 1).load 1 j).al = false := ha
    unfold oneR
    rw [if_neg (by rw [ha]; exact fun h => by cases h)]
    generalize (s.tick 1).load 1 j = s2 at *
    generalize rvl (ls j) ((s.tick 1).ld j) = v
    by_cases h1 : v < q
    · rw [if_pos h1]
      obtain ⟨u, x1, x2, x3, x4, x5⟩ := oneR_is ls k q r j m s2 ha2 hj hm
      refine ⟨u + 1, by omega, by rw [x2, hs2]; omega, by rw [x3, hn2]; omega, x4, ?_⟩
      rcases x5 with h | ⟨a, b, c⟩
      · exact .inl h
      · exact .inr ⟨a, b, by omega⟩
    · rw [if_neg h1]
      by_cases h2 : j + 1 = k
      · rw [if_pos h2]
        exact ⟨1, by omega, hs2, hn2, ha2, .inl ⟨rfl, by show q ≤ min m v; omega⟩⟩
      · rw [if_neg h2]
        obtain ⟨u, x1, x2, x3, x4, x5⟩ := oneR_is ls k q r (j + 1) (min m v) s2 ha2 (by omega) (by omega)
        refine ⟨u + 1, by omega, by rw [x2, hs2]; omega, by rw [x3, hn2]; omega, x4, ?_⟩
        rcases x5 with h | ⟨a, b, c⟩
        · exact .inl h
        · exact .inr ⟨a, b, by omega⟩
end Go.Proofs.Ytgfajibjedfkdaa
