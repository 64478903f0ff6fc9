/- Part 4. -/
import Derived.Test.YtgfajibjedfkdaaJK2
import Derived.Test.YtgfajibjedfkdaaJK3
import Derived.Laws.Tables
import Derived.Laws.Cells
import Derived.Conc.AppendEvents
import Derived.Test.YtgfajibjedfkdaaProg
import Derived.KernelRfl
import Derived.Handy
import Derived.Conc.TokenWalk
set_option linter.unusedSimpArgs false
set_option linter.unusedVariables false
set_option maxHeartbeats 8000000
set_option maxRecDepth 100000
namespace Go.Relay
section
open Go.Conc Go.RowKit
variable {P : Program} {main : Bool} {V : Nat → Option Wait} {Stop : Goroutine → World → Prop} {w : World} {b : Frame} {a : Act} {k : List Item} {cs : List Frame} {ops : Array Oper} {i : Nat} {rest : List Nat} {o : Oper}
theorem add_none (g o j : Nat) : (⟨g, o, none⟩ : Addr).add j = ⟨g, o + j, none⟩ := by unfold Addr.add; split <;> simp_all
theorem run_loadVar_at (w : World) (g o : Nat) (ty : TypeId) (cs : List Value) (d : TypeDesc) (hc : ∀ j v, cs[j]? = some v → w.cell? ⟨g, o + j, none⟩ = some v)
    (hu : P.underlying ty = some d) (hd : (match d with | .struct _ | .array _ _ => true | _ => false) = true) (hi : (P.info? ty).map (·.size) = some cs.length) :
    (loadVar ty ⟨g, o, none⟩).run P w = .ok (.agg cs.toArray) w := by
  have hl : (loadCells ⟨g, o, none⟩ cs.length).run P w = .ok cs.toArray w := run_loadCells_list (P := P) w ⟨g, o, none⟩ cs (fun j v hv => by rw [add_none]; exact hc j v hv)
  cases hq : P.info? ty with
  | none => simp [hq] at hi
  | some i =>
    have hs : i.size = cs.length := by simpa [hq] using hi
    have hagg : (isAgg ty).run P w = .ok true w := by
      unfold isAgg
      rw [Sem.run_bind, run_underlying hu w]
      cases d <;> simp_all
    simp [loadVar, Sem.run_bind, hagg, sizeOf, typeInfo, hq, hs, hl]
theorem events_loadVar_reads (w : World) (ad : Addr) (ty : TypeId) {d : TypeDesc} (hu : P.underlying ty = some d) (hd : (match d with | .struct _ | .array _ _ => true | _ => false) = true) {n : Nat} (hi : (P.info? ty).map (·.size) = some n) :
    ∀ e ∈ (loadVar ty ad).events P w #[], e.isRead := by
  cases hq : P.info? ty with
  | none => simp [hq] at hi
  | some i =>
    have hagg : (isAgg ty).run P w = .ok true w := by
      unfold isAgg
      rw [Sem.run_bind, run_underlying hu w]
      cases d <;> simp_all
    have hagge : ∀ es, (isAgg ty).events P w es = es := fun es => by
      unfold isAgg
      simp only [Sem.events_bind, run_underlying hu w, events_underlying, Result.evThen_ok]
      cases d <;> simp
    intro e he
    have hsz : ∀ es, (sizeOf ty).events P w es = es := fun es => by simp [sizeOf, typeInfo, hq]
    have hszr : (sizeOf ty).run P w = .ok i.size w := by simp [sizeOf, typeInfo, hq]
    simp only [loadVar, Sem.events_bind, hagg, hagge, Result.evThen_ok, if_true, hszr, hsz, loadCells] at he
    have : e ∈ (loadCellsFrom ad 0 i.size #[]).events P w #[] := by
      revert he
      cases (loadCellsFrom ad 0 i.size #[]).run P w <;> simp
    rcases events_loadCellsFrom_reads _ _ _ _ _ _ e this with h | h
    · simp at h
    · exact h
theorem Walk.loadS (t : TypeId) (x : Operand) (ho : ops[i]? = some o) (hw : Region.wanted o (yielded ops a.tmps) = true) (hk : b.kind ≠ .early) (hop : o.op = .load t x) (g off : Nat) (vals : List Value) (d : TypeDesc) (hx : a.eval x = .pointer (some ⟨g, off, none⟩)) (hc : ∀ j v, vals[j]? = some v → w.cell? ⟨g, off + j, none⟩ = some v)
    (hu : P.underlying t = some d) (hd : (match d with | .struct _ | .array _ _ => true | _ => false) = true) (hi : (P.info? t).map (·.size) = some vals.length)
    (h : Walk P main (DR V) Stop (G (b.at (a.put o.dst (.agg vals.toArray)) (.inRegion ops rest :: k)) cs) w) : Walk P main (DR V) Stop (G (b.at a (.inRegion ops (i :: rest) :: k)) cs) w := by
  refine Walk.opq ho hw hk (fun dd e he => ?_) (fun dd K hK => ?_)
  · refine evR_isRead (events_loadVar_reads (P := P) (w.at dd) ⟨g, off, none⟩ t hu hd hi e ?_)
    unfold execOp at he
    simpa [hop, hx, Instr.loadAt, Instr.sureAddr, Sem.events_bind] using he
  · unfold execOp
    simp only [hop, hx, Instr.loadAt, Instr.sureAddr, Sem.run_bind, Sem.run_pure, Result.andThen_ok, run_loadVar_at (P := P) (w.at dd) g off t vals d hc hu hd hi]
    exact hK _ h
theorem events_storeVar_at (w : World) (g : Nat) (t ty : TypeId) (old cells : Array Value) (hg : w.heap[g]? = some (.cells old t (0, 0))) (hi : (P.info? ty).map (·.size) = some cells.size) (ho : old.size = cells.size) (h1 : cells.all (·.oneCell') = true) :
    ∀ e ∈ (storeVar ty ⟨g, 0, none⟩ (.agg cells)).events P w #[], ∃ ad, e.loc = .cell ad ∧ ad.block = g := by
  cases hq : P.info? ty with
  | none => simp [hq] at hi
  | some i =>
    have hs : cells.size = i.size := by simp [hq] at hi; omega
    intro e he
    have : e ∈ (storeCells ⟨g, 0, none⟩ cells.toList 0).events P w #[] := by
      simpa [storeVar, sizeOf, typeInfo, hq, Value.cells, hs, Sem.events_bind] using he
    rcases events_storeCells_at g 0 t cells.toList 0 old w #[] hg (by simp; omega) (fun v hv => (Array.all_eq_true_iff_forall_mem.1 h1) v (by simpa using hv)) e this with h | h
    · simp at h
    · exact h
theorem Walk.storeS (t : TypeId) (x y : Operand) (ho : ops[i]? = some o) (hw : Region.wanted o (yielded ops a.tmps) = true) (hk : b.kind ≠ .early) (hop : o.op = .store t x y) (g : Nat) (cells old : Array Value) (tt : TypeId) (hx : a.eval x = .pointer (some ⟨g, 0, none⟩)) (hy : a.eval y = .agg cells)
    (hg : w.heap[g]? = some (.cells old tt (0, 0))) (hi : (P.info? t).map (·.size) = some cells.size) (hold : old.size = cells.size) (h1 : cells.all (·.oneCell') = true) (hap : Apart V g)
    (h : Walk P main (DR V) Stop (G (b.at (a.put o.dst undef) (.inRegion ops rest :: k)) cs) (w.setRow g cells)) : Walk P main (DR V) Stop (G (b.at a (.inRegion ops (i :: rest) :: k)) cs) w := by
  have hgr : ∀ d, (w.at d).grownBy ((w.setRow g cells).at d) (some g) := fun d => by
    refine ⟨rfl, rfl, rfl, ?_, fun k hk hne => ?_⟩
    · simp [World.setRow, World.at]
    · have : k ≠ g := fun e => hne (by rw [e])
      simp only [World.setRow, World.at]
      rw [Array.getElem?_modify, if_neg (Ne.symm this)]
  refine Walk.opw (W := w.setRow g cells) ho hw hk (fun dd e he => ?_) (fun dd es hes => DR.grown (hgr dd) (fun g' e => by cases e; exact hap) hes) (fun dd K hK => ?_)
  · obtain ⟨ad, h1', h2'⟩ := events_storeVar_at (P := P) (w.at dd) g tt t old cells hg hi hold h1 e (by
      unfold execOp at he
      have hr := run_storeVar_row (P := P) (w.at dd) g tt t old cells hg hi hold h1
      simpa [hop, hx, hy, Instr.storeAt, Instr.sureAddr, Sem.events_bind, hr] using he)
    exact evR_cell h1' (hap.1 ad h2')
  · unfold execOp
    simp only [hop, hx, hy, Instr.storeAt, Instr.sureAddr, Sem.run_bind, Sem.run_pure, Result.andThen_ok, run_storeVar_row (P := P) (w.at dd) g tt t old cells hg hi hold h1]
    exact hK _ h
end
section
open Go.Conc Go.RowKit
open Go.ConcN (upd upd_ne upd_same)
def waitsB (ops : Array Oper) (i j : Nat) : Bool := (ops[i]?).any fun o => o.after.any fun e => decide (e.on = j) && Region.binds .any e
def calmB (ops : Array Oper) (m : Nat) : Bool := decide (m ≤ ops.size) && (List.range m).all fun i => (ops[i]?).any fun o => (match o.op with | .select _ _ => false | _ => true) && o.dst.isSome &&
  (List.range ops.size).all fun j => decide (j = i) && !(o.looksAt ops).any (fun t => o.dst == some t) ||
    (ops[j]?).any fun p => (o.dst != p.dst) && (!(o.looksAt ops).any (fun t => p.dst == some t) || decide (j < i) && waitsB ops i j)
section
variable (P : Program) (main : Bool) (V : Nat → Option Wait) (ops : Array Oper) (Z : World → Prop)
def Cm (K : Act → Prop) : List Nat → Act → Prop
  | [], a => K a
  | i :: rest, a => ∃ o a', ops[i]? = some o ∧ Cm K rest a' ∧
    ((Region.wanted o (yielded ops a.tmps) = false ∧ a' = a.put o.dst undef) ∨
     (Region.wanted o (yielded ops a.tmps) = true ∧ (∀ w, Z w → ∀ d, ∀ e ∈ (execOp a.eval o).events P (w.at d) #[], EvR V e) ∧ ∀ w, Z w → ∀ d, uponK o a (fun x w' => x = a' ∧ w' = w.at d) ((execOp a.eval o).run P (w.at d))) ∨
     (Region.wanted o (yielded ops a.tmps) = true ∧ ∃ (f : FuncId) (fn : Func) (args : Array Operand) (ats : Array TypeId) (x : Value), o.op = .call { callee := .value (.func f), args, argTypes := ats } ∧ P.funcs[f]? = some fn ∧ (fn.name == "runtime.NumGoroutine") = false ∧ fn.body.isNone = false ∧
      (∀ w, Z w → CallV P main V f (args.map a.eval) w x w) ∧ a' = a.put o.dst x))
end
section
variable {P : Program} {main : Bool} {V : Nat → Option Wait} {ops : Array Oper} {Z : World → Prop} {w : World} {K : Act → Prop} {i : Nat} {rest : List Nat} {a : Act} {o : Oper}
theorem Cm.opq {a' : Act} (ho : ops[i]? = some o) (hw : Region.wanted o (yielded ops a.tmps) = true) (he : ∀ w, Z w → ∀ d, ∀ e ∈ (execOp a.eval o).events P (w.at d) #[], EvR V e)
    (h : ∀ w, Z w → ∀ d, ∀ K' : Act → World → Prop, K' a' (w.at d) → uponK o a K' ((execOp a.eval o).run P (w.at d))) (hn : Cm P main V ops Z K rest a') : Cm P main V ops Z K (i :: rest) a :=
  ⟨o, a', ho, hn, .inr (.inl ⟨hw, he, fun w hz d => h w hz d _ ⟨rfl, rfl⟩⟩)⟩
theorem Cm.opqA (ho : ops[i]? = some o) (hw : Region.wanted o (yielded ops a.tmps) = true) (he : ∀ d, ∀ e ∈ (execOp a.eval o).events P (w.at d) #[], EvR V e)
    (h : ∃ a', (∀ d, ∀ K' : Act → World → Prop, K' a' (w.at d) → uponK o a K' ((execOp a.eval o).run P (w.at d))) ∧ Cm P main V ops (· = w) K rest a') : Cm P main V ops (· = w) K (i :: rest) a := by
  obtain ⟨a', h1, h2⟩ := h
  exact Cm.opq ho hw (fun _ e => e ▸ he) (fun _ e => e ▸ h1) h2
theorem Cm.oq {a' : Act} (h : Cm P main V ops (· = w) K rest a') (ho : ops[i]? = some o := by exact ho_of (by conv => lhs; whnf) (by kernel_rfl)) (hw : Region.wanted o (yielded ops a.tmps) = true := by rfl)
    (he : ∀ d, ∀ e ∈ (execOp a.eval o).events P (w.at d) #[], EvR V e := by intro dd e he; simp [go_sem, *] at he; first | done | (subst he; exact evR_read _ _))
    (hr : ∀ d, ∀ K' : Act → World → Prop, K' a' (w.at d) → uponK o a K' ((execOp a.eval o).run P (w.at d)) := by intro dd K hK; go_simp; exact hK) : Cm P main V ops (· = w) K (i :: rest) a := Cm.opqA ho hw he ⟨a', hr, h⟩
theorem Cm.unw (ho : ops[i]? = some o) (hw : Region.wanted o (yielded ops a.tmps) = false) (h : Cm P main V ops Z K rest (a.put o.dst undef)) : Cm P main V ops Z K (i :: rest) a :=
  ⟨o, _, ho, h, .inl ⟨hw, rfl⟩⟩
theorem Cm.callV {f : FuncId} {fn : Func} {args : Array Operand} {ats : Array TypeId} {x : Value} (hc : ∀ w, Z w → CallV P main V f (args.map a.eval) w x w) (ho : ops[i]? = some o) (hw : Region.wanted o (yielded ops a.tmps) = true) (hop : o.op = .call { callee := .value (.func f), args, argTypes := ats })
    (hf : P.funcs[f]? = some fn) (hname : (fn.name == "runtime.NumGoroutine") = false) (hb : fn.body.isNone = false) (h : Cm P main V ops Z K rest (a.put o.dst x)) : Cm P main V ops Z K (i :: rest) a :=
  ⟨o, _, ho, h, .inr (.inr ⟨hw, f, fn, args, ats, x, hop, hf, hname, hb, hc, rfl⟩)⟩
theorem Cm.loadS (t : TypeId) (x : Operand) (ho : ops[i]? = some o) (hw : Region.wanted o (yielded ops a.tmps) = true) (hop : o.op = .load t x) (g off : Nat) (vals : List Value) (d : TypeDesc) (hx : a.eval x = .pointer (some ⟨g, off, none⟩)) (hc : ∀ w, Z w → ∀ j v, vals[j]? = some v → w.cell? ⟨g, off + j, none⟩ = some v)
    (hu : P.underlying t = some d) (hd : (match d with | .struct _ | .array _ _ => true | _ => false) = true) (hi : (P.info? t).map (·.size) = some vals.length) (h : Cm P main V ops Z K rest (a.put o.dst (.agg vals.toArray))) : Cm P main V ops Z K (i :: rest) a := by
  refine Cm.opq ho hw (fun w hz dd e he => ?_) (fun w hz dd K hK => ?_) h
  · refine evR_isRead (events_loadVar_reads (P := P) (w.at dd) ⟨g, off, none⟩ t hu hd hi e ?_)
    unfold execOp at he
    simpa [hop, hx, Instr.loadAt, Instr.sureAddr, Sem.events_bind] using he
  · unfold execOp
    simp only [hop, hx, Instr.loadAt, Instr.sureAddr, Sem.run_bind, Sem.run_pure, Result.andThen_ok, run_loadVar_at (P := P) (w.at dd) g off t vals d (hc w hz) hu hd hi]
    exact hK
theorem Cm.done (h : K a) : Cm P main V ops Z K [] a := h
def putsL (ops : Array Oper) (vals : Nat → Value) (f : Nat → Bool) (l : List Nat) (a : Act) : Act := l.foldl (fun a j => if f j then a.put ((ops[j]?).bind (·.dst)) (vals j) else a) a
def puts (ops : Array Oper) (vals : Nat → Value) (f : Nat → Bool) (a : Act) : Act := putsL ops vals f (List.range ops.size) a
theorem put_defers (a : Act) (x : Option Tmp) (v : Value) : (a.put x v).defers = a.defers := by cases x <;> rfl
theorem put_size (a : Act) (x : Option Tmp) (v : Value) : (a.put x v).tmps.size = a.tmps.size := by cases x <;> simp [Act.put]
theorem put_slot (a : Act) (x : Option Tmp) (v : Value) (t : Nat) : (a.put x v).tmps[t]? = if x = some t then (a.tmps[t]?).map (fun _ => v) else a.tmps[t]? := by
  cases x with
  | none => rfl
  | some d =>
    simp only [Act.put, Option.some.injEq]
    by_cases e : d = t
    · subst e
      rw [if_pos rfl]
      by_cases hl : d < a.tmps.size
      · rw [Array.getElem?_setIfInBounds_self_of_lt hl, Array.getElem?_eq_getElem hl]; rfl
      · have h1 : (a.tmps.setIfInBounds d v)[d]? = none := Array.getElem?_eq_none (by simpa using hl)
        have h2 : a.tmps[d]? = none := Array.getElem?_eq_none (Nat.not_lt.1 hl)
        rw [h1, h2]; rfl
    · rw [if_neg e, Array.getElem?_setIfInBounds_ne e]
theorem putsL_defers (vals : Nat → Value) (f : Nat → Bool) : ∀ (l : List Nat) (a : Act), (putsL ops vals f l a).defers = a.defers
  | [], _ => rfl
  | j :: l, a => by
    show (putsL ops vals f l (if f j then a.put ((ops[j]?).bind (·.dst)) (vals j) else a)).defers = _
    rw [putsL_defers vals f l]
    split
    · exact put_defers _ _ _
    · rfl
theorem slot_congr {vals vals' : Nat → Value} {f f' : Nat → Bool} {t : Nat} : ∀ (l : List Nat) (a a' : Act), a.tmps[t]? = a'.tmps[t]? → (∀ j ∈ l, (ops[j]?).bind (·.dst) = some t → f j = f' j ∧ vals j = vals' j) → (putsL ops vals f l a).tmps[t]? = (putsL ops vals' f' l a').tmps[t]?
  | [], _, _, h, _ => h
  | j :: l, a, a', h, hf => by
    refine slot_congr l (if f j then a.put ((ops[j]?).bind (·.dst)) (vals j) else a) (if f' j then a'.put ((ops[j]?).bind (·.dst)) (vals' j) else a') ?_ fun k hk => hf k (List.mem_cons_of_mem _ hk)
    by_cases hd : (ops[j]?).bind (·.dst) = some t
    · obtain ⟨h1, h2⟩ := hf j (List.mem_cons_self ..) hd
      rw [h1, h2]
      split
      · rw [put_slot, put_slot, h]
      · exact h
    · have e : ∀ (x : Bool) (v : Value) (b : Act), (if x then b.put ((ops[j]?).bind (·.dst)) v else b).tmps[t]? = b.tmps[t]? := fun x v b => by
        cases x with
        | true => rw [if_pos rfl, put_slot, if_neg hd]
        | false => rfl
      rw [e, e]; exact h
theorem puts_congr {vals vals' : Nat → Value} {f f' : Nat → Bool} (h : ∀ j, j < ops.size → f j = f' j ∧ (f j = true → vals j = vals' j)) (a : Act) : puts ops vals f a = puts ops vals' f' a := by
  unfold puts
  have : ∀ (l : List Nat) (a : Act), (∀ j ∈ l, j < ops.size) → putsL ops vals f l a = putsL ops vals' f' l a := fun l => by
    induction l with
    | nil => intro a _; rfl
    | cons j l ih =>
      intro a hl
      obtain ⟨h1, h2⟩ := h j (hl j (List.mem_cons_self ..))
      have e : (if f j then a.put ((ops[j]?).bind (·.dst)) (vals j) else a) = (if f' j then a.put ((ops[j]?).bind (·.dst)) (vals' j) else a) := by
        rw [← h1]
        cases hf : f j with
        | true => rw [h2 hf]
        | false => rfl
      show putsL ops vals f l (if f j then a.put ((ops[j]?).bind (·.dst)) (vals j) else a) = putsL ops vals' f' l (if f' j then a.put ((ops[j]?).bind (·.dst)) (vals' j) else a)
      rw [e]
      exact ih _ fun k hk => hl k (List.mem_cons_of_mem _ hk)
  exact this _ a fun j hj => List.mem_range.1 hj
theorem putsL_none {vals : Nat → Value} {f : Nat → Bool} : ∀ (l : List Nat) (a : Act), (∀ j ∈ l, f j = false) → putsL ops vals f l a = a
  | [], _, _ => rfl
  | j :: l, a, h => by
    show putsL ops vals f l (if f j then _ else a) = a
    rw [h j (List.mem_cons_self ..)]
    exact putsL_none l a fun k hk => h k (List.mem_cons_of_mem _ hk)
theorem puts_zero (vals : Nat → Value) (a : Act) : puts ops vals (fun _ => false) a = a := putsL_none _ a fun _ _ => rfl
theorem puts_succ (vals : Nat → Value) {i : Nat} (hi : i < ops.size) (a : Act) : puts ops vals (fun j => decide (j < i + 1)) a = (puts ops vals (fun j => decide (j < i)) a).put ((ops[i]?).bind (·.dst)) (vals i) := by
  have e : List.range ops.size = List.range i ++ (i :: List.range' (i + 1) (ops.size - (i + 1))) := by
    rw [List.range_eq_range', List.range_eq_range', ← List.range'_succ]
    have : ops.size - (i + 1) + 1 = ops.size - i := by omega
    rw [this, show (List.range' i (ops.size - i)) = List.range' (0 + 1 * i) (ops.size - i) by simp, List.range'_append]
    congr 1
    omega
  unfold puts
  rw [e]
  unfold putsL
  rw [List.foldl_append, List.foldl_append, List.foldl_cons, List.foldl_cons]
  have h1 : ∀ a : Act, (List.range' (i + 1) (ops.size - (i + 1))).foldl (fun a j => if (fun j => decide (j < i + 1)) j then a.put ((ops[j]?).bind (·.dst)) (vals j) else a) a = a := fun a => putsL_none (f := fun j => decide (j < i + 1)) _ a fun j hj => by
    have := List.mem_range'_1.1 hj
    exact decide_eq_false (by omega)
  have h2 : ∀ a : Act, (List.range' (i + 1) (ops.size - (i + 1))).foldl (fun a j => if (fun j => decide (j < i)) j then a.put ((ops[j]?).bind (·.dst)) (vals j) else a) a = a := fun a => putsL_none (f := fun j => decide (j < i)) _ a fun j hj => by
    have := List.mem_range'_1.1 hj
    exact decide_eq_false (by omega)
  rw [h1, h2]
  have h3 : ∀ (l : List Nat) (a : Act), (∀ j ∈ l, j < i) → l.foldl (fun a j => if (fun j => decide (j < i + 1)) j then a.put ((ops[j]?).bind (·.dst)) (vals j) else a) a = l.foldl (fun a j => if (fun j => decide (j < i)) j then a.put ((ops[j]?).bind (·.dst)) (vals j) else a) a := fun l => by
    induction l with
    | nil => intro a _; rfl
    | cons j l ih =>
      intro a hl
      have hj := hl j (List.mem_cons_self ..)
      rw [List.foldl_cons, List.foldl_cons]
      have e1 : decide (j < i + 1) = true := decide_eq_true (by omega)
      have e2 : decide (j < i) = true := decide_eq_true hj
      simp only [e1, e2]
      exact ih _ fun k hk => hl k (List.mem_cons_of_mem _ hk)
  rw [h3 _ a fun j hj => List.mem_range.1 hj]
  simp
theorem calm_at {m : Nat} (hc : calmB ops m = true) {i : Nat} {o : Oper} (hi : i < m) (ho : ops[i]? = some o) : (∀ cs b, o.op ≠ .select cs b) ∧ (∃ t, o.dst = some t ∧ t ∉ o.looksAt ops) ∧ ∀ (j : Nat) (p : Oper), ops[j]? = some p → j ≠ i → o.dst ≠ p.dst ∧ ∀ t, p.dst = some t → t ∈ o.looksAt ops → j < i ∧ waitsB ops i j = true := by
  have hc := (Bool.and_eq_true _ _ ▸ hc : _ ∧ _)
  have h := List.all_eq_true.1 hc.2 i (List.mem_range.2 hi)
  rw [ho] at h
  simp only [Option.any_some, Bool.and_eq_true] at h
  obtain ⟨⟨h1, h2⟩, h3⟩ := h
  refine ⟨(fun cs b e => by rw [e] at h1; cases h1), ?_, fun j p hj hne => ?_⟩
  · have h := List.all_eq_true.1 h3 i (List.mem_range.2 (Array.getElem?_eq_some_iff.1 ho).1)
    rw [ho] at h
    obtain ⟨t, ht⟩ := Option.isSome_iff_exists.1 h2
    refine ⟨t, ht, fun hm => ?_⟩
    have hl : (o.looksAt ops).any (fun t => o.dst == some t) = true := List.any_eq_true.2 ⟨t, hm, by simp [ht]⟩
    simp [hl] at h
  · have h := List.all_eq_true.1 h3 j (List.mem_range.2 (Array.getElem?_eq_some_iff.1 hj).1)
    rw [hj] at h
    have hd : decide (j = i) = false := decide_eq_false hne
    rw [hd] at h
    simp only [Bool.false_and, Bool.false_or, Option.any_some, Bool.and_eq_true, bne_iff_ne, ne_eq] at h
    refine ⟨h.1, fun t ht hm => ?_⟩
    have hl : (o.looksAt ops).any (fun t => p.dst == some t) = true := List.any_eq_true.2 ⟨t, hm, by simp [ht]⟩
    rw [hl] at h
    simpa using h.2
theorem waits_at {i j : Nat} {o : Oper} {f : Nat → Bool} (h : waitsB ops i j = true) (ho : ops[i]? = some o) (hd : ∀ e ∈ o.after, Region.binds .any e = true → f e.on = true) : f j = true := by
  unfold waitsB at h
  rw [ho] at h
  simp only [Option.any_some] at h
  obtain ⟨x, hx, hb⟩ := Array.any_eq_true.1 h
  simp only [Bool.and_eq_true, decide_eq_true_eq] at hb
  exact hb.1 ▸ hd _ (Array.getElem_mem hx) hb.2
theorem same_look {a a' : Act} (h : ∀ t ∈ o.looksAt ops, a.tmps[t]? = a'.tmps[t]?) (hs : ∀ cs b, o.op ≠ .select cs b) : execOp a.eval o = execOp a'.eval o ∧ Region.wanted o (yielded ops a.tmps) = Region.wanted o (yielded ops a'.tmps) ∧ ∀ x ∈ o.op.operands, a.eval x = a'.eval x := by
  have hx : ∀ x ∈ o.op.operands, a.eval x = a'.eval x := fun x hx => by
    cases x with
    | tmp t =>
      have := h t (List.mem_append_left _ (List.mem_filterMap.2 ⟨.tmp t, by simpa using hx, rfl⟩))
      show a.tmps.getD t undef = a'.tmps.getD t undef
      rw [Array.getD_eq_getD_getElem?, Array.getD_eq_getD_getElem?, this]
    | _ => rfl
  refine ⟨execOp_congr o hs hx, ?_, hx⟩
  unfold Region.wanted
  cases hg : o.guard with
  | none => rfl
  | some gw =>
    obtain ⟨g, want⟩ := gw
    have hy : yielded ops a.tmps g = yielded ops a'.tmps g := by
      unfold yielded
      cases ht : (ops[g]?).bind (·.dst) with
      | none => rfl
      | some t =>
        have := h t (List.mem_append_right _ (by simp [hg, ht]))
        simp only [Option.bind_some, this]
    simp only [hy]
theorem putsL_size (vals : Nat → Value) (f : Nat → Bool) : ∀ (l : List Nat) (a : Act), (putsL ops vals f l a).tmps.size = a.tmps.size
  | [], _ => rfl
  | j :: l, a => by
    show (putsL ops vals f l (if f j then a.put ((ops[j]?).bind (·.dst)) (vals j) else a)).tmps.size = _
    rw [putsL_size vals f l]
    split
    · exact put_size _ _ _
    · rfl
theorem slot_keep {vals : Nat → Value} {f : Nat → Bool} {t i : Nat} {X : Option Value} : ∀ (l : List Nat) (a : Act), (∀ j ∈ l, (ops[j]?).bind (·.dst) = some t → j = i) → a.tmps[t]? = X.map (fun _ => vals i) → (putsL ops vals f l a).tmps[t]? = X.map (fun _ => vals i)
  | [], _, _, h => h
  | j :: l, a, hl, h => by
    refine slot_keep l (if f j then a.put ((ops[j]?).bind (·.dst)) (vals j) else a) (fun k hk => hl k (List.mem_cons_of_mem _ hk)) ?_
    split
    · rw [put_slot]
      split
      · next e =>
        have := hl j (List.mem_cons_self ..) e
        rw [h, this]
        cases X <;> rfl
      · exact h
    · exact h
theorem slot_only {vals : Nat → Value} {f : Nat → Bool} {t i : Nat} (hf : f i = true) (hd : (ops[i]?).bind (·.dst) = some t) : ∀ (l : List Nat) (a : Act), (∀ j ∈ l, (ops[j]?).bind (·.dst) = some t → j = i) → i ∈ l → (putsL ops vals f l a).tmps[t]? = (a.tmps[t]?).map (fun _ => vals i)
  | [], _, _, h => by cases h
  | j :: l, a, hl, hm => by
    by_cases e : j = i
    · subst e
      refine slot_keep l (if f j then a.put ((ops[j]?).bind (·.dst)) (vals j) else a) (fun k hk => hl k (List.mem_cons_of_mem _ hk)) ?_
      rw [hf, if_pos rfl, put_slot, if_pos hd]
    · have hm : i ∈ l := by
        rcases List.mem_cons.1 hm with h | h
        · exact absurd h.symm e
        · exact h
      have := slot_only (vals := vals) hf hd l (if f j then a.put ((ops[j]?).bind (·.dst)) (vals j) else a) (fun k hk => hl k (List.mem_cons_of_mem _ hk)) hm
      refine this.trans ?_
      have hne : (ops[j]?).bind (·.dst) ≠ some t := fun h => e (hl j (List.mem_cons_self ..) h)
      split
      · rw [put_slot, if_neg hne]
      · rfl
theorem act_ext {a b : Act} (ht : ∀ t : Nat, a.tmps[t]? = b.tmps[t]?) (hd : a.defers = b.defers) : a = b := by
  obtain ⟨x, y⟩ := a
  obtain ⟨x', y'⟩ := b
  have : x = x' := Array.ext_getElem? ht
  subst this
  have hd : y = y' := hd
  subst hd
  rfl
theorem dst_of (ho : ops[i]? = some o) : (ops[i]?).bind (·.dst) = o.dst := by rw [ho]; rfl
theorem puts_upd {m : Nat} (hc : calmB ops m = true) (hm : i < m) (vals : Nat → Value) {f : Nat → Bool} (hf : f i = false) (ho : ops[i]? = some o) (a : Act) : puts ops vals (upd f i true) a = (puts ops vals f a).put o.dst (vals i) := by
  have hi := (Array.getElem?_eq_some_iff.1 ho).1
  obtain ⟨_, ⟨t0, ht0, _⟩, hdist⟩ := calm_at hc hm ho
  have only : ∀ j ∈ List.range ops.size, (ops[j]?).bind (·.dst) = some t0 → j = i := fun j hj h => by
    refine Classical.byContradiction fun hne => ?_
    have hjl := List.mem_range.1 hj
    have hoj := Array.getElem?_eq_getElem hjl
    rw [hoj] at h
    exact (hdist j _ hoj hne).1 (ht0.trans h.symm)
  refine act_ext (fun t => ?_) ?_
  · rw [put_slot, ht0]
    by_cases e : t0 = t
    · subst e
      rw [if_pos rfl]
      have h1 := slot_only (vals := vals) (f := upd f i true) (upd_same _ _ _) ((dst_of ho).trans ht0) (List.range ops.size) a only (List.mem_range.2 hi)
      have h2 : (puts ops vals f a).tmps[t0]? = a.tmps[t0]? := by
        have : (putsL ops vals f (List.range ops.size) a).tmps[t0]? = (putsL ops vals (fun _ => false) (List.range ops.size) a).tmps[t0]? := slot_congr _ a a rfl fun j hj h => by
          have := only j hj h
          subst this
          exact ⟨hf, rfl⟩
        rw [putsL_none _ a fun _ _ => rfl] at this
        exact this
      rw [h2]
      exact h1
    · rw [if_neg (by simpa using e)]
      exact slot_congr _ a a rfl fun j _ h => by
        have hne : j ≠ i := fun h' => by
          subst h'
          rw [dst_of ho, ht0] at h
          exact e (Option.some.inj h)
        exact ⟨upd_ne _ _ hne, rfl⟩
  · rw [put_defers]
    unfold puts
    rw [putsL_defers, putsL_defers]
def CondU (P : Program) (main : Bool) (V : Nat → Option Wait) (ops : Array Oper) (Z : World → Prop) (o : Oper) (a : Act) (v : Value) : Prop :=
  (Region.wanted o (yielded ops a.tmps) = false ∧ v = undef) ∨
  (Region.wanted o (yielded ops a.tmps) = true ∧ (∀ w, Z w → ∀ d, ∀ e ∈ (execOp a.eval o).events P (w.at d) #[], EvR V e) ∧ ∀ w, Z w → ∀ d, uponK o a (fun x w' => x = a.put o.dst v ∧ w' = w.at d) ((execOp a.eval o).run P (w.at d))) ∨
  (Region.wanted o (yielded ops a.tmps) = true ∧ ∃ (f : FuncId) (fn : Func) (args : Array Operand) (ats : Array TypeId), o.op = .call { callee := .value (.func f), args, argTypes := ats } ∧ P.funcs[f]? = some fn ∧ (fn.name == "runtime.NumGoroutine") = false ∧ fn.body.isNone = false ∧ ∀ w, Z w → CallV P main V f (args.map a.eval) w v w)
theorem cm_vals {m : Nat} (hz : Z w) (hm : m ≤ ops.size) : ∀ (r i : Nat) (vals : Nat → Value) (a0 : Act), i + r = m → Cm P main V ops Z K (List.range' i r) (puts ops vals (fun j => decide (j < i)) a0) →
    ∃ vals', (∀ j, j < i → vals' j = vals j) ∧ (∀ j o, i ≤ j → j < m → ops[j]? = some o → CondU P main V ops Z o (puts ops vals' (fun x => decide (x < j)) a0) (vals' j)) ∧ K (puts ops vals' (fun j => decide (j < m)) a0)
  | 0, i, vals, a0, hi, h => by
    have hi : i = m := hi
    refine ⟨vals, fun _ _ => rfl, fun j o hj hjm ho => ?_, ?_⟩
    · omega
    · rw [← hi]; exact h
  | r + 1, i, vals, a0, hi, h => by
    have his : i < ops.size := by omega
    obtain ⟨o, a', ho, hn, hc⟩ := h
    obtain ⟨v, hv, hcond⟩ : ∃ v, a' = (puts ops vals (fun j => decide (j < i)) a0).put o.dst v ∧ CondU P main V ops Z o (puts ops vals (fun j => decide (j < i)) a0) v := by
      rcases hc with ⟨h1, h2⟩ | ⟨h1, h2, h3⟩ | ⟨h1, f, fn, args, ats, x, e1, e2, e3, e4, e5, e6⟩
      · exact ⟨undef, h2, .inl ⟨h1, rfl⟩⟩
      · have h0 := h3 w hz 0
        obtain ⟨v, hv⟩ : ∃ v, a' = (puts ops vals (fun j => decide (j < i)) a0).put o.dst v := by
          revert h0
          generalize (execOp _ o).run P (w.at 0) = rr
          intro h0
          unfold uponK at h0
          split at h0
          · exact ⟨_, h0.1.symm⟩
          · exact ⟨_, h0.1.symm⟩
          · exact h0.elim
        exact ⟨v, hv, .inr (.inl ⟨h1, h2, hv ▸ h3⟩)⟩
      · exact ⟨x, e6, .inr (.inr ⟨h1, f, fn, args, ats, e1, e2, e3, e4, e5⟩)⟩
    have hpre : puts ops (upd vals i v) (fun j => decide (j < i)) a0 = puts ops vals (fun j => decide (j < i)) a0 := puts_congr (fun j _ => ⟨rfl, fun hd => upd_ne _ _ (by have := of_decide_eq_true hd; omega)⟩) a0
    have hs := puts_succ (ops := ops) (upd vals i v) his a0
    rw [hpre, upd_same, dst_of ho, ← hv] at hs
    rw [← hs] at hn
    obtain ⟨vals', k1, k2, k3⟩ := cm_vals hz hm r (i + 1) (upd vals i v) a0 (by omega) hn
    refine ⟨vals', fun j hj => (k1 j (by omega)).trans (upd_ne _ _ (by omega)), fun j o' hj hjm ho' => ?_, k3⟩
    by_cases e : j = i
    · subst e
      rw [ho] at ho'
      cases ho'
      have e1 : puts ops vals' (fun x => decide (x < j)) a0 = puts ops vals (fun x => decide (x < j)) a0 := by
        rw [← hpre]
        exact puts_congr (fun x _ => ⟨rfl, fun hd => k1 x (by have := of_decide_eq_true hd; omega)⟩) a0
      have e2 : vals' j = v := (k1 j (by omega)).trans (upd_same _ _ _)
      rw [e1, e2]
      exact hcond
    · exact k2 j o' (by omega) hjm ho'
end
section
variable {P : Program} {main : Bool} {V : Nat → Option Wait} {Stop : Goroutine → World → Prop} {b : Frame} {k : List Item} {cs : List Frame} {ops : Array Oper} {w : World} {a : Act}
theorem Walk.calmOp {Z : World → Prop} {m i : Nat} (hz : Z w) {o : Oper} {vals : Nat → Value} {f : Nat → Bool} {rest : List Nat} (hc : calmB ops m = true) (hk : b.kind ≠ .early) (hi : i < m) (ho : ops[i]? = some o) (hd : ∀ e ∈ o.after, Region.binds .any e = true → f e.on = true)
    (hcond : CondU P main V ops Z o (puts ops vals (fun x => decide (x < i)) a) (vals i)) (hr' : Walk P main (DR V) Stop (G (b.at ((puts ops vals f a).put o.dst (vals i)) (.inRegion ops rest :: k)) cs) w) :
    Walk P main (DR V) Stop (G (b.at (puts ops vals f a) (.inRegion ops (i :: rest) :: k)) cs) w := by
  obtain ⟨hsel, ⟨t0, ht0, hself⟩, hdist⟩ := calm_at hc hi ho
  have hlook : ∀ t ∈ o.looksAt ops, (puts ops vals f a).tmps[t]? = (puts ops vals (fun j => decide (j < i)) a).tmps[t]? := fun t ht => slot_congr _ a a rfl fun j hj hjd => by
    have hjl := List.mem_range.1 hj
    have hoj := Array.getElem?_eq_getElem hjl
    have hne : j ≠ i := fun e => by
      subst e
      rw [dst_of ho, ht0] at hjd
      cases hjd
      exact hself ht
    rw [hoj] at hjd
    obtain ⟨h1, h2⟩ := (hdist j _ hoj hne).2 t hjd ht
    exact ⟨(waits_at h2 ho hd).trans (decide_eq_true h1).symm, rfl⟩
  obtain ⟨s1, s2, s3⟩ := same_look hlook hsel
  have hsz : (puts ops vals f a).tmps.size = (puts ops vals (fun j => decide (j < i)) a).tmps.size := by
    unfold puts
    rw [putsL_size, putsL_size]
  have hput : ∀ v, (puts ops vals (fun j => decide (j < i)) a).put o.dst v = (puts ops vals (fun j => decide (j < i)) a).put o.dst (vals i) → (puts ops vals f a).put o.dst v = (puts ops vals f a).put o.dst (vals i) := fun v e => by
    refine act_ext (fun t => ?_) (by rw [put_defers, put_defers])
    rw [put_slot, put_slot]
    split
    · next e' =>
      have h1 : ((puts ops vals (fun j => decide (j < i)) a).put o.dst v).tmps[t]? = ((puts ops vals (fun j => decide (j < i)) a).put o.dst (vals i)).tmps[t]? := by rw [e]
      rw [put_slot, put_slot, if_pos e', if_pos e'] at h1
      by_cases hl : t < (puts ops vals f a).tmps.size
      · rw [Array.getElem?_eq_getElem (hsz ▸ hl)] at h1
        simp only [Option.map_some] at h1
        rw [Array.getElem?_eq_getElem hl]
        exact h1
      · rw [Array.getElem?_eq_none (by omega)]; rfl
    · rfl
  rcases hcond with ⟨c1, c2⟩ | ⟨c1, c2, c3⟩ | ⟨c1, f', fn, args, ats, e1, e2, e3, e4, e5⟩
  · rw [← s2] at c1
    rw [c2] at hr'
    exact Walk.ctl rfl (fun w => stepG_unwanted ho c1) hr'
  · rw [← s2] at c1
    rw [← s1] at c2 c3
    refine Walk.opq ho c1 hk (c2 w hz) fun d' K hK => ?_
    have h3 := c3 w hz d'
    revert h3
    generalize (execOp (puts ops vals f a).eval o).run P (w.at d') = rr
    intro h3
    unfold uponK at h3 ⊢
    split at h3
    · obtain ⟨x1, rfl⟩ := h3
      refine hK _ ?_
      rw [hput _ x1]; exact hr'
    · obtain ⟨x1, rfl⟩ := h3
      refine hK _ ?_
      rw [hput _ x1]; exact hr'
    · exact h3.elim
  · rw [← s2] at c1
    have hargs : args.map (puts ops vals f a).eval = args.map (puts ops vals (fun j => decide (j < i)) a).eval := Array.map_congr_left fun x hx => s3 x (by rw [e1]; simp [Op.operands, Call.operands, hx])
    rw [← hargs] at e5
    exact Walk.callV (e5 w hz) ho c1 hk e1 e2 e3 e4 hr'
theorem Walk.drawnC {id m : Nat} (hm : P.follows .mixedOrders = true) (hsz : ops.size = m) (hlow : lowB ops = true) (hc : calmB ops m = true) (hk : b.kind ≠ .early)
    (h : Cm P main V ops (· = w) (fun a => Walk P main (DR V) Stop (G (b.at a (.inRegion ops [] :: k)) cs) w) (List.range m) a) : Walk P main (DR V) Stop (G (b.at a (.code (.region id ops true) :: k)) cs) w := by
  rw [List.range_eq_range'] at h
  have h0 : Cm P main V ops (· = w) (fun a => Walk P main (DR V) Stop (G (b.at a (.inRegion ops [] :: k)) cs) w) (List.range' 0 m) (puts ops (fun _ => undef) (fun j => decide (j < 0)) a) := by
    have : puts ops (fun _ => undef) (fun j => decide (j < 0)) a = a := putsL_none _ a fun j _ => decide_eq_false (Nat.not_lt_zero j)
    rw [this]; exact h
  obtain ⟨vals, _, hcond, hend⟩ := cm_vals (Z := (· = w)) (w := w) rfl (Nat.le_of_eq hsz.symm) m 0 (fun _ => undef) a (by omega) h0
  refine Walk.drawnI (Inv := fun f x w' => x = puts ops vals f a ∧ ∃ d, w' = w.at d) hm hlow (fun d => ⟨(puts_zero vals a).symm, d, rfl⟩) ?_ ?_
  · rintro f i o _ _ ⟨rfl, d, rfl⟩ hf ho hd rest hr
    have hi : i < m := by have := (Array.getElem?_eq_some_iff.1 ho).1; omega
    refine Walk.back ?_ d
    refine Walk.calmOp (Z := (· = w)) rfl hc hk hi ho hd (hcond i o (Nat.zero_le _) hi ho) ?_
    rw [← puts_upd hc hi vals hf ho a]
    exact hr _ (w.at w.drawn) ⟨rfl, w.drawn, rfl⟩
  · rintro f _ _ ⟨rfl, d, rfl⟩ hall
    refine Walk.back ?_ d
    have : puts ops vals f a = puts ops vals (fun j => decide (j < m)) a := puts_congr (fun j hj => ⟨(hall j hj).trans (decide_eq_true (hsz ▸ hj)).symm, fun _ => rfl⟩) a
    rw [this]
    exact hend
def lastB (ops : Array Oper) (m : Nat) : Bool := (List.range m).all fun j => (List.range (m + 1)).any fun i => decide (j < i) && waitsB ops i j
theorem last_all {m : Nat} {o : Oper} {f : Nat → Bool} (hl : lastB ops m = true) (hC : Closed ops f) (ho : ops[m]? = some o) (hd : ∀ e ∈ o.after, Region.binds .any e = true → f e.on = true) : ∀ (r j : Nat), j + r = m → 0 < r → f j = true := by
  intro r
  induction r using Nat.strongRecOn with
  | _ r ih =>
    intro j hj hr
    have h := List.all_eq_true.1 hl j (List.mem_range.2 (by omega))
    obtain ⟨i, hi, h2⟩ := List.any_eq_true.1 h
    have hi := List.mem_range.1 hi
    simp only [Bool.and_eq_true, decide_eq_true_eq] at h2
    obtain ⟨h3, h4⟩ := h2
    by_cases e : i = m
    · subst e
      exact waits_at h4 ho hd
    · have hfi := ih (m - i) (by omega) i (by omega) (by omega)
      unfold waitsB at h4
      cases hoi : ops[i]? with
      | none => rw [hoi] at h4; cases h4
      | some oi =>
        rw [hoi] at h4
        simp only [Option.any_some] at h4
        obtain ⟨x, hx, hb⟩ := Array.any_eq_true.1 h4
        simp only [Bool.and_eq_true, decide_eq_true_eq] at hb
        exact hb.1 ▸ hC i oi hoi hfi _ (Array.getElem_mem hx) hb.2
end
end
end Go.Relay
namespace Go.Proofs.Ytgfajibjedfkdaa
open Go.Conc Go.RowKit Go.Relay
open Go.ConcN (upd upd_ne upd_same)
section
variable {main : Bool} {V : Nat → Option Wait}
noncomputable def reg139_0 := rg Try.f139.body [0]
noncomputable def reg139_1 := rg Try.f139.body [1, 0]
theorem size139_1 : reg139_1.size = 18 := by kernel_rfl
theorem z139 : List.range reg139_0.size = [0] ∧ List.range reg139_1.size = [0, 1, 2, 3, 4, 5, 6, 7, 8, 9, 10, 11, 12, 13, 14, 15, 16, 17] := by refine ⟨?_, ?_⟩ <;> kernel_rfl
theorem code139_is : Try.f139.body = some (.seq (.region 0 reg139_0 false) (.seq (.region 1 reg139_1 true) (.ret))) := by kernel_rfl
theorem clampMost_w (m : Int) (w : World) : CallV Try.prog main V 135 #[.int .i64 m] w (.int .i64 (min (max m 0) 1048576)) w := by
  refine callW_in Try.func135 rfl fun fr cs => ?_
  simp only [Try.ntmps135, ez, Nat.reduceAdd, Nat.reduceSub]
  have hmx := @events_max_ints Try.prog
  have hmn := @events_min_ints Try.prog
  repeat (first | refine Walk.cx ?_ | refine Walk.cR ?_ | (refine Walk.oq ?_; try walk_nrm) | (refine Walk.un ?_; walk_nrm))
  exact Walk.ret1 rfl rfl Try.func135 rfl fun d => ⟨by simp, d, rfl⟩
theorem over_w (B : Nat) (going most : Int) (sa : Option Addr) (n cap : Nat) (w : World) (h1 : w.cell? ⟨B, 1, none⟩ = some (.int .i64 going)) (h2 : w.cell? ⟨B, 2, none⟩ = some (.int .i64 most)) (h3 : w.cell? ⟨B, 3, none⟩ = some (.slice sa n cap)) :
    CallV Try.prog main V 139 #[.pointer (some ⟨B, 0, none⟩)] w (.bool (decide (going = 0) || decide (most ≤ n))) w := by
  refine callW_in Try.func139 code139_is fun fr cs => ?_
  simp only [Try.ntmps139, ez, Nat.reduceAdd, Nat.reduceSub]
  repeat (first | refine Walk.cx ?_ | (refine Walk.cReg ?_; simp only [z139]) | (refine Walk.oq ?_; try walk_nrm) | (refine Walk.un ?_; walk_nrm))
  by_cases hg : going = 0
  · subst hg
    (refine Walk.drawnC (by kernel_rfl) size139_1 (by kernel_rfl) (by kernel_rfl) (by decide) ?_; simp only [List.range, List.range.loop]; repeat (first | (refine Cm.oq ?_) | (refine Cm.unw (ho_of (by conv => lhs; whnf) (by kernel_rfl)) (by rfl) ?_; walk_nrm)))
    refine Cm.done ?_
    repeat (first | refine Walk.cx ?_ | (refine Walk.cReg ?_; simp only [z139]) | (refine Walk.oq ?_; try walk_nrm) | (refine Walk.un ?_; walk_nrm))
    exact Walk.ret1 rfl rfl Try.func139 rfl fun d => ⟨by simp, d, rfl⟩
  · have hg1 : decide (going = 0) = false := by simpa using hg
    have hg2 : (going == 0) = false := by simpa using hg
    (refine Walk.drawnC (by kernel_rfl) size139_1 (by kernel_rfl) (by kernel_rfl) (by decide) ?_; simp only [List.range, List.range.loop]; repeat (first | (refine Cm.oq ?_) | (refine Cm.unw (ho_of (by conv => lhs; whnf) (by kernel_rfl)) (by rfl) ?_; walk_nrm)))
    refine Cm.done ?_
    repeat (first | refine Walk.cx ?_ | (refine Walk.cReg ?_; simp only [z139]) | (refine Walk.oq ?_; try walk_nrm) | (refine Walk.un ?_; walk_nrm))
    exact Walk.ret1 rfl rfl Try.func139 rfl fun d => ⟨by simp [hg], d, rfl⟩
end
section
variable {main : Bool} {V : Nat → Option Wait}
noncomputable def ops107 : Array Oper := match Try.f149.body with | some (.seq (.region _ ops _) _) => ops | _ => #[]
noncomputable def rest107 : Code := match Try.f149.body with | some (.seq _ c) => c | _ => .skip
noncomputable def rec107 (p r : Nat) (cs : List Frame) : Goroutine :=
  G ((base 149).at { tmps := #[.pointer (some ⟨p, 0, none⟩), undef, undef, undef, undef, .pointer (some ⟨p, 0, none⟩), .pointer (some ⟨p, 0, none⟩), .pointer (some ⟨p, 1, none⟩), .chan (some r), undef, undef, undef, undef, undef, undef, undef, undef], defers := [] } [.inRegion ops107 [4, 5, 6, 7, 8, 9, 10], .code rest107]) cs
theorem way107 (p r : Nat) (cs : List Frame) (v : Wait) (hch : v.ch = r) (hz : v.z = .agg #[]) (hok : v.ok = true) (hf : v.f ⟨p, 1, none⟩ = some (.chan (some r))) (hh : v.home (rec107 p r cs)) :
    Yonder Try.prog main v (G (Frame.enter Try.prog 149 #[.pointer (some ⟨p, 0, none⟩)] .normal) cs) := by
  rw [enter_at _ Try.func149 rfl]
  simp only [Try.f149, Option.getD_some, List.size_toArray, List.length_cons, List.length_nil, Nat.reduceAdd, Nat.reduceSub, Array.replicate_succ, Array.replicate_zero, List.push_toArray, List.append_toArray, List.nil_append, List.cons_append]
  iterate 6 (try (first | refine Yonder.c rfl ?_ | refine Yonder.cR ?_ | refine Yonder.cE ?_ | refine Yonder.cT ?_ | (refine Yonder.oq ?_; try walk_nrm)))
  co_applyP Yonder.ld _ hf rfl (by rfl) (by decide) ?krun1 ?kev1 ?krest1; (case krun1 => (intro w hw K hK; have hcx := hw _ _ hf; go_simp; exact hK)); (case kev1 => (intro w hw e he; have hcx := hw _ _ hf; simp [go_sem, *] at he; exact he)); try walk_nrm
  exact Yonder.there rfl (by rfl) (by decide) (fun w => by simp [go_sem, execOp, rcase, Act.eval, hch, hz, hok]) (fun w => by simp [go_sem, execOp, Act.eval]) hh
theorem serve107 (p r : Nat) (c : Frame) (cs : List Frame) (ok e0 : Bool) (w : World) (h2 : w.cell? ⟨p, 2, none⟩ = some (.bool e0)) (hz2 : w.frozen? ⟨p, 2, none⟩ = false) (hfr : Free V ⟨p, 2, none⟩) :
    Walk Try.prog main (DR V) (fun g w' => g = G (c.finish (.tuple #[])) cs ∧ ∃ d, w' = ((w.alloc (.cells #[] 46)).setCell ⟨p, 2, none⟩ (.bool (!ok))).at d) (Go.Conc.served (rec107 p r (c :: cs)) (recvd true (.agg #[]) ok)) w := by
  unfold rec107
  rw [served_fr, Frame.finish_at]
  simp only [ops107, rest107, Try.f149, recvd, if_true]
  walk_nrm
  repeat (first | refine Walk.cx ?_ | refine Walk.cR ?_ | (refine Walk.oq ?_; try walk_nrm) | (refine Walk.un ?_; walk_nrm))
  (refine Walk.oa ?_; try walk_nrm)
  have h2' := cell_alloc w (.cells #[] 46) h2
  have hz2' := frozen_alloc w (.cells #[] 46) h2 hz2
  repeat (first | refine Walk.cx ?_ | refine Walk.cR ?_ | (refine Walk.oq ?_; try walk_nrm) | (refine Walk.un ?_; walk_nrm))
  (refine Walk.os hfr h2' ?_; try walk_nrm)
  repeat (first | refine Walk.cx ?_ | refine Walk.cR ?_ | (refine Walk.oq ?_; try walk_nrm) | (refine Walk.un ?_; walk_nrm))
  exact Walk.ctl rfl (fun w => stepG_leave rfl rfl Try.func149 (results_none rfl _ _ w) (events_results_none rfl _ _)) (.stop fun d => ⟨rfl, d, rfl⟩)
end
section
variable {main : Bool} {V : Nat → Option Wait}
noncomputable def ops82 : Array Oper := match Try.f141.body with | some (.seq (.region _ ops _) _) => ops | _ => #[]
noncomputable def rest82 : Code := match Try.f141.body with | some (.seq _ c) => c | _ => .skip
noncomputable def body82 : Code := match rest82 with | .block _ (.loop c) => c | _ => .skip
noncomputable def ops82w : Array Oper := match body82 with | .seq _ (.block _ (.region _ ops _)) => ops | _ => #[]
noncomputable def rec82 (p t : Nat) (cs : List Frame) : Goroutine :=
  G ((base 141).at { tmps := #[.pointer (some ⟨p, 0, none⟩), undef, .pointer (some ⟨p, 0, none⟩), .pointer (some ⟨p, 0, none⟩), .pointer (some ⟨p, 0, none⟩), .chan (some t), undef, undef, undef, undef, undef, undef, undef], defers := [] } [.inRegion ops82 [4], .code rest82]) cs
noncomputable def rec82a (p t : Nat) (cs : List Frame) : Goroutine :=
  G ((base 141).at { tmps := #[.pointer (some ⟨p, 0, none⟩), undef, .pointer (some ⟨p, 0, none⟩), .pointer (some ⟨p, 0, none⟩), .pointer (some ⟨p, 0, none⟩), .chan (some t), undef, undef, undef, undef, undef, undef, undef], defers := [] } [.inRegion ops82 [], .code rest82]) cs
noncomputable def fr82 (p t : Nat) : Frame :=
  (base 141).at { tmps := #[.pointer (some ⟨p, 0, none⟩), undef, .pointer (some ⟨p, 0, none⟩), .pointer (some ⟨p, 0, none⟩), .pointer (some ⟨p, 0, none⟩), .chan (some t), .pointer (some ⟨p, 0, none⟩), .pointer (some ⟨p, 0, none⟩), .pointer (some ⟨p, 2, none⟩), .bool false, .bool true, .pointer (some ⟨p, 0, none⟩), undef], defers := [] } [.inRegion ops82w [1], .inBlock 1, .inLoop body82, .inBlock 0]
theorem end1_in (p t : Nat) (cs : List Frame) (w : World) (h0 : w.cell? ⟨p, 0, none⟩ = some (.chan (some t))) :
    Walk Try.prog main (DR V) (fun g w' => g = rec82 p t cs ∧ ∃ d, w' = w.at d) (G (Frame.enter Try.prog 141 #[.pointer (some ⟨p, 0, none⟩)] .normal) cs) w := by
  rw [enter_at _ Try.func141 rfl]
  simp only [Try.f141, ez, Nat.reduceAdd, Nat.reduceSub]
  repeat (first | refine Walk.cx ?_ | refine Walk.cR ?_ | (refine Walk.oq ?_; try walk_nrm) | (refine Walk.un ?_; walk_nrm))
  refine .stop fun d => ⟨?_, d, rfl⟩
  simp only [rec82, ops82, rest82, Try.f141]
theorem close82 (p t : Nat) (cs : List Frame) (w : World) (k : Nat) (hc : w.heap[t]? = some (.chan 0 #[] false k k false)) :
    stepG Try.prog main (rec82 p t cs) w = .go (rec82a p t cs) (w.setChan t 0 #[] true k k false) (closeEvents t) := by
  unfold rec82 rec82a
  simp only [ops82, rest82, Try.f141]
  rw [stepG_close (c := t) (cap := 0) (buf := #[]) (s := k) (r := k) (tm := false) rfl (by rfl) (by decide) rfl rfl hc (by kernel_rfl)]
  rfl
theorem wake82 (p t : Nat) (cs : List Frame) : mayWake Try.prog (rec82 p t cs) = true := by
  unfold rec82
  simp only [ops82, rest82, Try.f141]
  rfl
theorem end1_way (p t r : Nat) (cs : List Frame) (v : Wait) (hch : v.ch = r) (hz : v.z = .agg #[]) (hok : v.ok = true) (hf : v.f ⟨p, 1, none⟩ = some (.chan (some r))) (hf2 : v.f ⟨p, 2, none⟩ = some (.bool false)) (hh : v.home (rec107 p r (fr82 p t :: cs))) :
    Yonder Try.prog main v (rec82a p t cs) := by
  unfold rec82a
  simp only [ops82, rest82, Try.f141]
  iterate 2 (try (first | refine Yonder.c rfl ?_ | refine Yonder.cR ?_ | refine Yonder.cE ?_ | refine Yonder.cT ?_ | (refine Yonder.oq ?_; try walk_nrm)))
  refine Yonder.ctl rfl (fun w => stepG_loop) ?_
  iterate 6 (try (first | refine Yonder.c rfl ?_ | refine Yonder.cR ?_ | refine Yonder.cE ?_ | refine Yonder.cT ?_ | (refine Yonder.oq ?_; try walk_nrm)))
  co_applyP Yonder.ld _ hf2 rfl (by rfl) (by decide) ?krun1 ?kev1 ?krest1; (case krun1 => (intro w hw K hK; have hcx := hw _ _ hf2; go_simp; exact hK)); (case kev1 => (intro w hw e he; have hcx := hw _ _ hf2; simp [go_sem, *] at he; exact he)); try walk_nrm
  iterate 8 (try (first | refine Yonder.c rfl ?_ | refine Yonder.cR ?_ | refine Yonder.cE ?_ | refine Yonder.cT ?_ | (refine Yonder.oq ?_; try walk_nrm)))
  refine Yonder.callE rfl (by rfl) (by decide) rfl Try.func149 (by kernel_rfl) (by rfl) ?_
  walk_nrm
  refine way107 p r _ v hch hz hok hf ?_
  simp only [fr82, ops82w, body82, rest82, Try.f141] at hh
  exact hh
theorem end1_back (p t r : Nat) (c : Frame) (cs : List Frame) (e0 : Bool) (w : World) (h2 : w.cell? ⟨p, 2, none⟩ = some (.bool e0)) (hz2 : w.frozen? ⟨p, 2, none⟩ = false) (hfr : Free V ⟨p, 2, none⟩) :
    Walk Try.prog main (DR V) (fun g w' => g = G (c.finish (.tuple #[])) cs ∧ ∃ d, w' = ((w.alloc (.cells #[] 46)).setCell ⟨p, 2, none⟩ (.bool true)).at d) (Go.Conc.served (rec107 p r (fr82 p t :: c :: cs)) (recvd true (.agg #[]) false)) w := by
  refine (serve107 p r (fr82 p t) (c :: cs) false e0 w h2 hz2 hfr).then ?_
  rintro g w' ⟨rfl, d, rfl⟩
  refine Walk.back ?_ d
  have g2 := World.cell?_setCell_same (w.alloc (.cells #[] 46)) ⟨p, 2, none⟩ (.bool true) (cell_alloc w (.cells #[] 46) h2)
  simp only [Bool.not_false]
  unfold fr82
  rw [Frame.finish_at]
  simp only [ops82w, body82, rest82, Try.f141]
  walk_nrm
  repeat (first | refine Walk.cx ?_ | refine Walk.cR ?_ | (refine Walk.oq ?_; try walk_nrm) | (refine Walk.un ?_; walk_nrm))
  refine Walk.ctl rfl (fun w => stepG_inLoop) ?_
  repeat (first | refine Walk.cx ?_ | refine Walk.cR ?_ | (refine Walk.oq ?_; try walk_nrm) | (refine Walk.un ?_; walk_nrm))
  exact Walk.ctl rfl (fun w => stepG_leave rfl rfl Try.func141 (results_none rfl _ _ w) (events_results_none rfl _ _)) (.stop fun d => ⟨rfl, d, rfl⟩)
end
end Go.Proofs.Ytgfajibjedfkdaa
