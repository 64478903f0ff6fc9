/- Part 16. -/
import Derived.Test.YtdcjgmlgmjjogaaJ6
import Derived.Test.YtdcjgmlgmjjogaaJ13
import Derived.Test.YtdcjgmlgmjjogaaJ15
set_option linter.unusedSimpArgs false
set_option linter.unusedVariables false
set_option maxHeartbeats 8000000
set_option maxRecDepth 100000
namespace Go.Proofs.Ytdcjgmlgmjjogaa
open Go.Conc Go.RowKit Go.Relay
open Go.ConcN (upd upd_ne upd_same)
section
structure Abs (X : Type) where
 n : Nat
 most : Int
 born : X → Nat → X
 next : X → Nat → X
 out : X → Nat → Option Bool
section
variable {X : Type}
def goingA (C : Abs X) (x : X) : Nat := (List.range C.n).countP (fun i => (C.out x i).isNone)
def overA (C : Abs X) (st : X × List Nat) : Bool := decide (goingA C st.1 = 0) || decide (C.most ≤ st.2.length)
def stepA (C : Abs X) (st : X × List Nat) (z : Int) : X × List Nat :=
 if overA C st = false ∧ 0 ≤ z ∧ z < C.n ∧ C.out st.1 z.toNat = none then (C.next st.1 z.toNat, st.2 ++ [z.toNat]) else st
def roundA (C : Abs X) (st : X × List Nat) : X × List Nat := (List.range C.n).foldl (fun st i => stepA C st (i : Nat)) st
def restA (C : Abs X) : Nat → X × List Nat → X × List Nat
 | 0, st => st
 | f + 1, st => if overA C st then st else restA C f (roundA C st)
def followA (C : Abs X) (st : X × List Nat) (l : List Int) : X × List Nat := restA C C.most.toNat (l.foldl (stepA C) st)
def bornsA (C : Abs X) : Nat → Nat → X → X
 | 0, _, x => x
 | n + 1, k, x => bornsA C n (k + 1) (C.born x k)
def runA (C : Abs X) (x0 : X) (l : List Int) : X × List Nat := followA C (bornsA C C.n 0 x0, []) l
def absOf {S : Stile} (C : Crew S X) : Abs X := ⟨S.n, S.most, C.born, C.next, C.out⟩
theorem rest_abs {S : Stile} (C : Crew S X) : ∀ (f : Nat) (st : X × List Nat), restX C f st = restA (absOf C) f st
 | 0, _ => rfl
 | f + 1, st => by
  unfold restX restA
  rw [rest_abs C f]
  rfl
theorem born_abs {S : Stile} (C : Crew S X) : ∀ (n k : Nat) (x : X), bornAll C n k x = bornsA (absOf C) n k x
 | 0, _, _ => rfl
 | n + 1, k, x => by
  unfold bornAll bornsA
  exact born_abs C n (k + 1) _
theorem follow_abs {S : Stile} (C : Crew S X) (st : X × List Nat) (l : List Int) : followX C st l = followA (absOf C) st l := by
 unfold followX followA
 rw [rest_abs]
 rfl
end
def absO (L : La) (n : Nat) (most : Int) (ops : Nat → List OpV) : Abs (OX L) := ⟨n, most, bornO ops, nextO, OX.out⟩
def x0O (L : La) (s0 : L.Sg) : OX L := ⟨s0, fun _ => t0 L, fun _ => none, 0⟩
def playO (L : La) (s0 : L.Sg) (ops : Nat → List OpV) (n : Nat) (most : Int) (sl : List Int) : OX L × List Nat := runA (absO L n (min (max most 0) 1048576) ops) (x0O L s0) sl
def stuckO {L : La} (n : Nat) (x : OX L) : Bool := decide (0 < (List.range n).countP (fun i => (x.out i).isNone))
structure OpsOut (L : La) (s0 : L.Sg) (ops : Nat → List OpV) (n : Nat) (most : Int) (sl : List Int) (w w' : World) (cells : Array Value) : Prop where
 all : ∃ (A : Nat) (oo : Option Addr) (ok : Nat) (hd : Nat → Value) (arr : Array Value),
  cells = #[.slice (some ⟨A, 0, none⟩) n n, .slice oo (playO L s0 ops n most sl).2.length ok, .slice none 0 0, .bool (stuckO n (playO L s0 ops n most sl).1)] ∧
  w'.ownsRow w.heap.size 3 1 (.slice oo (playO L s0 ops n most sl).2.length ok) (playO L s0 ops n most sl).2.length ((playO L s0 ops n most sl).2.map fun i => .int .i64 (i : Nat)) ∧
  w.heap.size ≤ A ∧ w'.heap[A]? = some (.cells arr 49) ∧ (∀ i, i < n → arr[i]? = some (hd i)) ∧
  (∀ i, i < n → ∃ ta tc, hd i = .slice ta (((playO L s0 ops n most sl).1.th i).ans).length tc ∧ w'.ownsRow w.heap.size 51 3 (hd i) (((playO L s0 ops n most sl).1.th i).ans).length (ansRow (((playO L s0 ops n most sl).1.th i).ans)))
 I : L.I (playO L s0 ops n most sl).1.s w'
 old : ∀ b, b < w.heap.size → ¬ L.sh b → w'.heap[b]? = w.heap[b]?
 size : w.heap.size ≤ w'.heap.size
theorem row_raise {w : World} {base base' : Nat} {e : TypeId} {size : Nat} {v : Value} {n : Nat} {xs : List Value} (h : w.ownsRow base e size v n xs) (hb : ∀ g, v.ownBlock = some g → base' ≤ g) : w.ownsRow base' e size v n xs := by
 refine ⟨h.1, ?_⟩
 rcases h.2 with z | ⟨g, cap, cur, h0, h1, h2⟩
 ·exact .inl z
 ·exact .inr ⟨g, cap, cur, h0, hb g (by rw [h0]; rfl), h2⟩
section
variable {L : La} {fdo : FuncId} {first cap : Array Value}
theorem ops_run (hD : DoFn L fdo first cap) (s0 : L.Sg) (tv : Value) (most : Int) (tb toff tc n : Nat) (hn1 : 1 ≤ n) (hn : n ≤ 64) (oa : Nat → Option Addr) (ln oc : Nat → Nat) (ops : Nat → List OpV) (sa : Option Addr) (sc : Nat) (sl : List Int) (hsl : sl.length ≤ 17592186044416) (c : Frame) (cs : List Frame) (w : World)
  (I : OpsIn tb toff n oa ln oc ops w) (hI : L.I s0 w) (hns : ∀ i, i < n → ∀ (j : Nat) (o : OpV), (ops i)[j]? = some o → ∀ b off, oa i = some ⟨b, off, none⟩ → ¬ L.sh b)
  (hsc : ∀ (j : Nat) (z : Int), sl[j]? = some z → ∃ s so, sa = some ⟨s, so, none⟩ ∧ w.cell? ⟨s, so + j, none⟩ = some (.int .i64 z) ∧ ¬ L.sh s)
  (hp : ∀ w' : World, (∀ b, b < w.heap.size → w'.heap[b]? = w.heap[b]?) → CallV Try.prog true (fun _ => none) 80 #[tv] w' (.slice (some ⟨tb, toff, none⟩) n tc) w') :
  Runs (fun g w' => ∃ cells, OpsOut L s0 ops n most sl w w' cells ∧ g = G (c.finish (.agg cells)) cs) (G (Frame.enter Try.prog 29 #[tv, .func (.func fdo) first cap, .slice sa sl.length sc, .int .i64 most] .normal) (c :: cs)) w := by
 have hA : ∀ b, Apart (fun _ => none) b := fun b => ⟨fun _ _ _ _ h => (by cases h), fun _ _ h => (by cases h)⟩
 refine Runs.walk (ops_in fdo first cap tv (.slice sa sl.length sc) most (some ⟨tb, toff, none⟩) tb toff tc n (fun _ => rfl) hn oa ln oc ops c cs w I (fun b _ => hA b) hp) ?_
 rintro _ w2 ⟨fr, w1, rfl, o1, s1, hT, M, hB⟩
 have hshw : ∀ b, L.sh b → b < w.heap.size := fun b h => L.lt hI h
 have s2 : w2.heap.size = w.heap.size + 1 + 4 + 2 * n := M.size
 have o2 : ∀ b, b < w.heap.size → w2.heap[b]? = w.heap[b]? := fun b hb => (M.old b (by omega)).trans (o1 b hb)
 have hc2 : ∀ {b j : Nat} {v : Value}, w.cell? ⟨b, j, none⟩ = some v → w2.cell? ⟨b, j, none⟩ = some v := fun {b j v} h => (World.cell?_of_block (a := ⟨b, j, none⟩) (o2 b (cell_lt' h))).trans h
 have hI2 : L.I s0 w2 := L.stable hI fun b h => o2 b (hshw b h)
 let g : OG := ⟨n, w2, w.heap.size + 1 + 1, ops⟩
 let Q : Given := ⟨0, n, w.heap.size + 4, n, most, fun i => thrO (w.heap.size + 1) i, sa, sc, sl⟩
 obtain ⟨farr, hF1, hF2, hF3⟩ := M.cF
 have hfree : ∀ b, w.heap.size ≤ b → ¬ L.sh b := fun b hb h => by have := hshw b h; omega
 refine Runs.then (over_run (fun S => crewO L g hD S) (x0O L s0) Q (.slice (some ⟨w.heap.size + 4, 0, none⟩) n n) w2 hn1 hn hsl (fun _ => rfl) (by
   have := first_some (main := true) (V := fun _ => none) (w.heap.size + 4) n n w2 (Nat.le_refl _)
   rw [Nat.min_eq_left hn] at this
   exact this) (fun g0 sb scap sts => ⟨fun _ => [], ?_, fun _ => none, fun _ => .slice none 0 0, ?_⟩) fr (c :: cs)) ?_
 ·intro i hi
  refine ⟨w.heap.size + 1 + 5 + 2 * i, w.heap.size + 1 + 2, w.heap.size + 1 + 4 + 2 * i, w.heap.size + 1, n, oa i, oc i, ⟨hi, hn, by rw [show g.ops i = ops i from rfl, I.len i hi]; omega, ?_, (cell_of M.cA 0).trans rfl, (cell_of (M.cI i hi) 0).trans rfl, (cell_of M.cD 0).trans rfl, ⟨hfree _ (by omega), show _ ≠ w.heap.size + 1 + 1 by omega⟩, ⟨hfree _ (by omega), show _ ≠ w.heap.size + 1 + 1 by omega⟩, ⟨hfree _ (by omega), show _ ≠ w.heap.size + 1 + 1 by omega⟩, ⟨hfree _ (by omega), show _ ≠ w.heap.size + 1 + 1 by omega⟩, fun j o ho => ?_⟩, rfl⟩
  ·rw [show (g.ops i).length = min (ln i) 65536 from I.len i hi]
   exact (cell_of (M.cO i hi) 0).trans rfl
  ·obtain ⟨b, off, e, c0, c1, c2, c3⟩ := I.ops i hi j o ho
   exact ⟨b, off, e, hns i hi j o ho b off e, show b ≠ w.heap.size + 1 + 1 by have := cell_lt' c0; omega, hc2 c0, hc2 c1, hc2 c2, hc2 c3⟩
 ·refine ⟨⟨rfl, fun b h => ⟨by have := hshw b h; show b < w2.heap.size; omega, show b ≠ w.heap.size + 1 + 1 by have := hshw b h; omega⟩, show w.heap.size + 1 + 1 < w2.heap.size by omega, ⟨hfree _ (show w.heap.size ≤ w.heap.size + 4 by omega), show w.heap.size + 4 ≠ w.heap.size + 1 + 1 by omega⟩, fun i hi => ?_, fun j z hz => ?_⟩, Nat.zero_le _, Nat.le_refl _, fun _ _ => rfl, fun _ _ _ _ => rfl, fun _ _ h => (by cases h), hI2, ⟨_, M.cN, fun i hi => madeCells_get _ n i hi⟩, fun i hi => ⟨none, 0, rfl, ⟨rfl, .inl ⟨rfl, rfl⟩⟩⟩, fun i hi b h => (by simp [Value.ownBlock] at h), fun i hi => absurd hi (Nat.not_lt_zero _), fun _ _ _ => rfl⟩
  ·exact (cell_of hF1 i).trans (hF3 i hi)
  ·obtain ⟨s, so, e, hc, h1⟩ := hsc j z hz
   exact ⟨s, so, e, hc2 hc, h1, show s ≠ w.heap.size + 1 + 1 by have := cell_lt' hc; omega⟩
 ·rintro _ w4 ⟨_, ⟨g0, sb, scap, sts, x, ord, oa', oc', q, k, own, csx, hx, hov, rfl, ⟨hThr, pr, hd, P⟩, hrow, hrb, hq, hqs, hsz, _⟩, rfl⟩
  have hT4 : w4.heap[w.heap.size]? = some (.cells #[.slice none 0 0, .slice none 0 0, .slice none 0 0, .bool false] 29) := (P.old _ (show w.heap.size < w2.heap.size by omega) (hfree _ (Nat.le_refl _)) (show w.heap.size ≠ w.heap.size + 1 + 1 by omega)).trans ((M.old _ (by omega)).trans hT)
  have hp : (x, ord) = playO L s0 ops n most sl := by
   rw [hx, follow_abs, born_abs]
   rfl
  have hg : decide (0 < goingX (crewO L g hD (stile (Q.at g0) w2.heap.size sb scap sts)) x) = stuckO n x := rfl
  refine Runs.walk (hB oa' ord.length oc' _ _ w4 hT4 (hA _)) ?_
  rintro _ _ ⟨rfl, d, rfl⟩
  obtain ⟨arr, hAr, hAi⟩ := P.an
  have hset : ∀ b, b ≠ w.heap.size → (w4.setRow w.heap.size #[.slice (some ⟨w.heap.size + 2, 0, none⟩) n n, .slice oa' ord.length oc', .slice none 0 0, .bool (stuckO n x)]).heap[b]? = w4.heap[b]? := fun b hb => setRow_other _ _ hb
  have hle : w2.heap.size ≤ w4.heap.size := P.size
  refine .now ⟨_, ⟨⟨w.heap.size + 2, oa', oc', hd, arr, ?_, ?_, by omega, ?_, hAi, fun i hi => ?_⟩, ?_, fun b hb hs => ?_, ?_⟩, rfl⟩
  ·rw [← hp, hg]
  ·rw [← hp]
   refine row_same (row_raise hrow fun b hb => ?_) fun b hb => hset b ?_
   ·have := hrow.lt b hb; omega
   ·have := hrow.lt b hb; omega
  ·exact (hset _ (by omega)).trans hAr
  ·rw [← hp]
   obtain ⟨ta, tc', e, hr⟩ := P.row i hi
   refine ⟨ta, tc', e, row_same (row_raise hr fun b hb => ?_) fun b hb => hset b ?_⟩
   ·have := (hr.lt b hb).1; have h2 : w2.heap.size ≤ b := this; omega
   ·have := (hr.lt b hb).1; have h2 : w2.heap.size ≤ b := this; omega
  ·rw [← hp]
   exact L.stable P.I fun b h => hset b (by have := hshw b h; omega)
  ·exact (hset b (by omega)).trans ((P.old b (show b < w2.heap.size by omega) hs (show b ≠ w.heap.size + 1 + 1 by omega)).trans (o2 b hb))
  ·show w.heap.size ≤ (w4.setRow _ _).heap.size
   rw [setRow_size]; omega
end
end
section
variable {main : Bool} {V : Nat → Option Wait}
theorem undAtomic : Try.prog.underlying 190 = some (.pointer 41) := by kernel_rfl
noncomputable def rowLoadB : Bool := match Try.prog.info? 190 with
 | some ti => (match ti.methods.find? (·.name == "Load") with
  | some m => m.path.isEmpty && (m.func == some (152, true))
  | none => false)
 | none => false
theorem rowLoad : ∃ ti m, Try.prog.info? 190 = some ti ∧ ti.methods.find? (·.name == "Load") = some m ∧ m.path = #[] ∧ m.func = some (152, true) := by
 have h : rowLoadB = true := by kernel_rfl
 unfold rowLoadB at h
 revert h
 cases h1 : Try.prog.info? 190 with
 | none => simp
 | some ti =>
  simp only []
  cases h2 : ti.methods.find? (·.name == "Load") with
  | none => simp
  | some m =>
   simp only [Bool.and_eq_true, Array.isEmpty_iff, beq_iff_eq]
   exact fun h => ⟨ti, m, rfl, h2, h.1, h.2⟩
theorem method_load (p q : Nat) (w : World) (es : Array Event) : (method (Try.prog.types.size + Made.depth) 190 (.pointer (some ⟨p, q, none⟩)) "Load").run Try.prog w = .ok (152, .pointer (some ⟨p, q, none⟩)) w ∧ (method (Try.prog.types.size + Made.depth) 190 (.pointer (some ⟨p, q, none⟩)) "Load").events Try.prog w es = es := by
 obtain ⟨ti, m, h1, h2, h3, h4⟩ := rowLoad
 obtain ⟨k, hk⟩ : ∃ k, Try.prog.types.size + Made.depth = k + 1 := ⟨Try.prog.types.size + (Made.depth - 1), by have : 1 ≤ Made.depth := by decide
                                                                                                               omega⟩
 rw [hk]
 unfold method
 refine ⟨?_, ?_⟩
 ·simp [typeInfo, h1, h2, h3, h4, follow, receiverAt, run_underlying undAtomic, Place.get]
 ·simp [typeInfo, h1, h2, h3, h4, follow, receiverAt, run_underlying undAtomic, Place.get]
section
variable {Stop : Goroutine → World → Prop} {w : World} {b : Frame} {a : Act} {k : List Item} {cs : List Frame} {ops : Array Oper} {i : Nat} {rest : List Nat} {o : Oper}
theorem stepG_invokeLoad {x : Operand} {ats : Array TypeId} (p q : Nat) (ho : ops[i]? = some o) (hw : Region.wanted o (yielded ops a.tmps) = true) (hk : b.kind ≠ .early) (hop : o.op = .call { callee := .invoke x "Load", args := #[], argTypes := ats }) (hx : a.eval x = .iface 190 (.pointer (some ⟨p, q, none⟩))) :
  stepG Try.prog main (G (b.at a (.inRegion ops (i :: rest) :: k)) cs) w = .go (G (Frame.enter Try.prog 152 #[.pointer (some ⟨p, q, none⟩)] .normal) (b.at a (.inRegion ops (i :: rest) :: k) :: cs)) w := by
 have h1 : ¬ Try.f152.name = "runtime.NumGoroutine" := by decide
 have h2 : ¬ Try.f152.body = none := by simp [Try.f152]
 have hm := method_load p q w #[]
 rw [show Try.prog.types.size = 248 from by kernel_rfl] at hm
 have hr : (execOp a.eval o).run Try.prog w = .ok (.enter 152 #[.pointer (some ⟨p, q, none⟩)]) w := by
  unfold execOp
  simp [hop, resolve, invoke, callMethod, callFunc, hm.1, Try.func152, h1, h2, hx]
 have he : (execOp a.eval o).events Try.prog w #[] = #[] := by
  unfold execOp
  simp [hop, resolve, invoke, callMethod, callFunc, hm.1, hm.2, Try.func152, h1, h2, hx]
 rw [stepG_enter ho hw hk hr]
 have : listed Try.prog b.fn a o w = #[] := by unfold listed; rw [he]; exact seen_none Try.prog _
 rw [this]
theorem Walk.invokeLoad {x : Operand} {ats : Array TypeId} (p q : Nat) (ho : ops[i]? = some o) (hw : Region.wanted o (yielded ops a.tmps) = true) (hk : b.kind ≠ .early) (hop : o.op = .call { callee := .invoke x "Load", args := #[], argTypes := ats }) (hx : a.eval x = .iface 190 (.pointer (some ⟨p, q, none⟩)))
  (h : Walk Try.prog main (DR V) Stop (G (Frame.enter Try.prog 152 #[.pointer (some ⟨p, q, none⟩)] .normal) (b.at a (.inRegion ops (i :: rest) :: k) :: cs)) w) : Walk Try.prog main (DR V) Stop (G (b.at a (.inRegion ops (i :: rest) :: k)) cs) w :=
 Walk.ctl rfl (fun _ => stepG_invokeLoad p q ho hw hk hop hx) h
end
section
variable {P : Program}
theorem eqIn_ptr (d : Nat) (t : TypeId) (q : Option Addr) (w : World) (es : Array Event) {e} (hu : P.underlying t = some (.pointer e)) : (Op.equalIn (d + 1) t (.pointer q) (.pointer none)).run P w = .ok q.isNone w ∧ (Op.equalIn (d + 1) t (.pointer q) (.pointer none)).events P w es = es := by
 cases q <;> simp [Op.equalIn, run_underlying hu]
theorem run_eql_ptr (t : TypeId) {e} (hu : P.underlying t = some (.pointer e)) (q : Option Addr) (w : World) : (binOp .eql t (.pointer q) (.pointer none)).run P w = .ok (.bool q.isNone) w := by
 simp only [binOp]
 simp [Op.equal, Op.maxDepth, (eqIn_ptr 9999 t q w #[] hu).1]
theorem ev_eql_ptr (t : TypeId) {e} (hu : P.underlying t = some (.pointer e)) (q : Option Addr) (w : World) (es : Array Event) : (binOp .eql t (.pointer q) (.pointer none)).events P w es = es := by
 simp only [binOp]
 simp [Op.equal, Op.maxDepth, (eqIn_ptr 9999 t q w #[] hu).1, (eqIn_ptr 9999 t q w es hu).2]
end
section
theorem run_ifaceAtomic (a : Option Addr) (w : World) : (Instr.makeInterface 190 (.pointer a)).run Try.prog w = .ok (.iface 190 (.pointer a)) w := by simp [Instr.makeInterface, run_underlying undAtomic]
theorem ev_ifaceAtomic (a : Option Addr) (w : World) (es : Array Event) : (Instr.makeInterface 190 (.pointer a)).events Try.prog w es = es := by simp [Instr.makeInterface, run_underlying undAtomic]
theorem undWord : Try.prog.underlying 171 = some (.pointer 43) := by kernel_rfl
end
end
section
def runN (L : La) : Nat → L.Sg × (Ans ⊕ L.D) → Option (L.Sg × Ans)
 | _, (s, .inl a) => some (s, a)
 | 0, (_, .inr _) => none
 | n + 1, (s, .inr d) => runN L n (L.act s d)
theorem runN_inl (L : La) (n : Nat) (s : L.Sg) (a : Ans) : runN L n (s, .inl a) = some (s, a) := by cases n <;> rfl
theorem undStepperN : ∃ ms, Try.prog.underlying 69 = some (.interface ms) := by
 have h : (match Try.prog.underlying 69 with | some (.interface _) => true | _ => false) = true := by kernel_rfl
 revert h
 cases Try.prog.underlying 69 with
 | none => simp
 | some d =>
  cases d with
  | interface fs => exact fun _ => ⟨fs, rfl⟩
  | _ => simp
structure NilE (L : La) (base : World) (R : L.Sg × Ans) where
 w : World
 s : L.Sg
 tgt : L.Sg × (Ans ⊕ L.D)
 fuel : Nat
 inv : L.I s w
 size : base.heap.size ≤ w.heap.size
 old : ∀ b, b < base.heap.size → ¬ L.sh b → w.heap[b]? = base.heap[b]?
 run : runN L fuel tgt = some R
section
variable {L : La} {main : Bool} {V : Nat → Option Wait} {Stop : Goroutine → World → Prop} {cs : List Frame} {base : World} {R : L.Sg × Ans}
def nilB (main : Bool) (V : Nat → Option Wait) (Stop : Goroutine → World → Prop) (cs : List Frame) (base : World) (R : L.Sg × Ans) : Lb L where
 main := main
 E := NilE L base R
 V := fun _ => V
 Stop := fun _ => Stop
 bot := fun _ => cs
 w := fun e => e.w
 s := fun e => e.s
 tgt := fun e => e.tgt
 fuel := fun e => e.fuel
 mine := fun e b => base.heap.size ≤ b ∧ b < e.w.heap.size
theorem nil_step (e : NilE L base R) (d : L.D) (ht : e.tgt = (e.s, .inr d)) (fr : Frame) (l : List Frame) (hk : ∀ e' : NilE L base R, Aft (nilB main V Stop cs base R) e d e' → LW (nilB main V Stop cs base R) e' (G (fr.finish (.tuple #[])) (l ++ cs))) :
  LW (nilB main V Stop cs base R) e (G (Frame.enter Try.prog 96 #[.nilIface] .normal) (fr :: (l ++ cs))) := by
 obtain ⟨ms, hu⟩ := undStepperN
 have hn1 := fun w => run_neq_nilIface (P := Try.prog) (w := w) 69 hu
 have hn2 := fun w es => ev_neq_nilIface (P := Try.prog) (w := w) 69 es hu
 obtain ⟨n, hn, hr⟩ : ∃ n, e.fuel = n + 1 ∧ runN L n (L.act e.s d) = some R := by
  have h := e.run
  rw [ht] at h
  cases hf : e.fuel with
  | zero => rw [hf] at h; cases h
  | succ n => rw [hf] at h; exact ⟨n, rfl, h⟩
 have hh := hk { w := e.w, s := e.s, tgt := L.act e.s d, fuel := n, inv := e.inv, size := e.size, old := e.old, run := hr } ⟨rfl, show n < e.fuel by omega, Nat.le_refl _, fun b h => ⟨h, rfl⟩⟩
 unfold LW at hh ⊢
 show Walk Try.prog main (DR V) Stop _ e.w
 replace hh : Walk Try.prog main (DR V) Stop (G (fr.finish (.tuple #[])) (l ++ cs)) e.w := hh
 rw [enter_at _ Try.func96 code96_is]
 simp only [Try.ntmps96, ez, Nat.reduceAdd, Nat.reduceSub]
 refine Walk.gz z96 ?_
 exact Walk.on0 rfl rfl Try.func96 rfl hh
def nilL (hA : ∀ b, Apart V b) (hsh : ∀ b, L.sh b → b < base.heap.size) (main : Bool) (Stop : Goroutine → World → Prop) (cs : List Frame) (R : L.Sg × Ans) : Lg L .nilIface where
 toLb := nilB main V Stop cs base R
 inv := fun e => e.inv
 shA := fun _ b _ => hA b
 mineA := fun e b h => ⟨hA b, fun hs => by have := hsh b hs; have := h.1; omega, h.2⟩
 newA := fun _ b _ => hA b
 mv := fun e s' w' h1 h2 h3 => ⟨{ w := w', s := s', tgt := e.tgt, fuel := e.fuel, inv := h3, size := Nat.le_trans e.size h1, old := fun b hb hs => (h2 b (Nat.lt_of_lt_of_le hb e.size) (fun hm => by have := hm.1; omega) hs).trans (e.old b hb hs), run := e.run }, rfl, rfl, rfl, rfl, rfl, rfl, rfl, fun b => by
  show (base.heap.size ≤ b ∧ b < w'.heap.size) ↔ ((base.heap.size ≤ b ∧ b < e.w.heap.size) ∨ (e.w.heap.size ≤ b ∧ b < w'.heap.size))
  have := e.size
  have h1 : e.w.heap.size ≤ w'.heap.size := h1
  constructor
  ·rintro ⟨a, b'⟩
   by_cases hb : b < e.w.heap.size
   ·exact .inl ⟨a, hb⟩
   ·exact .inr ⟨by omega, b'⟩
  ·rintro (⟨a, b'⟩ | ⟨a, b'⟩)
   ·exact ⟨a, by omega⟩
   ·exact ⟨by omega, b'⟩⟩
 step := fun e d ht fr l _ _ hk => nil_step e d ht fr l hk
structure Lone (L : La) (w : World) (R : L.Sg × Ans) (w' : World) : Prop where
 I : L.I R.1 w'
 size : w.heap.size ≤ w'.heap.size
 old : ∀ b, b < w.heap.size → ¬ L.sh b → w'.heap[b]? = w.heap[b]?
variable {b : Frame} {a : Act} {k : List Item} {ops : Array Oper} {i : Nat} {rest : List Nat} {o : Oper} {w : World}
end
end
section
theorem undSteps : Try.prog.underlying 46 = some (.pointer 48) := by kernel_rfl
theorem run_ifaceSteps (a : Option Addr) (w : World) : (Instr.makeInterface 46 (.pointer a)).run Try.prog w = .ok (.iface 46 (.pointer a)) w := by simp [Instr.makeInterface, run_underlying undSteps]
theorem ev_ifaceSteps (a : Option Addr) (w : World) (es : Array Event) : (Instr.makeInterface 46 (.pointer a)).events Try.prog w es = es := by simp [Instr.makeInterface, run_underlying undSteps]
noncomputable def rowStepsB : Bool := match Try.prog.info? 46 with
 | some ti => (match ti.methods.find? (·.name == "Step") with
  | some m => m.path.isEmpty && (m.func == some (146, true))
  | none => false)
 | none => false
theorem rowSteps : ∃ ti m, Try.prog.info? 46 = some ti ∧ ti.methods.find? (·.name == "Step") = some m ∧ m.path = #[] ∧ m.func = some (146, true) := by
 have h : rowStepsB = true := by kernel_rfl
 unfold rowStepsB at h
 revert h
 cases h1 : Try.prog.info? 46 with
 | none => simp
 | some ti =>
  simp only []
  cases h2 : ti.methods.find? (·.name == "Step") with
  | none => simp
  | some m =>
   simp only [Bool.and_eq_true, Array.isEmpty_iff, beq_iff_eq]
   exact fun h => ⟨ti, m, rfl, h2, h.1, h.2⟩
theorem method_steps (p : Nat) (w : World) (es : Array Event) : (method (Try.prog.types.size + Made.depth) 46 (.pointer (some ⟨p, 0, none⟩)) "Step").run Try.prog w = .ok (146, .pointer (some ⟨p, 0, none⟩)) w ∧ (method (Try.prog.types.size + Made.depth) 46 (.pointer (some ⟨p, 0, none⟩)) "Step").events Try.prog w es = es := by
 obtain ⟨ti, m, h1, h2, h3, h4⟩ := rowSteps
 obtain ⟨k, hk⟩ : ∃ k, Try.prog.types.size + Made.depth = k + 1 := ⟨Try.prog.types.size + (Made.depth - 1), by have : 1 ≤ Made.depth := by decide
                                                                                                               omega⟩
 rw [hk]
 unfold method
 refine ⟨?_, ?_⟩
 ·simp [typeInfo, h1, h2, h3, h4, follow, receiverAt, run_underlying undSteps, Place.get]
 ·simp [typeInfo, h1, h2, h3, h4, follow, receiverAt, run_underlying undSteps, Place.get]
section
variable {main : Bool} {V : Nat → Option Wait} {Stop : Goroutine → World → Prop} {w : World} {b : Frame} {a : Act} {k : List Item} {cs : List Frame} {ops : Array Oper} {i : Nat} {rest : List Nat} {o : Oper}
theorem stepG_invokeSteps {x : Operand} {ats : Array TypeId} (p : Nat) (ho : ops[i]? = some o) (hw : Region.wanted o (yielded ops a.tmps) = true) (hk : b.kind ≠ .early) (hop : o.op = .call { callee := .invoke x "Step", args := #[], argTypes := ats }) (hx : a.eval x = .iface 46 (.pointer (some ⟨p, 0, none⟩))) :
  stepG Try.prog main (G (b.at a (.inRegion ops (i :: rest) :: k)) cs) w = .go (G (Frame.enter Try.prog 146 #[.pointer (some ⟨p, 0, none⟩)] .normal) (b.at a (.inRegion ops (i :: rest) :: k) :: cs)) w := by
 have h1 : ¬ Try.f146.name = "runtime.NumGoroutine" := by decide
 have h2 : ¬ Try.f146.body = none := by simp [Try.f146]
 have hm := method_steps p w #[]
 rw [show Try.prog.types.size = 248 from by kernel_rfl] at hm
 have hr : (execOp a.eval o).run Try.prog w = .ok (.enter 146 #[.pointer (some ⟨p, 0, none⟩)]) w := by
  unfold execOp
  simp [hop, resolve, invoke, callMethod, callFunc, hm.1, Try.func146, h1, h2, hx]
 have he : (execOp a.eval o).events Try.prog w #[] = #[] := by
  unfold execOp
  simp [hop, resolve, invoke, callMethod, callFunc, hm.1, hm.2, Try.func146, h1, h2, hx]
 rw [stepG_enter ho hw hk hr]
 have : listed Try.prog b.fn a o w = #[] := by unfold listed; rw [he]; exact seen_none Try.prog _
 rw [this]
theorem Walk.invokeSteps {x : Operand} {ats : Array TypeId} (p : Nat) (ho : ops[i]? = some o) (hw : Region.wanted o (yielded ops a.tmps) = true) (hk : b.kind ≠ .early) (hop : o.op = .call { callee := .invoke x "Step", args := #[], argTypes := ats }) (hx : a.eval x = .iface 46 (.pointer (some ⟨p, 0, none⟩)))
  (h : Walk Try.prog main (DR V) Stop (G (Frame.enter Try.prog 146 #[.pointer (some ⟨p, 0, none⟩)] .normal) (b.at a (.inRegion ops (i :: rest) :: k) :: cs)) w) : Walk Try.prog main (DR V) Stop (G (b.at a (.inRegion ops (i :: rest) :: k)) cs) w :=
 Walk.ctl rfl (fun _ => stepG_invokeSteps p ho hw hk hop hx) h
end
noncomputable def reg146_0 := rg Try.f146.body []
theorem z146 : List.range reg146_0.size = [0, 1, 2, 3, 4, 5, 6, 7] := by kernel_rfl
theorem code146_is : Try.f146.body = some (.region 0 reg146_0 false) := by kernel_rfl
section
variable {main : Bool} {V : Nat → Option Wait}
theorem steps_w (p : Nat) (n : Int) (w : World) (hc : w.heap[p]? = some (.cells #[.int .i64 n] 48)) (hz : w.frozen? ⟨p, 0, none⟩ = false) (hn0 : 0 ≤ n) (hn : n < 4611686018427387904) (hf : Apart V p) :
  CallV Try.prog main V 146 #[.pointer (some ⟨p, 0, none⟩)] w (.tuple #[]) (w.setCell ⟨p, 0, none⟩ (.int .i64 (n + 1))) := by
 have hw1 : IntKind.wrap .i64 (n + 1) = n + 1 := by rw [IntKind.wrap_i64]; omega
 have h1 : w.cell? ⟨p, 0, none⟩ = some (.int .i64 n) := (cell_of hc 0).trans rfl
 have hf' : Free V ⟨p, 0, none⟩ := hf.1 _ rfl
 refine callW_in Try.func146 code146_is fun fr cs => ?_
 simp only [Try.ntmps146, ez, Nat.reduceAdd, Nat.reduceSub]
 refine Walk.gz z146 ?_
 (refine Walk.os hf' h1 ?_; try walk_nrm)
 refine Walk.gz z146 ?_
 exact Walk.ret0 rfl rfl Try.func146 rfl fun d => ⟨rfl, d, rfl⟩
end
def lonC (L : La) : Nat → Nat → L.Sg × (Ans ⊕ L.D) → Option (Nat × L.Sg × Ans)
 | _, c, (s, .inl a) => some (c, s, a)
 | 0, _, (_, .inr _) => none
 | n + 1, c, (s, .inr d) => lonC L n (c + 1) (L.act s d)
theorem lonC_inl (L : La) (n c : Nat) (s : L.Sg) (a : Ans) : lonC L n c (s, .inl a) = some (c, s, a) := by cases n <;> rfl
structure CntE (L : La) (base : World) (p : Nat) (R : Nat × L.Sg × Ans) where
 w : World
 s : L.Sg
 tgt : L.Sg × (Ans ⊕ L.D)
 fuel : Nat
 n : Nat
 inv : L.I s w
 size : base.heap.size ≤ w.heap.size
 old : ∀ b, b < base.heap.size → ¬ L.sh b → b ≠ p → w.heap[b]? = base.heap[b]?
 cnt : w.heap[p]? = some (.cells #[.int .i64 n] 48)
 few : n + fuel < 4611686018427387904
 run : lonC L fuel n tgt = some R
section
variable {L : La} {main : Bool} {V : Nat → Option Wait} {Stop : Goroutine → World → Prop} {cs : List Frame} {base : World} {p : Nat} {R : Nat × L.Sg × Ans}
def cntB (main : Bool) (V : Nat → Option Wait) (Stop : Goroutine → World → Prop) (cs : List Frame) (base : World) (p : Nat) (R : Nat × L.Sg × Ans) : Lb L where
 main := main
 E := CntE L base p R
 V := fun _ => V
 Stop := fun _ => Stop
 bot := fun _ => cs
 w := fun e => e.w
 s := fun e => e.s
 tgt := fun e => e.tgt
 fuel := fun e => e.fuel
 mine := fun e b => base.heap.size ≤ b ∧ b < e.w.heap.size
theorem cnt_step (hA : Apart V p) (hp : ¬ L.sh p) (hlo : p < base.heap.size) (e : CntE L base p R) (d : L.D) (ht : e.tgt = (e.s, .inr d)) (fr : Frame) (l : List Frame) (hk : ∀ e' : CntE L base p R, Aft (cntB main V Stop cs base p R) e d e' → LW (cntB main V Stop cs base p R) e' (G (fr.finish (.tuple #[])) (l ++ cs))) :
  LW (cntB main V Stop cs base p R) e (G (Frame.enter Try.prog 96 #[.iface 46 (.pointer (some ⟨p, 0, none⟩))] .normal) (fr :: (l ++ cs))) := by
 obtain ⟨ms, hu⟩ := undStepperN
 have hn1 := fun w => run_neq_iface (P := Try.prog) (w := w) 69 46 (.pointer (some ⟨p, 0, none⟩)) hu
 have hn2 := fun w es => ev_neq_iface (P := Try.prog) (w := w) 69 46 (.pointer (some ⟨p, 0, none⟩)) es hu
 obtain ⟨n, hn, hr⟩ : ∃ n, e.fuel = n + 1 ∧ lonC L n (e.n + 1) (L.act e.s d) = some R := by
  have h := e.run
  rw [ht] at h
  cases hf : e.fuel with
  | zero => rw [hf] at h; cases h
  | succ n => rw [hf] at h; exact ⟨n, rfl, h⟩
 have hz : e.w.frozen? ⟨p, 0, none⟩ = false := frozen_of e.cnt 0
 have hoth : ∀ b, b ≠ p → (e.w.setCell ⟨p, 0, none⟩ (.int .i64 ((e.n : Int) + 1))).heap[b]? = e.w.heap[b]? := fun b hb => by simp [World.setCell, Array.getElem?_modify, Ne.symm hb]
 have hsz : (e.w.setCell ⟨p, 0, none⟩ (.int .i64 ((e.n : Int) + 1))).heap.size = e.w.heap.size := by simp
 have hcn : (e.w.setCell ⟨p, 0, none⟩ (.int .i64 ((e.n : Int) + 1))).heap[p]? = some (.cells #[.int .i64 ((e.n + 1 : Nat) : Int)] 48) := by
  have h := e.cnt
  simp [World.setCell, Array.getElem?_modify, h]
 have hfew := e.few
 have hs0 := e.size
 have hh := hk { w := e.w.setCell ⟨p, 0, none⟩ (.int .i64 ((e.n : Int) + 1)), s := e.s, tgt := L.act e.s d, fuel := n, n := e.n + 1, inv := L.stable e.inv fun b hb => hoth b fun x => hp (x ▸ hb), size := by rw [hsz]; exact e.size, old := fun b h1 h2 h3 => (hoth b h3).trans (e.old b h1 h2 h3), cnt := hcn, few := by omega, run := hr } ⟨rfl, show n < e.fuel by omega, Nat.le_of_eq hsz.symm, fun b h => ⟨⟨h.1, Nat.lt_of_lt_of_eq h.2 hsz.symm⟩, hoth b (fun x => by have := h.1; omega)⟩⟩
 unfold LW at hh ⊢
 show Walk Try.prog main (DR V) Stop _ e.w
 replace hh : Walk Try.prog main (DR V) Stop (G (fr.finish (.tuple #[])) (l ++ cs)) (e.w.setCell ⟨p, 0, none⟩ (.int .i64 ((e.n : Int) + 1))) := hh
 rw [enter_at _ Try.func96 code96_is]
 simp only [Try.ntmps96, ez, Nat.reduceAdd, Nat.reduceSub]
 refine Walk.gz z96 ?_
 refine Walk.invokeSteps p hoA (by rfl) (by decide) rfl rfl ?_
 refine (steps_w p e.n e.w e.cnt hz (by omega) (by omega) hA _ _).then ?_
 rintro g' w' ⟨v', ⟨rfl, dd, rfl⟩, rfl⟩
 refine Walk.back ?_ dd
 refine Walk.finish hoA ?_
 walk_nrm
 refine Walk.gz z96 ?_
 exact Walk.on0 rfl rfl Try.func96 rfl hh
def cntL (hA : ∀ b, Apart V b) (hsh : ∀ b, L.sh b → b < base.heap.size) (hp : ¬ L.sh p) (hlo : p < base.heap.size) (main : Bool) (Stop : Goroutine → World → Prop) (cs : List Frame) (R : Nat × L.Sg × Ans) : Lg L (.iface 46 (.pointer (some ⟨p, 0, none⟩))) where
 toLb := cntB main V Stop cs base p R
 inv := fun e => e.inv
 shA := fun _ b _ => hA b
 mineA := fun e b h => ⟨hA b, fun hs => by have := hsh b hs; have := h.1; omega, h.2⟩
 newA := fun _ b _ => hA b
 mv := fun e s' w' h1 h2 h3 => ⟨{ w := w', s := s', tgt := e.tgt, fuel := e.fuel, n := e.n, inv := h3, size := Nat.le_trans e.size h1, old := fun b hb hs hb' => (h2 b (Nat.lt_of_lt_of_le hb e.size) (fun hm => by have := hm.1; omega) hs).trans (e.old b hb hs hb'), cnt := (h2 p (Nat.lt_of_lt_of_le hlo e.size) (fun hm => by have := hm.1; omega) hp).trans e.cnt, few := e.few, run := e.run }, rfl, rfl, rfl, rfl, rfl, rfl, rfl, fun b => by
  show (base.heap.size ≤ b ∧ b < w'.heap.size) ↔ ((base.heap.size ≤ b ∧ b < e.w.heap.size) ∨ (e.w.heap.size ≤ b ∧ b < w'.heap.size))
  have := e.size
  have h1 : e.w.heap.size ≤ w'.heap.size := h1
  constructor
  ·rintro ⟨a, b'⟩
   by_cases hb : b < e.w.heap.size
   ·exact .inl ⟨a, hb⟩
   ·exact .inr ⟨by omega, b'⟩
  ·rintro (⟨a, b'⟩ | ⟨a, b'⟩)
   ·exact ⟨a, by omega⟩
   ·exact ⟨by omega, b'⟩⟩
 step := fun e d ht fr l _ _ hk => cnt_step (hA p) hp hlo e d ht fr l hk
structure Counted (L : La) (w : World) (p : Nat) (R : Nat × L.Sg × Ans) (w' : World) : Prop where
 I : L.I R.2.1 w'
 size : w.heap.size ≤ w'.heap.size
 old : ∀ b, b < w.heap.size → ¬ L.sh b → b ≠ p → w'.heap[b]? = w.heap[b]?
 cnt : w'.heap[p]? = some (.cells #[.int .i64 R.1] 48)
variable {b : Frame} {a : Act} {k : List Item} {ops : Array Oper} {i : Nat} {rest : List Nat} {o : Oper} {w : World}
end
end
end Go.Proofs.Ytdcjgmlgmjjogaa
