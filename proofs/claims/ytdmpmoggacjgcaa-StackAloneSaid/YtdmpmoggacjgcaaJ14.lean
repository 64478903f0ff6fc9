/- Part 14. -/
import Derived.Test.YtdmpmoggacjgcaaJ4
import Derived.Test.YtdmpmoggacjgcaaJ5
import Derived.Test.YtdmpmoggacjgcaaJ11
import Derived.Test.YtdmpmoggacjgcaaJ13
set_option linter.unusedSimpArgs false
set_option linter.unusedVariables false
set_option maxHeartbeats 8000000
set_option maxRecDepth 100000
namespace Go.Proofs.Ytdmpmoggacjgcaa
open Go.Conc Go.RowKit Go.Relay
open Go.ConcN (upd upd_ne upd_same)
section
structure Abs (X : Type) where
 n : Nat
 most : Int
 born : X → Nat → X
 next : X → Nat → X
 out : X → Nat → Option Bool
section
variable {X : Type}
def goingA (C : Abs X) (x : X) : Nat := (List.range C.n).countP (fun i => (C.out x i).isNone)
def overA (C : Abs X) (st : X × List Nat) : Bool := decide (goingA C st.1 = 0) || decide (C.most ≤ st.2.length)
def stepA (C : Abs X) (st : X × List Nat) (z : Int) : X × List Nat :=
 if overA C st = false ∧ 0 ≤ z ∧ z < C.n ∧ C.out st.1 z.toNat = none then (C.next st.1 z.toNat, st.2 ++ [z.toNat]) else st
def roundA (C : Abs X) (st : X × List Nat) : X × List Nat := (List.range C.n).foldl (fun st i => stepA C st (i : Nat)) st
def restA (C : Abs X) : Nat → X × List Nat → X × List Nat
 | 0, st => st
 | f + 1, st => if overA C st then st else restA C f (roundA C st)
def followA (C : Abs X) (st : X × List Nat) (l : List Int) : X × List Nat := restA C C.most.toNat (l.foldl (stepA C) st)
def bornsA (C : Abs X) : Nat → Nat → X → X
 | 0, _, x => x
 | n + 1, k, x => bornsA C n (k + 1) (C.born x k)
def runA (C : Abs X) (x0 : X) (l : List Int) : X × List Nat := followA C (bornsA C C.n 0 x0, []) l
def absOf {S : Stile} (C : Crew S X) : Abs X := ⟨S.n, S.most, C.born, C.next, C.out⟩
theorem rest_abs {S : Stile} (C : Crew S X) : ∀ (f : Nat) (st : X × List Nat), restX C f st = restA (absOf C) f st
 | 0, _ => rfl
 | f + 1, st => by
  unfold restX restA
  rw [rest_abs C f]
  rfl
theorem born_abs {S : Stile} (C : Crew S X) : ∀ (n k : Nat) (x : X), bornAll C n k x = bornsA (absOf C) n k x
 | 0, _, _ => rfl
 | n + 1, k, x => by
  unfold bornAll bornsA
  exact born_abs C n (k + 1) _
theorem follow_abs {S : Stile} (C : Crew S X) (st : X × List Nat) (l : List Int) : followX C st l = followA (absOf C) st l := by
 unfold followX followA
 rw [rest_abs]
 rfl
end
def absO (L : La) (n : Nat) (most : Int) (ops : Nat → List OpV) : Abs (OX L) := ⟨n, most, bornO ops, nextO, OX.out⟩
def x0O (L : La) (s0 : L.Sg) : OX L := ⟨s0, fun _ => t0 L, fun _ => none, 0⟩
def playO (L : La) (s0 : L.Sg) (ops : Nat → List OpV) (n : Nat) (most : Int) (sl : List Int) : OX L × List Nat := runA (absO L n (min (max most 0) 1048576) ops) (x0O L s0) sl
def stuckO {L : La} (n : Nat) (x : OX L) : Bool := decide (0 < (List.range n).countP (fun i => (x.out i).isNone))
structure OpsOut (L : La) (s0 : L.Sg) (ops : Nat → List OpV) (n : Nat) (most : Int) (sl : List Int) (w w' : World) (cells : Array Value) : Prop where
 all : ∃ (A : Nat) (oo : Option Addr) (ok : Nat) (hd : Nat → Value) (arr : Array Value),
  cells = #[.slice (some ⟨A, 0, none⟩) n n, .slice oo (playO L s0 ops n most sl).2.length ok, .slice none 0 0, .bool (stuckO n (playO L s0 ops n most sl).1)] ∧
  w'.ownsRow w.heap.size 3 1 (.slice oo (playO L s0 ops n most sl).2.length ok) (playO L s0 ops n most sl).2.length ((playO L s0 ops n most sl).2.map fun i => .int .i64 (i : Nat)) ∧
  w.heap.size ≤ A ∧ w'.heap[A]? = some (.cells arr 29) ∧ (∀ i, i < n → arr[i]? = some (hd i)) ∧
  (∀ i, i < n → ∃ ta tc, hd i = .slice ta (((playO L s0 ops n most sl).1.th i).ans).length tc ∧ w'.ownsRow w.heap.size 32 3 (hd i) (((playO L s0 ops n most sl).1.th i).ans).length (ansRow (((playO L s0 ops n most sl).1.th i).ans)))
 I : L.I (playO L s0 ops n most sl).1.s w'
 old : ∀ b, b < w.heap.size → ¬ L.sh b → w'.heap[b]? = w.heap[b]?
 size : w.heap.size ≤ w'.heap.size
theorem row_raise {w : World} {base base' : Nat} {e : TypeId} {size : Nat} {v : Value} {n : Nat} {xs : List Value} (h : w.ownsRow base e size v n xs) (hb : ∀ g, v.ownBlock = some g → base' ≤ g) : w.ownsRow base' e size v n xs := by
 refine ⟨h.1, ?_⟩
 rcases h.2 with z | ⟨g, cap, cur, h0, h1, h2⟩
 ·exact .inl z
 ·exact .inr ⟨g, cap, cur, h0, hb g (by rw [h0]; rfl), h2⟩
section
variable {L : La} {fdo : FuncId} {first cap : Array Value}
theorem ops_run (hD : DoFn L fdo first cap) (s0 : L.Sg) (tv : Value) (most : Int) (tb toff tc n : Nat) (hn1 : 1 ≤ n) (hn : n ≤ 64) (oa : Nat → Option Addr) (ln oc : Nat → Nat) (ops : Nat → List OpV) (sa : Option Addr) (sc : Nat) (sl : List Int) (hsl : sl.length ≤ 17592186044416) (c : Frame) (cs : List Frame) (w : World)
  (I : OpsIn tb toff n oa ln oc ops w) (hI : L.I s0 w) (hns : ∀ i, i < n → ∀ (j : Nat) (o : OpV), (ops i)[j]? = some o → ∀ b off, oa i = some ⟨b, off, none⟩ → ¬ L.sh b)
  (hsc : ∀ (j : Nat) (z : Int), sl[j]? = some z → ∃ s so, sa = some ⟨s, so, none⟩ ∧ w.cell? ⟨s, so + j, none⟩ = some (.int .i64 z) ∧ ¬ L.sh s)
  (hp : ∀ w' : World, (∀ b, b < w.heap.size → w'.heap[b]? = w.heap[b]?) → CallV Try.prog true (fun _ => none) 67 #[tv] w' (.slice (some ⟨tb, toff, none⟩) n tc) w') :
  Runs (fun g w' => ∃ cells, OpsOut L s0 ops n most sl w w' cells ∧ g = G (c.finish (.agg cells)) cs) (G (Frame.enter Try.prog 32 #[tv, .func (.func fdo) first cap, .slice sa sl.length sc, .int .i64 most] .normal) (c :: cs)) w := by
 have hA : ∀ b, Apart (fun _ => none) b := fun b => ⟨fun _ _ _ _ h => (by cases h), fun _ _ h => (by cases h)⟩
 refine Runs.walk (ops_in fdo first cap tv (.slice sa sl.length sc) most (some ⟨tb, toff, none⟩) tb toff tc n (fun _ => rfl) hn oa ln oc ops c cs w I (fun b _ => hA b) hp) ?_
 rintro _ w2 ⟨fr, w1, rfl, o1, s1, hT, M, hB⟩
 have hshw : ∀ b, L.sh b → b < w.heap.size := fun b h => L.lt hI h
 have s2 : w2.heap.size = w.heap.size + 1 + 4 + 2 * n := M.size
 have o2 : ∀ b, b < w.heap.size → w2.heap[b]? = w.heap[b]? := fun b hb => (M.old b (by omega)).trans (o1 b hb)
 have hc2 : ∀ {b j : Nat} {v : Value}, w.cell? ⟨b, j, none⟩ = some v → w2.cell? ⟨b, j, none⟩ = some v := fun {b j v} h => (World.cell?_of_block (a := ⟨b, j, none⟩) (o2 b (cell_lt' h))).trans h
 have hI2 : L.I s0 w2 := L.stable hI fun b h => o2 b (hshw b h)
 let g : OG := ⟨n, w2, w.heap.size + 1 + 1, ops⟩
 let Q : Given := ⟨0, n, w.heap.size + 4, n, most, fun i => thrO (w.heap.size + 1) i, sa, sc, sl⟩
 obtain ⟨farr, hF1, hF2, hF3⟩ := M.cF
 have hfree : ∀ b, w.heap.size ≤ b → ¬ L.sh b := fun b hb h => by have := hshw b h; omega
 refine Runs.then (over_run (fun S => crewO L g hD S) (x0O L s0) Q (.slice (some ⟨w.heap.size + 4, 0, none⟩) n n) w2 hn1 hn hsl (fun _ => rfl) (by
   have := first_some (main := true) (V := fun _ => none) (w.heap.size + 4) n n w2 (Nat.le_refl _)
   rw [Nat.min_eq_left hn] at this
   exact this) (fun g0 sb scap sts => ⟨fun _ => [], ?_, fun _ => none, fun _ => .slice none 0 0, ?_⟩) fr (c :: cs)) ?_
 ·intro i hi
  refine ⟨w.heap.size + 1 + 5 + 2 * i, w.heap.size + 1 + 2, w.heap.size + 1 + 4 + 2 * i, w.heap.size + 1, n, oa i, oc i, ⟨hi, hn, by rw [show g.ops i = ops i from rfl, I.len i hi]; omega, ?_, (cell_of M.cA 0).trans rfl, (cell_of (M.cI i hi) 0).trans rfl, (cell_of M.cD 0).trans rfl, ⟨hfree _ (by omega), show _ ≠ w.heap.size + 1 + 1 by omega⟩, ⟨hfree _ (by omega), show _ ≠ w.heap.size + 1 + 1 by omega⟩, ⟨hfree _ (by omega), show _ ≠ w.heap.size + 1 + 1 by omega⟩, ⟨hfree _ (by omega), show _ ≠ w.heap.size + 1 + 1 by omega⟩, fun j o ho => ?_⟩, rfl⟩
  ·rw [show (g.ops i).length = min (ln i) 65536 from I.len i hi]
   exact (cell_of (M.cO i hi) 0).trans rfl
  ·obtain ⟨b, off, e, c0, c1, c2, c3⟩ := I.ops i hi j o ho
   exact ⟨b, off, e, hns i hi j o ho b off e, show b ≠ w.heap.size + 1 + 1 by have := cell_lt' c0; omega, hc2 c0, hc2 c1, hc2 c2, hc2 c3⟩
 ·refine ⟨⟨rfl, fun b h => ⟨by have := hshw b h; show b < w2.heap.size; omega, show b ≠ w.heap.size + 1 + 1 by have := hshw b h; omega⟩, show w.heap.size + 1 + 1 < w2.heap.size by omega, ⟨hfree _ (show w.heap.size ≤ w.heap.size + 4 by omega), show w.heap.size + 4 ≠ w.heap.size + 1 + 1 by omega⟩, fun i hi => ?_, fun j z hz => ?_⟩, Nat.zero_le _, Nat.le_refl _, fun _ _ => rfl, fun _ _ _ _ => rfl, fun _ _ h => (by cases h), hI2, ⟨_, M.cN, fun i hi => madeCells_get _ n i hi⟩, fun i hi => ⟨none, 0, rfl, ⟨rfl, .inl ⟨rfl, rfl⟩⟩⟩, fun i hi b h => (by simp [Value.ownBlock] at h), fun i hi => absurd hi (Nat.not_lt_zero _), fun _ _ _ => rfl⟩
  ·exact (cell_of hF1 i).trans (hF3 i hi)
  ·obtain ⟨s, so, e, hc, h1⟩ := hsc j z hz
   exact ⟨s, so, e, hc2 hc, h1, show s ≠ w.heap.size + 1 + 1 by have := cell_lt' hc; omega⟩
 ·rintro _ w4 ⟨_, ⟨g0, sb, scap, sts, x, ord, oa', oc', q, k, own, csx, hx, hov, rfl, ⟨hThr, pr, hd, P⟩, hrow, hrb, hq, hqs, hsz, _⟩, rfl⟩
  have hT4 : w4.heap[w.heap.size]? = some (.cells #[.slice none 0 0, .slice none 0 0, .slice none 0 0, .bool false] 27) := (P.old _ (show w.heap.size < w2.heap.size by omega) (hfree _ (Nat.le_refl _)) (show w.heap.size ≠ w.heap.size + 1 + 1 by omega)).trans ((M.old _ (by omega)).trans hT)
  have hp : (x, ord) = playO L s0 ops n most sl := by
   rw [hx, follow_abs, born_abs]
   rfl
  have hg : decide (0 < goingX (crewO L g hD (stile (Q.at g0) w2.heap.size sb scap sts)) x) = stuckO n x := rfl
  refine Runs.walk (hB oa' ord.length oc' _ _ w4 hT4 (hA _)) ?_
  rintro _ _ ⟨rfl, d, rfl⟩
  obtain ⟨arr, hAr, hAi⟩ := P.an
  have hset : ∀ b, b ≠ w.heap.size → (w4.setRow w.heap.size #[.slice (some ⟨w.heap.size + 2, 0, none⟩) n n, .slice oa' ord.length oc', .slice none 0 0, .bool (stuckO n x)]).heap[b]? = w4.heap[b]? := fun b hb => setRow_other _ _ hb
  have hle : w2.heap.size ≤ w4.heap.size := P.size
  refine .now ⟨_, ⟨⟨w.heap.size + 2, oa', oc', hd, arr, ?_, ?_, by omega, ?_, hAi, fun i hi => ?_⟩, ?_, fun b hb hs => ?_, ?_⟩, rfl⟩
  ·rw [← hp, hg]
  ·rw [← hp]
   refine row_same (row_raise hrow fun b hb => ?_) fun b hb => hset b ?_
   ·have := hrow.lt b hb; omega
   ·have := hrow.lt b hb; omega
  ·exact (hset _ (by omega)).trans hAr
  ·rw [← hp]
   obtain ⟨ta, tc', e, hr⟩ := P.row i hi
   refine ⟨ta, tc', e, row_same (row_raise hr fun b hb => ?_) fun b hb => hset b ?_⟩
   ·have := (hr.lt b hb).1; have h2 : w2.heap.size ≤ b := this; omega
   ·have := (hr.lt b hb).1; have h2 : w2.heap.size ≤ b := this; omega
  ·rw [← hp]
   exact L.stable P.I fun b h => hset b (by have := hshw b h; omega)
  ·exact (hset b (by omega)).trans ((P.old b (show b < w2.heap.size by omega) hs (show b ≠ w.heap.size + 1 + 1 by omega)).trans (o2 b hb))
  ·show w.heap.size ≤ (w4.setRow _ _).heap.size
   rw [setRow_size]; omega
end
end
section
variable {main : Bool} {V : Nat → Option Wait}
theorem undAtomic : Try.prog.underlying 132 = some (.pointer 63) := by kernel_rfl
noncomputable def rowLoadB : Bool := match Try.prog.info? 132 with
 | some ti => (match ti.methods.find? (·.name == "Load") with
  | some m => m.path.isEmpty && (m.func == some (138, true))
  | none => false)
 | none => false
theorem rowLoad : ∃ ti m, Try.prog.info? 132 = some ti ∧ ti.methods.find? (·.name == "Load") = some m ∧ m.path = #[] ∧ m.func = some (138, true) := by
 have h : rowLoadB = true := by kernel_rfl
 unfold rowLoadB at h
 revert h
 cases h1 : Try.prog.info? 132 with
 | none => simp
 | some ti =>
  simp only []
  cases h2 : ti.methods.find? (·.name == "Load") with
  | none => simp
  | some m =>
   simp only [Bool.and_eq_true, Array.isEmpty_iff, beq_iff_eq]
   exact fun h => ⟨ti, m, rfl, h2, h.1, h.2⟩
theorem method_load (p q : Nat) (w : World) (es : Array Event) : (method (Try.prog.types.size + Made.depth) 132 (.pointer (some ⟨p, q, none⟩)) "Load").run Try.prog w = .ok (138, .pointer (some ⟨p, q, none⟩)) w ∧ (method (Try.prog.types.size + Made.depth) 132 (.pointer (some ⟨p, q, none⟩)) "Load").events Try.prog w es = es := by
 obtain ⟨ti, m, h1, h2, h3, h4⟩ := rowLoad
 obtain ⟨k, hk⟩ : ∃ k, Try.prog.types.size + Made.depth = k + 1 := ⟨Try.prog.types.size + (Made.depth - 1), by have : 1 ≤ Made.depth := by decide
                                                                                                               omega⟩
 rw [hk]
 unfold method
 refine ⟨?_, ?_⟩
 ·simp [typeInfo, h1, h2, h3, h4, follow, receiverAt, run_underlying undAtomic, Place.get]
 ·simp [typeInfo, h1, h2, h3, h4, follow, receiverAt, run_underlying undAtomic, Place.get]
section
variable {Stop : Goroutine → World → Prop} {w : World} {b : Frame} {a : Act} {k : List Item} {cs : List Frame} {ops : Array Oper} {i : Nat} {rest : List Nat} {o : Oper}
theorem stepG_invokeLoad {x : Operand} {ats : Array TypeId} (p q : Nat) (ho : ops[i]? = some o) (hw : Region.wanted o (yielded ops a.tmps) = true) (hk : b.kind ≠ .early) (hop : o.op = .call { callee := .invoke x "Load", args := #[], argTypes := ats }) (hx : a.eval x = .iface 132 (.pointer (some ⟨p, q, none⟩))) :
  stepG Try.prog main (G (b.at a (.inRegion ops (i :: rest) :: k)) cs) w = .go (G (Frame.enter Try.prog 138 #[.pointer (some ⟨p, q, none⟩)] .normal) (b.at a (.inRegion ops (i :: rest) :: k) :: cs)) w := by
 have h1 : ¬ Try.f138.name = "runtime.NumGoroutine" := by decide
 have h2 : ¬ Try.f138.body = none := by simp [Try.f138]
 have hm := method_load p q w #[]
 rw [show Try.prog.types.size = 209 from by kernel_rfl] at hm
 have hr : (execOp a.eval o).run Try.prog w = .ok (.enter 138 #[.pointer (some ⟨p, q, none⟩)]) w := by
  unfold execOp
  simp [hop, resolve, invoke, callMethod, callFunc, hm.1, Try.func138, h1, h2, hx]
 have he : (execOp a.eval o).events Try.prog w #[] = #[] := by
  unfold execOp
  simp [hop, resolve, invoke, callMethod, callFunc, hm.1, hm.2, Try.func138, h1, h2, hx]
 rw [stepG_enter ho hw hk hr]
 have : listed Try.prog b.fn a o w = #[] := by unfold listed; rw [he]; exact seen_none Try.prog _
 rw [this]
theorem Walk.invokeLoad {x : Operand} {ats : Array TypeId} (p q : Nat) (ho : ops[i]? = some o) (hw : Region.wanted o (yielded ops a.tmps) = true) (hk : b.kind ≠ .early) (hop : o.op = .call { callee := .invoke x "Load", args := #[], argTypes := ats }) (hx : a.eval x = .iface 132 (.pointer (some ⟨p, q, none⟩)))
  (h : Walk Try.prog main (DR V) Stop (G (Frame.enter Try.prog 138 #[.pointer (some ⟨p, q, none⟩)] .normal) (b.at a (.inRegion ops (i :: rest) :: k) :: cs)) w) : Walk Try.prog main (DR V) Stop (G (b.at a (.inRegion ops (i :: rest) :: k)) cs) w :=
 Walk.ctl rfl (fun _ => stepG_invokeLoad p q ho hw hk hop hx) h
end
section
variable {P : Program}
theorem eqIn_ptr (d : Nat) (t : TypeId) (q : Option Addr) (w : World) (es : Array Event) {e} (hu : P.underlying t = some (.pointer e)) : (Op.equalIn (d + 1) t (.pointer q) (.pointer none)).run P w = .ok q.isNone w ∧ (Op.equalIn (d + 1) t (.pointer q) (.pointer none)).events P w es = es := by
 cases q <;> simp [Op.equalIn, run_underlying hu]
theorem run_eql_ptr (t : TypeId) {e} (hu : P.underlying t = some (.pointer e)) (q : Option Addr) (w : World) : (binOp .eql t (.pointer q) (.pointer none)).run P w = .ok (.bool q.isNone) w := by
 simp only [binOp]
 simp [Op.equal, Op.maxDepth, (eqIn_ptr 9999 t q w #[] hu).1]
theorem ev_eql_ptr (t : TypeId) {e} (hu : P.underlying t = some (.pointer e)) (q : Option Addr) (w : World) (es : Array Event) : (binOp .eql t (.pointer q) (.pointer none)).events P w es = es := by
 simp only [binOp]
 simp [Op.equal, Op.maxDepth, (eqIn_ptr 9999 t q w #[] hu).1, (eqIn_ptr 9999 t q w es hu).2]
end
section
theorem run_ifaceAtomic (a : Option Addr) (w : World) : (Instr.makeInterface 132 (.pointer a)).run Try.prog w = .ok (.iface 132 (.pointer a)) w := by simp [Instr.makeInterface, run_underlying undAtomic]
theorem ev_ifaceAtomic (a : Option Addr) (w : World) (es : Array Event) : (Instr.makeInterface 132 (.pointer a)).events Try.prog w es = es := by simp [Instr.makeInterface, run_underlying undAtomic]
theorem undWord : Try.prog.underlying 125 = some (.pointer 65) := by kernel_rfl
end
end
section
def runN (L : La) : Nat → L.Sg × (Ans ⊕ L.D) → Option (L.Sg × Ans)
 | _, (s, .inl a) => some (s, a)
 | 0, (_, .inr _) => none
 | n + 1, (s, .inr d) => runN L n (L.act s d)
theorem runN_inl (L : La) (n : Nat) (s : L.Sg) (a : Ans) : runN L n (s, .inl a) = some (s, a) := by cases n <;> rfl
theorem undStepperN : ∃ ms, Try.prog.underlying 100 = some (.interface ms) := by
 have h : (match Try.prog.underlying 100 with | some (.interface _) => true | _ => false) = true := by kernel_rfl
 revert h
 cases Try.prog.underlying 100 with
 | none => simp
 | some d =>
  cases d with
  | interface fs => exact fun _ => ⟨fs, rfl⟩
  | _ => simp
structure NilE (L : La) (base : World) (R : L.Sg × Ans) where
 w : World
 s : L.Sg
 tgt : L.Sg × (Ans ⊕ L.D)
 fuel : Nat
 inv : L.I s w
 size : base.heap.size ≤ w.heap.size
 old : ∀ b, b < base.heap.size → ¬ L.sh b → w.heap[b]? = base.heap[b]?
 run : runN L fuel tgt = some R
section
variable {L : La} {main : Bool} {V : Nat → Option Wait} {Stop : Goroutine → World → Prop} {cs : List Frame} {base : World} {R : L.Sg × Ans}
def nilB (main : Bool) (V : Nat → Option Wait) (Stop : Goroutine → World → Prop) (cs : List Frame) (base : World) (R : L.Sg × Ans) : Lb L where
 main := main
 E := NilE L base R
 V := fun _ => V
 Stop := fun _ => Stop
 bot := fun _ => cs
 w := fun e => e.w
 s := fun e => e.s
 tgt := fun e => e.tgt
 fuel := fun e => e.fuel
 mine := fun e b => base.heap.size ≤ b ∧ b < e.w.heap.size
theorem nil_step (e : NilE L base R) (d : L.D) (ht : e.tgt = (e.s, .inr d)) (fr : Frame) (l : List Frame) (hk : ∀ e' : NilE L base R, Aft (nilB main V Stop cs base R) e d e' → LW (nilB main V Stop cs base R) e' (G (fr.finish (.tuple #[])) (l ++ cs))) :
  LW (nilB main V Stop cs base R) e (G (Frame.enter Try.prog 62 #[.nilIface] .normal) (fr :: (l ++ cs))) := by
 obtain ⟨ms, hu⟩ := undStepperN
 have hn1 := fun w => run_neq_nilIface (P := Try.prog) (w := w) 100 hu
 have hn2 := fun w es => ev_neq_nilIface (P := Try.prog) (w := w) 100 es hu
 obtain ⟨n, hn, hr⟩ : ∃ n, e.fuel = n + 1 ∧ runN L n (L.act e.s d) = some R := by
  have h := e.run
  rw [ht] at h
  cases hf : e.fuel with
  | zero => rw [hf] at h; cases h
  | succ n => rw [hf] at h; exact ⟨n, rfl, h⟩
 have hh := hk { w := e.w, s := e.s, tgt := L.act e.s d, fuel := n, inv := e.inv, size := e.size, old := e.old, run := hr } ⟨rfl, show n < e.fuel by omega, Nat.le_refl _, fun b h => ⟨h, rfl⟩⟩
 unfold LW at hh ⊢
 show Walk Try.prog main (DR V) Stop _ e.w
 replace hh : Walk Try.prog main (DR V) Stop (G (fr.finish (.tuple #[])) (l ++ cs)) e.w := hh
 rw [enter_at _ Try.func62 code62_is]
 simp only [Try.ntmps62, ez, Nat.reduceAdd, Nat.reduceSub]
 refine Walk.gz z62 ?_
 exact Walk.on0 rfl rfl Try.func62 rfl hh
def nilL (hA : ∀ b, Apart V b) (hsh : ∀ b, L.sh b → b < base.heap.size) (main : Bool) (Stop : Goroutine → World → Prop) (cs : List Frame) (R : L.Sg × Ans) : Lg L .nilIface where
 toLb := nilB main V Stop cs base R
 inv := fun e => e.inv
 shA := fun _ b _ => hA b
 mineA := fun e b h => ⟨hA b, fun hs => by have := hsh b hs; have := h.1; omega, h.2⟩
 newA := fun _ b _ => hA b
 mv := fun e s' w' h1 h2 h3 => ⟨{ w := w', s := s', tgt := e.tgt, fuel := e.fuel, inv := h3, size := Nat.le_trans e.size h1, old := fun b hb hs => (h2 b (Nat.lt_of_lt_of_le hb e.size) (fun hm => by have := hm.1; omega) hs).trans (e.old b hb hs), run := e.run }, rfl, rfl, rfl, rfl, rfl, rfl, rfl, fun b => by
  show (base.heap.size ≤ b ∧ b < w'.heap.size) ↔ ((base.heap.size ≤ b ∧ b < e.w.heap.size) ∨ (e.w.heap.size ≤ b ∧ b < w'.heap.size))
  have := e.size
  have h1 : e.w.heap.size ≤ w'.heap.size := h1
  constructor
  ·rintro ⟨a, b'⟩
   by_cases hb : b < e.w.heap.size
   ·exact .inl ⟨a, hb⟩
   ·exact .inr ⟨by omega, b'⟩
  ·rintro (⟨a, b'⟩ | ⟨a, b'⟩)
   ·exact ⟨a, by omega⟩
   ·exact ⟨by omega, b'⟩⟩
 step := fun e d ht fr l _ _ hk => nil_step e d ht fr l hk
structure Lone (L : La) (w : World) (R : L.Sg × Ans) (w' : World) : Prop where
 I : L.I R.1 w'
 size : w.heap.size ≤ w'.heap.size
 old : ∀ b, b < w.heap.size → ¬ L.sh b → w'.heap[b]? = w.heap[b]?
variable {b : Frame} {a : Act} {k : List Item} {ops : Array Oper} {i : Nat} {rest : List Nat} {o : Oper} {w : World}
theorem Walk.callLone {f : FuncId} {fn : Func} {args : Array Operand} {ats : Array TypeId} {Rel : Value → Ans → Prop} (N : Nat) (s : L.Sg) (r0 : Ans ⊕ L.D) (hA : ∀ b, Apart V b) (hI : L.I s w) (hrun : runN L N (s, r0) = some R)
  (hc : ∀ (K : Lg L .nilIface) (e : K.E), K.tgt e = (K.s e, r0) → SCall K.toLb f (args.map a.eval) e (fun v e' => ∃ x, Rel v x ∧ K.tgt e' = (K.s e', .inl x)))
  (ho : ops[i]? = some o) (hw : Region.wanted o (yielded ops a.tmps) = true) (hk : b.kind ≠ .early) (hop : o.op = .call { callee := .value (.func f), args, argTypes := ats })
  (hf : Try.prog.funcs[f]? = some fn) (hname : (fn.name == "runtime.NumGoroutine") = false) (hb : fn.body.isNone = false) (hp : Plain (b.at a (.inRegion ops (i :: rest) :: k)))
  (h : ∀ v w', Rel v R.2 → Lone L w R w' → Walk Try.prog main (DR V) Stop (G (b.at (a.put o.dst v) (.inRegion ops rest :: k)) cs) w') :
  Walk Try.prog main (DR V) Stop (G (b.at a (.inRegion ops (i :: rest) :: k)) cs) w := by
 refine Walk.callE ho hw hk hop hf hname hb ?_
 have key := hc (nilL (V := V) (base := w) hA (fun b h => L.lt hI h) main Stop cs R) { w := w, s := s, tgt := (s, r0), fuel := N, inv := hI, size := Nat.le_refl _, old := fun _ _ _ => rfl, run := hrun } rfl (b.at a (.inRegion ops (i :: rest) :: k)) [] hp (fun _ h => by cases h) ?_
 ·exact key
 ·rintro v e' ⟨x, hr, ht⟩
  have hrn := e'.run
  have ht : e'.tgt = (e'.s, .inl x) := ht
  rw [ht, runN_inl] at hrn
  have hR := Option.some.inj hrn
  have r1 : R.1 = e'.s := (congrArg Prod.fst hR).symm
  have r2 : R.2 = x := (congrArg Prod.snd hR).symm
  have := h v e'.w (by rw [r2]; exact hr) ⟨by rw [r1]; exact e'.inv, e'.size, e'.old⟩
  rw [Frame.finish_at, ho]
  exact this
end
end
section
theorem undSteps : Try.prog.underlying 40 = some (.pointer 42) := by kernel_rfl
theorem run_ifaceSteps (a : Option Addr) (w : World) : (Instr.makeInterface 40 (.pointer a)).run Try.prog w = .ok (.iface 40 (.pointer a)) w := by simp [Instr.makeInterface, run_underlying undSteps]
theorem ev_ifaceSteps (a : Option Addr) (w : World) (es : Array Event) : (Instr.makeInterface 40 (.pointer a)).events Try.prog w es = es := by simp [Instr.makeInterface, run_underlying undSteps]
noncomputable def rowStepsB : Bool := match Try.prog.info? 40 with
 | some ti => (match ti.methods.find? (·.name == "Step") with
  | some m => m.path.isEmpty && (m.func == some (136, true))
  | none => false)
 | none => false
theorem rowSteps : ∃ ti m, Try.prog.info? 40 = some ti ∧ ti.methods.find? (·.name == "Step") = some m ∧ m.path = #[] ∧ m.func = some (136, true) := by
 have h : rowStepsB = true := by kernel_rfl
 unfold rowStepsB at h
 revert h
 cases h1 : Try.prog.info? 40 with
 | none => simp
 | some ti =>
  simp only []
  cases h2 : ti.methods.find? (·.name == "Step") with
  | none => simp
  | some m =>
   simp only [Bool.and_eq_true, Array.isEmpty_iff, beq_iff_eq]
   exact fun h => ⟨ti, m, rfl, h2, h.1, h.2⟩
theorem method_steps (p : Nat) (w : World) (es : Array Event) : (method (Try.prog.types.size + Made.depth) 40 (.pointer (some ⟨p, 0, none⟩)) "Step").run Try.prog w = .ok (136, .pointer (some ⟨p, 0, none⟩)) w ∧ (method (Try.prog.types.size + Made.depth) 40 (.pointer (some ⟨p, 0, none⟩)) "Step").events Try.prog w es = es := by
 obtain ⟨ti, m, h1, h2, h3, h4⟩ := rowSteps
 obtain ⟨k, hk⟩ : ∃ k, Try.prog.types.size + Made.depth = k + 1 := ⟨Try.prog.types.size + (Made.depth - 1), by have : 1 ≤ Made.depth := by decide
                                                                                                               omega⟩
 rw [hk]
 unfold method
 refine ⟨?_, ?_⟩
 ·simp [typeInfo, h1, h2, h3, h4, follow, receiverAt, run_underlying undSteps, Place.get]
 ·simp [typeInfo, h1, h2, h3, h4, follow, receiverAt, run_underlying undSteps, Place.get]
section
variable {main : Bool} {V : Nat → Option Wait} {Stop : Goroutine → World → Prop} {w : World} {b : Frame} {a : Act} {k : List Item} {cs : List Frame} {ops : Array Oper} {i : Nat} {rest : List Nat} {o : Oper}
theorem stepG_invokeSteps {x : Operand} {ats : Array TypeId} (p : Nat) (ho : ops[i]? = some o) (hw : Region.wanted o (yielded ops a.tmps) = true) (hk : b.kind ≠ .early) (hop : o.op = .call { callee := .invoke x "Step", args := #[], argTypes := ats }) (hx : a.eval x = .iface 40 (.pointer (some ⟨p, 0, none⟩))) :
  stepG Try.prog main (G (b.at a (.inRegion ops (i :: rest) :: k)) cs) w = .go (G (Frame.enter Try.prog 136 #[.pointer (some ⟨p, 0, none⟩)] .normal) (b.at a (.inRegion ops (i :: rest) :: k) :: cs)) w := by
 have h1 : ¬ Try.f136.name = "runtime.NumGoroutine" := by decide
 have h2 : ¬ Try.f136.body = none := by simp [Try.f136]
 have hm := method_steps p w #[]
 rw [show Try.prog.types.size = 209 from by kernel_rfl] at hm
 have hr : (execOp a.eval o).run Try.prog w = .ok (.enter 136 #[.pointer (some ⟨p, 0, none⟩)]) w := by
  unfold execOp
  simp [hop, resolve, invoke, callMethod, callFunc, hm.1, Try.func136, h1, h2, hx]
 have he : (execOp a.eval o).events Try.prog w #[] = #[] := by
  unfold execOp
  simp [hop, resolve, invoke, callMethod, callFunc, hm.1, hm.2, Try.func136, h1, h2, hx]
 rw [stepG_enter ho hw hk hr]
 have : listed Try.prog b.fn a o w = #[] := by unfold listed; rw [he]; exact seen_none Try.prog _
 rw [this]
theorem Walk.invokeSteps {x : Operand} {ats : Array TypeId} (p : Nat) (ho : ops[i]? = some o) (hw : Region.wanted o (yielded ops a.tmps) = true) (hk : b.kind ≠ .early) (hop : o.op = .call { callee := .invoke x "Step", args := #[], argTypes := ats }) (hx : a.eval x = .iface 40 (.pointer (some ⟨p, 0, none⟩)))
  (h : Walk Try.prog main (DR V) Stop (G (Frame.enter Try.prog 136 #[.pointer (some ⟨p, 0, none⟩)] .normal) (b.at a (.inRegion ops (i :: rest) :: k) :: cs)) w) : Walk Try.prog main (DR V) Stop (G (b.at a (.inRegion ops (i :: rest) :: k)) cs) w :=
 Walk.ctl rfl (fun _ => stepG_invokeSteps p ho hw hk hop hx) h
end
noncomputable def reg136_0 := rg Try.f136.body []
theorem z136 : List.range reg136_0.size = [0, 1, 2, 3, 4, 5, 6, 7] := by kernel_rfl
theorem code136_is : Try.f136.body = some (.region 0 reg136_0 false) := by kernel_rfl
section
variable {main : Bool} {V : Nat → Option Wait}
theorem steps_w (p : Nat) (n : Int) (w : World) (hc : w.heap[p]? = some (.cells #[.int .i64 n] 42)) (hz : w.frozen? ⟨p, 0, none⟩ = false) (hn0 : 0 ≤ n) (hn : n < 4611686018427387904) (hf : Apart V p) :
  CallV Try.prog main V 136 #[.pointer (some ⟨p, 0, none⟩)] w (.tuple #[]) (w.setCell ⟨p, 0, none⟩ (.int .i64 (n + 1))) := by
 have hw1 : IntKind.wrap .i64 (n + 1) = n + 1 := by rw [IntKind.wrap_i64]; omega
 have h1 : w.cell? ⟨p, 0, none⟩ = some (.int .i64 n) := (cell_of hc 0).trans rfl
 have hf' : Free V ⟨p, 0, none⟩ := hf.1 _ rfl
 refine callW_in Try.func136 code136_is fun fr cs => ?_
 simp only [Try.ntmps136, ez, Nat.reduceAdd, Nat.reduceSub]
 refine Walk.gz z136 ?_
 (refine Walk.os hf' h1 ?_; try walk_nrm)
 refine Walk.gz z136 ?_
 exact Walk.ret0 rfl rfl Try.func136 rfl fun d => ⟨rfl, d, rfl⟩
end
def lonC (L : La) : Nat → Nat → L.Sg × (Ans ⊕ L.D) → Option (Nat × L.Sg × Ans)
 | _, c, (s, .inl a) => some (c, s, a)
 | 0, _, (_, .inr _) => none
 | n + 1, c, (s, .inr d) => lonC L n (c + 1) (L.act s d)
theorem lonC_inl (L : La) (n c : Nat) (s : L.Sg) (a : Ans) : lonC L n c (s, .inl a) = some (c, s, a) := by cases n <;> rfl
structure CntE (L : La) (base : World) (p : Nat) (R : Nat × L.Sg × Ans) where
 w : World
 s : L.Sg
 tgt : L.Sg × (Ans ⊕ L.D)
 fuel : Nat
 n : Nat
 inv : L.I s w
 size : base.heap.size ≤ w.heap.size
 old : ∀ b, b < base.heap.size → ¬ L.sh b → b ≠ p → w.heap[b]? = base.heap[b]?
 cnt : w.heap[p]? = some (.cells #[.int .i64 n] 42)
 few : n + fuel < 4611686018427387904
 run : lonC L fuel n tgt = some R
section
variable {L : La} {main : Bool} {V : Nat → Option Wait} {Stop : Goroutine → World → Prop} {cs : List Frame} {base : World} {p : Nat} {R : Nat × L.Sg × Ans}
def cntB (main : Bool) (V : Nat → Option Wait) (Stop : Goroutine → World → Prop) (cs : List Frame) (base : World) (p : Nat) (R : Nat × L.Sg × Ans) : Lb L where
 main := main
 E := CntE L base p R
 V := fun _ => V
 Stop := fun _ => Stop
 bot := fun _ => cs
 w := fun e => e.w
 s := fun e => e.s
 tgt := fun e => e.tgt
 fuel := fun e => e.fuel
 mine := fun e b => base.heap.size ≤ b ∧ b < e.w.heap.size
theorem cnt_step (hA : Apart V p) (hp : ¬ L.sh p) (hlo : p < base.heap.size) (e : CntE L base p R) (d : L.D) (ht : e.tgt = (e.s, .inr d)) (fr : Frame) (l : List Frame) (hk : ∀ e' : CntE L base p R, Aft (cntB main V Stop cs base p R) e d e' → LW (cntB main V Stop cs base p R) e' (G (fr.finish (.tuple #[])) (l ++ cs))) :
  LW (cntB main V Stop cs base p R) e (G (Frame.enter Try.prog 62 #[.iface 40 (.pointer (some ⟨p, 0, none⟩))] .normal) (fr :: (l ++ cs))) := by
 obtain ⟨ms, hu⟩ := undStepperN
 have hn1 := fun w => run_neq_iface (P := Try.prog) (w := w) 100 40 (.pointer (some ⟨p, 0, none⟩)) hu
 have hn2 := fun w es => ev_neq_iface (P := Try.prog) (w := w) 100 40 (.pointer (some ⟨p, 0, none⟩)) es hu
 obtain ⟨n, hn, hr⟩ : ∃ n, e.fuel = n + 1 ∧ lonC L n (e.n + 1) (L.act e.s d) = some R := by
  have h := e.run
  rw [ht] at h
  cases hf : e.fuel with
  | zero => rw [hf] at h; cases h
  | succ n => rw [hf] at h; exact ⟨n, rfl, h⟩
 have hz : e.w.frozen? ⟨p, 0, none⟩ = false := frozen_of e.cnt 0
 have hoth : ∀ b, b ≠ p → (e.w.setCell ⟨p, 0, none⟩ (.int .i64 ((e.n : Int) + 1))).heap[b]? = e.w.heap[b]? := fun b hb => by simp [World.setCell, Array.getElem?_modify, Ne.symm hb]
 have hsz : (e.w.setCell ⟨p, 0, none⟩ (.int .i64 ((e.n : Int) + 1))).heap.size = e.w.heap.size := by simp
 have hcn : (e.w.setCell ⟨p, 0, none⟩ (.int .i64 ((e.n : Int) + 1))).heap[p]? = some (.cells #[.int .i64 ((e.n + 1 : Nat) : Int)] 42) := by
  have h := e.cnt
  simp [World.setCell, Array.getElem?_modify, h]
 have hfew := e.few
 have hs0 := e.size
 have hh := hk { w := e.w.setCell ⟨p, 0, none⟩ (.int .i64 ((e.n : Int) + 1)), s := e.s, tgt := L.act e.s d, fuel := n, n := e.n + 1, inv := L.stable e.inv fun b hb => hoth b fun x => hp (x ▸ hb), size := by rw [hsz]; exact e.size, old := fun b h1 h2 h3 => (hoth b h3).trans (e.old b h1 h2 h3), cnt := hcn, few := by omega, run := hr } ⟨rfl, show n < e.fuel by omega, Nat.le_of_eq hsz.symm, fun b h => ⟨⟨h.1, Nat.lt_of_lt_of_eq h.2 hsz.symm⟩, hoth b (fun x => by have := h.1; omega)⟩⟩
 unfold LW at hh ⊢
 show Walk Try.prog main (DR V) Stop _ e.w
 replace hh : Walk Try.prog main (DR V) Stop (G (fr.finish (.tuple #[])) (l ++ cs)) (e.w.setCell ⟨p, 0, none⟩ (.int .i64 ((e.n : Int) + 1))) := hh
 rw [enter_at _ Try.func62 code62_is]
 simp only [Try.ntmps62, ez, Nat.reduceAdd, Nat.reduceSub]
 refine Walk.gz z62 ?_
 refine Walk.invokeSteps p hoA (by rfl) (by decide) rfl rfl ?_
 refine (steps_w p e.n e.w e.cnt hz (by omega) (by omega) hA _ _).then ?_
 rintro g' w' ⟨v', ⟨rfl, dd, rfl⟩, rfl⟩
 refine Walk.back ?_ dd
 refine Walk.finish hoA ?_
 walk_nrm
 refine Walk.gz z62 ?_
 exact Walk.on0 rfl rfl Try.func62 rfl hh
def cntL (hA : ∀ b, Apart V b) (hsh : ∀ b, L.sh b → b < base.heap.size) (hp : ¬ L.sh p) (hlo : p < base.heap.size) (main : Bool) (Stop : Goroutine → World → Prop) (cs : List Frame) (R : Nat × L.Sg × Ans) : Lg L (.iface 40 (.pointer (some ⟨p, 0, none⟩))) where
 toLb := cntB main V Stop cs base p R
 inv := fun e => e.inv
 shA := fun _ b _ => hA b
 mineA := fun e b h => ⟨hA b, fun hs => by have := hsh b hs; have := h.1; omega, h.2⟩
 newA := fun _ b _ => hA b
 mv := fun e s' w' h1 h2 h3 => ⟨{ w := w', s := s', tgt := e.tgt, fuel := e.fuel, n := e.n, inv := h3, size := Nat.le_trans e.size h1, old := fun b hb hs hb' => (h2 b (Nat.lt_of_lt_of_le hb e.size) (fun hm => by have := hm.1; omega) hs).trans (e.old b hb hs hb'), cnt := (h2 p (Nat.lt_of_lt_of_le hlo e.size) (fun hm => by have := hm.1; omega) hp).trans e.cnt, few := e.few, run := e.run }, rfl, rfl, rfl, rfl, rfl, rfl, rfl, fun b => by
  show (base.heap.size ≤ b ∧ b < w'.heap.size) ↔ ((base.heap.size ≤ b ∧ b < e.w.heap.size) ∨ (e.w.heap.size ≤ b ∧ b < w'.heap.size))
  have := e.size
  have h1 : e.w.heap.size ≤ w'.heap.size := h1
  constructor
  ·rintro ⟨a, b'⟩
   by_cases hb : b < e.w.heap.size
   ·exact .inl ⟨a, hb⟩
   ·exact .inr ⟨by omega, b'⟩
  ·rintro (⟨a, b'⟩ | ⟨a, b'⟩)
   ·exact ⟨a, by omega⟩
   ·exact ⟨by omega, b'⟩⟩
 step := fun e d ht fr l _ _ hk => cnt_step (hA p) hp hlo e d ht fr l hk
structure Counted (L : La) (w : World) (p : Nat) (R : Nat × L.Sg × Ans) (w' : World) : Prop where
 I : L.I R.2.1 w'
 size : w.heap.size ≤ w'.heap.size
 old : ∀ b, b < w.heap.size → ¬ L.sh b → b ≠ p → w'.heap[b]? = w.heap[b]?
 cnt : w'.heap[p]? = some (.cells #[.int .i64 R.1] 42)
variable {b : Frame} {a : Act} {k : List Item} {ops : Array Oper} {i : Nat} {rest : List Nat} {o : Oper} {w : World}
theorem Walk.callCnt {f : FuncId} {fn : Func} {args : Array Operand} {ats : Array TypeId} {Rel : Value → Ans → Prop} (N n : Nat) (s : L.Sg) (r0 : Ans ⊕ L.D) (hA : ∀ b, Apart V b) (hI : L.I s w) (hp0 : ¬ L.sh p) (hcnt : w.heap[p]? = some (.cells #[.int .i64 n] 42)) (hfew : n + N < 4611686018427387904) (hrun : lonC L N n (s, r0) = some R)
  (hc : ∀ (K : Lg L (.iface 40 (.pointer (some ⟨p, 0, none⟩)))) (e : K.E), K.tgt e = (K.s e, r0) → SCall K.toLb f (args.map a.eval) e (fun v e' => ∃ x, Rel v x ∧ K.tgt e' = (K.s e', .inl x)))
  (ho : ops[i]? = some o) (hw : Region.wanted o (yielded ops a.tmps) = true) (hk : b.kind ≠ .early) (hop : o.op = .call { callee := .value (.func f), args, argTypes := ats })
  (hf : Try.prog.funcs[f]? = some fn) (hname : (fn.name == "runtime.NumGoroutine") = false) (hb : fn.body.isNone = false) (hp : Plain (b.at a (.inRegion ops (i :: rest) :: k)))
  (h : ∀ v w', Rel v R.2.2 → Counted L w p R w' → Walk Try.prog main (DR V) Stop (G (b.at (a.put o.dst v) (.inRegion ops rest :: k)) cs) w') :
  Walk Try.prog main (DR V) Stop (G (b.at a (.inRegion ops (i :: rest) :: k)) cs) w := by
 refine Walk.callE ho hw hk hop hf hname hb ?_
 have key := hc (cntL (V := V) (base := w) hA (fun b h => L.lt hI h) hp0 (Array.getElem?_eq_some_iff.1 hcnt).1 main Stop cs R) { w := w, s := s, tgt := (s, r0), fuel := N, n := n, inv := hI, size := Nat.le_refl _, old := fun _ _ _ _ => rfl, cnt := hcnt, few := hfew, run := hrun } rfl (b.at a (.inRegion ops (i :: rest) :: k)) [] hp (fun _ h => by cases h) ?_
 ·exact key
 ·rintro v e' ⟨x, hr, ht⟩
  have hrn := e'.run
  have hcn := e'.cnt
  have ht : e'.tgt = (e'.s, .inl x) := ht
  rw [ht, lonC_inl] at hrn
  have hR := Option.some.inj hrn
  have r0 : R.1 = e'.n := (congrArg Prod.fst hR).symm
  have r1 : R.2.1 = e'.s := (congrArg (fun x => x.2.1) hR).symm
  have r2 : R.2.2 = x := (congrArg (fun x => x.2.2) hR).symm
  have := h v e'.w (by rw [r2]; exact hr) ⟨by rw [r1]; exact e'.inv, e'.size, e'.old, by rw [r0]; exact hcn⟩
  rw [Frame.finish_at, ho]
  exact this
end
end
section
inductive Whole (L : La) (N : Nat) : Nat → L.Sg → List OpV → List Ans → Nat → L.Sg → List Ans → Prop
 | nil (c : Nat) (s : L.Sg) (az : List Ans) : Whole L N c s [] az c s az
 | cons {c c1 c2 : Nat} {s s1 s2 : L.Sg} {o : OpV} {l : List OpV} {az az2 : List Ans} {a : Ans} (h : lonC L N c (L.enter s o) = some (c1, s1, a)) (k : Whole L N c1 s1 l (az ++ [a]) c2 s2 az2) : Whole L N c s (o :: l) az c2 s2 az2
section
variable {L : La}
structure At1 (x : OX L) (r : L.Sg × Tst L) : Prop where
 s : x.s = r.1
 th : x.th 0 = r.2
 out : x.out 0 = (match r.2.d with | none => some false | some _ => none)
theorem At1.put (x : OX L) (r : L.Sg × Tst L) (c : Nat) : At1 (putO x 0 r c) r := ⟨rfl, (upd_same x.th 0 r.2 : _), (upd_same x.out 0 _ : _)⟩
theorem At1.next {x : OX L} {s : L.Sg} {left : List OpV} {d : L.D} {az : List Ans} (h : At1 x (s, ⟨left, some d, az⟩)) : At1 (nextO x 0) (landO L (L.act s d) left az) := by
 have hd : (x.th 0).d = some d := by rw [h.th]
 have e : nextO x 0 = putO x 0 (landO L (L.act x.s d) (x.th 0).left (x.th 0).ans) (x.cnt + 1) := by
  unfold nextO
  rw [hd]
 rw [e, h.th, h.s]
 exact At1.put _ _ _
inductive Go1 : Nat → OX L → OX L → Prop
 | refl (x : OX L) : Go1 0 x x
 | step {m : Nat} {x y : OX L} (h : x.out 0 = none) (k : Go1 m (nextO x 0) y) : Go1 (m + 1) x y
theorem Go1.trans {m n : Nat} {x y z : OX L} (h : Go1 m x y) (k : Go1 n y z) : Go1 (m + n) x z := by
 induction h with
 | refl => rw [Nat.zero_add]; exact k
 | step h _ ih =>
  rw [Nat.add_right_comm]
  exact .step h (ih k)
theorem go_call {N : Nat} : ∀ {c c1 : Nat} {s s1 : L.Sg} {r : Ans ⊕ L.D} {a : Ans}, lonC L N c (s, r) = some (c1, s1, a) → ∀ (left : List OpV) (az : List Ans) (x : OX L), At1 x (landO L (s, r) left az) → c ≤ c1 ∧ ∃ y, Go1 (c1 - c) x y ∧ At1 y (settleO L s1 left (az ++ [a])) := by
 induction N with
 | zero =>
  intro c c1 s s1 r a h left az x hx
  cases r with
  | inl a' =>
   rw [lonC_inl] at h
   simp only [Option.some.injEq, Prod.mk.injEq] at h
   obtain ⟨rfl, rfl, rfl⟩ := h
   exact ⟨Nat.le_refl _, x, by rw [Nat.sub_self]; exact .refl x, hx⟩
  | inr d => exact absurd h (by simp [lonC])
 | succ N ih =>
  intro c c1 s s1 r a h left az x hx
  cases r with
  | inl a' =>
   rw [lonC_inl] at h
   simp only [Option.some.injEq, Prod.mk.injEq] at h
   obtain ⟨rfl, rfl, rfl⟩ := h
   exact ⟨Nat.le_refl _, x, by rw [Nat.sub_self]; exact .refl x, hx⟩
  | inr d =>
   have h' : lonC L N (c + 1) ((L.act s d).1, (L.act s d).2) = some (c1, s1, a) := h
   have hx' : At1 x (s, ⟨left, some d, az⟩) := hx
   obtain ⟨h1, y, h2, h3⟩ := ih h' left az (nextO x 0) hx'.next
   refine ⟨by omega, y, ?_, h3⟩
   have e : c1 - c = (c1 - (c + 1)) + 1 := by omega
   rw [e]
   exact .step hx'.out h2
theorem go_whole {N c c2 : Nat} {s s2 : L.Sg} {l : List OpV} {az az2 : List Ans} (h : Whole L N c s l az c2 s2 az2) : ∀ x : OX L, At1 x (settleO L s l az) → c ≤ c2 ∧ ∃ y, Go1 (c2 - c) x y ∧ At1 y (s2, ⟨[], none, az2⟩) := by
 induction h with
 | nil c s az => exact fun x hx => ⟨Nat.le_refl _, x, by rw [Nat.sub_self]; exact .refl x, hx⟩
 | @cons c c1 c2 s s1 s2 o l az az2 a h _ ih =>
  intro x hx
  rw [settleO_cons] at hx
  have h' : lonC L N c ((L.enter s o).1, (L.enter s o).2) = some (c1, s1, a) := h
  obtain ⟨h1, y, h2, h3⟩ := go_call h' l az x hx
  obtain ⟨k1, z, k2, k3⟩ := ih y h3
  refine ⟨by omega, z, ?_, k3⟩
  have e : c2 - c = (c1 - c) + (c2 - c1) := by omega
  rw [e]
  exact h2.trans k2
theorem rest_alone (most : Int) (ops : Nat → List OpV) {m : Nat} {x y : OX L} (h : Go1 m x y) (hy : y.out 0 ≠ none) : ∀ (f : Nat) (ord : List Nat), (restA (absO L 1 most ops) f (x, ord)).1.out 0 ≠ none → restA (absO L 1 most ops) f (x, ord) = (y, ord ++ List.replicate m 0) := by
 induction h with
 | refl x =>
  intro f ord _
  have hov : overA (absO L 1 most ops) (x, ord) = true := by
   unfold overA goingA
   have hn : (x.out 0).isNone = false := by
    cases h : x.out 0 with
    | none => exact absurd h hy
    | some _ => rfl
   have : (List.range 1).countP (fun i => (x.out i).isNone) = 0 := by
    show List.countP (fun i => (x.out i).isNone) [0] = 0
    simp [hn]
   show (decide ((List.range 1).countP (fun i => (x.out i).isNone) = 0) || _) = true
   rw [this]
   rfl
  cases f with
  | zero => simp [restA]
  | succ f =>
   unfold restA
   rw [hov]
   simp
 | @step m x y hx _ ih =>
  intro f ord hF
  cases f with
  | zero => exact absurd hx hF
  | succ f =>
   unfold restA at hF ⊢
   cases hov : overA (absO L 1 most ops) (x, ord) with
   | true =>
    rw [hov] at hF
    exact absurd hx hF
   | false =>
    rw [hov] at hF
    have hr : roundA (absO L 1 most ops) (x, ord) = (nextO x 0, ord ++ [0]) := by
     show stepA (absO L 1 most ops) (x, ord) (0 : Nat) = _
     unfold stepA
     rw [if_pos ⟨hov, by decide, by show ((0 : Nat) : Int) < ((1 : Nat) : Int); decide, hx⟩]
     rfl
    simp only [Bool.false_eq_true, if_false] at hF ⊢
    rw [hr] at hF ⊢
    rw [ih hy f (ord ++ [0]) hF]
    simp [List.replicate_succ]
theorem play_alone {N c2 : Nat} {s0 s2 : L.Sg} {ops : Nat → List OpV} {az2 : List Ans} (most : Int) (h : Whole L N 0 s0 (ops 0) [] c2 s2 az2) (hs : stuckO 1 (playO L s0 ops 1 most []).1 = false) :
  (playO L s0 ops 1 most []).1.s = s2 ∧ ((playO L s0 ops 1 most []).1.th 0).ans = az2 ∧ (playO L s0 ops 1 most []).2.length = c2 := by
 have hb : At1 (bornO ops (x0O L s0) 0) (settleO L s0 (ops 0) []) := At1.put _ _ _
 obtain ⟨_, y, h1, h2⟩ := go_whole h _ hb
 have hy : y.out 0 ≠ none := by rw [h2.out]; exact fun e => by cases e
 have e : playO L s0 ops 1 most [] = restA (absO L 1 (min (max most 0) 1048576) ops) (min (max most 0) 1048576).toNat (bornO ops (x0O L s0) 0, []) := rfl
 have ho : (playO L s0 ops 1 most []).1.out 0 ≠ none := fun hn => by
  have : stuckO 1 (playO L s0 ops 1 most []).1 = true := by
   show decide (0 < List.countP (fun i => ((playO L s0 ops 1 most []).1.out i).isNone) [0]) = true
   simp [hn]
  rw [this] at hs
  cases hs
 rw [e] at ho
 have hF := rest_alone _ ops h1 hy _ [] ho
 rw [e, hF]
 exact ⟨h2.s, by rw [h2.th], by simp⟩
end
end
end Go.Proofs.Ytdmpmoggacjgcaa
namespace Go.Relay
section
open Go.Conc Go.RowKit
open Go.ConcN (upd upd_ne upd_same)
section
variable {P : Program} {main : Bool} {V : Nat → Option Wait} {ops : Array Oper} {Z : World → Prop} {w : World} {K : Act → Prop} {i : Nat} {rest : List Nat} {a : Act} {o : Oper}
theorem Cm.opqZ (ho : ops[i]? = some o) (hw : Region.wanted o (yielded ops a.tmps) = true) (he : ∀ w, Z w → ∀ d, ∀ e ∈ (execOp a.eval o).events P (w.at d) #[], EvR V e)
  (h : ∃ a', (∀ w, Z w → ∀ d, ∀ K' : Act → World → Prop, K' a' (w.at d) → uponK o a K' ((execOp a.eval o).run P (w.at d))) ∧ Cm P main V ops Z K rest a') : Cm P main V ops Z K (i :: rest) a := by
 obtain ⟨a', h1, h2⟩ := h
 exact Cm.opq ho hw he h1 h2
theorem pre_skip {q : Nat → Bool} {i : Nat} (h : q i = false) (vals : Nat → Value) (a : Act) : puts ops vals (fun j => decide (j < i + 1) && q j) a = puts ops vals (fun j => decide (j < i) && q j) a :=
 puts_congr (fun j _ => ⟨by
  by_cases e : j = i
  ·subst e; simp [h]
  ·have : (decide (j < i + 1) : Bool) = decide (j < i) := by by_cases hl : j < i <;> simp [hl] <;> omega
   rw [this], fun _ => rfl⟩) a
theorem pre_take {m : Nat} {q : Nat → Bool} (hc : calmB ops m = true) (hi : i < m) (h : q i = true) (vals : Nat → Value) (ho : ops[i]? = some o) (a : Act) : puts ops vals (fun j => decide (j < i + 1) && q j) a = (puts ops vals (fun j => decide (j < i) && q j) a).put o.dst (vals i) := by
 rw [← puts_upd hc hi vals (f := fun j => decide (j < i) && q j) (by simp) ho a]
 refine puts_congr (fun j _ => ⟨?_, fun _ => rfl⟩) a
 by_cases e : j = i
 ·subst e; simp [h, upd_same]
 ·rw [upd_ne _ _ e]
  have : (decide (j < i + 1) : Bool) = decide (j < i) := by by_cases hl : j < i <;> simp [hl] <;> omega
  rw [this]
theorem cm_valsQ {m : Nat} {q : Nat → Bool} (hz : Z w) (hc : calmB ops m = true) : ∀ (r i : Nat) (vals : Nat → Value) (a0 : Act), i + r = m → Cm P main V ops Z K ((List.range' i r).filter q) (puts ops vals (fun j => decide (j < i) && q j) a0) →
  ∃ vals', (∀ j, j < i → vals' j = vals j) ∧ (∀ j o, i ≤ j → j < m → q j = true → ops[j]? = some o → CondU P main V ops Z o (puts ops vals' (fun x => decide (x < j) && q x) a0) (vals' j)) ∧ K (puts ops vals' (fun j => decide (j < m) && q j) a0)
 | 0, i, vals, a0, hi, h => by
  have hi : i = m := hi
  refine ⟨vals, fun _ _ => rfl, fun j o hj hjm _ ho => ?_, ?_⟩
  ·omega
  ·rw [← hi]; exact h
 | r + 1, i, vals, a0, hi, h => by
  rw [List.range'_succ] at h
  cases hq : q i with
  | false =>
   rw [List.filter_cons_of_neg (by simp [hq]), ← pre_skip hq] at h
   obtain ⟨vals', k1, k2, k3⟩ := cm_valsQ hz hc r (i + 1) vals a0 (by omega) h
   refine ⟨vals', fun j hj => k1 j (by omega), fun j o hj hjm hqj ho => ?_, k3⟩
   by_cases e : j = i
   ·rw [e, hq] at hqj; cases hqj
   ·exact k2 j o (by omega) hjm hqj ho
  | true =>
   rw [List.filter_cons_of_pos hq] at h
   obtain ⟨o, a', ho, hn, hcond⟩ := h
   generalize hX : puts ops vals (fun j => decide (j < i) && q j) a0 = X at *
   obtain ⟨v, hv, hcond⟩ : ∃ v, a' = X.put o.dst v ∧ CondU P main V ops Z o X v := by
    rcases hcond with ⟨h1, h2⟩ | ⟨h1, h2, h3⟩ | ⟨h1, f, fn, args, ats, x, e1, e2, e3, e4, e5, e6⟩
    ·exact ⟨undef, h2, .inl ⟨h1, rfl⟩⟩
    ·have h0 := h3 w hz 0
     obtain ⟨v, hv⟩ : ∃ v, a' = X.put o.dst v := by
      revert h0
      generalize (execOp _ o).run P (w.at 0) = rr
      intro h0
      unfold uponK at h0
      split at h0
      ·exact ⟨_, h0.1.symm⟩
      ·exact ⟨_, h0.1.symm⟩
      ·exact h0.elim
     exact ⟨v, hv, .inr (.inl ⟨h1, h2, hv ▸ h3⟩)⟩
    ·exact ⟨x, e6, .inr (.inr ⟨h1, f, fn, args, ats, e1, e2, e3, e4, e5⟩)⟩
   have hpre : puts ops (upd vals i v) (fun j => decide (j < i) && q j) a0 = X := by
    rw [← hX]
    exact puts_congr (fun j _ => ⟨rfl, fun hd => upd_ne _ _ (by have := of_decide_eq_true (Bool.and_eq_true _ _ ▸ hd : _ ∧ _).1; omega)⟩) a0
   have hs := pre_take hc (by omega) hq (upd vals i v) ho a0
   rw [hpre, upd_same, ← hv] at hs
   rw [← hs] at hn
   obtain ⟨vals', k1, k2, k3⟩ := cm_valsQ hz hc r (i + 1) (upd vals i v) a0 (by omega) hn
   refine ⟨vals', fun j hj => (k1 j (by omega)).trans (upd_ne _ _ (by omega)), fun j o' hj hjm hqj ho' => ?_, k3⟩
   by_cases e : j = i
   ·subst e
    rw [ho] at ho'
    cases ho'
    have e1 : puts ops vals' (fun x => decide (x < j) && q x) a0 = X := by
     rw [← hpre]
     exact puts_congr (fun x _ => ⟨rfl, fun hd => k1 x (by have := of_decide_eq_true (Bool.and_eq_true _ _ ▸ hd : _ ∧ _).1; omega)⟩) a0
    have e2 : vals' j = v := (k1 j (by omega)).trans (upd_same _ _ _)
    rw [e1, e2]
    exact hcond
   ·exact k2 j o' (by omega) hjm hqj ho'
end
section
variable {P : Program} {main : Bool} {V : Nat → Option Wait} {Stop : Goroutine → World → Prop} {b : Frame} {k : List Item} {cs : List Frame} {ops : Array Oper} {w : World} {a : Act}
theorem Walk.calmOpG {Z : World → Prop} {m i : Nat} (hz : Z w) {o : Oper} {vals : Nat → Value} {f g : Nat → Bool} {rest : List Nat} (hc : calmB ops m = true) (hk : b.kind ≠ .early) (hi : i < m) (ho : ops[i]? = some o) (hd : ∀ e ∈ o.after, Region.binds .any e = true → f e.on = true)
  (hg : ∀ (j : Nat) (p : Oper) (t : Nat), ops[j]? = some p → p.dst = some t → t ∈ o.looksAt ops → j < i → g j = true)
  (hcond : CondU P main V ops Z o (puts ops vals g a) (vals i)) (hr' : Walk P main (DR V) Stop (G (b.at ((puts ops vals f a).put o.dst (vals i)) (.inRegion ops rest :: k)) cs) w) :
  Walk P main (DR V) Stop (G (b.at (puts ops vals f a) (.inRegion ops (i :: rest) :: k)) cs) w := by
 obtain ⟨hsel, ⟨t0, ht0, hself⟩, hdist⟩ := calm_at hc hi ho
 have hlook : ∀ t ∈ o.looksAt ops, (puts ops vals f a).tmps[t]? = (puts ops vals g a).tmps[t]? := fun t ht => slot_congr _ a a rfl fun j hj hjd => by
  have hjl := List.mem_range.1 hj
  have hoj := Array.getElem?_eq_getElem hjl
  have hne : j ≠ i := fun e => by
   subst e
   rw [dst_of ho, ht0] at hjd
   cases hjd
   exact hself ht
  rw [hoj] at hjd
  obtain ⟨h1, h2⟩ := (hdist j _ hoj hne).2 t hjd ht
  exact ⟨(waits_at h2 ho hd).trans (hg j _ t hoj hjd ht h1).symm, rfl⟩
 obtain ⟨s1, s2, s3⟩ := same_look hlook hsel
 have hsz : (puts ops vals f a).tmps.size = (puts ops vals g a).tmps.size := by
  unfold puts
  rw [putsL_size, putsL_size]
 have hput : ∀ v, (puts ops vals g a).put o.dst v = (puts ops vals g a).put o.dst (vals i) → (puts ops vals f a).put o.dst v = (puts ops vals f a).put o.dst (vals i) := fun v e => by
  refine act_ext (fun t => ?_) (by rw [put_defers, put_defers])
  rw [put_slot, put_slot]
  split
  ·next e' =>
   have h1 : ((puts ops vals g a).put o.dst v).tmps[t]? = ((puts ops vals g a).put o.dst (vals i)).tmps[t]? := by rw [e]
   rw [put_slot, put_slot, if_pos e', if_pos e'] at h1
   by_cases hl : t < (puts ops vals f a).tmps.size
   ·rw [Array.getElem?_eq_getElem (hsz ▸ hl)] at h1
    simp only [Option.map_some] at h1
    rw [Array.getElem?_eq_getElem hl]
    exact h1
   ·rw [Array.getElem?_eq_none (by omega)]; rfl
  ·rfl
 rcases hcond with ⟨c1, c2⟩ | ⟨c1, c2, c3⟩ | ⟨c1, f', fn, args, ats, e1, e2, e3, e4, e5⟩
 ·rw [← s2] at c1
  rw [c2] at hr'
  exact Walk.ctl rfl (fun w => stepG_unwanted ho c1) hr'
 ·rw [← s2] at c1
  rw [← s1] at c2 c3
  refine Walk.opq ho c1 hk (c2 w hz) fun d' K hK => ?_
  have h3 := c3 w hz d'
  revert h3
  generalize (execOp (puts ops vals f a).eval o).run P (w.at d') = rr
  intro h3
  unfold uponK at h3 ⊢
  split at h3
  ·obtain ⟨x1, rfl⟩ := h3
   refine hK _ ?_
   rw [hput _ x1]; exact hr'
  ·obtain ⟨x1, rfl⟩ := h3
   refine hK _ ?_
   rw [hput _ x1]; exact hr'
  ·exact h3.elim
 ·rw [← s2] at c1
  have hargs : args.map (puts ops vals f a).eval = args.map (puts ops vals g a).eval := Array.map_congr_left fun x hx => s3 x (by rw [e1]; simp [Op.operands, Call.operands, hx])
  rw [← hargs] at e5
  exact Walk.callV (e5 w hz) ho c1 hk e1 e2 e3 e4 hr'
def apartB (ops : Array Oper) (iA iB m : Nat) : Bool := decide (iA < iB) && decide (iB < m) && waitsB ops iB iA && (List.range m).all fun i => decide (i = iA) || decide (i = iB) || (ops[i]?).any fun o =>
 !(o.looksAt ops).any (fun t => (ops[iA]?).bind (·.dst) == some t) && !(o.looksAt ops).any (fun t => (ops[iB]?).bind (·.dst) == some t)
def quietQ (iA iB : Nat) (j : Nat) : Bool := !decide (j = iA) && !decide (j = iB)
theorem look_full {m i : Nat} {o : Oper} {vals vals' : Nat → Value} {f g : Nat → Bool} (hc : calmB ops m = true) (hi : i < m) (ho : ops[i]? = some o) (hd : ∀ e ∈ o.after, Region.binds .any e = true → f e.on = true) (hg : ∀ j, j < i → g j = true ∧ vals j = vals' j) (a : Act) :
  ∀ y ∈ o.op.operands, (puts ops vals f a).eval y = (puts ops vals' g a).eval y := by
 obtain ⟨hsel, ⟨t0, ht0, hself⟩, hdist⟩ := calm_at hc hi ho
 have hlook : ∀ t ∈ o.looksAt ops, (puts ops vals f a).tmps[t]? = (puts ops vals' g a).tmps[t]? := fun t ht => slot_congr _ a a rfl fun j hj hjd => by
  have hjl := List.mem_range.1 hj
  have hoj := Array.getElem?_eq_getElem hjl
  have hne : j ≠ i := fun e => by
   subst e
   rw [dst_of ho, ht0] at hjd
   cases hjd
   exact hself ht
  rw [hoj] at hjd
  obtain ⟨h1, h2⟩ := (hdist j _ hoj hne).2 t hjd ht
  obtain ⟨g1, g2⟩ := hg j h1
  exact ⟨(waits_at h2 ho hd).trans g1.symm, g2⟩
 exact (same_look hlook hsel).2.2
theorem Walk.drawnT {id m iA iB : Nat} {Z : World → Prop} {w1 : World} {oA oB : Oper} {vA : Value} (PB : Value → World → Prop) (hm : P.follows .mixedOrders = true) (hsz : ops.size = m + 1) (hlow : lowB ops = true) (hc : calmB ops m = true) (hl : lastB ops m = true) (hap : apartB ops iA iB m = true) (hk : b.kind ≠ .early)
  (hoA : ops[iA]? = some oA) (hoB : ops[iB]? = some oB) (hz : Z w) (hz1 : Z w1) (hz2 : ∀ v w', PB v w' → Z w')
  (h : Cm P main V ops Z (fun aF => (∀ x, (∀ y ∈ oA.op.operands, x.eval y = aF.eval y) → OpW P main V Stop b k cs ops iA (fun x' w' => x' = x.put oA.dst vA ∧ ∃ d, w' = w1.at d) x w) ∧
   (∀ x, (∀ y ∈ oB.op.operands, x.eval y = (aF.put oA.dst vA).eval y) → OpW P main V Stop b k cs ops iB (fun x' w' => ∃ v w2, PB v w2 ∧ x' = x.put oB.dst v ∧ ∃ d, w' = w2.at d) x w1) ∧
   ∀ v w2, PB v w2 → OpW P main V Stop b k cs ops m (fun a' w' => Walk P main (DR V) Stop (G (b.at a' (.inRegion ops [] :: k)) cs) w') ((aF.put oA.dst vA).put oB.dst v) w2) ((List.range m).filter (quietQ iA iB)) a) :
  Walk P main (DR V) Stop (G (b.at a (.code (.region id ops true) :: k)) cs) w := by
 unfold apartB at hap
 simp only [Bool.and_eq_true, decide_eq_true_eq] at hap
 obtain ⟨⟨⟨hAB, hBm⟩, hBA⟩, hq⟩ := hap
 rw [List.range_eq_range'] at h
 have hzero : puts ops (fun _ => undef) (fun j => decide (j < 0) && quietQ iA iB j) a = a := putsL_none _ a fun j _ => by simp
 rw [← hzero] at h
 obtain ⟨vals, _, hcond, hA, hB, hC⟩ := cm_valsQ (q := quietQ iA iB) hz hc m 0 (fun _ => undef) a (by omega) h
 clear h hzero
 generalize hvA : upd vals iA vA = va
 have hva : ∀ j, j ≠ iA → va j = vals j := fun j hj => by rw [← hvA]; exact upd_ne _ _ hj
 have hvaA : va iA = vA := by rw [← hvA]; exact upd_same _ _ _
 have qA : ∀ j, quietQ iA iB j = true ↔ j ≠ iA ∧ j ≠ iB := fun j => by simp [quietQ]
 have quiet : ∀ (vs : Nat → Value) (f : Nat → Bool) (i : Nat) (o : Oper) (rest : List Nat) (ww : World), (∀ j, j ≠ iA → j ≠ iB → vs j = vals j) → Z ww → i < m → i ≠ iA → i ≠ iB → f i = false → ops[i]? = some o → (∀ e ∈ o.after, Region.binds .any e = true → f e.on = true) →
   Walk P main (DR V) Stop (G (b.at (puts ops vs (upd f i true) a) (.inRegion ops rest :: k)) cs) ww → Walk P main (DR V) Stop (G (b.at (puts ops vs f a) (.inRegion ops (i :: rest) :: k)) cs) ww := by
  intro vs f i o rest ww hvs hzw him h1 h2 hf ho hd hr
  rw [puts_upd hc him vs hf ho a] at hr
  have hcd := hcond i o (Nat.zero_le _) him ((qA i).2 ⟨h1, h2⟩) ho
  have e : puts ops vals (fun x => decide (x < i) && quietQ iA iB x) a = puts ops vs (fun x => decide (x < i) && quietQ iA iB x) a := puts_congr (fun j _ => ⟨rfl, fun hd => by
   have := (qA j).1 (Bool.and_eq_true _ _ ▸ hd : _ ∧ _).2
   exact (hvs j this.1 this.2).symm⟩) a
  rw [e, ← hvs i h1 h2] at hcd
  refine Walk.calmOpG hzw hc hk him ho hd (fun j p t hj ht hm hji => ?_) hcd hr
  have hh := List.all_eq_true.1 hq i (List.mem_range.2 him)
  rw [ho] at hh
  simp only [decide_eq_false h1, decide_eq_false h2, Bool.false_or, Option.any_some, Bool.and_eq_true, Bool.not_eq_true'] at hh
  have hjA : j ≠ iA := fun e' => by
   subst e'
   rw [hj] at hh
   have : (o.looksAt ops).any (fun t => (some p).bind (·.dst) == some t) = true := List.any_eq_true.2 ⟨t, hm, by simp [ht]⟩
   rw [this] at hh
   exact absurd hh.1 (by simp)
  have hjB : j ≠ iB := fun e' => by
   subst e'
   rw [hj] at hh
   have : (o.looksAt ops).any (fun t => (some p).bind (·.dst) == some t) = true := List.any_eq_true.2 ⟨t, hm, by simp [ht]⟩
   rw [this] at hh
   exact absurd hh.2 (by simp)
  simp [hji, (qA j).2 ⟨hjA, hjB⟩]
 have eA : puts ops va (upd (fun j => decide (j < m) && quietQ iA iB j) iA true) a = (puts ops vals (fun j => decide (j < m) && quietQ iA iB j) a).put oA.dst vA := by
  rw [puts_upd hc (by omega) va (by simp [quietQ]) hoA a, hvaA]
  congr 1
  exact puts_congr (fun j _ => ⟨rfl, fun hd => hva j ((qA j).1 (Bool.and_eq_true _ _ ▸ hd : _ ∧ _).2).1⟩) a
 refine Walk.drawnJ (Inv := fun f x w' => (f m = true ∧ (∀ j, j < m → f j = true) ∧ Walk P main (DR V) Stop (G (b.at x (.inRegion ops [] :: k)) cs) w') ∨ (f m = false ∧ f iB = false ∧ x = puts ops va f a ∧ ∃ d, w' = (if f iA then w1 else w).at d) ∨
  (f m = false ∧ f iB = true ∧ f iA = true ∧ ∃ v w2, PB v w2 ∧ x = puts ops (upd va iB v) f a ∧ ∃ d, w' = w2.at d)) hm hlow (fun d => .inr (.inl ⟨rfl, rfl, (puts_zero va a).symm, d, rfl⟩)) ?_ ?_
 ·rintro f i o x w' hI hC' hf ho hd rest hr
  have hi : i < m + 1 := by have := (Array.getElem?_eq_some_iff.1 ho).1; omega
  rcases hI with ⟨h1, h2, _⟩ | ⟨h1, h2, rfl, d, rfl⟩ | ⟨h1, h2, h3, v, w2, hPB, rfl, d, rfl⟩
  ·exfalso
   by_cases e : i = m
   ·rw [e, h1] at hf; cases hf
   ·rw [h2 i (by omega)] at hf; cases hf
  ·refine Walk.back ?_ d
   by_cases e : i = m
   ·subst e
    have := last_all hl hC' ho hd (i - iB) iB (by omega) (by omega)
    rw [h2] at this; cases this
   by_cases eiA : i = iA
   ·subst eiA
    rw [hoA] at ho
    cases ho
    rw [hf, if_neg (by simp)]
    refine hA _ (look_full hc (by omega) hoA hd (fun j hj => ⟨by simp [quietQ]; omega, hva j (by omega)⟩) a) rest ?_
    rintro x' w' ⟨rfl, d', rfl⟩
    refine hr _ _ (.inr (.inl ⟨by rw [upd_ne _ _ (by omega)]; exact h1, by rw [upd_ne _ _ (by omega)]; exact h2, ?_, d', by rw [upd_same]; rfl⟩))
    rw [puts_upd hc (by omega) va hf hoA a, hvaA]
   by_cases eiB : i = iB
   ·subst eiB
    rw [hoB] at ho
    cases ho
    have hfA : f iA = true := waits_at hBA hoB hd
    rw [hfA, if_pos rfl]
    refine hB _ ?_ rest ?_
    ·rw [← eA]
     exact look_full hc hBm hoB hd (fun j hj => ⟨by
      by_cases ej : j = iA
      ·rw [ej, upd_same]
      ·rw [upd_ne _ _ ej]
       simp [quietQ, ej]; omega, rfl⟩) a
    ·rintro x' w' ⟨v, w2, hPB, rfl, d', rfl⟩
     refine hr _ _ (.inr (.inr ⟨by rw [upd_ne _ _ (by omega)]; exact h1, upd_same _ _ _, by rw [upd_ne _ _ (by omega)]; exact hfA, v, w2, hPB, ?_, d', rfl⟩))
     rw [puts_upd hc hBm (upd va i v) hf hoB a, upd_same]
     congr 1
     exact puts_congr (fun j _ => ⟨rfl, fun hj => (upd_ne _ _ (fun e' => by rw [e', hf] at hj; cases hj)).symm⟩) a
   ·refine quiet va f i o rest _ (fun j h _ => hva j h) ?_ (by omega) eiA eiB hf ho hd ?_
    ·split
     ·exact hz1
     ·exact hz
    ·refine (hr _ (((if f iA then w1 else w)).at ((if f iA then w1 else w)).drawn) (.inr (.inl ⟨by rw [upd_ne _ _ (by omega)]; exact h1, by rw [upd_ne _ _ (Ne.symm eiB)]; exact h2, rfl, _, by rw [upd_ne _ _ (Ne.symm eiA)]⟩)))
  ·refine Walk.back ?_ d
   by_cases e : i = m
   ·subst e
    have hall := last_all hl hC' ho hd
    have ef : puts ops (upd va iB v) f a = ((puts ops vals (fun j => decide (j < i) && quietQ iA iB j) a).put oA.dst vA).put oB.dst v := by
     have e1 : puts ops va (upd (fun j => decide (j < i) && quietQ iA iB j) iA true) a = puts ops (upd va iB v) (upd (fun j => decide (j < i) && quietQ iA iB j) iA true) a := puts_congr (fun j _ => ⟨rfl, fun hj => (upd_ne _ _ (fun e' => by
      rw [e', upd_ne _ _ (by omega)] at hj
      simp [quietQ] at hj)).symm⟩) a
     have e2 := puts_upd hc hBm (upd va iB v) (f := upd (fun j => decide (j < i) && quietQ iA iB j) iA true) (by rw [upd_ne _ _ (by omega)]; simp [quietQ]) hoB a
     rw [upd_same, ← e1, eA] at e2
     rw [← e2]
     refine puts_congr (fun j hj => ⟨?_, fun _ => rfl⟩) a
     by_cases ej : j = iB
     ·rw [ej, upd_same, h2]
     ·rw [upd_ne _ _ ej]
      by_cases ej2 : j = iA
      ·rw [ej2, upd_same, h3]
      ·rw [upd_ne _ _ ej2]
       by_cases hji : j < i
       ·rw [hall (i - j) j (by omega) (by omega)]
        simp [hji, quietQ, ej, ej2]
       ·have : j = i := by omega
        rw [this, hf]; simp
    rw [ef]
    refine hC v w2 hPB rest fun a' w' hw' => hr a' w' (.inl ⟨upd_same _ _ _, fun j hj => ?_, hw'⟩)
    rw [upd_ne _ _ (by omega)]
    exact hall (i - j) j (by omega) (by omega)
   ·have n1 : i ≠ iA := fun e' => by rw [e', h3] at hf; cases hf
    have n2 : i ≠ iB := fun e' => by rw [e', h2] at hf; cases hf
    refine quiet (upd va iB v) f i o rest _ (fun j h h' => (upd_ne _ _ h').trans (hva j h)) (hz2 v w2 hPB) (by omega) n1 n2 hf ho hd ?_
    exact hr _ (w2.at w2.drawn) (.inr (.inr ⟨by rw [upd_ne _ _ (by omega)]; exact h1, by rw [upd_ne _ _ (Ne.symm n2)]; exact h2, by rw [upd_ne _ _ (Ne.symm n1)]; exact h3, v, w2, hPB, rfl, _, rfl⟩))
 ·rintro f x w' hI hall
  rcases hI with ⟨_, _, h3⟩ | ⟨h1, _⟩ | ⟨h1, _⟩
  ·exact h3
  ·rw [hall m (by omega)] at h1; cases h1
  ·rw [hall m (by omega)] at h1; cases h1
end
end
end Go.Relay
