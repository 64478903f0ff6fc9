/- Part 13. -/
import Derived.Test.YtjenoiekfkhafaaJ3
import Derived.Test.YtjenoiekfkhafaaJ4
import Derived.Test.YtjenoiekfkhafaaJ11
import Derived.Test.YtjenoiekfkhafaaJ12
import Derived.Laws.OwnMore
import Derived.Conc.AtomicLaws2
set_option linter.unusedSimpArgs false
set_option linter.unusedVariables false
set_option linter.unusedVariables false
set_option maxHeartbeats 8000000
set_option maxRecDepth 100000
namespace Go.Proofs.Ytjenoiekfkhafaa
open Go.Conc Go.RowKit Go.Relay
open Go.ConcN (upd upd_ne upd_same)
section
structure Abs (X : Type) where
 n : Nat
 most : Int
 born : X → Nat → X
 next : X → Nat → X
 out : X → Nat → Option Bool
section
variable {X : Type}
def goingA (C : Abs X) (x : X) : Nat := (List.range C.n).countP (fun i => (C.out x i).isNone)
def overA (C : Abs X) (st : X × List Nat) : Bool := decide (goingA C st.1 = 0) || decide (C.most ≤ st.2.length)
def stepA (C : Abs X) (st : X × List Nat) (z : Int) : X × List Nat :=
 if overA C st = false ∧ 0 ≤ z ∧ z < C.n ∧ C.out st.1 z.toNat = none then (C.next st.1 z.toNat, st.2 ++ [z.toNat]) else st
def roundA (C : Abs X) (st : X × List Nat) : X × List Nat := (List.range C.n).foldl (fun st i => stepA C st (i : Nat)) st
def restA (C : Abs X) : Nat → X × List Nat → X × List Nat
 | 0, st => st
 | f + 1, st => if overA C st then st else restA C f (roundA C st)
def followA (C : Abs X) (st : X × List Nat) (l : List Int) : X × List Nat := restA C C.most.toNat (l.foldl (stepA C) st)
def bornsA (C : Abs X) : Nat → Nat → X → X
 | 0, _, x => x
 | n + 1, k, x => bornsA C n (k + 1) (C.born x k)
def runA (C : Abs X) (x0 : X) (l : List Int) : X × List Nat := followA C (bornsA C C.n 0 x0, []) l
def absOf {S : Stile} (C : Crew S X) : Abs X := ⟨S.n, S.most, C.born, C.next, C.out⟩
theorem rest_abs {S : Stile} (C : Crew S X) : ∀ (f : Nat) (st : X × List Nat), restX C f st = restA (absOf C) f st
 | 0, _ => rfl
 | f + 1, st => by
  unfold restX restA
  rw [rest_abs C f]
  rfl
theorem born_abs {S : Stile} (C : Crew S X) : ∀ (n k : Nat) (x : X), bornAll C n k x = bornsA (absOf C) n k x
 | 0, _, _ => rfl
 | n + 1, k, x => by
  unfold bornAll bornsA
  exact born_abs C n (k + 1) _
theorem follow_abs {S : Stile} (C : Crew S X) (st : X × List Nat) (l : List Int) : followX C st l = followA (absOf C) st l := by
 unfold followX followA
 rw [rest_abs]
 rfl
end
def absO (L : La) (n : Nat) (most : Int) (ops : Nat → List OpV) : Abs (OX L) := ⟨n, most, bornO ops, nextO, OX.out⟩
def x0O (L : La) (s0 : L.Sg) : OX L := ⟨s0, fun _ => t0 L, fun _ => none, 0⟩
def playO (L : La) (s0 : L.Sg) (ops : Nat → List OpV) (n : Nat) (most : Int) (sl : List Int) : OX L × List Nat := runA (absO L n (min (max most 0) 1048576) ops) (x0O L s0) sl
def stuckO {L : La} (n : Nat) (x : OX L) : Bool := decide (0 < (List.range n).countP (fun i => (x.out i).isNone))
structure OpsAll (L : La) (y0 : L.Gh) (w w' : World) (n : Nat) (x : OX L) (ord : List Nat) (cells : Array Value) (y : L.Gh) (A : Nat) (oo : Option Addr) (ok : Nat) (hd : Nat → Value) (own : Nat → Nat → Prop) : Prop where
 eq : cells = #[.slice (some ⟨A, 0, none⟩) n n, .slice oo ord.length ok, .slice none 0 0, .bool (stuckO n x)]
 orow : w'.ownsRow w.heap.size 3 1 (.slice oo ord.length ok) ord.length (ord.map fun i => .int .i64 (i : Nat))
 Alo : w.heap.size ≤ A
 heads : ∃ arr : Array Value, w'.heap[A]? = some (.cells arr 42) ∧ arr.size = n ∧ ∀ i, i < n → arr[i]? = some (hd i)
 rows : ∀ i, i < n → RowA w.heap.size (own i) (hd i) (x.th i).ans w'
 one : ∀ i j b, own i b → own j b → i = j
 ownA : ∀ i b, own i b → b ≠ A ∧ ¬ L.sh y b
 ownO : ∀ i b, own i b → (Value.slice oo ord.length ok).ownBlock ≠ some b
 shA : ∀ b, L.sh y b → b ≠ A ∧ (Value.slice oo ord.length ok).ownBlock ≠ some b
 Aord : (Value.slice oo ord.length ok).ownBlock ≠ some A
 le : L.le y0 y
 I : L.I y x.s w'
 pub : ∀ b, L.sh y b → b < w.heap.size → L.sh y0 b
structure OpsOut (L : La) (y0 : L.Gh) (s0 : L.Sg) (ops : Nat → List OpV) (n : Nat) (most : Int) (sl : List Int) (w w' : World) (cells : Array Value) : Prop where
 all : ∃ y A oo ok hd own, OpsAll L y0 w w' n (playO L s0 ops n most sl).1 (playO L s0 ops n most sl).2 cells y A oo ok hd own
 old : ∀ b, b < w.heap.size → ¬ L.sh y0 b → w'.heap[b]? = w.heap[b]?
 size : w.heap.size ≤ w'.heap.size
theorem row_raise {w : World} {base base' : Nat} {e : TypeId} {size : Nat} {v : Value} {n : Nat} {xs : List Value} (h : w.ownsRow base e size v n xs) (hb : ∀ g, v.ownBlock = some g → base' ≤ g) : w.ownsRow base' e size v n xs := by
 refine ⟨h.1, ?_⟩
 rcases h.2 with z | ⟨g, cap, cur, h0, h1, h2⟩
 ·exact .inl z
 ·exact .inr ⟨g, cap, cur, h0, hb g (by rw [h0]; rfl), h2⟩
section
variable {L : La} {fdo : FuncId} {first cap : Array Value}
theorem ops_run (hD : DoFn L fdo first cap) (y0 : L.Gh) (s0 : L.Sg) (tv : Value) (most : Int) (tb toff tc n : Nat) (hn1 : 1 ≤ n) (hn : n ≤ 64) (oa : Nat → Option Addr) (ln oc : Nat → Nat) (ops : Nat → List OpV) (sa : Option Addr) (sc : Nat) (sl : List Int) (hsl : sl.length ≤ 17592186044416) (c : Frame) (cs : List Frame) (w : World)
  (I : OpsIn tb toff n oa ln oc ops w) (hI : L.I y0 s0 w) (hns : ∀ i, i < n → ∀ (j : Nat) (o : OpV), (ops i)[j]? = some o → ∀ b off, oa i = some ⟨b, off, none⟩ → ¬ L.sh y0 b)
  (hsc : ∀ (j : Nat) (z : Int), sl[j]? = some z → ∃ s so, sa = some ⟨s, so, none⟩ ∧ w.cell? ⟨s, so + j, none⟩ = some (.int .i64 z) ∧ ¬ L.sh y0 s)
  (hp : ∀ w' : World, (∀ b, b < w.heap.size → w'.heap[b]? = w.heap[b]?) → CallV Try.prog true (fun _ => none) 62 #[tv] w' (.slice (some ⟨tb, toff, none⟩) n tc) w') :
  Runs (fun g w' => ∃ cells, OpsOut L y0 s0 ops n most sl w w' cells ∧ g = G (c.finish (.agg cells)) cs) (G (Frame.enter Try.prog 33 #[tv, .func (.func fdo) first cap, .slice sa sl.length sc, .int .i64 most] .normal) (c :: cs)) w := by
 have hA : ∀ b, Apart (fun _ => none) b := fun b => ⟨fun _ _ _ _ h => (by cases h), fun _ _ h => (by cases h)⟩
 refine Runs.walk (ops_in fdo first cap tv (.slice sa sl.length sc) most (some ⟨tb, toff, none⟩) tb toff tc n (fun _ => rfl) hn oa ln oc ops c cs w I (fun b _ => hA b) hp) ?_
 rintro _ w2 ⟨fr, w1, rfl, o1, s1, hT, M, hB⟩
 have hshw : ∀ b, L.sh y0 b → b < w.heap.size := fun b h => L.lt hI h
 have s2 : w2.heap.size = w.heap.size + 1 + 4 + 2 * n := M.size
 have o2 : ∀ b, b < w.heap.size → w2.heap[b]? = w.heap[b]? := fun b hb => (M.old b (by omega)).trans (o1 b hb)
 have hc2 : ∀ {b j : Nat} {v : Value}, w.cell? ⟨b, j, none⟩ = some v → w2.cell? ⟨b, j, none⟩ = some v := fun {b j v} h => (World.cell?_of_block (a := ⟨b, j, none⟩) (o2 b (cell_lt' h))).trans h
 have hI2 : L.I y0 s0 w2 := L.stable hI fun b h => o2 b (hshw b h)
 let g : OG := ⟨n, w2, w.heap.size + 1 + 1, ops, L.sh y0⟩
 let Q : Given := ⟨0, n, w.heap.size + 4, n, most, fun i => thrO (w.heap.size + 1) i, sa, sc, sl⟩
 obtain ⟨farr, hF1, hF2, hF3⟩ := M.cF
 have hfree : ∀ b, w.heap.size ≤ b → ¬ L.sh y0 b := fun b hb h => by have := hshw b h; omega
 refine Runs.then (over_run (fun S => crewO L g y0 hD S) (x0O L s0) Q (.slice (some ⟨w.heap.size + 4, 0, none⟩) n n) w2 hn1 hn hsl (fun _ => rfl) (by
   have := first_some (main := true) (V := fun _ => none) (w.heap.size + 4) n n w2 (Nat.le_refl _)
   rw [Nat.min_eq_left hn] at this
   exact this) (fun g0 sb scap sts => ⟨fun _ => [], ?_, fun _ => none, fun _ => .slice none 0 0, ?_⟩) fr (c :: cs)) ?_
 ·intro i hi
  refine ⟨w.heap.size + 1 + 5 + 2 * i, w.heap.size + 1 + 2, w.heap.size + 1 + 4 + 2 * i, w.heap.size + 1, n, oa i, oc i, ⟨hi, hn, by rw [show g.ops i = ops i from rfl, I.len i hi]; omega, ?_, (cell_of M.cA 0).trans rfl, (cell_of (M.cI i hi) 0).trans rfl, (cell_of M.cD 0).trans rfl, ⟨hfree _ (by omega), show _ ≠ w.heap.size + 1 + 1 by omega⟩, ⟨hfree _ (by omega), show _ ≠ w.heap.size + 1 + 1 by omega⟩, ⟨hfree _ (by omega), show _ ≠ w.heap.size + 1 + 1 by omega⟩, ⟨hfree _ (by omega), show _ ≠ w.heap.size + 1 + 1 by omega⟩, fun j o ho => ?_⟩, rfl⟩
  ·rw [show (g.ops i).length = min (ln i) 65536 from I.len i hi]
   exact (cell_of (M.cO i hi) 0).trans rfl
  ·obtain ⟨b, off, e, c0, c1, c2, c3⟩ := I.ops i hi j o ho
   exact ⟨b, off, e, hns i hi j o ho b off e, show b ≠ w.heap.size + 1 + 1 by have := cell_lt' c0; omega, hc2 c0, hc2 c1, hc2 c2, hc2 c3⟩
 ·refine ⟨y0, L.refl _, ⟨⟨rfl, show w.heap.size + 1 + 1 < w2.heap.size by omega, ⟨hfree _ (show w.heap.size ≤ w.heap.size + 4 by omega), show w.heap.size + 4 ≠ w.heap.size + 1 + 1 by omega⟩, fun i hi => ?_, fun j z hz => ?_⟩, Nat.zero_le _, Nat.le_refl _, fun _ _ => rfl, fun _ _ _ _ => rfl, fun _ _ h => (by cases h), fun b h => ⟨rfl, by have := hshw b h; show b ≠ w.heap.size + 1 + 1; omega, by have := hshw b h; show b < w2.heap.size; omega, fun _ => h⟩, hI2, ⟨_, M.cN, madeCells_size _ _, fun i hi => madeCells_get _ n i hi⟩, fun i hi => RowA.nil _ _ _, fun i hi => absurd hi (Nat.not_lt_zero _), fun _ _ _ => rfl⟩⟩
  ·exact (cell_of hF1 i).trans (hF3 i hi)
  ·obtain ⟨s, so, e, hc, h1⟩ := hsc j z hz
   exact ⟨s, so, e, hc2 hc, h1, show s ≠ w.heap.size + 1 + 1 by have := cell_lt' hc; omega⟩
 ·rintro _ w4 ⟨_, ⟨g0, sb, scap, sts, x, ord, oa', oc', q, k, own, csx, hx, hov, rfl, ⟨hThr, pr, hd, y, hy, P⟩, hrow, hrb, hq, hqs, hsz, _⟩, rfl⟩
  have hT4 : w4.heap[w.heap.size]? = some (.cells #[.slice none 0 0, .slice none 0 0, .slice none 0 0, .bool false] 31) := (P.old _ (show w.heap.size < w2.heap.size by omega) (hfree _ (Nat.le_refl _)) (show w.heap.size ≠ w.heap.size + 1 + 1 by omega)).trans ((M.old _ (by omega)).trans hT)
  have hp : (x, ord) = playO L s0 ops n most sl := by
   rw [hx, follow_abs, born_abs]
   rfl
  have hg : decide (0 < goingX (crewO L g y0 hD (stile (Q.at g0) w2.heap.size sb scap sts)) x) = stuckO n x := rfl
  refine Runs.walk (hB oa' ord.length oc' _ _ w4 hT4 (hA _)) ?_
  rintro _ _ ⟨rfl, d, rfl⟩
  obtain ⟨arr, hAr, hAz, hAi⟩ := P.an
  have hset : ∀ b, b ≠ w.heap.size → (w4.setRow w.heap.size #[.slice (some ⟨w.heap.size + 2, 0, none⟩) n n, .slice oa' ord.length oc', .slice none 0 0, .bool (stuckO n x)]).heap[b]? = w4.heap[b]? := fun b hb => setRow_other _ _ hb
  have hle : w2.heap.size ≤ w4.heap.size := P.size
  have hshn : ∀ b, L.sh y b → b ≠ w.heap.size := fun b h e => hfree b (by omega) ((P.shl b h).2.2.2 (show b < w2.heap.size by omega))
  have hprn : ∀ b i, pr b = some i → b ≠ w.heap.size := fun b i h e => by
   have h1 : w2.heap.size ≤ b := (P.prl b i h).1
   omega
  have hoA : own (w.heap.size + 1 + 1) = none := P.base _ (show w.heap.size + 1 + 1 < w2.heap.size by omega)
  have e2 : (playO L s0 ops n most sl).1 = x := by rw [← hp]
  have e3 : (playO L s0 ops n most sl).2 = ord := by rw [← hp]
  refine .now ⟨_, ⟨?_, fun b hb hs => ?_, ?_⟩, rfl⟩
  ·rw [e2, e3]
   refine ⟨y, w.heap.size + 2, oa', oc', hd, fun i b => pr b = some i, ⟨?_, ?_, by omega, ⟨arr, (hset _ (by omega)).trans hAr, hAz, hAi⟩, fun i hi => ?_, fun i j b h1 h2 => ?_, fun i b h => ⟨?_, (P.prl b i h).2.2.2⟩, fun i b h e => ?_, fun b h => ⟨(P.shl b h).2.1, fun e => ?_⟩, fun e => ?_, hy, L.stable P.I fun b h => hset b (hshn b h), fun b h hb => (P.shl b h).2.2.2 (show b < w2.heap.size by omega)⟩⟩
   ·rw [hg]
   ·refine row_same (row_raise hrow fun b hb => ?_) fun b hb => hset b ?_
    ·have := hrow.lt b hb; omega
    ·have := hrow.lt b hb; omega
   ·exact ((P.row i hi).same fun b h => hset b (hprn b i h)).low (show w.heap.size ≤ w2.heap.size by omega)
   ·rw [h1] at h2; exact Option.some.inj h2
   ·have h1 : w2.heap.size ≤ b := (P.prl b i h).1
    omega
   ·have h1 := (hrb b e).1
    rw [(P.prl b i h).2.2.1] at h1; cases h1
   ·have h1 := (hrb b e).1
    rw [(P.shl b h).1] at h1; cases h1
   ·have h1 := (hrb _ e).1
    rw [show w.heap.size + 2 = w.heap.size + 1 + 1 by omega, hoA] at h1; cases h1
  ·exact (hset b (by omega)).trans ((P.old b (show b < w2.heap.size by omega) hs (show b ≠ w.heap.size + 1 + 1 by omega)).trans (o2 b hb))
  ·show w.heap.size ≤ (w4.setRow _ _).heap.size
   rw [setRow_size]; omega
end
end
end Go.Proofs.Ytjenoiekfkhafaa
namespace Go.Relay
section
open Go.Conc Go.RowKit
open Go.ConcN (upd upd_ne upd_same)
section
variable {P : Program} {main : Bool} {V : Nat → Option Wait} {ops : Array Oper} {Z : World → Prop} {w : World} {K : Act → Prop} {i : Nat} {rest : List Nat} {a : Act} {o : Oper}
theorem Cm.opqZ (ho : ops[i]? = some o) (hw : Region.wanted o (yielded ops a.tmps) = true) (he : ∀ w, Z w → ∀ d, ∀ e ∈ (execOp a.eval o).events P (w.at d) #[], EvR V e)
  (h : ∃ a', (∀ w, Z w → ∀ d, ∀ K' : Act → World → Prop, K' a' (w.at d) → uponK o a K' ((execOp a.eval o).run P (w.at d))) ∧ Cm P main V ops Z K rest a') : Cm P main V ops Z K (i :: rest) a := by
 obtain ⟨a', h1, h2⟩ := h
 exact Cm.opq ho hw he h1 h2
theorem pre_skip {q : Nat → Bool} {i : Nat} (h : q i = false) (vals : Nat → Value) (a : Act) : puts ops vals (fun j => decide (j < i + 1) && q j) a = puts ops vals (fun j => decide (j < i) && q j) a :=
 puts_congr (fun j _ => ⟨by
  by_cases e : j = i
  ·subst e; simp [h]
  ·have : (decide (j < i + 1) : Bool) = decide (j < i) := by by_cases hl : j < i <;> simp [hl] <;> omega
   rw [this], fun _ => rfl⟩) a
theorem pre_take {m : Nat} {q : Nat → Bool} (hc : calmB ops m = true) (hi : i < m) (h : q i = true) (vals : Nat → Value) (ho : ops[i]? = some o) (a : Act) : puts ops vals (fun j => decide (j < i + 1) && q j) a = (puts ops vals (fun j => decide (j < i) && q j) a).put o.dst (vals i) := by
 rw [← puts_upd hc hi vals (f := fun j => decide (j < i) && q j) (by simp) ho a]
 refine puts_congr (fun j _ => ⟨?_, fun _ => rfl⟩) a
 by_cases e : j = i
 ·subst e; simp [h, upd_same]
 ·rw [upd_ne _ _ e]
  have : (decide (j < i + 1) : Bool) = decide (j < i) := by by_cases hl : j < i <;> simp [hl] <;> omega
  rw [this]
theorem cm_valsQ {m : Nat} {q : Nat → Bool} (hz : Z w) (hc : calmB ops m = true) : ∀ (r i : Nat) (vals : Nat → Value) (a0 : Act), i + r = m → Cm P main V ops Z K ((List.range' i r).filter q) (puts ops vals (fun j => decide (j < i) && q j) a0) →
  ∃ vals', (∀ j, j < i → vals' j = vals j) ∧ (∀ j o, i ≤ j → j < m → q j = true → ops[j]? = some o → CondU P main V ops Z o (puts ops vals' (fun x => decide (x < j) && q x) a0) (vals' j)) ∧ K (puts ops vals' (fun j => decide (j < m) && q j) a0)
 | 0, i, vals, a0, hi, h => by
  have hi : i = m := hi
  refine ⟨vals, fun _ _ => rfl, fun j o hj hjm _ ho => ?_, ?_⟩
  ·omega
  ·rw [← hi]; exact h
 | r + 1, i, vals, a0, hi, h => by
  rw [List.range'_succ] at h
  cases hq : q i with
  | false =>
   rw [List.filter_cons_of_neg (by simp [hq]), ← pre_skip hq] at h
   obtain ⟨vals', k1, k2, k3⟩ := cm_valsQ hz hc r (i + 1) vals a0 (by omega) h
   refine ⟨vals', fun j hj => k1 j (by omega), fun j o hj hjm hqj ho => ?_, k3⟩
   by_cases e : j = i
   ·rw [e, hq] at hqj; cases hqj
   ·exact k2 j o (by omega) hjm hqj ho
  | true =>
   rw [List.filter_cons_of_pos hq] at h
   obtain ⟨o, a', ho, hn, hcond⟩ := h
   generalize hX : puts ops vals (fun j => decide (j < i) && q j) a0 = X at *
   obtain ⟨v, hv, hcond⟩ : ∃ v, a' = X.put o.dst v ∧ CondU P main V ops Z o X v := by
    rcases hcond with ⟨h1, h2⟩ | ⟨h1, h2, h3⟩ | ⟨h1, f, fn, args, ats, x, e1, e2, e3, e4, e5, e6⟩
    ·exact ⟨undef, h2, .inl ⟨h1, rfl⟩⟩
    ·have h0 := h3 w hz 0
     obtain ⟨v, hv⟩ : ∃ v, a' = X.put o.dst v := by
      revert h0
      generalize (execOp _ o).run P (w.at 0) = rr
      intro h0
      unfold uponK at h0
      split at h0
      ·exact ⟨_, h0.1.symm⟩
      ·exact ⟨_, h0.1.symm⟩
      ·exact h0.elim
     exact ⟨v, hv, .inr (.inl ⟨h1, h2, hv ▸ h3⟩)⟩
    ·exact ⟨x, e6, .inr (.inr ⟨h1, f, fn, args, ats, e1, e2, e3, e4, e5⟩)⟩
   have hpre : puts ops (upd vals i v) (fun j => decide (j < i) && q j) a0 = X := by
    rw [← hX]
    exact puts_congr (fun j _ => ⟨rfl, fun hd => upd_ne _ _ (by have := of_decide_eq_true (Bool.and_eq_true _ _ ▸ hd : _ ∧ _).1; omega)⟩) a0
   have hs := pre_take hc (by omega) hq (upd vals i v) ho a0
   rw [hpre, upd_same, ← hv] at hs
   rw [← hs] at hn
   obtain ⟨vals', k1, k2, k3⟩ := cm_valsQ hz hc r (i + 1) (upd vals i v) a0 (by omega) hn
   refine ⟨vals', fun j hj => (k1 j (by omega)).trans (upd_ne _ _ (by omega)), fun j o' hj hjm hqj ho' => ?_, k3⟩
   by_cases e : j = i
   ·subst e
    rw [ho] at ho'
    cases ho'
    have e1 : puts ops vals' (fun x => decide (x < j) && q x) a0 = X := by
     rw [← hpre]
     exact puts_congr (fun x _ => ⟨rfl, fun hd => k1 x (by have := of_decide_eq_true (Bool.and_eq_true _ _ ▸ hd : _ ∧ _).1; omega)⟩) a0
    have e2 : vals' j = v := (k1 j (by omega)).trans (upd_same _ _ _)
    rw [e1, e2]
    exact hcond
   ·exact k2 j o' (by omega) hjm hqj ho'
end
section
variable {P : Program} {main : Bool} {V : Nat → Option Wait} {Stop : Goroutine → World → Prop} {b : Frame} {k : List Item} {cs : List Frame} {ops : Array Oper} {w : World} {a : Act}
theorem Walk.calmOpG {Z : World → Prop} {m i : Nat} (hz : Z w) {o : Oper} {vals : Nat → Value} {f g : Nat → Bool} {rest : List Nat} (hc : calmB ops m = true) (hk : b.kind ≠ .early) (hi : i < m) (ho : ops[i]? = some o) (hd : ∀ e ∈ o.after, Region.binds .any e = true → f e.on = true)
  (hg : ∀ (j : Nat) (p : Oper) (t : Nat), ops[j]? = some p → p.dst = some t → t ∈ o.looksAt ops → j < i → g j = true)
  (hcond : CondU P main V ops Z o (puts ops vals g a) (vals i)) (hr' : Walk P main (DR V) Stop (G (b.at ((puts ops vals f a).put o.dst (vals i)) (.inRegion ops rest :: k)) cs) w) :
  Walk P main (DR V) Stop (G (b.at (puts ops vals f a) (.inRegion ops (i :: rest) :: k)) cs) w := by
 obtain ⟨hsel, ⟨t0, ht0, hself⟩, hdist⟩ := calm_at hc hi ho
 have hlook : ∀ t ∈ o.looksAt ops, (puts ops vals f a).tmps[t]? = (puts ops vals g a).tmps[t]? := fun t ht => slot_congr _ a a rfl fun j hj hjd => by
  have hjl := List.mem_range.1 hj
  have hoj := Array.getElem?_eq_getElem hjl
  have hne : j ≠ i := fun e => by
   subst e
   rw [dst_of ho, ht0] at hjd
   cases hjd
   exact hself ht
  rw [hoj] at hjd
  obtain ⟨h1, h2⟩ := (hdist j _ hoj hne).2 t hjd ht
  exact ⟨(waits_at h2 ho hd).trans (hg j _ t hoj hjd ht h1).symm, rfl⟩
 obtain ⟨s1, s2, s3⟩ := same_look hlook hsel
 have hsz : (puts ops vals f a).tmps.size = (puts ops vals g a).tmps.size := by
  unfold puts
  rw [putsL_size, putsL_size]
 have hput : ∀ v, (puts ops vals g a).put o.dst v = (puts ops vals g a).put o.dst (vals i) → (puts ops vals f a).put o.dst v = (puts ops vals f a).put o.dst (vals i) := fun v e => by
  refine act_ext (fun t => ?_) (by rw [put_defers, put_defers])
  rw [put_slot, put_slot]
  split
  ·next e' =>
   have h1 : ((puts ops vals g a).put o.dst v).tmps[t]? = ((puts ops vals g a).put o.dst (vals i)).tmps[t]? := by rw [e]
   rw [put_slot, put_slot, if_pos e', if_pos e'] at h1
   by_cases hl : t < (puts ops vals f a).tmps.size
   ·rw [Array.getElem?_eq_getElem (hsz ▸ hl)] at h1
    simp only [Option.map_some] at h1
    rw [Array.getElem?_eq_getElem hl]
    exact h1
   ·rw [Array.getElem?_eq_none (by omega)]; rfl
  ·rfl
 rcases hcond with ⟨c1, c2⟩ | ⟨c1, c2, c3⟩ | ⟨c1, f', fn, args, ats, e1, e2, e3, e4, e5⟩
 ·rw [← s2] at c1
  rw [c2] at hr'
  exact Walk.ctl rfl (fun w => stepG_unwanted ho c1) hr'
 ·rw [← s2] at c1
  rw [← s1] at c2 c3
  refine Walk.opq ho c1 hk (c2 w hz) fun d' K hK => ?_
  have h3 := c3 w hz d'
  revert h3
  generalize (execOp (puts ops vals f a).eval o).run P (w.at d') = rr
  intro h3
  unfold uponK at h3 ⊢
  split at h3
  ·obtain ⟨x1, rfl⟩ := h3
   refine hK _ ?_
   rw [hput _ x1]; exact hr'
  ·obtain ⟨x1, rfl⟩ := h3
   refine hK _ ?_
   rw [hput _ x1]; exact hr'
  ·exact h3.elim
 ·rw [← s2] at c1
  have hargs : args.map (puts ops vals f a).eval = args.map (puts ops vals g a).eval := Array.map_congr_left fun x hx => s3 x (by rw [e1]; simp [Op.operands, Call.operands, hx])
  rw [← hargs] at e5
  exact Walk.callV (e5 w hz) ho c1 hk e1 e2 e3 e4 hr'
def apartB (ops : Array Oper) (iA iB m : Nat) : Bool := decide (iA < iB) && decide (iB < m) && waitsB ops iB iA && (List.range m).all fun i => decide (i = iA) || decide (i = iB) || (ops[i]?).any fun o =>
 !(o.looksAt ops).any (fun t => (ops[iA]?).bind (·.dst) == some t) && !(o.looksAt ops).any (fun t => (ops[iB]?).bind (·.dst) == some t)
def quietQ (iA iB : Nat) (j : Nat) : Bool := !decide (j = iA) && !decide (j = iB)
theorem look_full {m i : Nat} {o : Oper} {vals vals' : Nat → Value} {f g : Nat → Bool} (hc : calmB ops m = true) (hi : i < m) (ho : ops[i]? = some o) (hd : ∀ e ∈ o.after, Region.binds .any e = true → f e.on = true) (hg : ∀ j, j < i → g j = true ∧ vals j = vals' j) (a : Act) :
  ∀ y ∈ o.op.operands, (puts ops vals f a).eval y = (puts ops vals' g a).eval y := by
 obtain ⟨hsel, ⟨t0, ht0, hself⟩, hdist⟩ := calm_at hc hi ho
 have hlook : ∀ t ∈ o.looksAt ops, (puts ops vals f a).tmps[t]? = (puts ops vals' g a).tmps[t]? := fun t ht => slot_congr _ a a rfl fun j hj hjd => by
  have hjl := List.mem_range.1 hj
  have hoj := Array.getElem?_eq_getElem hjl
  have hne : j ≠ i := fun e => by
   subst e
   rw [dst_of ho, ht0] at hjd
   cases hjd
   exact hself ht
  rw [hoj] at hjd
  obtain ⟨h1, h2⟩ := (hdist j _ hoj hne).2 t hjd ht
  obtain ⟨g1, g2⟩ := hg j h1
  exact ⟨(waits_at h2 ho hd).trans g1.symm, g2⟩
 exact (same_look hlook hsel).2.2
theorem Walk.drawnT {id m iA iB : Nat} {Z : World → Prop} {w1 : World} {oA oB : Oper} {vA : Value} (PB : Value → World → Prop) (hm : P.follows .mixedOrders = true) (hsz : ops.size = m + 1) (hlow : lowB ops = true) (hc : calmB ops m = true) (hl : lastB ops m = true) (hap : apartB ops iA iB m = true) (hk : b.kind ≠ .early)
  (hoA : ops[iA]? = some oA) (hoB : ops[iB]? = some oB) (hz : Z w) (hz1 : Z w1) (hz2 : ∀ v w', PB v w' → Z w')
  (h : Cm P main V ops Z (fun aF => (∀ x, (∀ y ∈ oA.op.operands, x.eval y = aF.eval y) → OpW P main V Stop b k cs ops iA (fun x' w' => x' = x.put oA.dst vA ∧ ∃ d, w' = w1.at d) x w) ∧
   (∀ x, (∀ y ∈ oB.op.operands, x.eval y = (aF.put oA.dst vA).eval y) → OpW P main V Stop b k cs ops iB (fun x' w' => ∃ v w2, PB v w2 ∧ x' = x.put oB.dst v ∧ ∃ d, w' = w2.at d) x w1) ∧
   ∀ v w2, PB v w2 → OpW P main V Stop b k cs ops m (fun a' w' => Walk P main (DR V) Stop (G (b.at a' (.inRegion ops [] :: k)) cs) w') ((aF.put oA.dst vA).put oB.dst v) w2) ((List.range m).filter (quietQ iA iB)) a) :
  Walk P main (DR V) Stop (G (b.at a (.code (.region id ops true) :: k)) cs) w := by
 unfold apartB at hap
 simp only [Bool.and_eq_true, decide_eq_true_eq] at hap
 obtain ⟨⟨⟨hAB, hBm⟩, hBA⟩, hq⟩ := hap
 rw [List.range_eq_range'] at h
 have hzero : puts ops (fun _ => undef) (fun j => decide (j < 0) && quietQ iA iB j) a = a := putsL_none _ a fun j _ => by simp
 rw [← hzero] at h
 obtain ⟨vals, _, hcond, hA, hB, hC⟩ := cm_valsQ (q := quietQ iA iB) hz hc m 0 (fun _ => undef) a (by omega) h
 clear h hzero
 generalize hvA : upd vals iA vA = va
 have hva : ∀ j, j ≠ iA → va j = vals j := fun j hj => by rw [← hvA]; exact upd_ne _ _ hj
 have hvaA : va iA = vA := by rw [← hvA]; exact upd_same _ _ _
 have qA : ∀ j, quietQ iA iB j = true ↔ j ≠ iA ∧ j ≠ iB := fun j => by simp [quietQ]
 have quiet : ∀ (vs : Nat → Value) (f : Nat → Bool) (i : Nat) (o : Oper) (rest : List Nat) (ww : World), (∀ j, j ≠ iA → j ≠ iB → vs j = vals j) → Z ww → i < m → i ≠ iA → i ≠ iB → f i = false → ops[i]? = some o → (∀ e ∈ o.after, Region.binds .any e = true → f e.on = true) →
   Walk P main (DR V) Stop (G (b.at (puts ops vs (upd f i true) a) (.inRegion ops rest :: k)) cs) ww → Walk P main (DR V) Stop (G (b.at (puts ops vs f a) (.inRegion ops (i :: rest) :: k)) cs) ww := by
  intro vs f i o rest ww hvs hzw him h1 h2 hf ho hd hr
  rw [puts_upd hc him vs hf ho a] at hr
  have hcd := hcond i o (Nat.zero_le _) him ((qA i).2 ⟨h1, h2⟩) ho
  have e : puts ops vals (fun x => decide (x < i) && quietQ iA iB x) a = puts ops vs (fun x => decide (x < i) && quietQ iA iB x) a := puts_congr (fun j _ => ⟨rfl, fun hd => by
   have := (qA j).1 (Bool.and_eq_true _ _ ▸ hd : _ ∧ _).2
   exact (hvs j this.1 this.2).symm⟩) a
  rw [e, ← hvs i h1 h2] at hcd
  refine Walk.calmOpG hzw hc hk him ho hd (fun j p t hj ht hm hji => ?_) hcd hr
  have hh := List.all_eq_true.1 hq i (List.mem_range.2 him)
  rw [ho] at hh
  simp only [decide_eq_false h1, decide_eq_false h2, Bool.false_or, Option.any_some, Bool.and_eq_true, Bool.not_eq_true'] at hh
  have hjA : j ≠ iA := fun e' => by
   subst e'
   rw [hj] at hh
   have : (o.looksAt ops).any (fun t => (some p).bind (·.dst) == some t) = true := List.any_eq_true.2 ⟨t, hm, by simp [ht]⟩
   rw [this] at hh
   exact absurd hh.1 (by simp)
  have hjB : j ≠ iB := fun e' => by
   subst e'
   rw [hj] at hh
   have : (o.looksAt ops).any (fun t => (some p).bind (·.dst) == some t) = true := List.any_eq_true.2 ⟨t, hm, by simp [ht]⟩
   rw [this] at hh
   exact absurd hh.2 (by simp)
  simp [hji, (qA j).2 ⟨hjA, hjB⟩]
 have eA : puts ops va (upd (fun j => decide (j < m) && quietQ iA iB j) iA true) a = (puts ops vals (fun j => decide (j < m) && quietQ iA iB j) a).put oA.dst vA := by
  rw [puts_upd hc (by omega) va (by simp [quietQ]) hoA a, hvaA]
  congr 1
  exact puts_congr (fun j _ => ⟨rfl, fun hd => hva j ((qA j).1 (Bool.and_eq_true _ _ ▸ hd : _ ∧ _).2).1⟩) a
 refine Walk.drawnJ (Inv := fun f x w' => (f m = true ∧ (∀ j, j < m → f j = true) ∧ Walk P main (DR V) Stop (G (b.at x (.inRegion ops [] :: k)) cs) w') ∨ (f m = false ∧ f iB = false ∧ x = puts ops va f a ∧ ∃ d, w' = (if f iA then w1 else w).at d) ∨
  (f m = false ∧ f iB = true ∧ f iA = true ∧ ∃ v w2, PB v w2 ∧ x = puts ops (upd va iB v) f a ∧ ∃ d, w' = w2.at d)) hm hlow (fun d => .inr (.inl ⟨rfl, rfl, (puts_zero va a).symm, d, rfl⟩)) ?_ ?_
 ·rintro f i o x w' hI hC' hf ho hd rest hr
  have hi : i < m + 1 := by have := (Array.getElem?_eq_some_iff.1 ho).1; omega
  rcases hI with ⟨h1, h2, _⟩ | ⟨h1, h2, rfl, d, rfl⟩ | ⟨h1, h2, h3, v, w2, hPB, rfl, d, rfl⟩
  ·exfalso
   by_cases e : i = m
   ·rw [e, h1] at hf; cases hf
   ·rw [h2 i (by omega)] at hf; cases hf
  ·refine Walk.back ?_ d
   by_cases e : i = m
   ·subst e
    have := last_all hl hC' ho hd (i - iB) iB (by omega) (by omega)
    rw [h2] at this; cases this
   by_cases eiA : i = iA
   ·subst eiA
    rw [hoA] at ho
    cases ho
    rw [hf, if_neg (by simp)]
    refine hA _ (look_full hc (by omega) hoA hd (fun j hj => ⟨by simp [quietQ]; omega, hva j (by omega)⟩) a) rest ?_
    rintro x' w' ⟨rfl, d', rfl⟩
    refine hr _ _ (.inr (.inl ⟨by rw [upd_ne _ _ (by omega)]; exact h1, by rw [upd_ne _ _ (by omega)]; exact h2, ?_, d', by rw [upd_same]; rfl⟩))
    rw [puts_upd hc (by omega) va hf hoA a, hvaA]
   by_cases eiB : i = iB
   ·subst eiB
    rw [hoB] at ho
    cases ho
    have hfA : f iA = true := waits_at hBA hoB hd
    rw [hfA, if_pos rfl]
    refine hB _ ?_ rest ?_
    ·rw [← eA]
     exact look_full hc hBm hoB hd (fun j hj => ⟨by
      by_cases ej : j = iA
      ·rw [ej, upd_same]
      ·rw [upd_ne _ _ ej]
       simp [quietQ, ej]; omega, rfl⟩) a
    ·rintro x' w' ⟨v, w2, hPB, rfl, d', rfl⟩
     refine hr _ _ (.inr (.inr ⟨by rw [upd_ne _ _ (by omega)]; exact h1, upd_same _ _ _, by rw [upd_ne _ _ (by omega)]; exact hfA, v, w2, hPB, ?_, d', rfl⟩))
     rw [puts_upd hc hBm (upd va i v) hf hoB a, upd_same]
     congr 1
     exact puts_congr (fun j _ => ⟨rfl, fun hj => (upd_ne _ _ (fun e' => by rw [e', hf] at hj; cases hj)).symm⟩) a
   ·refine quiet va f i o rest _ (fun j h _ => hva j h) ?_ (by omega) eiA eiB hf ho hd ?_
    ·split
     ·exact hz1
     ·exact hz
    ·refine (hr _ (((if f iA then w1 else w)).at ((if f iA then w1 else w)).drawn) (.inr (.inl ⟨by rw [upd_ne _ _ (by omega)]; exact h1, by rw [upd_ne _ _ (Ne.symm eiB)]; exact h2, rfl, _, by rw [upd_ne _ _ (Ne.symm eiA)]⟩)))
  ·refine Walk.back ?_ d
   by_cases e : i = m
   ·subst e
    have hall := last_all hl hC' ho hd
    have ef : puts ops (upd va iB v) f a = ((puts ops vals (fun j => decide (j < i) && quietQ iA iB j) a).put oA.dst vA).put oB.dst v := by
     have e1 : puts ops va (upd (fun j => decide (j < i) && quietQ iA iB j) iA true) a = puts ops (upd va iB v) (upd (fun j => decide (j < i) && quietQ iA iB j) iA true) a := puts_congr (fun j _ => ⟨rfl, fun hj => (upd_ne _ _ (fun e' => by
      rw [e', upd_ne _ _ (by omega)] at hj
      simp [quietQ] at hj)).symm⟩) a
     have e2 := puts_upd hc hBm (upd va iB v) (f := upd (fun j => decide (j < i) && quietQ iA iB j) iA true) (by rw [upd_ne _ _ (by omega)]; simp [quietQ]) hoB a
     rw [upd_same, ← e1, eA] at e2
     rw [← e2]
     refine puts_congr (fun j hj => ⟨?_, fun _ => rfl⟩) a
     by_cases ej : j = iB
     ·rw [ej, upd_same, h2]
     ·rw [upd_ne _ _ ej]
      by_cases ej2 : j = iA
      ·rw [ej2, upd_same, h3]
      ·rw [upd_ne _ _ ej2]
       by_cases hji : j < i
       ·rw [hall (i - j) j (by omega) (by omega)]
        simp [hji, quietQ, ej, ej2]
       ·have : j = i := by omega
        rw [this, hf]; simp
    rw [ef]
    refine hC v w2 hPB rest fun a' w' hw' => hr a' w' (.inl ⟨upd_same _ _ _, fun j hj => ?_, hw'⟩)
    rw [upd_ne _ _ (by omega)]
    exact hall (i - j) j (by omega) (by omega)
   ·have n1 : i ≠ iA := fun e' => by rw [e', h3] at hf; cases hf
    have n2 : i ≠ iB := fun e' => by rw [e', h2] at hf; cases hf
    refine quiet (upd va iB v) f i o rest _ (fun j h h' => (upd_ne _ _ h').trans (hva j h)) (hz2 v w2 hPB) (by omega) n1 n2 hf ho hd ?_
    exact hr _ (w2.at w2.drawn) (.inr (.inr ⟨by rw [upd_ne _ _ (by omega)]; exact h1, by rw [upd_ne _ _ (Ne.symm n2)]; exact h2, by rw [upd_ne _ _ (Ne.symm n1)]; exact h3, v, w2, hPB, rfl, _, rfl⟩))
 ·rintro f x w' hI hall
  rcases hI with ⟨_, _, h3⟩ | ⟨h1, _⟩ | ⟨h1, _⟩
  ·exact h3
  ·rw [hall m (by omega)] at h1; cases h1
  ·rw [hall m (by omega)] at h1; cases h1
end
end
section
open Go.Conc Go.RowKit
section
variable {P : Program} {main : Bool} {V : Nat → Option Wait} {Stop : Goroutine → World → Prop} {w : World} {b : Frame} {a : Act} {k : List Item} {cs : List Frame} {ops : Array Oper} {i : Nat} {rest : List Nat} {o : Oper}
theorem Walk.appendAny (s x : Operand) (t : TypeId) (ho : ops[i]? = some o) (hw : Region.wanted o (yielded ops a.tmps) = true) (hk : b.kind ≠ .early) (hop : o.op = .call { callee := .builtin .append, args := #[s, x], argTypes := #[t, t] })
  (base : Nat) (e : TypeId) (ti : TypeInfo) (z : Value) (size bytes : Nat) (ht : P.underlying t = some (.slice e)) (hi : P.info? e = some ti) (hz : ti.zero = some z) (hsize : ti.size = size) (hby : ti.bytes = bytes) (hzs : z.cells.size = size) (hsz : 0 < size)
  (v : Value) (n : Nat) (xs : List Value) (hs : a.eval s = v) (hown : w.ownsRow base e size v n xs)
  (ad : Addr) (m c : Nat) (news : List Value) (hx : a.eval x = .slice (some ad) m c) (hl : news.length = m * size) (hnews : ∀ j u, news[j]? = some u → w.cell? (ad.add j) = some u) (h1 : ∀ u ∈ news, u.oneCell' = true)
  (h63 : n + m ≤ maxLen) (hbytes : (n + m) * bytes ≤ 140737488355328) (hbase : base ≤ w.heap.size) (hap : ∀ g, v.ownBlock = some g → Apart V g)
  (h : ∀ v' w', w'.ownsRow base e size v' (n + m) (xs ++ news) → w.grownBy w' v.ownBlock → (v'.ownBlock = v.ownBlock ∨ v'.ownBlock = some w.heap.size) → Walk P main (DR V) Stop (G (b.at (a.put o.dst v') (.inRegion ops rest :: k)) cs) w') :
  Walk P main (DR V) Stop (G (b.at a (.inRegion ops (i :: rest) :: k)) cs) w := by
 refine Walk.go rfl fun d => goes_oper_k ho hw hk fun K hK => ?_
 obtain ⟨v', w', hr, hown', hg, _, hat⟩ := run_append_own_at (P := P) (w.at d) base t o.type e ti z size bytes ht hi hz hsize hby hzs hsz v n xs hown ad m c news hl hnews h1 h63 hbytes hbase
 refine uponK_append s x t hop hs hx hr (hK _ _ ⟨DR.grown hg hap fun ev hev => ?_, h v' w' hown' ⟨hg.os, hg.tape, hg.output, hg.size, hg.block⟩ hat⟩)
 have hm' := mem_listed hev
 rw [events_append_op s x t hop hs hx] at hm'
 rcases events_append_own (w.at d) base t o.type e ti z size bytes ht hi hz hsize hby v n xs hown ad m c news hl hnews h1 h63 hbytes ev hm' with h' | ⟨ad', h', hb⟩ | ⟨mk, h', hn⟩
 ·exact evR_isRead h'
 ·exact evR_cell h' ((hap _ hb.symm).1 ad' rfl)
 ·rw [h', show mk = .noRoom from hn]; exact evR_noRoom
end
end
end Go.Relay
namespace Go.Proofs.Ytjenoiekfkhafaa
open Go.Conc Go.RowKit Go.Relay
open Go.ConcN (upd upd_ne upd_same)
section
theorem ap0 (b : Nat) : Apart (fun _ => none) b := ⟨fun _ _ _ _ h => (by cases h), fun _ _ h => (by cases h)⟩
theorem fr0 (b i : Nat) : Free (fun _ => none) ⟨b, i, none⟩ := (ap0 b).1 _ rfl
structure Chg (S : Nat → Prop) (w w' : World) : Prop where
 size : w.heap.size ≤ w'.heap.size
 same : ∀ b, b < w.heap.size → ¬ S b → w'.heap[b]? = w.heap[b]?
section
variable {S S' : Nat → Prop} {w w' w1 w2 : World}
theorem Chg.refl : Chg S w w := ⟨Nat.le_refl _, fun _ _ _ => rfl⟩
theorem Chg.at (h : Chg S w w') (d : Nat) : Chg S w (w'.at d) := ⟨h.size, h.same⟩
theorem Chg.trans (h1 : Chg S w w1) (h2 : Chg S' w1 w2) (hS : ∀ b, b < w.heap.size → S' b → S b) : Chg S w w2 :=
 ⟨Nat.le_trans h1.size h2.size, fun b hb hn => (h2.same b (Nat.lt_of_lt_of_le hb h1.size) fun e => hn (hS b hb e)).trans (h1.same b hb hn)⟩
theorem Chg.alloc {o : Obj} : Chg S w (w.alloc o) := ⟨by simp, fun b hb _ => heap_new_lt _ _ hb⟩
end
theorem row_at {w : World} {base : Nat} {e : TypeId} {size m tc n : Nat} {ta : Option Addr} {xs : List Value} (h : w.ownsRow base e size (.slice ta m tc) n xs) {j : Nat} {x : Value} (hx : xs[j]? = some x) : ∃ g, ta = some ⟨g, 0, none⟩ ∧ base ≤ g ∧ g < w.heap.size ∧ w.cell? ⟨g, j, none⟩ = some x := by
 obtain ⟨hl, h⟩ := h
 have hj := (List.getElem?_eq_some_iff.1 hx).1
 rcases h with ⟨_, rfl⟩ | ⟨g, cap, cur, e, h1, h2, h3, _, h5, h6⟩
 ·omega
 ·injection e with e1 e2 e3
  refine ⟨g, e1, h1, (Array.getElem?_eq_some_iff.1 h2).1, (cell_of h2 j).trans ?_⟩
  rw [← h6, List.getElem?_take, if_pos (by omega)] at hx
  simpa using hx
def trC (a b c : Value) (k : Bool) : Array Value := #[a, b, c, .bool k]
def NumA (a : Option Addr) (l : List Int) (w : World) : Prop := ∀ (i : Nat) (x : Int), l[i]? = some x → ∃ b o, a = some ⟨b, o, none⟩ ∧ w.cell? ⟨b, o + i, none⟩ = some (.int .i64 x)
def AnsA (a : Option Addr) (l : List Ans) (w : World) : Prop := ∀ (i : Nat) (x : Ans), l[i]? = some x → ∃ b o la lc, a = some ⟨b, o, none⟩ ∧ w.cell? ⟨b, o + i * 3, none⟩ = some (.bool x.ok) ∧ w.cell? ⟨b, o + i * 3 + 1, none⟩ = some (.int .i64 x.n) ∧ w.cell? ⟨b, o + i * 3 + 2, none⟩ = some (.slice la x.l.length lc) ∧ NumA la x.l w ∧ x.l.length ≤ 1048576
theorem NumA.chg {a : Option Addr} {l : List Int} {w w' : World} (h : NumA a l w) (hC : Chg (fun _ => False) w w') : NumA a l w' := fun i x hx => by
 obtain ⟨b, o, e, hc⟩ := h i x hx
 exact ⟨b, o, e, (World.cell?_of_block (a := ⟨b, o + i, none⟩) (hC.same b (cell_lt' hc) id)).trans hc⟩
theorem AnsA.chg {a : Option Addr} {l : List Ans} {w w' : World} (h : AnsA a l w) (hC : Chg (fun _ => False) w w') : AnsA a l w' := fun i x hx => by
 obtain ⟨b, o, la, lc, e, h1, h2, h3, h4, h5⟩ := h i x hx
 exact ⟨b, o, la, lc, e, (World.cell?_of_block (a := ⟨b, _, none⟩) (hC.same b (cell_lt' h1) id)).trans h1, (World.cell?_of_block (a := ⟨b, _, none⟩) (hC.same b (cell_lt' h1) id)).trans h2, (World.cell?_of_block (a := ⟨b, _, none⟩) (hC.same b (cell_lt' h1) id)).trans h3, h4.chg hC, h5⟩
structure TrA (cells : Array Value) (n : Nat) (F : Nat → List Ans) (ord : List Nat) (sts : List Int) (k : Bool) (w : World) : Prop where
 all : ∃ aa ac oa oc sa sc, cells = trC (.slice aa n ac) (.slice oa ord.length oc) (.slice sa sts.length sc) k ∧ NumA oa (ord.map fun i => ((i : Nat) : Int)) w ∧ NumA sa sts w ∧ ∀ i, i < n → ∃ b o ta tc, aa = some ⟨b, o, none⟩ ∧ w.cell? ⟨b, o + i, none⟩ = some (.slice ta (F i).length tc) ∧ AnsA ta (F i) w
theorem TrA.chg {cells : Array Value} {n : Nat} {F : Nat → List Ans} {ord : List Nat} {sts : List Int} {k : Bool} {w w' : World} (h : TrA cells n F ord sts k w) (hC : Chg (fun _ => False) w w') : TrA cells n F ord sts k w' := by
 obtain ⟨aa, ac, oa, oc, sa, sc, e, h1, h2, h3⟩ := h.all
 refine ⟨aa, ac, oa, oc, sa, sc, e, h1.chg hC, h2.chg hC, fun i hi => ?_⟩
 obtain ⟨b, o, ta, tc, e, k1, k2⟩ := h3 i hi
 exact ⟨b, o, ta, tc, e, (World.cell?_of_block (a := ⟨b, o + i, none⟩) (hC.same b (cell_lt' k1) id)).trans k1, k2.chg hC⟩
theorem ansRow_get : ∀ (l : List (Ans × Value)) (k j : Nat) (o : Ans × Value) (v : Value), l[k]? = some o → ([.bool o.1.ok, .int .i64 o.1.n, o.2] : List Value)[j]? = some v → (ansRow l)[k * 3 + j]? = some v
 | o' :: l, 0, j, o, v, hk, hv => by
  simp only [List.getElem?_cons_zero, Option.some.injEq] at hk
  subst hk
  have hj := (List.getElem?_eq_some_iff.1 hv).1
  have : ansRow (o' :: l) = [.bool o'.1.ok, .int .i64 o'.1.n, o'.2] ++ ansRow l := by simp [ansRow]
  rw [this, Nat.zero_mul, Nat.zero_add, List.getElem?_append_left hj]
  exact hv
 | o' :: l, k + 1, j, o, v, hk, hv => by
  have : ansRow (o' :: l) = [.bool o'.1.ok, .int .i64 o'.1.n, o'.2] ++ ansRow l := by simp [ansRow]
  rw [this, List.getElem?_append_right (by simp; omega)]
  have h := ansRow_get l k j o v (by simpa using hk) hv
  rw [← h]
  congr 1
  simp
  omega
theorem numA_of {w : World} {base : Nat} {e : TypeId} {ta : Option Addr} {m tc : Nat} {l : List Int} (h : w.ownsRow base e 1 (.slice ta m tc) m (l.map (.int .i64))) : NumA ta l w := fun i x hx => by
 obtain ⟨g, e, _, _, h0⟩ := row_at h (j := i) (x := .int .i64 x) (by simp [hx])
 exact ⟨g, 0, e, by rw [Nat.zero_add]; exact h0⟩
theorem numA_nil (a : Option Addr) (w : World) : NumA a [] w := fun i x hx => (by simp at hx)
theorem LsAt.num {base : Nat} {P : Nat → Prop} {sl : Value} {l : List Int} {w : World} (h : LsAt base P sl l w) : ∃ la lc, sl = .slice la l.length lc ∧ NumA la l w ∧ l.length ≤ 1048576 := by
 obtain ⟨a, c, e, hn, hr⟩ := h
 refine ⟨a, c, e, ?_, hn⟩
 by_cases hl : l = []
 ·subst hl; exact numA_nil _ _
 ·have h1 := (hr hl).1
  rw [e] at h1
  exact numA_of h1
theorem ansA_of {base : Nat} {P : Nat → Prop} {hd : Value} {l : List Ans} {w : World} (h : RowA base P hd l w) : ∃ ta tc, hd = .slice ta l.length tc ∧ AnsA ta l w := by
 obtain ⟨ta, tc, z, hz, e, hr, _, hls⟩ := h
 refine ⟨ta, tc, e, fun i x hx => ?_⟩
 rw [e] at hr
 obtain ⟨p, hp, hpx⟩ : ∃ p, z[i]? = some p ∧ p.1 = x := by
  rw [← hz, List.getElem?_map, Option.map_eq_some_iff] at hx
  exact hx
 subst hpx
 obtain ⟨g, e, _, _, h0⟩ := row_at hr (ansRow_get z i 0 p _ hp rfl)
 obtain ⟨g1, e1, _, _, h1⟩ := row_at hr (ansRow_get z i 1 p _ hp rfl)
 obtain ⟨g2, e2, _, _, h2⟩ := row_at hr (ansRow_get z i 2 p _ hp rfl)
 rw [e] at e1 e2
 cases e1
 cases e2
 obtain ⟨la, lc, hsl, hn, hlen⟩ := (hls p (List.mem_of_getElem? hp)).num
 refine ⟨g, 0, la, lc, e, ?_, ?_, ?_, hn, hlen⟩
 ·rw [Nat.zero_add]; exact h0
 ·rw [Nat.zero_add]; exact h1
 ·rw [Nat.zero_add, ← hsl]; exact h2
theorem OpsIn.old {tb toff n : Nat} {oa : Nat → Option Addr} {ln oc : Nat → Nat} {ops : Nat → List OpV} {w w' : World} (I : OpsIn tb toff n oa ln oc ops w) (h : ∀ b, b < w.heap.size → w'.heap[b]? = w.heap[b]?) : OpsIn tb toff n oa ln oc ops w' := by
 have hc : ∀ {b j : Nat} {v : Value}, w.cell? ⟨b, j, none⟩ = some v → w'.cell? ⟨b, j, none⟩ = some v := fun {b j v} e => (World.cell?_of_block (a := ⟨b, j, none⟩) (h b (cell_lt' e))).trans e
 exact ⟨fun i hi => hc (I.hd i hi), I.cap, I.ad, I.len, fun i hi j o ho => by
  obtain ⟨b, off, e, c0, c1, c2, c3⟩ := I.ops i hi j o ho
  exact ⟨b, off, e, hc c0, hc c1, hc c2, hc c3⟩⟩
end
section
variable {main : Bool} {V : Nat → Option Wait}
theorem undAtomic : Try.prog.underlying 119 = some (.pointer 70) := by kernel_rfl
noncomputable def rowLoadB : Bool := match Try.prog.info? 119 with
 | some ti => (match ti.methods.find? (·.name == "Load") with
  | some m => m.path.isEmpty && (m.func == some (137, true))
  | none => false)
 | none => false
theorem rowLoad : ∃ ti m, Try.prog.info? 119 = some ti ∧ ti.methods.find? (·.name == "Load") = some m ∧ m.path = #[] ∧ m.func = some (137, true) := by
 have h : rowLoadB = true := by kernel_rfl
 unfold rowLoadB at h
 revert h
 cases h1 : Try.prog.info? 119 with
 | none => simp
 | some ti =>
  simp only []
  cases h2 : ti.methods.find? (·.name == "Load") with
  | none => simp
  | some m =>
   simp only [Bool.and_eq_true, Array.isEmpty_iff, beq_iff_eq]
   exact fun h => ⟨ti, m, rfl, h2, h.1, h.2⟩
theorem method_load (p q : Nat) (w : World) (es : Array Event) : (method (Try.prog.types.size + Made.depth) 119 (.pointer (some ⟨p, q, none⟩)) "Load").run Try.prog w = .ok (137, .pointer (some ⟨p, q, none⟩)) w ∧ (method (Try.prog.types.size + Made.depth) 119 (.pointer (some ⟨p, q, none⟩)) "Load").events Try.prog w es = es := by
 obtain ⟨ti, m, h1, h2, h3, h4⟩ := rowLoad
 obtain ⟨k, hk⟩ : ∃ k, Try.prog.types.size + Made.depth = k + 1 := ⟨Try.prog.types.size + (Made.depth - 1), by have : 1 ≤ Made.depth := by decide
                                                                                                               omega⟩
 rw [hk]
 unfold method
 refine ⟨?_, ?_⟩
 ·simp [typeInfo, h1, h2, h3, h4, follow, receiverAt, run_underlying undAtomic, Place.get]
 ·simp [typeInfo, h1, h2, h3, h4, follow, receiverAt, run_underlying undAtomic, Place.get]
section
variable {Stop : Goroutine → World → Prop} {w : World} {b : Frame} {a : Act} {k : List Item} {cs : List Frame} {ops : Array Oper} {i : Nat} {rest : List Nat} {o : Oper}
theorem stepG_invokeLoad {x : Operand} {ats : Array TypeId} (p q : Nat) (ho : ops[i]? = some o) (hw : Region.wanted o (yielded ops a.tmps) = true) (hk : b.kind ≠ .early) (hop : o.op = .call { callee := .invoke x "Load", args := #[], argTypes := ats }) (hx : a.eval x = .iface 119 (.pointer (some ⟨p, q, none⟩))) :
  stepG Try.prog main (G (b.at a (.inRegion ops (i :: rest) :: k)) cs) w = .go (G (Frame.enter Try.prog 137 #[.pointer (some ⟨p, q, none⟩)] .normal) (b.at a (.inRegion ops (i :: rest) :: k) :: cs)) w := by
 have h1 : ¬ Try.f137.name = "runtime.NumGoroutine" := by decide
 have h2 : ¬ Try.f137.body = none := by simp [Try.f137]
 have hm := method_load p q w #[]
 rw [show Try.prog.types.size = 197 from by kernel_rfl] at hm
 have hr : (execOp a.eval o).run Try.prog w = .ok (.enter 137 #[.pointer (some ⟨p, q, none⟩)]) w := by
  unfold execOp
  simp [hop, resolve, invoke, callMethod, callFunc, hm.1, Try.func137, h1, h2, hx]
 have he : (execOp a.eval o).events Try.prog w #[] = #[] := by
  unfold execOp
  simp [hop, resolve, invoke, callMethod, callFunc, hm.1, hm.2, Try.func137, h1, h2, hx]
 rw [stepG_enter ho hw hk hr]
 have : listed Try.prog b.fn a o w = #[] := by unfold listed; rw [he]; exact seen_none Try.prog _
 rw [this]
theorem Walk.invokeLoad {x : Operand} {ats : Array TypeId} (p q : Nat) (ho : ops[i]? = some o) (hw : Region.wanted o (yielded ops a.tmps) = true) (hk : b.kind ≠ .early) (hop : o.op = .call { callee := .invoke x "Load", args := #[], argTypes := ats }) (hx : a.eval x = .iface 119 (.pointer (some ⟨p, q, none⟩)))
  (h : Walk Try.prog main (DR V) Stop (G (Frame.enter Try.prog 137 #[.pointer (some ⟨p, q, none⟩)] .normal) (b.at a (.inRegion ops (i :: rest) :: k) :: cs)) w) : Walk Try.prog main (DR V) Stop (G (b.at a (.inRegion ops (i :: rest) :: k)) cs) w :=
 Walk.ctl rfl (fun _ => stepG_invokeLoad p q ho hw hk hop hx) h
end
section
variable {P : Program}
theorem eqIn_ptr (d : Nat) (t : TypeId) (q : Option Addr) (w : World) (es : Array Event) {e} (hu : P.underlying t = some (.pointer e)) : (Op.equalIn (d + 1) t (.pointer q) (.pointer none)).run P w = .ok q.isNone w ∧ (Op.equalIn (d + 1) t (.pointer q) (.pointer none)).events P w es = es := by
 cases q <;> simp [Op.equalIn, run_underlying hu]
theorem run_eql_ptr (t : TypeId) {e} (hu : P.underlying t = some (.pointer e)) (q : Option Addr) (w : World) : (binOp .eql t (.pointer q) (.pointer none)).run P w = .ok (.bool q.isNone) w := by
 simp only [binOp]
 simp [Op.equal, Op.maxDepth, (eqIn_ptr 9999 t q w #[] hu).1]
theorem ev_eql_ptr (t : TypeId) {e} (hu : P.underlying t = some (.pointer e)) (q : Option Addr) (w : World) (es : Array Event) : (binOp .eql t (.pointer q) (.pointer none)).events P w es = es := by
 simp only [binOp]
 simp [Op.equal, Op.maxDepth, (eqIn_ptr 9999 t q w #[] hu).1, (eqIn_ptr 9999 t q w es hu).2]
end
section
theorem run_ifaceAtomic (a : Option Addr) (w : World) : (Instr.makeInterface 119 (.pointer a)).run Try.prog w = .ok (.iface 119 (.pointer a)) w := by simp [Instr.makeInterface, run_underlying undAtomic]
theorem ev_ifaceAtomic (a : Option Addr) (w : World) (es : Array Event) : (Instr.makeInterface 119 (.pointer a)).events Try.prog w es = es := by simp [Instr.makeInterface, run_underlying undAtomic]
theorem undWord : Try.prog.underlying 93 = some (.pointer 72) := by kernel_rfl
end
end
section
section
variable {main : Bool} {V : Nat → Option Wait}
theorem Walk.turn {P : Program} {Stop : Goroutine → World → Prop} {g g' : Goroutine} {w W : World} {es : Array Event} (hr : g.status = .running) (hs : ∀ d, stepG P main g (w.at d) = .go g' (W.at d) es) (hd : ∀ d, DR V (w.at d) (W.at d) es) (h : Walk P main (DR V) Stop g' W) : Walk P main (DR V) Stop g w :=
 Walk.step hr (fun _ => g') (fun d => W.at d) (fun _ => es) hs hd (fun d => h.back d)
theorem evR_rw {ad : Addr} (hf : Free V ad) : ∀ e ∈ (#[⟨.cell ad, false, true⟩, ⟨.cell ad, true, true⟩] : Array Event), EvR V e := by
 intro e he
 simp only [List.mem_toArray, List.mem_cons, List.not_mem_nil, or_false] at he
 rcases he with rfl | rfl
 ·exact evR_read _ _
 ·exact evR_write _ _ hf
theorem atLoad (b q : Nat) (v : Int) (w : World) (hc : w.cell? ⟨b, q, none⟩ = some (.int .i64 v)) : CallV Try.prog main V 137 #[.pointer (some ⟨b, q, none⟩)] w (.int .i64 v) w := by
 refine callW_in Try.func137 rfl fun fr cs => ?_
 simp only [Try.ntmps137, ez, Nat.reduceAdd, Nat.reduceSub]
 refine Walk.gzr ?_
 refine Walk.evs (fun _ => #[⟨.cell ⟨b, q, none⟩, false, true⟩]) rfl (fun d => stepG_load_atomic (w := w.at d) rfl (by rfl) (by decide) rfl Try.func138 (by kernel_rfl) (by rfl) (by kernel_rfl) .i64 (by kernel_rfl) rfl hc) (fun d e he => by simp at he; subst he; exact evR_read _ _) ?_
 walk_nrm
 refine Walk.gzr ?_
 exact Walk.ret1 rfl rfl Try.func137 rfl fun d => ⟨rfl, d, rfl⟩
theorem atStore (b q : Nat) (u : Value) (v : Int) (w : World) (hc : w.cell? ⟨b, q, none⟩ = some u) (hz : w.frozen? ⟨b, q, none⟩ = false) (hf : Free V ⟨b, q, none⟩) : CallV Try.prog main V 57 #[.pointer (some ⟨b, q, none⟩), .int .i64 v] w (.tuple #[]) (w.setCell ⟨b, q, none⟩ (.int .i64 v)) := by
 refine callW_in Try.func57 rfl fun fr cs => ?_
 simp only [Try.ntmps57, ez, Nat.reduceAdd, Nat.reduceSub]
 refine Walk.gzr ?_
 refine Walk.turn (W := w.setCell ⟨b, q, none⟩ (.int .i64 v)) rfl (fun d => stepG_store_atomic (w := w.at d) rfl (by rfl) (by decide) rfl Try.func74 (by kernel_rfl) (by rfl) (by kernel_rfl) (by kernel_rfl) rfl rfl hc hz) (fun d => DR.set' hf hc d _ (fun e he => by simp at he; subst he; exact evR_write _ _ hf)) ?_
 walk_nrm
 refine Walk.gzr ?_
 exact Walk.ret0 rfl rfl Try.func57 rfl fun d => ⟨rfl, d, rfl⟩
theorem atCas_hit (b q : Nat) (v x : Int) (w : World) (hc : w.cell? ⟨b, q, none⟩ = some (.int .i64 v)) (hz : w.frozen? ⟨b, q, none⟩ = false) (hf : Free V ⟨b, q, none⟩) : CallV Try.prog main V 75 #[.pointer (some ⟨b, q, none⟩), .int .i64 v, .int .i64 x] w (.bool true) (w.setCell ⟨b, q, none⟩ (.int .i64 x)) := by
 refine callW_in Try.func75 rfl fun fr cs => ?_
 simp only [Try.ntmps75, ez, Nat.reduceAdd, Nat.reduceSub]
 refine Walk.gzr ?_
 refine Walk.turn (W := w.setCell ⟨b, q, none⟩ (.int .i64 x)) rfl (fun d => stepG_cas_hit (w := w.at d) rfl (by rfl) (by decide) rfl Try.func90 (by kernel_rfl) (by rfl) (by kernel_rfl) .i64 (by kernel_rfl) rfl rfl rfl hc hz) (fun d => DR.set' hf hc d _ (evR_rw hf)) ?_
 walk_nrm
 refine Walk.gzr ?_
 exact Walk.ret1 rfl rfl Try.func75 rfl fun d => ⟨rfl, d, rfl⟩
theorem atCas_miss (b q : Nat) (v old x : Int) (w : World) (hc : w.cell? ⟨b, q, none⟩ = some (.int .i64 v)) (hz : w.frozen? ⟨b, q, none⟩ = false) (hne : ¬ v = old) : CallV Try.prog main V 75 #[.pointer (some ⟨b, q, none⟩), .int .i64 old, .int .i64 x] w (.bool false) w := by
 refine callW_in Try.func75 rfl fun fr cs => ?_
 simp only [Try.ntmps75, ez, Nat.reduceAdd, Nat.reduceSub]
 refine Walk.gzr ?_
 refine Walk.evs (fun _ => #[⟨.cell ⟨b, q, none⟩, false, true⟩]) rfl (fun d => stepG_cas_miss (w := w.at d) rfl (by rfl) (by decide) rfl Try.func90 (by kernel_rfl) (by rfl) (by kernel_rfl) .i64 (by kernel_rfl) rfl rfl rfl hc hz hne) (fun d e he => by simp at he; subst he; exact evR_read _ _) ?_
 walk_nrm
 refine Walk.gzr ?_
 exact Walk.ret1 rfl rfl Try.func75 rfl fun d => ⟨rfl, d, rfl⟩
end
structure Wd (L : La) where
 on : L.Gh → Prop
 up : ∀ {y y' : L.Gh}, L.le y y' → on y → on y'
 b : Nat
 q : Nat
 get : L.Sg → Int
 put : L.Sg → Int → L.Sg
 ok : Int → Prop
 sh : ∀ y, on y → L.sh y b
 rd : ∀ y s w, on y → L.I y s w → w.cell? ⟨b, q, none⟩ = some (.int .i64 (get s)) ∧ w.frozen? ⟨b, q, none⟩ = false
 wr : ∀ y s w v, on y → ok v → L.I y s w → L.I y (put s v) (w.setCell ⟨b, q, none⟩ (.int .i64 v))
def Wd.p {L : La} (W : Wd L) : Value := .pointer (some ⟨W.b, W.q, none⟩)
noncomputable def reg60_0 := rg Try.f60.body [0]
noncomputable def reg60_1 := rg Try.f60.body [1, 0]
noncomputable def reg60_2 := rg Try.f60.body [1, 1, 0]
theorem z60 : List.range reg60_0.size = [0] ∧ List.range reg60_1.size = [0, 1] ∧ List.range reg60_2.size = [0, 1, 2, 3] := by refine ⟨?_, ?_, ?_⟩ <;> kernel_rfl
theorem code60_is : Try.f60.body = some (.seq (.region 0 reg60_0 false) (.seq (.region 1 reg60_1 false) (.seq (.region 2 reg60_2 false) (.ret)))) := by kernel_rfl
noncomputable def reg46_0 := rg Try.f46.body [0]
noncomputable def reg46_1 := rg Try.f46.body [1, 0, 0]
noncomputable def reg46_2 := rg Try.f46.body [1, 0, 1, 0, 0]
noncomputable def reg46_3 := rg Try.f46.body [1, 1, 0]
theorem z46 : List.range reg46_0.size = [0] ∧ List.range reg46_1.size = [0, 1] ∧ List.range reg46_2.size = [0] ∧ List.range reg46_3.size = [0, 1, 2, 3, 4, 5] := by refine ⟨?_, ?_, ?_, ?_⟩ <;> kernel_rfl
theorem code46_is : Try.f46.body = some (.seq (.region 0 reg46_0 false) (.seq (.seq (.region 1 reg46_1 false) (.cond (.tmp 6 ) (.seq (.region 2 reg46_2 false) (.ret)) (.skip))) (.seq (.region 3 reg46_3 false) (.ret)))) := by kernel_rfl
noncomputable def reg39_0 := rg Try.f39.body [0, 0]
noncomputable def reg39_1 := rg Try.f39.body [1, 0]
noncomputable def reg39_2 := rg Try.f39.body [1, 1]
theorem z39 : List.range reg39_0.size = [0, 1] ∧ List.range reg39_1.size = [0, 1] ∧ List.range reg39_2.size = [0, 1, 2, 3, 4] := by refine ⟨?_, ?_, ?_⟩ <;> kernel_rfl
theorem code39_is : Try.f39.body = some (.seq (.seq (.region 0 reg39_0 false) (.cond (.tmp 7 ) (.ret) (.skip))) (.seq (.region 1 reg39_1 false) (.region 2 reg39_2 false))) := by kernel_rfl
noncomputable def reg58_0 := rg Try.f58.body [0]
noncomputable def reg58_1 := rg Try.f58.body [1, 0, 0]
noncomputable def reg58_2 := rg Try.f58.body [1, 0, 1, 0, 0]
noncomputable def reg58_3 := rg Try.f58.body [1, 1, 0]
noncomputable def reg58_4 := rg Try.f58.body [1, 1, 1, 0]
theorem z58 : List.range reg58_0.size = [0] ∧ List.range reg58_1.size = [0, 1] ∧ List.range reg58_2.size = [0] ∧ List.range reg58_3.size = [0, 1] ∧ List.range reg58_4.size = [0, 1, 2, 3, 4, 5, 6] := by refine ⟨?_, ?_, ?_, ?_, ?_⟩ <;> kernel_rfl
theorem code58_is : Try.f58.body = some (.seq (.region 0 reg58_0 false) (.seq (.seq (.region 1 reg58_1 false) (.cond (.tmp 10 ) (.seq (.region 2 reg58_2 false) (.ret)) (.skip))) (.seq (.region 3 reg58_3 false) (.seq (.region 4 reg58_4 false) (.ret))))) := by kernel_rfl
section
variable {L : La} {sv : Value}
theorem step_s (K : Lg L sv) (e : K.E) (d : L.D) (ht : K.tgt e = (K.s e, .inr d)) : SCall K.toLb 56 #[sv] e (fun _ e' => Aft K.toLb e d e') := fun fr l hp hl hk => K.step e d ht fr l hp hl fun e' ha => hk _ e' ha
theorem plain_cons {fr : Frame} {l : List Frame} (hp : Plain fr) (hl : ∀ f ∈ l, Plain f) : ∀ f ∈ fr :: l, Plain f := fun x hx => by
 rcases List.mem_cons.1 hx with rfl | hx
 ·exact hp
 ·exact hl x hx
theorem Wd.put_mv (W : Wd L) (K : Lg L sv) (e : K.E) (v : Int) (hon : W.on (K.gh e)) (hv : W.ok v) : ∃ e', Mv K.toLb e e' (W.put (K.s e) v) ((K.w e).setCell ⟨W.b, W.q, none⟩ (.int .i64 v)) :=
 K.mv e _ _ (Nat.le_of_eq (size_set ..).symm) (fun b _ _ hs => heap_set_other _ _ _ _ fun he : b = W.b => hs (by rw [he]; exact W.sh _ hon)) (W.wr _ _ _ v hon hv (K.inv e))
theorem holds_s (K : Lg L sv) (W : Wd L) (e : K.E) (d : L.D) (hon : W.on (K.gh e)) (ht : K.tgt e = (K.s e, .inr d)) : SCall K.toLb 60 #[sv, W.p] e (fun v e' => Aft K.toLb e d e' ∧ v = .int .i64 (W.get (K.s e'))) := by
 intro fr l hp hl hk
 unfold LW Wd.p
 rw [enter_at _ Try.func60 code60_is]
 simp only [Try.ntmps60, ez, Nat.reduceAdd, Nat.reduceSub]
 refine Walk.gz z60 ?_
 refine LW.callS (K := K.toLb) (e := e) (l := fr :: l) (f := 56) (Q := fun _ e' => Aft K.toLb e d e') ?_ hoA (by rfl) (by decide) rfl Try.func56 (by kernel_rfl) (by rfl) ⟨rfl, rfl, _, Try.func60⟩ (plain_cons hp hl) ?_
 ·walk_nrm
  exact step_s K e d ht
 intro v e' ha
 have hc := (W.rd _ _ _ (W.up ha.le hon) (K.inv e')).1
 have hi1 := run_ifaceAtomic
 have hi2 := ev_ifaceAtomic
 unfold LW
 walk_nrm
 refine Walk.gz z60 ?_
 refine Walk.invokeLoad W.b W.q hoA (by rfl) (by decide) rfl rfl ?_
 refine (atLoad W.b W.q _ (K.w e') hc _ _).then ?_
 rintro g' w' ⟨v', ⟨rfl, dd, rfl⟩, rfl⟩
 refine Walk.back ?_ dd
 refine Walk.finish hoA ?_
 walk_nrm
 refine Walk.gz z60 ?_
 exact Walk.on1 rfl rfl Try.func60 rfl (hk _ e' ⟨ha, rfl⟩)
theorem word_load (K : Lg L sv) (W : Wd L) (e : K.E) (d : L.D) (hon : W.on (K.gh e)) (ht : K.tgt e = (K.s e, .inr d)) : SCall K.toLb 46 #[W.p, sv] e (fun v e' => Aft K.toLb e d e' ∧ v = .int .i64 (W.get (K.s e'))) := by
 intro fr l hp hl hk
 have hh := holds_s K W e d hon ht
 unfold Wd.p at *
 unfold LW
 have hp1 := fun w => run_eql_ptr (P := Try.prog) 93 undWord (some ⟨W.b, W.q, none⟩) w
 have hp2 := fun w es => ev_eql_ptr (P := Try.prog) 93 undWord (some ⟨W.b, W.q, none⟩) w es
 simp only [Option.isNone_some] at hp1
 rw [enter_at _ Try.func46 code46_is]
 simp only [Try.ntmps46, ez, Nat.reduceAdd, Nat.reduceSub]
 refine Walk.gz z46 ?_
 refine LW.callS (K := K.toLb) (e := e) (l := fr :: l) (f := 60) (Q := fun v e' => Aft K.toLb e d e' ∧ v = .int .i64 (W.get (K.s e'))) ?_ hoA (by rfl) (by decide) rfl Try.func60 (by kernel_rfl) (by rfl) ⟨rfl, rfl, _, Try.func46⟩ (plain_cons hp hl) ?_
 ·walk_nrm
  exact hh
 rintro v e' ⟨ha, rfl⟩
 unfold LW
 walk_nrm
 refine Walk.gz z46 ?_
 exact Walk.on1 rfl rfl Try.func46 rfl (hk _ e' ⟨ha, rfl⟩)
structure Wrote (K : Lg L sv) (e : K.E) (d : L.D) (s : L.Sg) (s' : L.Sg) (e' : K.E) : Prop where
 tgt : K.tgt e' = L.act s d
 fuel : K.fuel e' < K.fuel e
 le : L.le (K.gh e) (K.gh e')
 s : K.s e' = s'
 size : (K.w e).heap.size ≤ (K.w e').heap.size
 mine : ∀ b, K.mine e b → K.mine e' b ∧ (K.w e').heap[b]? = (K.w e).heap[b]?
theorem Wrote.of {K : Lg L sv} {e e1 e' : K.E} {d : L.D} {s' : L.Sg} {W : Wd L} {v : Int} (hon : W.on (K.gh e)) (ha : Aft K.toLb e d e1) (m : Mv K.toLb e1 e' s' ((K.w e1).setCell ⟨W.b, W.q, none⟩ (.int .i64 v))) : Wrote K e d (K.s e1) s' e' :=
 ⟨m.tgt.trans ha.tgt, by rw [m.fuel]; exact ha.fuel, by rw [m.gh]; exact ha.le, m.s, by rw [m.w, size_set]; exact ha.size, fun b hb => by
  obtain ⟨h1, h2⟩ := ha.mine b hb
  have hne : b ≠ W.b := fun he => (K.mineA e1 b h1).2.1 (by rw [he]; exact W.sh _ (W.up ha.le hon))
  refine ⟨(m.mine b).2 (.inl h1), ?_⟩
  rw [m.w, heap_set_other _ _ _ _ hne]
  exact h2⟩
theorem Wrote.same {K : Lg L sv} {e e1 : K.E} {d : L.D} (ha : Aft K.toLb e d e1) : Wrote K e d (K.s e1) (K.s e1) e1 := ⟨ha.tgt, ha.fuel, ha.le, rfl, ha.size, ha.mine⟩
theorem word_store (K : Lg L sv) (W : Wd L) (e : K.E) (d : L.D) (x : Int) (hx : W.ok x) (hon : W.on (K.gh e)) (ht : K.tgt e = (K.s e, .inr d)) : SCall K.toLb 39 #[W.p, sv, .int .i64 x] e (fun _ e' => ∃ s, Wrote K e d s (W.put s x) e') := by
 intro fr l hp hl hk
 unfold Wd.p
 unfold LW
 have hp1 := fun w => run_eql_ptr (P := Try.prog) 93 undWord (some ⟨W.b, W.q, none⟩) w
 have hp2 := fun w es => ev_eql_ptr (P := Try.prog) 93 undWord (some ⟨W.b, W.q, none⟩) w es
 simp only [Option.isNone_some] at hp1
 rw [enter_at _ Try.func39 code39_is]
 simp only [Try.ntmps39, ez, Nat.reduceAdd, Nat.reduceSub]
 refine Walk.gz z39 ?_
 refine LW.callS (K := K.toLb) (e := e) (l := fr :: l) (f := 56) (Q := fun _ e' => Aft K.toLb e d e') ?_ hoA (by rfl) (by decide) rfl Try.func56 (by kernel_rfl) (by rfl) ⟨rfl, rfl, _, Try.func39⟩ (plain_cons hp hl) ?_
 ·walk_nrm
  exact step_s K e d ht
 intro v e1 ha
 obtain ⟨hc, hz⟩ := W.rd _ _ _ (W.up ha.le hon) (K.inv e1)
 obtain ⟨e', m⟩ := W.put_mv K e1 x (W.up ha.le hon) hx
 unfold LW
 walk_nrm
 refine Walk.gz z39 ?_
 refine Walk.callV (x := .tuple #[]) (W := (K.w e1).setCell ⟨W.b, W.q, none⟩ (.int .i64 x)) ?_ hoA (by rfl) (by decide) rfl Try.func57 (by kernel_rfl) (by rfl) ?_
 ·walk_nrm
  exact atStore W.b W.q _ x (K.w e1) hc hz ((K.shA e1 _ (W.sh _ (W.up ha.le hon))).1 _ rfl)
 walk_nrm
 refine Walk.gz z39 ?_
 exact Walk.on0 rfl rfl Try.func39 rfl (LW.to m (hk _ e' ⟨K.s e1, Wrote.of hon ha m⟩))
theorem word_cas (K : Lg L sv) (W : Wd L) (e : K.E) (d : L.D) (old x : Int) (hx : W.ok x) (hon : W.on (K.gh e)) (ht : K.tgt e = (K.s e, .inr d)) : SCall K.toLb 58 #[W.p, sv, .int .i64 old, .int .i64 x] e (fun v e' => ∃ s, (W.get s = old ∧ v = .bool true ∧ Wrote K e d s (W.put s x) e') ∨ (W.get s ≠ old ∧ v = .bool false ∧ Wrote K e d s s e')) := by
 intro fr l hp hl hk
 unfold Wd.p
 unfold LW
 have hp1 := fun w => run_eql_ptr (P := Try.prog) 93 undWord (some ⟨W.b, W.q, none⟩) w
 have hp2 := fun w es => ev_eql_ptr (P := Try.prog) 93 undWord (some ⟨W.b, W.q, none⟩) w es
 simp only [Option.isNone_some] at hp1
 rw [enter_at _ Try.func58 code58_is]
 simp only [Try.ntmps58, ez, Nat.reduceAdd, Nat.reduceSub]
 refine Walk.gz z58 ?_
 refine LW.callS (K := K.toLb) (e := e) (l := fr :: l) (f := 56) (Q := fun _ e' => Aft K.toLb e d e') ?_ hoA (by rfl) (by decide) rfl Try.func56 (by kernel_rfl) (by rfl) ⟨rfl, rfl, _, Try.func58⟩ (plain_cons hp hl) ?_
 ·walk_nrm
  exact step_s K e d ht
 intro v e1 ha
 obtain ⟨hc, hz⟩ := W.rd _ _ _ (W.up ha.le hon) (K.inv e1)
 unfold LW
 walk_nrm
 refine Walk.gz z58 ?_
 by_cases hv : W.get (K.s e1) = old
 ·obtain ⟨e', m⟩ := W.put_mv K e1 x (W.up ha.le hon) hx
  refine Walk.callV (x := .bool true) (W := (K.w e1).setCell ⟨W.b, W.q, none⟩ (.int .i64 x)) ?_ hoA (by rfl) (by decide) rfl Try.func75 (by kernel_rfl) (by rfl) ?_
  ·walk_nrm
   rw [hv] at hc
   exact atCas_hit W.b W.q old x (K.w e1) hc hz ((K.shA e1 _ (W.sh _ (W.up ha.le hon))).1 _ rfl)
  walk_nrm
  refine Walk.gz z58 ?_
  exact Walk.on1 rfl rfl Try.func58 rfl (LW.to m (hk _ e' ⟨K.s e1, .inl ⟨hv, rfl, Wrote.of hon ha m⟩⟩))
 ·refine Walk.callV (x := .bool false) (W := K.w e1) ?_ hoA (by rfl) (by decide) rfl Try.func75 (by kernel_rfl) (by rfl) ?_
  ·walk_nrm
   exact atCas_miss W.b W.q _ old x (K.w e1) hc hz hv
  walk_nrm
  refine Walk.gz z58 ?_
  exact Walk.on1 rfl rfl Try.func58 rfl (hk _ e1 ⟨K.s e1, .inr ⟨hv, rfl, Wrote.same ha⟩⟩)
end
end
end Go.Proofs.Ytjenoiekfkhafaa
