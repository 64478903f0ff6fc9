/- Part 17. -/
import Derived.Test.YtabpfdckgnimaaaJ12
import Derived.Test.YtabpfdckgnimaaaJ14
import Derived.Test.YtabpfdckgnimaaaJ16
set_option linter.unusedSimpArgs false
set_option linter.unusedVariables false
set_option linter.unusedVariables false
set_option maxHeartbeats 8000000
set_option maxRecDepth 100000
namespace Go.Proofs.Ytabpfdckgnimaaa
open Go.Conc Go.RowKit Go.Relay
open Go.ConcN (upd upd_ne upd_same)
section
section
variable {main : Bool} {V : Nat → Option Wait}
theorem opThreads_w (fdo : FuncId) (first cap : Array Value) (tv : Value) (ta : Option Addr) (tb toff tc n : Nat) (hta : 0 < n → ta = some ⟨tb, toff, none⟩) (hn : n ≤ 64) (oa : Nat → Option Addr) (ln oc : Nat → Nat) (ops : Nat → List OpV) (w : World) (I : OpsIn tb toff n oa ln oc ops w) (hA : ∀ b, w.heap.size ≤ b → Apart V b)
    (hp : ∀ w' : World, (∀ b, b < w.heap.size → w'.heap[b]? = w.heap[b]?) → CallV Try.prog main V 35 #[tv] w' (.slice ta n tc) w') :
    CallW Try.prog main V 25 #[tv, .func (.func fdo) first cap] w (fun v w' => v = .tuple #[.slice (some ⟨w.heap.size + 3, 0, none⟩) n n, .slice (some ⟨w.heap.size + 1, 0, none⟩) n n] ∧ MkO w.heap.size n (.func (.func fdo) first cap) oa ln oc w w' n) := by
  intro c cs
  refine (opThreads_in fdo first cap tv ta tc n hn (c :: cs) w hA hp oa ln oc).then ?_
  rintro g w1 ⟨⟨u, rfl⟩, M⟩
  have loop : ∀ (r i : Nat) (u : Nat → Value) (w1 : World), i + r = n → MkO w.heap.size n (.func (.func fdo) first cap) oa ln oc w w1 i →
      Walk Try.prog main (DR V) (fun g w' => ∃ v, (v = .tuple #[.slice (some ⟨w.heap.size + 3, 0, none⟩) n n, .slice (some ⟨w.heap.size + 1, 0, none⟩) n n] ∧ MkO w.heap.size n (.func (.func fdo) first cap) oa ln oc w w' n) ∧ g = G (c.finish v) cs) (G (hd46 (.func (.func fdo) first cap) ta tc w.heap.size n i u) (c :: cs)) w1 := by
    intro r
    induction r with
    | zero =>
      intro i u w1 hi M
      obtain rfl : i = n := hi
      refine (opThreads_out _ ta tc w.heap.size i u c cs w1 ((cell_of M.cA 0).trans rfl)).mono ?_
      rintro g w' ⟨rfl, d, rfl⟩
      exact ⟨_, ⟨rfl, M.at d⟩, rfl⟩
    | succ r ih =>
      intro i u w1 hi M
      have hin : i < n := by omega
      obtain rfl := hta (by omega)
      refine (opThreads_go _ tb toff tc w.heap.size n i hn hin oa ln oc u (c :: cs) w w1 rfl M hA (I.hd i hin) (I.cap i hin) (I.ad i hin)).then ?_
      rintro g w' ⟨⟨u', rfl⟩, M'⟩
      exact ih (i + 1) u' w' (by omega) M'
  exact loop n 0 u w1 (by omega) M
noncomputable def reg14_0 := rg Try.f14.body [0]
noncomputable def reg14_1 := rg Try.f14.body [1, 0]
noncomputable def reg14_2 := rg Try.f14.body [1, 1, 0]
noncomputable def reg14_3 := rg Try.f14.body [1, 1, 1, 0]
theorem z14 : List.range reg14_0.size = [0] ∧ List.range reg14_1.size = [0, 1, 2, 3, 4, 5, 6, 7] ∧ List.range reg14_2.size = [0, 1, 2, 3, 4, 5, 6, 7, 8, 9, 10] ∧ List.range reg14_3.size = [0, 1, 2, 3, 4] := by refine ⟨?_, ?_, ?_, ?_⟩ <;> kernel_rfl
theorem code14_is : Try.f14.body = some (.seq (.region 0 reg14_0 false) (.seq (.region 1 reg14_1 false) (.seq (.region 2 reg14_2 false) (.seq (.region 3 reg14_3 false) (.ret))))) := by kernel_rfl
def OpsBack (main : Bool) (V : Nat → Option Wait) (T A n : Nat) (fr c : Frame) (cs : List Frame) : Prop := ∀ (oo : Option Addr) (ol ok : Nat) (bv : Value) (stuck : Bool) (w : World), w.heap[T]? = some (.cells #[.slice none 0 0, .slice none 0 0, .slice none 0 0, .bool false] 31) → Apart V T →
  Walk Try.prog main (DR V) (fun g w' => g = G (c.finish (.agg #[.slice (some ⟨A, 0, none⟩) n n, .slice oo ol ok, .slice none 0 0, .bool stuck])) cs ∧ ∃ d, w' = (w.setRow T #[.slice (some ⟨A, 0, none⟩) n n, .slice oo ol ok, .slice none 0 0, .bool stuck]).at d) (G (fr.finish (.tuple #[.slice oo ol ok, .bool stuck, bv])) (c :: cs)) w
theorem ops_in (fdo : FuncId) (first cap : Array Value) (tv sv : Value) (most : Int) (ta : Option Addr) (tb toff tc n : Nat) (hta : 0 < n → ta = some ⟨tb, toff, none⟩) (hn : n ≤ 64) (oa : Nat → Option Addr) (ln oc : Nat → Nat) (ops : Nat → List OpV) (c : Frame) (cs : List Frame) (w : World) (I : OpsIn tb toff n oa ln oc ops w) (hA : ∀ b, w.heap.size ≤ b → Apart V b)
    (hp : ∀ w' : World, (∀ b, b < w.heap.size → w'.heap[b]? = w.heap[b]?) → CallV Try.prog main V 35 #[tv] w' (.slice ta n tc) w') :
    Walk Try.prog main (DR V) (fun g w' => ∃ fr w1, g = G (Frame.enter Try.prog 26 #[.slice (some ⟨w.heap.size + 4, 0, none⟩) n n, sv, .int .i64 most] .normal) (fr :: c :: cs) ∧ (∀ b, b < w.heap.size → w1.heap[b]? = w.heap[b]?) ∧ w1.heap.size = w.heap.size + 1 ∧ w1.heap[w.heap.size]? = some (.cells #[.slice none 0 0, .slice none 0 0, .slice none 0 0, .bool false] 31) ∧ MkO (w.heap.size + 1) n (.func (.func fdo) first cap) oa ln oc w1 w' n ∧ OpsBack main V w.heap.size (w.heap.size + 2) n fr c cs)
      (G (Frame.enter Try.prog 14 #[tv, .func (.func fdo) first cap, sv, .int .i64 most] .normal) (c :: cs)) w := by
  rw [enter_at _ Try.func14 code14_is]
  simp only [Try.ntmps14, ez, Nat.reduceAdd, Nat.reduceSub]
  repeat (first | refine Walk.cx ?_ | (refine Walk.cReg ?_; simp only [z14]) | (refine Walk.oq ?_; try walk_nrm) | (refine Walk.un ?_; walk_nrm))
  (refine Walk.oa ?_; try walk_nrm)
  have s1 : (w.alloc (.cells #[.slice none 0 0, .slice none 0 0, .slice none 0 0, .bool false] 31)).heap.size = w.heap.size + 1 := by simp
  have o1 : ∀ b, b < w.heap.size → (w.alloc (.cells #[.slice none 0 0, .slice none 0 0, .slice none 0 0, .bool false] 31)).heap[b]? = w.heap[b]? := fun b hb => heap_new_lt _ _ hb
  have d1 := heap_alloc_new w (.cells #[.slice none 0 0, .slice none 0 0, .slice none 0 0, .bool false] 31)
  generalize hN : w.heap.size = T at *
  generalize w.alloc (.cells #[.slice none 0 0, .slice none 0 0, .slice none 0 0, .bool false] 31) = w1 at *
  have I1 : OpsIn tb toff n oa ln oc ops w1 := by
    have hc : ∀ {b j : Nat} {v : Value}, w.cell? ⟨b, j, none⟩ = some v → w1.cell? ⟨b, j, none⟩ = some v := fun {b j v} h => (World.cell?_of_block (a := ⟨b, j, none⟩) (o1 b (hN ▸ cell_lt' h))).trans h
    exact ⟨fun i hi => hc (I.hd i hi), I.cap, I.ad, I.len, fun i hi j o ho => by
      obtain ⟨b, off, e, c0, c1, c2, c3⟩ := I.ops i hi j o ho
      exact ⟨b, off, e, hc c0, hc c1, hc c2, hc c3⟩⟩
  repeat (first | refine Walk.cx ?_ | (refine Walk.cReg ?_; simp only [z14]) | (refine Walk.oq ?_; try walk_nrm) | (refine Walk.un ?_; walk_nrm))
  refine Walk.callW (Post := fun v w' => v = .tuple #[.slice (some ⟨w1.heap.size + 3, 0, none⟩) n n, .slice (some ⟨w1.heap.size + 1, 0, none⟩) n n] ∧ MkO w1.heap.size n (.func (.func fdo) first cap) oa ln oc w1 w' n) ?_ (ho_of (by conv => lhs; whnf) (by kernel_rfl)) (by rfl) (by decide) rfl Try.func25 (by kernel_rfl) (by rfl) ?_
  · walk_nrm
    exact opThreads_w fdo first cap tv ta tb toff tc n hta hn oa ln oc ops w1 I1 (fun b hb => hA b (by omega)) (fun w' hw' => hp w' fun b hb => (hw' b (by omega)).trans (o1 b hb))
  rintro v w2 ⟨rfl, M⟩
  rw [s1] at M ⊢
  walk_nrm
  repeat (first | refine Walk.cx ?_ | (refine Walk.cReg ?_; simp only [z14]) | (refine Walk.oq ?_; try walk_nrm) | (refine Walk.un ?_; walk_nrm))
  refine Walk.callE (ho_of (by conv => lhs; whnf) (by kernel_rfl)) (by rfl) (by decide) rfl Try.func26 (by kernel_rfl) (by rfl) ?_
  walk_nrm
  refine .stop fun d => ⟨_, w1, rfl, o1, s1, d1, M.at d, ?_⟩
  intro oo ol ok bv stuck w3 hT hap
  refine Walk.finish (ho_of (by conv => lhs; whnf) (by kernel_rfl)) ?_
  walk_nrm
  repeat (first | refine Walk.cx ?_ | (refine Walk.cReg ?_; simp only [z14]) | (refine Walk.oq ?_; try walk_nrm) | (refine Walk.un ?_; walk_nrm))
  refine Walk.storeS 31 (.tmp 8) (.tmp 31) (ho_of (by conv => lhs; whnf) (by kernel_rfl)) (by rfl) (by decide) rfl T #[.slice (some ⟨T + 2, 0, none⟩) n n, .slice oo ol ok, .slice none 0 0, .bool stuck] _ 31 rfl rfl hT (by kernel_rfl) (by rfl) (by simp [Value.oneCell']) hap ?_
  have c9 := setRow_self (cells := #[.slice (some ⟨T + 2, 0, none⟩) n n, .slice oo ol ok, .slice none 0 0, .bool stuck]) hT
  walk_nrm
  repeat (first | refine Walk.cx ?_ | (refine Walk.cReg ?_; simp only [z14]) | (refine Walk.oq ?_; try walk_nrm) | (refine Walk.un ?_; walk_nrm))
  exact Walk.onCell (T := T) rfl rfl rfl Try.func14 rfl (by rfl) c9 (by kernel_rfl) (by kernel_rfl) (.stop fun d => ⟨rfl, d, rfl⟩)
end
end
section
structure Abs (X : Type) where
  n : Nat
  most : Int
  born : X → Nat → X
  next : X → Nat → X
  out : X → Nat → Option Bool
section
variable {X : Type}
def goingA (C : Abs X) (x : X) : Nat := (List.range C.n).countP (fun i => (C.out x i).isNone)
def overA (C : Abs X) (st : X × List Nat) : Bool := decide (goingA C st.1 = 0) || decide (C.most ≤ st.2.length)
def stepA (C : Abs X) (st : X × List Nat) (z : Int) : X × List Nat :=
  if overA C st = false ∧ 0 ≤ z ∧ z < C.n ∧ C.out st.1 z.toNat = none then (C.next st.1 z.toNat, st.2 ++ [z.toNat]) else st
def roundA (C : Abs X) (st : X × List Nat) : X × List Nat := (List.range C.n).foldl (fun st i => stepA C st (i : Nat)) st
def restA (C : Abs X) : Nat → X × List Nat → X × List Nat
  | 0, st => st
  | f + 1, st => if overA C st then st else restA C f (roundA C st)
def followA (C : Abs X) (st : X × List Nat) (l : List Int) : X × List Nat := restA C C.most.toNat (l.foldl (stepA C) st)
def bornsA (C : Abs X) : Nat → Nat → X → X
  | 0, _, x => x
  | n + 1, k, x => bornsA C n (k + 1) (C.born x k)
def runA (C : Abs X) (x0 : X) (l : List Int) : X × List Nat := followA C (bornsA C C.n 0 x0, []) l
def absOf {S : Stile} (C : Crew S X) : Abs X := ⟨S.n, S.most, C.born, C.next, C.out⟩
theorem rest_abs {S : Stile} (C : Crew S X) : ∀ (f : Nat) (st : X × List Nat), restX C f st = restA (absOf C) f st
  | 0, _ => rfl
  | f + 1, st => by
    unfold restX restA
    rw [rest_abs C f]
    rfl
theorem born_abs {S : Stile} (C : Crew S X) : ∀ (n k : Nat) (x : X), bornAll C n k x = bornsA (absOf C) n k x
  | 0, _, _ => rfl
  | n + 1, k, x => by
    unfold bornAll bornsA
    exact born_abs C n (k + 1) _
theorem follow_abs {S : Stile} (C : Crew S X) (st : X × List Nat) (l : List Int) : followX C st l = followA (absOf C) st l := by
  unfold followX followA
  rw [rest_abs]
  rfl
end
def absO (L : La) (n : Nat) (most : Int) (ops : Nat → List OpV) : Abs (OX L) := ⟨n, most, bornO ops, nextO, OX.out⟩
def x0O (L : La) (s0 : L.Sg) : OX L := ⟨s0, fun _ => t0 L, fun _ => none, 0⟩
def playO (L : La) (s0 : L.Sg) (ops : Nat → List OpV) (n : Nat) (most : Int) (sl : List Int) : OX L × List Nat := runA (absO L n (min (max most 0) 1048576) ops) (x0O L s0) sl
def stuckO {L : La} (n : Nat) (x : OX L) : Bool := decide (0 < (List.range n).countP (fun i => (x.out i).isNone))
structure OpsAll (L : La) (y0 : L.Gh) (w w' : World) (n : Nat) (x : OX L) (ord : List Nat) (cells : Array Value) (y : L.Gh) (A : Nat) (oo : Option Addr) (ok : Nat) (hd : Nat → Value) (own : Nat → Nat → Prop) : Prop where
  eq : cells = #[.slice (some ⟨A, 0, none⟩) n n, .slice oo ord.length ok, .slice none 0 0, .bool (stuckO n x)]
  orow : w'.ownsRow w.heap.size 3 1 (.slice oo ord.length ok) ord.length (ord.map fun i => .int .i64 (i : Nat))
  Alo : w.heap.size ≤ A
  heads : ∃ arr : Array Value, w'.heap[A]? = some (.cells arr 35) ∧ arr.size = n ∧ ∀ i, i < n → arr[i]? = some (hd i)
  rows : ∀ i, i < n → RowA w.heap.size (own i) (hd i) (x.th i).ans w'
  one : ∀ i j b, own i b → own j b → i = j
  ownA : ∀ i b, own i b → b ≠ A ∧ ¬ L.sh y b
  ownO : ∀ i b, own i b → (Value.slice oo ord.length ok).ownBlock ≠ some b
  shA : ∀ b, L.sh y b → b ≠ A ∧ (Value.slice oo ord.length ok).ownBlock ≠ some b
  Aord : (Value.slice oo ord.length ok).ownBlock ≠ some A
  le : L.le y0 y
  I : L.I y x.s w'
  pub : ∀ b, L.sh y b → b < w.heap.size → L.sh y0 b
structure OpsOut (L : La) (y0 : L.Gh) (s0 : L.Sg) (ops : Nat → List OpV) (n : Nat) (most : Int) (sl : List Int) (w w' : World) (cells : Array Value) : Prop where
  all : ∃ y A oo ok hd own, OpsAll L y0 w w' n (playO L s0 ops n most sl).1 (playO L s0 ops n most sl).2 cells y A oo ok hd own
  old : ∀ b, b < w.heap.size → ¬ L.sh y0 b → w'.heap[b]? = w.heap[b]?
  size : w.heap.size ≤ w'.heap.size
theorem row_raise {w : World} {base base' : Nat} {e : TypeId} {size : Nat} {v : Value} {n : Nat} {xs : List Value} (h : w.ownsRow base e size v n xs) (hb : ∀ g, v.ownBlock = some g → base' ≤ g) : w.ownsRow base' e size v n xs := by
  refine ⟨h.1, ?_⟩
  rcases h.2 with z | ⟨g, cap, cur, h0, h1, h2⟩
  · exact .inl z
  · exact .inr ⟨g, cap, cur, h0, hb g (by rw [h0]; rfl), h2⟩
section
variable {L : La} {fdo : FuncId} {first cap : Array Value}
theorem ops_run (hD : DoFn L fdo first cap) (y0 : L.Gh) (s0 : L.Sg) (tv : Value) (most : Int) (tb toff tc n : Nat) (hn1 : 1 ≤ n) (hn : n ≤ 64) (oa : Nat → Option Addr) (ln oc : Nat → Nat) (ops : Nat → List OpV) (sa : Option Addr) (sc : Nat) (sl : List Int) (hsl : sl.length ≤ 17592186044416) (c : Frame) (cs : List Frame) (w : World)
    (I : OpsIn tb toff n oa ln oc ops w) (hI : L.I y0 s0 w) (hns : ∀ i, i < n → ∀ (j : Nat) (o : OpV), (ops i)[j]? = some o → ∀ b off, oa i = some ⟨b, off, none⟩ → ¬ L.sh y0 b)
    (hsc : ∀ (j : Nat) (z : Int), sl[j]? = some z → ∃ s so, sa = some ⟨s, so, none⟩ ∧ w.cell? ⟨s, so + j, none⟩ = some (.int .i64 z) ∧ ¬ L.sh y0 s)
    (hp : ∀ w' : World, (∀ b, b < w.heap.size → w'.heap[b]? = w.heap[b]?) → CallV Try.prog true (fun _ => none) 35 #[tv] w' (.slice (some ⟨tb, toff, none⟩) n tc) w') :
    Runs (fun g w' => ∃ cells, OpsOut L y0 s0 ops n most sl w w' cells ∧ g = G (c.finish (.agg cells)) cs) (G (Frame.enter Try.prog 14 #[tv, .func (.func fdo) first cap, .slice sa sl.length sc, .int .i64 most] .normal) (c :: cs)) w := by
  have hA : ∀ b, Apart (fun _ => none) b := fun b => ⟨fun _ _ _ _ h => (by cases h), fun _ _ h => (by cases h)⟩
  refine Runs.walk (ops_in fdo first cap tv (.slice sa sl.length sc) most (some ⟨tb, toff, none⟩) tb toff tc n (fun _ => rfl) hn oa ln oc ops c cs w I (fun b _ => hA b) hp) ?_
  rintro _ w2 ⟨fr, w1, rfl, o1, s1, hT, M, hB⟩
  have hshw : ∀ b, L.sh y0 b → b < w.heap.size := fun b h => L.lt hI h
  have s2 : w2.heap.size = w.heap.size + 1 + 4 + 2 * n := M.size
  have o2 : ∀ b, b < w.heap.size → w2.heap[b]? = w.heap[b]? := fun b hb => (M.old b (by omega)).trans (o1 b hb)
  have hc2 : ∀ {b j : Nat} {v : Value}, w.cell? ⟨b, j, none⟩ = some v → w2.cell? ⟨b, j, none⟩ = some v := fun {b j v} h => (World.cell?_of_block (a := ⟨b, j, none⟩) (o2 b (cell_lt' h))).trans h
  have hI2 : L.I y0 s0 w2 := L.stable hI fun b h => o2 b (hshw b h)
  let g : OG := ⟨n, w2, w.heap.size + 1 + 1, ops, L.sh y0⟩
  let Q : Given := ⟨0, n, w.heap.size + 4, n, most, fun i => thrO (w.heap.size + 1) i, sa, sc, sl⟩
  obtain ⟨farr, hF1, hF2, hF3⟩ := M.cF
  have hfree : ∀ b, w.heap.size ≤ b → ¬ L.sh y0 b := fun b hb h => by have := hshw b h; omega
  refine Runs.then (over_run (fun S => crewO L g y0 hD S) (x0O L s0) Q (.slice (some ⟨w.heap.size + 4, 0, none⟩) n n) w2 hn1 hn hsl (fun _ => rfl) (by
      have := first_some (main := true) (V := fun _ => none) (w.heap.size + 4) n n w2 (Nat.le_refl _)
      rw [Nat.min_eq_left hn] at this
      exact this) (fun g0 sb scap sts => ⟨fun _ => [], ?_, fun _ => none, fun _ => .slice none 0 0, ?_⟩) fr (c :: cs)) ?_
  · intro i hi
    refine ⟨w.heap.size + 1 + 5 + 2 * i, w.heap.size + 1 + 2, w.heap.size + 1 + 4 + 2 * i, w.heap.size + 1, n, oa i, oc i, ⟨hi, hn, by rw [show g.ops i = ops i from rfl, I.len i hi]; omega, ?_, (cell_of M.cA 0).trans rfl, (cell_of (M.cI i hi) 0).trans rfl, (cell_of M.cD 0).trans rfl, ⟨hfree _ (by omega), show _ ≠ w.heap.size + 1 + 1 by omega⟩, ⟨hfree _ (by omega), show _ ≠ w.heap.size + 1 + 1 by omega⟩, ⟨hfree _ (by omega), show _ ≠ w.heap.size + 1 + 1 by omega⟩, ⟨hfree _ (by omega), show _ ≠ w.heap.size + 1 + 1 by omega⟩, fun j o ho => ?_⟩, rfl⟩
    · rw [show (g.ops i).length = min (ln i) 65536 from I.len i hi]
      exact (cell_of (M.cO i hi) 0).trans rfl
    · obtain ⟨b, off, e, c0, c1, c2, c3⟩ := I.ops i hi j o ho
      exact ⟨b, off, e, hns i hi j o ho b off e, show b ≠ w.heap.size + 1 + 1 by have := cell_lt' c0; omega, hc2 c0, hc2 c1, hc2 c2, hc2 c3⟩
  · refine ⟨y0, L.refl _, ⟨⟨rfl, show w.heap.size + 1 + 1 < w2.heap.size by omega, ⟨hfree _ (show w.heap.size ≤ w.heap.size + 4 by omega), show w.heap.size + 4 ≠ w.heap.size + 1 + 1 by omega⟩, fun i hi => ?_, fun j z hz => ?_⟩, Nat.zero_le _, Nat.le_refl _, fun _ _ => rfl, fun _ _ _ _ => rfl, fun _ _ h => (by cases h), fun b h => ⟨rfl, by have := hshw b h; show b ≠ w.heap.size + 1 + 1; omega, by have := hshw b h; show b < w2.heap.size; omega, fun _ => h⟩, hI2, ⟨_, M.cN, madeCells_size _ _, fun i hi => madeCells_get _ n i hi⟩, fun i hi => RowA.nil _ _ _, fun i hi => absurd hi (Nat.not_lt_zero _), fun _ _ _ => rfl⟩⟩
    · exact (cell_of hF1 i).trans (hF3 i hi)
    · obtain ⟨s, so, e, hc, h1⟩ := hsc j z hz
      exact ⟨s, so, e, hc2 hc, h1, show s ≠ w.heap.size + 1 + 1 by have := cell_lt' hc; omega⟩
  · rintro _ w4 ⟨_, ⟨g0, sb, scap, sts, x, ord, oa', oc', q, k, own, csx, hx, hov, rfl, ⟨hThr, pr, hd, y, hy, P⟩, hrow, hrb, hq, hqs, hsz, _⟩, rfl⟩
    have hT4 : w4.heap[w.heap.size]? = some (.cells #[.slice none 0 0, .slice none 0 0, .slice none 0 0, .bool false] 31) := (P.old _ (show w.heap.size < w2.heap.size by omega) (hfree _ (Nat.le_refl _)) (show w.heap.size ≠ w.heap.size + 1 + 1 by omega)).trans ((M.old _ (by omega)).trans hT)
    have hp : (x, ord) = playO L s0 ops n most sl := by
      rw [hx, follow_abs, born_abs]
      rfl
    have hg : decide (0 < goingX (crewO L g y0 hD (stile (Q.at g0) w2.heap.size sb scap sts)) x) = stuckO n x := rfl
    refine Runs.walk (hB oa' ord.length oc' _ _ w4 hT4 (hA _)) ?_
    rintro _ _ ⟨rfl, d, rfl⟩
    obtain ⟨arr, hAr, hAz, hAi⟩ := P.an
    have hset : ∀ b, b ≠ w.heap.size → (w4.setRow w.heap.size #[.slice (some ⟨w.heap.size + 2, 0, none⟩) n n, .slice oa' ord.length oc', .slice none 0 0, .bool (stuckO n x)]).heap[b]? = w4.heap[b]? := fun b hb => setRow_other _ _ hb
    have hle : w2.heap.size ≤ w4.heap.size := P.size
    have hshn : ∀ b, L.sh y b → b ≠ w.heap.size := fun b h e => hfree b (by omega) ((P.shl b h).2.2.2 (show b < w2.heap.size by omega))
    have hprn : ∀ b i, pr b = some i → b ≠ w.heap.size := fun b i h e => by
      have h1 : w2.heap.size ≤ b := (P.prl b i h).1
      omega
    have hoA : own (w.heap.size + 1 + 1) = none := P.base _ (show w.heap.size + 1 + 1 < w2.heap.size by omega)
    have e2 : (playO L s0 ops n most sl).1 = x := by rw [← hp]
    have e3 : (playO L s0 ops n most sl).2 = ord := by rw [← hp]
    refine .now ⟨_, ⟨?_, fun b hb hs => ?_, ?_⟩, rfl⟩
    · rw [e2, e3]
      refine ⟨y, w.heap.size + 2, oa', oc', hd, fun i b => pr b = some i, ⟨?_, ?_, by omega, ⟨arr, (hset _ (by omega)).trans hAr, hAz, hAi⟩, fun i hi => ?_, fun i j b h1 h2 => ?_, fun i b h => ⟨?_, (P.prl b i h).2.2.2⟩, fun i b h e => ?_, fun b h => ⟨(P.shl b h).2.1, fun e => ?_⟩, fun e => ?_, hy, L.stable P.I fun b h => hset b (hshn b h), fun b h hb => (P.shl b h).2.2.2 (show b < w2.heap.size by omega)⟩⟩
      · rw [hg]
      · refine row_same (row_raise hrow fun b hb => ?_) fun b hb => hset b ?_
        · have := hrow.lt b hb; omega
        · have := hrow.lt b hb; omega
      · exact ((P.row i hi).same fun b h => hset b (hprn b i h)).low (show w.heap.size ≤ w2.heap.size by omega)
      · rw [h1] at h2; exact Option.some.inj h2
      · have h1 : w2.heap.size ≤ b := (P.prl b i h).1
        omega
      · have h1 := (hrb b e).1
        rw [(P.prl b i h).2.2.1] at h1; cases h1
      · have h1 := (hrb b e).1
        rw [(P.shl b h).1] at h1; cases h1
      · have h1 := (hrb _ e).1
        rw [show w.heap.size + 2 = w.heap.size + 1 + 1 by omega, hoA] at h1; cases h1
    · exact (hset b (by omega)).trans ((P.old b (show b < w2.heap.size by omega) hs (show b ≠ w.heap.size + 1 + 1 by omega)).trans (o2 b hb))
    · show w.heap.size ≤ (w4.setRow _ _).heap.size
      rw [setRow_size]; omega
end
end
section
variable {main : Bool} {V : Nat → Option Wait}
theorem end_zero (B : Nat) (c : Frame) (cs : List Frame) (w : World) (h0 : w.cell? ⟨B, 0, none⟩ = some (.slice none 0 0)) :
    Walk Try.prog main (DR V) (fun g w' => g = G (c.finish (.slice (some ⟨w.heap.size, 0, none⟩) 0 0)) cs ∧ ∃ d, w' = (w.alloc (.cells (madeCells #[.bool false] 0) 4)).at d) (G (Frame.enter Try.prog 42 #[.pointer (some ⟨B, 0, none⟩)] .normal) (c :: cs)) w := by
  rw [enter_at _ Try.func42 rfl]
  simp only [Try.f42, ez, Nat.reduceAdd, Nat.reduceSub]
  repeat (first | refine Walk.cx ?_ | refine Walk.cR ?_ | (refine Walk.oq ?_; try walk_nrm) | (refine Walk.un ?_; walk_nrm))
  have hi4 := Option.some_get (show (Try.prog.info? 4).isSome = true by kernel_rfl)
  refine Walk.make 73 (.tmp 10) (.tmp 10) rfl (by rfl) (by decide) rfl 4 _ (.bool false) 1 1 (by kernel_rfl) hi4.symm (by rfl) (by rfl) (by rfl) 0 (by rfl) (by rfl) (by omega) (by omega) ?_
  have h0' := cell_alloc w (.cells (madeCells #[.bool false] 0) 4) h0
  walk_nrm
  simp only [Value.cells, Nat.mul_one]
  repeat (first | refine Walk.cx ?_ | refine Walk.cR ?_ | (refine Walk.oq ?_; try walk_nrm) | (refine Walk.un ?_; walk_nrm))
  refine Walk.ctl rfl (fun w => stepG_loop) ?_
  repeat (first | refine Walk.cx ?_ | refine Walk.cR ?_ | (refine Walk.oq ?_; try walk_nrm) | (refine Walk.un ?_; walk_nrm))
  exact (Walk.ret1 (Post := fun v w' => v = .slice (some ⟨w.heap.size, 0, none⟩) 0 0 ∧ ∃ d, w' = (w.alloc (.cells (madeCells #[.bool false] 0) 4)).at d) rfl rfl Try.func42 rfl fun d => ⟨by simp, d, rfl⟩).mono fun g w' ⟨v, ⟨e, d, e'⟩, hg⟩ => ⟨by rw [hg, e], d, e'⟩
end
section
section
variable {main : Bool} {V : Nat → Option Wait}
theorem begin_zero' (B tc : Nat) (ta : Option Addr) (c : Frame) (cs : List Frame) (w : World) (h0 : w.cell? ⟨B, 0, none⟩ = some (.slice none 0 0)) :
    Walk Try.prog main (DR V) (fun g w' => g = G (c.finish (.tuple #[])) cs ∧ ∃ d, w' = w.at d) (G (Frame.enter Try.prog 40 #[.pointer (some ⟨B, 0, none⟩), .slice ta 0 tc] .normal) (c :: cs)) w := by
  rw [enter_at _ Try.func40 rfl]
  simp only [Try.f40, ez, Nat.reduceAdd, Nat.reduceSub]
  repeat (first | refine Walk.cx ?_ | refine Walk.cR ?_ | (refine Walk.oq ?_; try walk_nrm) | (refine Walk.un ?_; walk_nrm))
  refine Walk.ctl rfl (fun w => stepG_loop) ?_
  repeat (first | refine Walk.cx ?_ | refine Walk.cR ?_ | (refine Walk.oq ?_; try walk_nrm) | (refine Walk.un ?_; walk_nrm))
  exact Walk.ctl rfl (fun w => stepG_leave rfl rfl Try.func40 (results_none rfl _ _ w) (events_results_none rfl _ _)) (.stop fun d => ⟨rfl, d, rfl⟩)
theorem over_zero' (sa : Option Addr) (m sc tc : Nat) (ta : Option Addr) (most : Int) (og : Value) (c : Frame) (cs : List Frame) (w : World) (hog : CallV Try.prog main V 38 #[og] w (.slice ta 0 tc) w)
    (hs : 0 < m → ∃ s so x, sa = some ⟨s, so, none⟩ ∧ w.cell? ⟨s, so, none⟩ = some (.int .i64 x)) :
    Walk Try.prog main (DR V) (fun g w' => g = G (c.finish (.tuple #[.slice none 0 0, .bool false, .slice (some ⟨w.heap.size + 1, 0, none⟩) 0 0])) cs ∧ ∃ d, w' = ((turnW w 0 most).alloc (.cells (madeCells #[.bool false] 0) 4)).at d)
      (G (Frame.enter Try.prog 26 #[og, .slice sa m sc, .int .i64 most] .normal) (c :: cs)) w := by
  have hs1 : (turnW w 0 most).heap.size = w.heap.size + 1 := by simp [turnW]
  have ht : ∀ i, (turnW w 0 most).cell? ⟨w.heap.size, i, none⟩ = (#[.slice none 0 0, .int .i64 (0 : Nat), .int .i64 (min (max most 0) 1048576), .slice none 0 0] : Array Value)[i]? := fun i => cell_of (heap_alloc_new w _) i
  have t0 := (ht 0).trans rfl
  have t1 := (ht 1).trans rfl
  have t2 := (ht 2).trans rfl
  have t3 := (ht 3).trans rfl
  clear ht
  refine (over_in 0 tc m sc ta sa og most (c :: cs) w hog (nt_in 0 tc ta most (fr23t 0 tc m sc ta sa og most :: c :: cs) w)).then ?_
  rintro _ _ ⟨⟨u0, rfl⟩, d1, rfl⟩
  refine Walk.back ?_ d1
  refine (nt_out w.heap.size 0 u0 (fr23t 0 tc m sc ta sa og most) (c :: cs) _).then ?_
  rintro _ _ ⟨rfl, d2, rfl⟩
  refine Walk.back ?_ d2
  refine (over_begin w.heap.size 0 tc m sc ta sa og most (c :: cs) _ (begin_zero' w.heap.size tc ta _ (c :: cs) _ t0)).then ?_
  rintro _ _ ⟨rfl, d3, rfl⟩
  refine Walk.back ?_ d3
  refine (over_follow w.heap.size 0 tc m sc ta sa og most (c :: cs) _ (follow_in w.heap.size sa m sc _ _)).then ?_
  rintro _ _ ⟨⟨u4, rfl⟩, d4, rfl⟩
  refine Walk.back ?_ d4
  have back : Walk Try.prog main (DR V) (fun g w' => g = G ((fr23b w.heap.size 0 tc m sc ta sa og most).finish (.tuple #[])) (c :: cs) ∧ ∃ d, w' = (turnW w 0 most).at d) (G (hd55 w.heap.size sa m sc 0 u4) (fr23b w.heap.size 0 tc m sc ta sa og most :: c :: cs)) (turnW w 0 most) := by
    rcases Nat.eq_zero_or_pos m with hm | hm
    · subst hm
      refine (follow_past w.heap.size sa 0 sc u4 _ _).then ?_
      rintro _ _ ⟨⟨u5, rfl⟩, d5, rfl⟩
      refine Walk.back ?_ d5
      exact round_over w.heap.size sa 0 sc (0 : Nat) _ none 0 0 u5 _ (c :: cs) _ t1 t2 t3 (by simp)
    · obtain ⟨s, so, x, rfl, hc⟩ := hs hm
      refine follow_over w.heap.size s so m sc 0 x (0 : Nat) _ none 0 0 u4 _ (c :: cs) _ hm ?_ t1 t2 t3 (by simp)
      exact cell_alloc w _ hc
  refine back.then ?_
  rintro _ _ ⟨rfl, d5, rfl⟩
  refine Walk.back ?_ d5
  refine (over_end w.heap.size 0 tc m sc ta sa og most (0 : Nat) (c :: cs) _ t1 (end_zero w.heap.size _ (c :: cs) _ t0)).then ?_
  rintro _ _ ⟨rfl, d6, rfl⟩
  refine Walk.back ?_ d6
  have t3' := cell_alloc _ (.cells (madeCells #[.bool false] 0) 4) t3
  rw [hs1]
  refine (over_out w.heap.size (w.heap.size + 1) 0 tc m sc ta sa og most (0 : Nat) none 0 0 c cs _ t3').mono ?_
  rintro _ _ ⟨rfl, d7, rfl⟩
  exact ⟨by simp, d7, rfl⟩
theorem huOpsS : Try.prog.underlying 23 = some (.slice 28) := by kernel_rfl
theorem firstOps_some (a : Option Addr) (m cap : Nat) (w : World) (hm : m ≤ cap) (ha : a = none ∧ cap = 0 ∨ ∃ p, a = some p) : CallV Try.prog main V 35 #[.slice a m cap] w (.slice a (min m 64) cap) w := by
  refine callW_in Try.func35 rfl fun fr cs => ?_
  simp only [Try.ntmps35, ez, Nat.reduceAdd, Nat.reduceSub]
  have hmn := @events_min_ints Try.prog
  repeat (first | refine Walk.cx ?_ | refine Walk.cR ?_ | (refine Walk.oq ?_; try walk_nrm) | (refine Walk.un ?_; walk_nrm))
  have hmin : min (m : Int) 64 = ((min m 64 : Nat) : Int) := by omega
  rw [hmin]
  have hxl : min m 64 ≤ cap := by omega
  generalize min m 64 = x at hxl ⊢
  have hi := Option.some_get (show (Try.prog.info? 28).isSome = true by kernel_rfl)
  have hs := fun w => (run_slx huOpsS hi.symm a m cap x hxl ha w #[]).1
  have hse := fun w es => (run_slx huOpsS hi.symm a m cap x hxl ha w es).2
  clear hi
  repeat (first | refine Walk.cx ?_ | refine Walk.cR ?_ | (refine Walk.oq ?_; try walk_nrm) | (refine Walk.un ?_; walk_nrm))
  exact Walk.ret1 rfl rfl Try.func35 rfl fun d => ⟨by simp, d, rfl⟩
end
theorem playO_zero (L : La) (s0 : L.Sg) (ops : Nat → List OpV) (most : Int) (sl : List Int) : playO L s0 ops 0 most sl = (x0O L s0, []) := by
  have hov : overA (absO L 0 (min (max most 0) 1048576) ops) (x0O L s0, []) = true := rfl
  have hst : ∀ z, stepA (absO L 0 (min (max most 0) 1048576) ops) (x0O L s0, []) z = (x0O L s0, []) := fun z => by
    unfold stepA
    rw [hov]
    exact if_neg fun h => by cases h.1
  have hfold : ∀ l : List Int, l.foldl (stepA (absO L 0 (min (max most 0) 1048576) ops)) (x0O L s0, []) = (x0O L s0, []) := fun l => by
    induction l with
    | nil => rfl
    | cons z l ih => rw [List.foldl_cons, hst, ih]
  show restA _ _ (sl.foldl _ (x0O L s0, [])) = _
  rw [hfold]
  generalize (absO L 0 (min (max most 0) 1048576) ops).most.toNat = f
  cases f with
  | zero => rfl
  | succ f =>
    unfold restA
    rw [hov]
    rfl
section
variable {L : La} {fdo : FuncId} {first cap : Array Value}
theorem ops_any (hD : DoFn L fdo first cap) (y0 : L.Gh) (s0 : L.Sg) (tv : Value) (most : Int) (ta : Option Addr) (tb toff tc n : Nat) (hta : 0 < n → ta = some ⟨tb, toff, none⟩) (hn : n ≤ 64) (oa : Nat → Option Addr) (ln oc : Nat → Nat) (ops : Nat → List OpV) (sa : Option Addr) (sc : Nat) (sl : List Int) (hsl : sl.length ≤ 17592186044416) (c : Frame) (cs : List Frame) (w : World)
    (I : OpsIn tb toff n oa ln oc ops w) (hI : L.I y0 s0 w) (hns : ∀ i, i < n → ∀ (j : Nat) (o : OpV), (ops i)[j]? = some o → ∀ b off, oa i = some ⟨b, off, none⟩ → ¬ L.sh y0 b)
    (hsc : ∀ (j : Nat) (z : Int), sl[j]? = some z → ∃ s so, sa = some ⟨s, so, none⟩ ∧ w.cell? ⟨s, so + j, none⟩ = some (.int .i64 z) ∧ ¬ L.sh y0 s)
    (hp : ∀ w' : World, (∀ b, b < w.heap.size → w'.heap[b]? = w.heap[b]?) → CallV Try.prog true (fun _ => none) 35 #[tv] w' (.slice ta n tc) w') :
    Runs (fun g w' => ∃ cells, OpsOut L y0 s0 ops n most sl w w' cells ∧ g = G (c.finish (.agg cells)) cs) (G (Frame.enter Try.prog 14 #[tv, .func (.func fdo) first cap, .slice sa sl.length sc, .int .i64 most] .normal) (c :: cs)) w := by
  rcases Nat.eq_zero_or_pos n with h0 | h1
  · subst h0
    have hA : ∀ b, Apart (fun _ => none) b := fun b => ⟨fun _ _ _ _ h => (by cases h), fun _ _ h => (by cases h)⟩
    refine Runs.walk (ops_in fdo first cap tv (.slice sa sl.length sc) most ta tb toff tc 0 hta hn oa ln oc ops c cs w I (fun b _ => hA b) hp) ?_
    rintro _ w2 ⟨fr, w1, rfl, o1, s1, hT, M, hB⟩
    have s2 : w2.heap.size = w.heap.size + 1 + 4 + 2 * 0 := M.size
    have hN := M.cN
    have o2 : ∀ b, b < w.heap.size + 1 → w2.heap[b]? = w1.heap[b]? := fun b hb => M.old b hb
    have hc2 : ∀ {b j : Nat} {v : Value}, w.cell? ⟨b, j, none⟩ = some v → w2.cell? ⟨b, j, none⟩ = some v := fun {b j v} h => (World.cell?_of_block (a := ⟨b, j, none⟩) ((o2 b (by have := cell_lt' h; omega)).trans (o1 b (cell_lt' h)))).trans h
    refine Runs.walk (over_zero' sa sl.length sc 0 (some ⟨w.heap.size + 4, 0, none⟩) most _ fr (c :: cs) w2 ?_ fun h => ?_) ?_
    · have := first_some (main := true) (V := fun _ => none) (w.heap.size + 4) 0 0 w2 (Nat.le_refl _)
      simpa using this
    · obtain ⟨s, so, e, hc, _⟩ := hsc 0 (sl[0]'h) (List.getElem?_eq_getElem h)
      exact ⟨s, so, _, e, hc2 hc⟩
    rintro _ _ ⟨rfl, d, rfl⟩
    have o3 : ∀ b, b < w2.heap.size → ((turnW w2 0 most).alloc (.cells (madeCells #[.bool false] 0) 4)).heap[b]? = w2.heap[b]? := fun b hb => by
      rw [heap_new_lt _ _ (by simp [turnW]; omega)]
      exact heap_new_lt _ _ hb
    have s3 : w2.heap.size ≤ ((turnW w2 0 most).alloc (.cells (madeCells #[.bool false] 0) 4)).heap.size := by simp [turnW]; omega
    generalize (turnW w2 0 most).alloc (.cells (madeCells #[.bool false] 0) 4) = w3 at *
    have hT3 : (w3.at d).heap[w.heap.size]? = some (.cells #[.slice none 0 0, .slice none 0 0, .slice none 0 0, .bool false] 31) := (o3 _ (by omega)).trans ((o2 _ (by omega)).trans hT)
    refine Runs.walk (hB none 0 0 _ false _ hT3 (hA _)) ?_
    rintro _ _ ⟨rfl, d', rfl⟩
    have hset : ∀ b, b ≠ w.heap.size → ((w3.at d).setRow w.heap.size #[.slice (some ⟨w.heap.size + 2, 0, none⟩) 0 0, .slice none 0 0, .slice none 0 0, .bool false]).heap[b]? = w3.heap[b]? := fun b hb => setRow_other _ _ hb
    have hold : ∀ b, b < w.heap.size → ((w3.at d).setRow w.heap.size #[.slice (some ⟨w.heap.size + 2, 0, none⟩) 0 0, .slice none 0 0, .slice none 0 0, .bool false]).heap[b]? = w.heap[b]? := fun b hb => (hset b (by omega)).trans ((o3 b (by omega)).trans ((o2 b (by omega)).trans (o1 b hb)))
    have e1 : (playO L s0 ops 0 most sl).2 = [] := by rw [playO_zero]
    have e2 : (playO L s0 ops 0 most sl).1 = x0O L s0 := by rw [playO_zero]
    refine .now ⟨_, ⟨?_, fun b hb _ => hold b hb, ?_⟩, rfl⟩
    · rw [e1, e2]
      refine ⟨y0, w.heap.size + 2, none, 0, fun _ => .slice none 0 0, fun _ _ => False, ⟨rfl, ⟨rfl, .inl ⟨rfl, rfl⟩⟩, by omega, ⟨madeCells #[.slice none 0 0] 0, (hset _ (by omega)).trans ((o3 _ (by omega)).trans hN), madeCells_size _ _, fun i hi => absurd hi (Nat.not_lt_zero _)⟩, fun i hi => absurd hi (Nat.not_lt_zero _), fun _ _ _ h => h.elim, fun _ _ h => h.elim, fun _ _ h => h.elim, fun b h => ⟨?_, fun e => (by cases e)⟩, fun e => (by cases e), L.refl _, L.stable hI fun b h => hold b (L.lt hI h), fun b h _ => h⟩⟩
      have := L.lt hI h; omega
    · show w.heap.size ≤ (World.setRow _ _ _).heap.size
      rw [setRow_size]
      show _ ≤ w3.heap.size
      omega
  · obtain rfl := hta h1
    exact ops_run hD y0 s0 tv most tb toff tc n h1 hn oa ln oc ops sa sc sl hsl c cs w I hI hns hsc hp
end
end
section
section
variable {b : Frame} {k : List Item} {cs : List Frame} {ops : Array Oper} {Post : Goroutine → World → Prop}
theorem Runs.drawnR {id : Nat} {a : Act} {w : World} {Inv : (Nat → Bool) → Act → World → Prop} (hm : Try.prog.follows .mixedOrders = true) (hlow : lowW ops = true) (h0 : ∀ d, Inv (fun _ => false) a (w.at d))
    (hop : ∀ f i o a w, Inv f a w → Closed ops f → f i = false → ops[i]? = some o → (∀ x ∈ o.after, Region.binds .any x = true → f x.on = true) → ∀ rest, (∀ a' w', Inv (upd f i true) a' w' → Runs Post (G (b.at a' (.inRegion ops rest :: k)) cs) w') → Runs Post (G (b.at a (.inRegion ops (i :: rest) :: k)) cs) w)
    (hend : ∀ f a w, Inv f a w → (∀ i, i < ops.size → f i = true) → Runs Post (G (b.at a (.inRegion ops [] :: k)) cs) w) : Runs Post (G (b.at a (.code (.region id ops true) :: k)) cs) w := by
  have hu : upTo (Array.replicate ops.size false) = fun _ => false := by
    funext j
    unfold upTo
    rw [Array.getD_eq_getD_getElem?, Array.getElem?_replicate]
    split <;> rfl
  refine Runs.walk (Stop := fun g w' => ∃ t d, g = G (b.at a (.inRegion ops (Region.linearise .any ops t) :: k)) cs ∧ w' = w.at d) ?_ ?_
  · refine Walk.step rfl (fun d => G (b.at a (.inRegion ops (Region.linearise .any ops (w.tape d (.order b.fn id))) :: k)) cs) (fun d => w.at (d + 1)) (fun _ => #[]) (fun d => ?_) (fun d => drawsR _) (fun d => .stop fun d' => ⟨w.tape d (.order b.fn id), d', rfl, rfl⟩)
    rw [stepG_region_draw]
    simp only [Region.schedule, hm, Bool.true_or, if_true]
    rfl
  · rintro _ _ ⟨t, d, rfl, rfl⟩
    refine anyE (E := World) (Good := fun rest a w => Runs Post (G (b.at a (.inRegion ops rest :: k)) cs) w) hlow hop hend ops.size _ _ a (w.at d) (by simp) (by rw [hu]; exact h0 d) (by rw [hu]; intro _ _ _ h; cases h) ?_
    unfold Go.Relay.leftOf
    exact Nat.le_trans List.countP_le_length (by simp)
end
end
end Go.Proofs.Ytabpfdckgnimaaa
