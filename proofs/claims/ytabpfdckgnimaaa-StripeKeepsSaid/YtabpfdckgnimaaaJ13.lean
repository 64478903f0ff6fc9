/- Part 13. -/
import Derived.Test.YtabpfdckgnimaaaJ3
import Derived.Test.YtabpfdckgnimaaaJ12
set_option linter.unusedSimpArgs false
set_option linter.unusedVariables false
set_option linter.unusedVariables false
set_option maxHeartbeats 8000000
set_option maxRecDepth 100000
namespace Go.Proofs.Ytabpfdckgnimaaa
open Go.Conc Go.RowKit Go.Relay
open Go.ConcN (upd upd_ne upd_same)
section
structure OpV where
  k : Int
  a : Int
  b : Int
  c : Int
structure Ans where
  ok : Bool
  n : Int
  l : List Int
deriving DecidableEq
def opVal (o : OpV) : Value := .agg #[.int .i64 o.k, .int .i64 o.a, .int .i64 o.b, .int .i64 o.c]
def ansV (a : Ans) (sl : Value) : Value := .agg #[.bool a.ok, .int .i64 a.n, sl]
def ansRow (z : List (Ans × Value)) : List Value := z.flatMap fun a => [.bool a.1.ok, .int .i64 a.1.n, a.2]
theorem ansRow_snoc (z : List (Ans × Value)) (a : Ans × Value) : ansRow (z ++ [a]) = ansRow z ++ [.bool a.1.ok, .int .i64 a.1.n, a.2] := by simp [ansRow]
def LsAt (base : Nat) (P : Nat → Prop) (sl : Value) (l : List Int) (w : World) : Prop := ∃ a c, sl = .slice a l.length c ∧ l.length ≤ 1048576 ∧ (∀ {p : Prop}, p → w.ownsRow base 2 1 sl l.length (l.map fun z => .int .i64 z) ∧ ∀ b, sl.ownBlock = some b → P b)
theorem LsAt.same {base : Nat} {P : Nat → Prop} {sl : Value} {l : List Int} {w w' : World} (h : LsAt base P sl l w) (hb : ∀ b, P b → w'.heap[b]? = w.heap[b]?) : LsAt base P sl l w' := by
  obtain ⟨a, c, e, hn, hr⟩ := h
  exact ⟨a, c, e, hn, fun hl => ⟨row_same (hr hl).1 fun b e => hb b ((hr hl).2 b e), (hr hl).2⟩⟩
theorem LsAt.imp {base : Nat} {P P' : Nat → Prop} {sl : Value} {l : List Int} {w : World} (h : LsAt base P sl l w) (hP : ∀ b, P b → P' b) : LsAt base P' sl l w := by
  obtain ⟨a, c, e, hn, hr⟩ := h
  exact ⟨a, c, e, hn, fun hl => ⟨(hr hl).1, fun b e => hP b ((hr hl).2 b e)⟩⟩
theorem LsAt.low {base base' : Nat} {P : Nat → Prop} {sl : Value} {l : List Int} {w : World} (h : LsAt base P sl l w) (hb : base' ≤ base) : LsAt base' P sl l w := by
  obtain ⟨a, c, e, hn, hr⟩ := h
  exact ⟨a, c, e, hn, fun hl => ⟨⟨(hr hl).1.1, (hr hl).1.2.imp id fun ⟨g, cap, cur, h1, h2, h3⟩ => ⟨g, cap, cur, h1, Nat.le_trans hb h2, h3⟩⟩, (hr hl).2⟩⟩
def LsR (sl : Value) (l : List Int) (w : World) : Prop := ∃ a c, sl = .slice a l.length c ∧ l.length ≤ c ∧ (a = none → c = 0) ∧ ∀ (j : Nat) (z : Int), l[j]? = some z → ∃ b off, a = some ⟨b, off, none⟩ ∧ w.cell? ⟨b, off + j, none⟩ = some (.int .i64 z)
theorem LsR.same {sl : Value} {l : List Int} {w w' : World} (h : LsR sl l w) (hb : ∀ b, b < w.heap.size → w'.heap[b]? = w.heap[b]?) : LsR sl l w' := by
  obtain ⟨a, c, h1, h2, h3, h4⟩ := h
  refine ⟨a, c, h1, h2, h3, fun j z hj => ?_⟩
  obtain ⟨b, off, e, hc⟩ := h4 j z hj
  have hlt : b < w.heap.size := by
    unfold World.cell? at hc
    split at hc
    · rename_i h'; exact (Array.getElem?_eq_some_iff.1 h').1
    · cases hc
  exact ⟨b, off, e, (World.cell?_of_block (a := ⟨b, off + j, none⟩) (hb b hlt)).trans hc⟩
theorem LsR.nil (w : World) : LsR (.slice none 0 0) [] w := ⟨none, 0, rfl, Nat.le_refl _, fun _ => rfl, fun j z hj => (by simp at hj)⟩
theorem LsAt.nil (base : Nat) (P : Nat → Prop) (w : World) : LsAt base P (.slice none 0 0) [] w := ⟨none, 0, rfl, Nat.zero_le _, fun _ => ⟨⟨rfl, .inl ⟨rfl, rfl⟩⟩, fun b h => by simp [Value.ownBlock] at h⟩⟩
def RowA (base : Nat) (P : Nat → Prop) (hd : Value) (ans : List Ans) (w : World) : Prop := ∃ (ta : Option Addr) (tc : Nat) (z : List (Ans × Value)), z.map Prod.fst = ans ∧ hd = .slice ta ans.length tc ∧ w.ownsRow base 37 3 hd ans.length (ansRow z) ∧ (∀ b, hd.ownBlock = some b → P b) ∧ ∀ p ∈ z, LsAt base P p.2 p.1.l w
theorem RowA.same {base : Nat} {P : Nat → Prop} {hd : Value} {ans : List Ans} {w w' : World} (h : RowA base P hd ans w) (hb : ∀ b, P b → w'.heap[b]? = w.heap[b]?) : RowA base P hd ans w' := by
  obtain ⟨ta, tc, z, h1, h2, h3, h4, h5⟩ := h
  exact ⟨ta, tc, z, h1, h2, row_same h3 fun b e => hb b (h4 b e), h4, fun p hp => (h5 p hp).same hb⟩
theorem RowA.imp {base : Nat} {P P' : Nat → Prop} {hd : Value} {ans : List Ans} {w : World} (h : RowA base P hd ans w) (hP : ∀ b, P b → P' b) : RowA base P' hd ans w := by
  obtain ⟨ta, tc, z, h1, h2, h3, h4, h5⟩ := h
  exact ⟨ta, tc, z, h1, h2, h3, fun b e => hP b (h4 b e), fun p hp => (h5 p hp).imp hP⟩
theorem RowA.hdo {base : Nat} {P : Nat → Prop} {hd : Value} {ans : List Ans} {w : World} (h : RowA base P hd ans w) : ∀ b, hd.ownBlock = some b → P b := by
  obtain ⟨ta, tc, z, h1, h2, h3, h4, h5⟩ := h
  exact h4
theorem RowA.low {base base' : Nat} {P : Nat → Prop} {hd : Value} {ans : List Ans} {w : World} (h : RowA base P hd ans w) (hb : base' ≤ base) : RowA base' P hd ans w := by
  obtain ⟨ta, tc, z, h1, h2, h3, h4, h5⟩ := h
  exact ⟨ta, tc, z, h1, h2, ⟨h3.1, h3.2.imp id fun ⟨g, cap, cur, e1, e2, e3⟩ => ⟨g, cap, cur, e1, Nat.le_trans hb e2, e3⟩⟩, h4, fun p hp => (h5 p hp).low hb⟩
theorem RowA.nil (base : Nat) (P : Nat → Prop) (w : World) : RowA base P (.slice none 0 0) [] w :=
  ⟨none, 0, [], rfl, rfl, ⟨rfl, .inl ⟨rfl, rfl⟩⟩, fun b h => (by simp [Value.ownBlock] at h), fun p hp => (by cases hp)⟩
structure La where
  Sg : Type
  D : Type
  Gh : Type
  le : Gh → Gh → Prop
  refl : ∀ y, le y y
  trans : ∀ {x y z : Gh}, le x y → le y z → le x z
  enter : Sg → Int → OpV → Sg × (Ans ⊕ D)
  act : Sg → D → Sg × (Ans ⊕ D)
  sh : Gh → Nat → Prop
  mono : ∀ {y y' : Gh} {b : Nat}, le y y' → sh y b → sh y' b
  I : Gh → Sg → World → Prop
  stable : ∀ {y : Gh} {s : Sg} {w w' : World}, I y s w → (∀ b, sh y b → w'.heap[b]? = w.heap[b]?) → I y s w'
  lt : ∀ {y : Gh} {s : Sg} {w : World} {b : Nat}, I y s w → sh y b → b < w.heap.size
structure Tst (L : La) where
  left : List OpV
  d : Option L.D
  ans : List Ans
def settleO (L : La) (th : Int) : L.Sg → List OpV → List Ans → L.Sg × Tst L
  | s, [], az => (s, ⟨[], none, az⟩)
  | s, o :: l, az => match L.enter s th o with
    | (s', .inl a) => settleO L th s' l (az ++ [a])
    | (s', .inr d) => (s', ⟨l, some d, az⟩)
def landO (L : La) (th : Int) (r : L.Sg × (Ans ⊕ L.D)) (left : List OpV) (az : List Ans) : L.Sg × Tst L := match r with
  | (s', .inl a) => settleO L th s' left (az ++ [a])
  | (s', .inr d) => (s', ⟨left, some d, az⟩)
theorem settleO_cons (L : La) (th : Int) (s : L.Sg) (o : OpV) (l : List OpV) (az : List Ans) : settleO L th s (o :: l) az = landO L th (L.enter s th o) l az := rfl
structure OX (L : La) where
  s : L.Sg
  th : Nat → Tst L
  out : Nat → Option Bool
  cnt : Nat
def putO {L : La} (x : OX L) (i : Nat) (r : L.Sg × Tst L) (c : Nat) : OX L := ⟨r.1, upd x.th i r.2, upd x.out i (match r.2.d with | none => some false | some _ => none), c⟩
def bornO {L : La} (ops : Nat → List OpV) (x : OX L) (i : Nat) : OX L := putO x i (settleO L (i : Nat) x.s (ops i) []) x.cnt
def nextO {L : La} (x : OX L) (i : Nat) : OX L := match (x.th i).d with
  | none => { x with cnt := x.cnt + 1 }
  | some d => putO x i (landO L (i : Nat) (L.act x.s d) (x.th i).left (x.th i).ans) (x.cnt + 1)
structure OG where
  n : Nat
  w0 : World
  A : Nat
  ops : Nat → List OpV
  sh : Nat → Prop
def AnT (g : OG) (i : Nat) (w w' : World) (hd : Value) : Prop := ∃ arr arr' : Array Value, w.heap[g.A]? = some (.cells arr 35) ∧ w'.heap[g.A]? = some (.cells arr' 35) ∧ arr'.size = arr.size ∧ arr'[i]? = some hd ∧ ∀ j, j ≠ i → arr'[j]? = arr[j]?
structure Tn (L : La) where
  V : Nat → Option Wait
  f : Frame
  fs : List Frame
  w : World
  y : L.Gh
  M : Nat → Prop
  goal : L.Sg × Tst L
def ownT {L : La} (τ : Tn L) (y : L.Gh) (w : World) (b : Nat) : Prop := (τ.M b ∨ (τ.w.heap.size ≤ b ∧ b < w.heap.size)) ∧ ¬ L.sh y b
def StopT (L : La) (g : OG) (S : Stile) (i : Nat) (C : Tst L → List Frame → L.Gh → Value → (Nat → Prop) → World → Prop) (τ : Tn L) (g' : Goroutine) (w' : World) : Prop :=
  ∃ y', L.le τ.y y' ∧ τ.w.heap.size ≤ w'.heap.size ∧ (∀ b, b < τ.w.heap.size → ¬ τ.M b → ¬ L.sh τ.y b → b ≠ g.A → w'.heap[b]? = τ.w.heap[b]?) ∧ L.I y' τ.goal.1 w' ∧ (∀ b, L.sh y' b → L.sh τ.y b ∨ τ.M b ∨ τ.w.heap.size ≤ b) ∧
  ∃ hd, AnT g i τ.w w' hd ∧ RowA g.w0.heap.size (ownT τ y' w') hd τ.goal.2.ans w' ∧
    ((τ.goal.2.d = none ∧ g' = G (τ.f.finish (.tuple #[])) τ.fs) ∨
     ∃ l, τ.goal.2.d.isSome = true ∧ l ≠ [] ∧ (∀ f ∈ l, Plain f) ∧ C τ.goal.2 l y' hd (ownT τ y' w') w' ∧ g' = G (Frame.enter Try.prog 77 #[.pointer (some ⟨S.p i, 0, none⟩)] .normal) (l ++ τ.f :: τ.fs))
theorem StopT.mono {L : La} {g : OG} {S : Stile} {i : Nat} {C C' : Tst L → List Frame → L.Gh → Value → (Nat → Prop) → World → Prop} {τ : Tn L} {g' : Goroutine} {w' : World} (h : StopT L g S i C τ g' w') (hC : ∀ t l y hd M w, C t l y hd M w → C' t l y hd M w) : StopT L g S i C' τ g' w' := by
  obtain ⟨y', h0, h1, h2, h3, hp, hd, h4, h5, h7⟩ := h
  refine ⟨y', h0, h1, h2, h3, hp, hd, h4, h5, ?_⟩
  rcases h7 with h | ⟨l, a1, a2, a3, a4, a5⟩
  · exact .inl h
  · exact .inr ⟨l, a1, a2, a3, hC _ _ _ _ _ _ a4, a5⟩
structure Rely (L : La) (g : OG) (i : Nat) (V : Nat → Option Wait) (y : L.Gh) (w : World) (hd : Value) (M : Nat → Prop) : Prop where
  size : g.w0.heap.size ≤ w.heap.size
  old : ∀ b, b < g.w0.heap.size → ¬ g.sh b → b ≠ g.A → w.heap[b]? = g.w0.heap[b]?
  an : ∃ arr : Array Value, w.heap[g.A]? = some (.cells arr 35) ∧ arr[i]? = some hd
  lo : ∀ b, M b → g.w0.heap.size ≤ b ∧ b < w.heap.size ∧ ¬ L.sh y b
  apart : ∀ b, (b < g.w0.heap.size ∨ M b ∨ w.heap.size ≤ b ∨ L.sh y b) → Apart V b
  shlo : ∀ b, L.sh y b → b ≠ g.A ∧ b < w.heap.size ∧ (b < g.w0.heap.size → g.sh b)
  alo : g.A < g.w0.heap.size
  hdo : ∀ b, hd.ownBlock = some b → M b
def Cont (L : La) (g : OG) (S : Stile) (i : Nat) : Nat → Tst L → List Frame → L.Gh → Value → (Nat → Prop) → World → Prop
  | 0 => fun _ _ _ _ _ _ => True
  | N + 1 => fun t cs y hd M w => ∀ (V : Nat → Option Wait) (f : Frame) (fs : List Frame) (y' : L.Gh) (w' : World) (s : L.Sg) (c : Frame) (l : List Frame) (d : L.D), L.le y y' → w.heap.size ≤ w'.heap.size → (∀ b, M b → w'.heap[b]? = w.heap[b]?) → Rely L g i V y' w' hd M → L.I y' s w' → t.d = some d → cs = c :: l →
    Walk Try.prog false (DR V) (StopT L g S i (Cont L g S i N) ⟨V, f, fs, w', y', M, landO L (i : Nat) (L.act s d) t.left t.ans⟩) (G (c.finish (.tuple #[])) (l ++ f :: fs)) w'
section
variable {L : La} {g : OG} {S : Stile} {i : Nat}
theorem Cont.keep {N : Nat} {t : Tst L} {cs : List Frame} {y y1 : L.Gh} {hd : Value} {M : Nat → Prop} {w w1 : World} (h : Cont L g S i N t cs y hd M w) (hy : L.le y y1) (hs : w.heap.size ≤ w1.heap.size) (hb : ∀ b, M b → w1.heap[b]? = w.heap[b]?) : Cont L g S i N t cs y1 hd M w1 := by
  cases N with
  | zero => trivial
  | succ N => exact fun V f fs y' w' s c l d h0 h1 h2 h3 h4 h5 h6 => h V f fs y' w' s c l d (L.trans hy h0) (Nat.le_trans hs h1) (fun b hM => (h2 b hM).trans (hb b hM)) h3 h4 h5 h6
theorem Cont.less : ∀ {N : Nat} {t : Tst L} {cs : List Frame} {y : L.Gh} {hd : Value} {M : Nat → Prop} {w : World}, Cont L g S i (N + 1) t cs y hd M w → Cont L g S i N t cs y hd M w
  | 0, _, _, _, _, _, _, _ => trivial
  | _ + 1, _, _, _, _, _, _, h => fun V f fs y' w' s c l d h0 h1 h2 h3 h4 h5 h6 => (h V f fs y' w' s c l d h0 h1 h2 h3 h4 h5 h6).mono fun _ _ hS => hS.mono fun _ _ _ _ _ _ => Cont.less
theorem Cont.le {N N' : Nat} (hN : N' ≤ N) {t : Tst L} {cs : List Frame} {y : L.Gh} {hd : Value} {M : Nat → Prop} {w : World} (h : Cont L g S i N t cs y hd M w) : Cont L g S i N' t cs y hd M w := by
  induction N with
  | zero => rwa [Nat.le_zero.1 hN]
  | succ N ih =>
    by_cases e : N' = N + 1
    · rw [e]; exact h
    · exact ih (by omega) h.less
end
end
section
structure Lb (L : La) where
  main : Bool
  E : Type
  V : E → Nat → Option Wait
  Stop : E → Goroutine → World → Prop
  bot : E → List Frame
  w : E → World
  s : E → L.Sg
  gh : E → L.Gh
  tgt : E → L.Sg × (Ans ⊕ L.D)
  fuel : E → Nat
  mine : E → Nat → Prop
def LW {L : La} (K : Lb L) (e : K.E) (g : Goroutine) : Prop := Walk Try.prog K.main (DR (K.V e)) (K.Stop e) g (K.w e)
structure Mg {L : La} (K : Lb L) (e e' : K.E) (y' : L.Gh) (s' : L.Sg) (w' : World) : Prop where
  V : K.V e' = K.V e
  Stop : K.Stop e' = K.Stop e
  bot : K.bot e' = K.bot e
  w : K.w e' = w'
  s : K.s e' = s'
  gh : K.gh e' = y'
  tgt : K.tgt e' = K.tgt e
  fuel : K.fuel e' = K.fuel e
  mine : ∀ b, K.mine e' b ↔ (K.mine e b ∨ ((K.w e).heap.size ≤ b ∧ b < w'.heap.size)) ∧ ¬ L.sh y' b
structure Mv {L : La} (K : Lb L) (e e' : K.E) (s' : L.Sg) (w' : World) : Prop where
  V : K.V e' = K.V e
  Stop : K.Stop e' = K.Stop e
  bot : K.bot e' = K.bot e
  w : K.w e' = w'
  s : K.s e' = s'
  gh : K.gh e' = K.gh e
  tgt : K.tgt e' = K.tgt e
  fuel : K.fuel e' = K.fuel e
  mine : ∀ b, K.mine e' b ↔ K.mine e b ∨ ((K.w e).heap.size ≤ b ∧ b < w'.heap.size)
structure Aft {L : La} (K : Lb L) (e : K.E) (d : L.D) (e' : K.E) : Prop where
  tgt : K.tgt e' = L.act (K.s e') d
  fuel : K.fuel e' < K.fuel e
  le : L.le (K.gh e) (K.gh e')
  size : (K.w e).heap.size ≤ (K.w e').heap.size
  mine : ∀ b, K.mine e b → K.mine e' b ∧ (K.w e').heap[b]? = (K.w e).heap[b]?
structure Lg (L : La) (sv : Value) extends Lb L where
  inv : ∀ e, L.I (gh e) (s e) (w e)
  shA : ∀ e b, L.sh (gh e) b → Apart (V e) b
  mineA : ∀ e b, mine e b → Apart (V e) b ∧ ¬ L.sh (gh e) b ∧ b < (w e).heap.size
  newA : ∀ e b, (w e).heap.size ≤ b → Apart (V e) b
  one : sv.cells = #[sv]
  mg : ∀ (e : E) (y' : L.Gh) (s' : L.Sg) (w' : World), L.le (gh e) y' → (w e).heap.size ≤ w'.heap.size → (∀ b, b < (w e).heap.size → ¬ mine e b → ¬ L.sh (gh e) b → w'.heap[b]? = (w e).heap[b]?) → L.I y' s' w' → (∀ b, L.sh y' b → L.sh (gh e) b ∨ mine e b ∨ (w e).heap.size ≤ b) → ∃ e', Mg toLb e e' y' s' w'
  step : ∀ (e : E) (d : L.D), tgt e = (s e, .inr d) → ∀ (fr : Frame) (l : List Frame), Plain fr → (∀ f ∈ l, Plain f) → (∀ e', Aft toLb e d e' → LW toLb e' (G (fr.finish (.tuple #[])) (l ++ bot e'))) →
    LW toLb e (G (Frame.enter Try.prog 32 #[sv] .normal) (fr :: (l ++ bot e)))
theorem Mg.mv {L : La} {sv : Value} {K : Lg L sv} {e e' : K.E} {s' : L.Sg} {w' : World} (m : Mg K.toLb e e' (K.gh e) s' w') : Mv K.toLb e e' s' w' :=
  ⟨m.V, m.Stop, m.bot, m.w, m.s, m.gh, m.tgt, m.fuel, fun b => (m.mine b).trans ⟨fun h => h.1, fun h => ⟨h, fun hs => by
    rcases h with h | h
    · exact (K.mineA e b h).2.1 hs
    · have := L.lt (K.inv e) hs; omega⟩⟩⟩
theorem Lg.mv {L : La} {sv : Value} (K : Lg L sv) (e : K.E) (s' : L.Sg) (w' : World) (h1 : (K.w e).heap.size ≤ w'.heap.size) (h2 : ∀ b, b < (K.w e).heap.size → ¬ K.mine e b → ¬ L.sh (K.gh e) b → w'.heap[b]? = (K.w e).heap[b]?) (h3 : L.I (K.gh e) s' w') : ∃ e', Mv K.toLb e e' s' w' := by
  obtain ⟨e', m⟩ := K.mg e (K.gh e) s' w' (L.refl _) h1 h2 h3 fun b h => .inl h
  exact ⟨e', m.mv⟩
def SCall {L : La} (K : Lb L) (f : FuncId) (args : Array Value) (e : K.E) (Q : Value → K.E → Prop) : Prop :=
  ∀ (fr : Frame) (l : List Frame), Plain fr → (∀ f ∈ l, Plain f) → (∀ v e', Q v e' → LW K e' (G (fr.finish v) (l ++ K.bot e'))) → LW K e (G (Frame.enter Try.prog f args .normal) (fr :: (l ++ K.bot e)))
section
variable {L : La} {K : Lb L} {e : K.E} {g : Goroutine}
theorem SCall.mono {f : FuncId} {args : Array Value} {Q Q' : Value → K.E → Prop} (h : SCall K f args e Q) (hQ : ∀ v e', Q v e' → Q' v e') : SCall K f args e Q' := fun fr l hp hl hk => h fr l hp hl fun v e' hq => hk v e' (hQ v e' hq)
theorem LW.mv {e' : K.E} {s' : L.Sg} {w' : World} (h : Mv K e e' s' w') (hw : LW K e' g) : Walk Try.prog K.main (DR (K.V e)) (K.Stop e) g w' := by
  unfold LW at hw
  rw [h.V, h.Stop, h.w] at hw
  exact hw
theorem LW.mg {e' : K.E} {y' : L.Gh} {s' : L.Sg} {w' : World} (h : Mg K e e' y' s' w') (hw : LW K e' g) : Walk Try.prog K.main (DR (K.V e)) (K.Stop e) g w' := by
  unfold LW at hw
  rw [h.V, h.Stop, h.w] at hw
  exact hw
theorem SCall.mv {e' : K.E} {s' : L.Sg} {w' : World} {f : FuncId} {args : Array Value} {Q : Value → K.E → Prop} (h : Mv K e e' s' w') (hc : SCall K f args e' Q) {fr : Frame} {l : List Frame} (hp : Plain fr) (hl : ∀ f ∈ l, Plain f) (hk : ∀ v e', Q v e' → LW K e' (G (fr.finish v) (l ++ K.bot e'))) :
    Walk Try.prog K.main (DR (K.V e)) (K.Stop e) (G (Frame.enter Try.prog f args .normal) (fr :: (l ++ K.bot e))) w' := by
  have := hc fr l hp hl hk
  rw [h.bot] at this
  exact LW.mv h this
theorem Mv.trans {e1 e2 : K.E} {s1 s2 : L.Sg} {w1 w2 : World} (h : Mv K e e1 s1 w1) (h' : Mv K e1 e2 s2 w2) (hs : (K.w e).heap.size ≤ w1.heap.size) (hs' : w1.heap.size ≤ w2.heap.size) : Mv K e e2 s2 w2 := by
  refine ⟨h'.V.trans h.V, h'.Stop.trans h.Stop, h'.bot.trans h.bot, h'.w, h'.s, h'.gh.trans h.gh, h'.tgt.trans h.tgt, h'.fuel.trans h.fuel, fun b => ?_⟩
  rw [h'.mine, h.mine, h.w]
  constructor
  · rintro ((h | h) | h)
    · exact .inl h
    · exact .inr ⟨h.1, by omega⟩
    · exact .inr ⟨by omega, h.2⟩
  · rintro (h | h)
    · exact .inl (.inl h)
    · by_cases hb : b < w1.heap.size
      · exact .inl (.inr ⟨h.1, hb⟩)
      · exact .inr ⟨by omega, h.2⟩
variable {b : Frame} {a : Act} {k : List Item} {cs l : List Frame} {ops : Array Oper} {i : Nat} {rest : List Nat} {o : Oper}
theorem LW.callS {f : FuncId} {fn : Func} {args : Array Operand} {ats : Array TypeId} {Q : Value → K.E → Prop} (hc : SCall K f (args.map a.eval) e Q) (ho : ops[i]? = some o) (hw : Region.wanted o (yielded ops a.tmps) = true) (hk : b.kind ≠ .early) (hop : o.op = .call { callee := .value (.func f), args, argTypes := ats })
    (hf : Try.prog.funcs[f]? = some fn) (hname : (fn.name == "runtime.NumGoroutine") = false) (hb : fn.body.isNone = false) (hp : Plain (b.at a (.inRegion ops (i :: rest) :: k))) (hl : ∀ f ∈ l, Plain f)
    (h : ∀ v e', Q v e' → LW K e' (G (b.at (a.put o.dst v) (.inRegion ops rest :: k)) (l ++ K.bot e'))) :
    LW K e (G (b.at a (.inRegion ops (i :: rest) :: k)) (l ++ K.bot e)) := by
  refine Walk.ctl (g' := G (Frame.enter Try.prog f (args.map a.eval) .normal) (b.at a (.inRegion ops (i :: rest) :: k) :: (l ++ K.bot e))) rfl (fun w => ?_) (hc _ l hp hl ?_)
  · rw [stepG_enter ho hw hk (run_call_body hop hf hname hb)]
    have : listed Try.prog b.fn a o w = #[] := by unfold listed; rw [events_call_body hop hf hname hb]; exact seen_none Try.prog _
    rw [this]
  · intro v e' hq
    rw [Frame.finish_at, ho]
    exact h v e' hq
end
section
variable {P : Program} {main : Bool} {V : Nat → Option Wait} {Stop : Goroutine → World → Prop} {b : Frame} {a : Act} {cs : List Frame} {w : World} {fn : Func} {todo : List Item} {c : Frame} {t s : Tmp}
theorem Walk.on1 (hn : b.kind = .normal) (hd : a.defers = []) (hf : P.funcs[b.fn]? = some fn) (hr : fn.results = #[.tmp t]) (h : Walk P main (DR V) Stop (G (c.finish (a.tmps.getD t undef)) cs) w) : Walk P main (DR V) Stop (G { b.at a todo with mode := .returning } (c :: cs)) w :=
  Walk.ctl rfl (fun w => stepG_leave hn hd hf (results_tmp hr _ P w) (events_results_tmp hr _ _)) h
theorem Walk.on0 (hn : b.kind = .normal) (hd : a.defers = []) (hf : P.funcs[b.fn]? = some fn) (hr : fn.results = #[]) (h : Walk P main (DR V) Stop (G (c.finish (.tuple #[])) cs) w) : Walk P main (DR V) Stop (G { b.at a todo with mode := .returning } (c :: cs)) w :=
  Walk.ctl rfl (fun w => stepG_leave hn hd hf (results_none hr _ P w) (events_results_none hr _ _)) h
theorem Walk.on2 (hn : b.kind = .normal) (hd : a.defers = []) (hf : P.funcs[b.fn]? = some fn) (hr : fn.results = #[.tmp t, .tmp s]) (h : Walk P main (DR V) Stop (G (c.finish (.tuple #[a.tmps.getD t undef, a.tmps.getD s undef])) cs) w) : Walk P main (DR V) Stop (G { b.at a todo with mode := .returning } (c :: cs)) w :=
  Walk.ctl rfl (fun w => stepG_leave (v := .tuple #[a.tmps.getD t undef, a.tmps.getD s undef]) hn hd hf (by simp [results, hr]) (by simp [results, hr])) h
end
end
section
structure OSt (L : La) (g : OG) (S : Stile) : Prop where
  n : S.n = g.n
  alo : g.A < g.w0.heap.size
  tbs : ¬ g.sh S.tb ∧ S.tb ≠ g.A
  tb : ∀ i, i < g.n → g.w0.cell? ⟨S.tb, i, none⟩ = some (S.F i)
  sch : ∀ (j : Nat) (z : Int), S.sl[j]? = some z → ∃ s so, S.sa = some ⟨s, so, none⟩ ∧ g.w0.cell? ⟨s, so + j, none⟩ = some (.int .i64 z) ∧ ¬ g.sh s ∧ s ≠ g.A
def t0 (L : La) : Tst L := ⟨[], none, []⟩
structure OInv (L : La) (g : OG) (S : Stile) (k : Nat) (o : Nat → Option Role) (x : OX L) (cs : Nat → List Frame) (w : World) (pr : Nat → Option Nat) (hd : Nat → Value) (y : L.Gh) : Prop where
  st : OSt L g S
  kn : k ≤ g.n
  size : g.w0.heap.size ≤ w.heap.size
  base : ∀ b, b < g.w0.heap.size → o b = none
  old : ∀ b, b < g.w0.heap.size → ¬ g.sh b → b ≠ g.A → w.heap[b]? = g.w0.heap[b]?
  prl : ∀ b i, pr b = some i → g.w0.heap.size ≤ b ∧ b < w.heap.size ∧ o b = none ∧ ¬ L.sh y b
  shl : ∀ b, L.sh y b → o b = none ∧ b ≠ g.A ∧ b < w.heap.size ∧ (b < g.w0.heap.size → g.sh b)
  I : L.I y x.s w
  an : ∃ arr : Array Value, w.heap[g.A]? = some (.cells arr 35) ∧ arr.size = g.n ∧ ∀ i, i < g.n → arr[i]? = some (hd i)
  row : ∀ i, i < g.n → RowA g.w0.heap.size (fun b => pr b = some i) (hd i) (x.th i).ans w
  cont : ∀ i, i < k → i < g.n → x.out i = none → (x.th i).d.isSome = true ∧ cs i ≠ [] ∧ (∀ f ∈ cs i, Plain f) ∧ Cont L g S i (1048577 - x.cnt) (x.th i) (cs i) y (hd i) (fun b => pr b = some i) w
  fresh : ∀ i, k ≤ i → i < g.n → x.th i = t0 L
def invO (L : La) (g : OG) (S : Stile) (yb : L.Gh) (k : Nat) (o : Nat → Option Role) (x : OX L) (cs : Nat → List Frame) (w : World) : Prop := ∃ pr hd y, L.le yb y ∧ OInv L g S k o x cs w pr hd y
theorem cell_lt' {w : World} {b i : Nat} {v : Value} (h : w.cell? ⟨b, i, none⟩ = some v) : b < w.heap.size := by
  unfold World.cell? at h
  split at h
  · rename_i h'; exact (Array.getElem?_eq_some_iff.1 h').1
  · cases h
section
variable {L : La} {g : OG} {S : Stile} {k : Nat} {o o' : Nat → Option Role} {x : OX L} {cs : Nat → List Frame} {w w' : World} {pr : Nat → Option Nat} {hd : Nat → Value} {y yb : L.Gh}
theorem OInv.cell (P : OInv L g S k o x cs w pr hd y) {b i : Nat} {v : Value} (h : g.w0.cell? ⟨b, i, none⟩ = some v) (hs : ¬ g.sh b) (hA : b ≠ g.A) : w.cell? ⟨b, i, none⟩ = some v :=
  (World.cell?_of_block (a := ⟨b, i, none⟩) (P.old b (cell_lt' h) hs hA)).trans h
theorem invO_keep (h : invO L g S yb k o x cs w) (K : Keeps o o' w w') : invO L g S yb k o' x cs w' := by
  obtain ⟨pr, hd, y, hy, P⟩ := h
  have hb : ∀ b, b < g.w0.heap.size → o' b = none ∧ w'.heap[b]? = w.heap[b]? := fun b h => K.same b (Nat.lt_of_lt_of_le h P.size) (P.base b h)
  have hp : ∀ b i, pr b = some i → o' b = none ∧ w'.heap[b]? = w.heap[b]? := fun b i h => K.same b (P.prl b i h).2.1 (P.prl b i h).2.2.1
  have hsh : ∀ b, L.sh y b → o' b = none ∧ w'.heap[b]? = w.heap[b]? := fun b h => K.same b (P.shl b h).2.2.1 (P.shl b h).1
  refine ⟨pr, hd, y, hy, ⟨P.st, P.kn, Nat.le_trans P.size K.size, fun b h => (hb b h).1, fun b h h1 h2 => (hb b h).2.trans (P.old b h h1 h2), fun b i h => ⟨(P.prl b i h).1, Nat.lt_of_lt_of_le (P.prl b i h).2.1 K.size, (hp b i h).1, (P.prl b i h).2.2.2⟩, fun b h => ⟨(hsh b h).1, (P.shl b h).2.1, Nat.lt_of_lt_of_le (P.shl b h).2.2.1 K.size, (P.shl b h).2.2.2⟩, L.stable P.I fun b h => (hsh b h).2, ?_, fun i hi => (P.row i hi).same fun b e => (hp b i e).2, fun i hi hin ho => ?_, P.fresh⟩⟩
  · obtain ⟨arr, ha, hz, hr⟩ := P.an
    exact ⟨arr, (hb _ P.st.alo).2.trans ha, hz, hr⟩
  · obtain ⟨h1, h2, h3, h4⟩ := P.cont i hi hin ho
    exact ⟨h1, h2, h3, h4.keep (L.refl _) K.size fun b e => (hp b i e).2⟩
theorem OInv.rely (P : OInv L g S k o x cs w pr hd y) {V : Nat → Option Wait} {i : Nat} (hi : i < g.n) (hA : ∀ b, o b = none → Apart V b) (hlt : ∀ b r, o b = some r → b < w.heap.size) : Rely L g i V y w (hd i) (fun b => pr b = some i) := by
  refine ⟨P.size, P.old, ?_, fun b e => ⟨(P.prl b i e).1, (P.prl b i e).2.1, (P.prl b i e).2.2.2⟩, fun b e => hA b ?_, fun b h => (P.shl b h).2, P.st.alo, (P.row i hi).hdo⟩
  · obtain ⟨arr, ha, hz, hr⟩ := P.an
    exact ⟨arr, ha, hr i hi⟩
  · rcases e with e | e | e | e
    · exact P.base b e
    · exact (P.prl b i e).2.2.1
    · cases ho : o b with
      | none => rfl
      | some r => have := hlt b r ho; omega
    · exact (P.shl b e).1
theorem fin_of_stop {V : Nat → Option Wait} {f : Frame} {fs : List Frame} {i k' cnt' : Nat} {r : L.Sg × Tst L} {g' : Goroutine} (hy : L.le yb y) (P : OInv L g S k o x cs w pr hd y) (hi : i < g.n) (hik : i < k') (hkk : ∀ j, j < k' → j ≠ i → j < k) (hkf : k ≤ k') (hkn : k' ≤ g.n) (hc : x.cnt ≤ cnt')
    (hlt : ∀ b r, o b = some r → b < w.heap.size) (hS : StopT L g S i (Cont L g S i (1048577 - cnt')) ⟨V, f, fs, w, y, fun b => pr b = some i, r⟩ g' w') : Fin (invO L g S yb) OX.out S k' o (putO x i r cnt') cs i f fs w g' w' := by
  obtain ⟨y', hyy, hsz, hfr, hI, hpub, hd', ⟨arr, arr', ha, ha', hasz, hai, haj⟩, hrow, hend⟩ := hS
  dsimp only at hyy hsz hfr hI hpub hrow hend ha ha' hasz hai haj
  let new : Nat → Option Nat := fun b => if w.heap.size ≤ b ∧ b < w'.heap.size then some i else pr b
  obtain ⟨pr', hpr1, hpr2⟩ : ∃ pr' : Nat → Option Nat, (∀ b, L.sh y' b → pr' b = none) ∧ ∀ b, ¬ L.sh y' b → pr' b = new b := ⟨fun b => @ite _ (L.sh y' b) (Classical.propDecidable _) none (new b), fun b h => if_pos h, fun b h => if_neg h⟩
  have hMi : (fun b => pr' b = some i) = ownT (⟨V, f, fs, w, y, fun b => pr b = some i, r⟩ : Tn L) y' w' := by
    funext b
    refine propext ⟨fun h => ?_, fun h => ?_⟩
    · have hs : ¬ L.sh y' b := fun hs => by
        have h : pr' b = some i := h
        rw [hpr1 b hs] at h; cases h
      refine ⟨?_, hs⟩
      have h : pr' b = some i := h
      rw [hpr2 b hs] at h
      by_cases e : w.heap.size ≤ b ∧ b < w'.heap.size
      · exact .inr e
      · have h : (if w.heap.size ≤ b ∧ b < w'.heap.size then some i else pr b) = some i := h
        rw [if_neg e] at h
        exact .inl h
    · show pr' b = some i
      rw [hpr2 b h.2]
      show (if w.heap.size ≤ b ∧ b < w'.heap.size then some i else pr b) = some i
      rcases h.1 with h | h
      · split
        · rfl
        · exact h
      · rw [if_pos h]
  have hMj : ∀ j, j ≠ i → ∀ b, pr' b = some j ↔ pr b = some j := fun j hj b => by
    by_cases hs : L.sh y' b
    · rw [hpr1 b hs]
      refine ⟨fun h => (by cases h), fun h => ?_⟩
      have h1 := P.prl b j h
      rcases hpub b hs with h2 | h2 | h2
      · exact absurd h2 h1.2.2.2
      · rw [h] at h2; exact absurd (Option.some.inj h2) hj
      · omega
    · rw [hpr2 b hs]
      show (if w.heap.size ≤ b ∧ b < w'.heap.size then some i else pr b) = some j ↔ pr b = some j
      by_cases e : w.heap.size ≤ b ∧ b < w'.heap.size
      · rw [if_pos e]
        refine ⟨fun h => absurd (Option.some.inj h).symm hj, fun h => ?_⟩
        have := (P.prl b j h).2.1
        omega
      · rw [if_neg e]
  have hother : ∀ j b, j ≠ i → pr b = some j → w'.heap[b]? = w.heap[b]? := fun j b hj h => by
    have h1 := P.prl b j h
    refine hfr b h1.2.1 (fun e => hj ?_) h1.2.2.2 (fun e => ?_)
    · rw [h] at e; exact Option.some.inj e
    · have := P.st.alo; omega
  have hown : ∀ b, (pr b = some i ∨ (w.heap.size ≤ b ∧ b < w'.heap.size)) → g.w0.heap.size ≤ b ∧ b < w'.heap.size ∧ o b = none := fun b h => by
    rcases h with h | h
    · have := P.prl b i h
      exact ⟨this.1, by omega, this.2.2.1⟩
    · refine ⟨Nat.le_trans P.size h.1, h.2, ?_⟩
      cases ho : o b with
      | none => rfl
      | some z => have := hlt b z ho; have h1 : w.heap.size ≤ b := h.1; omega
  have harr : arr.size = arr'.size := hasz.symm
  obtain ⟨arr0, ha0, hz0, hr0⟩ := P.an
  rw [ha] at ha0
  have harr0 : arr0 = arr := by cases ha0; rfl
  subst harr0
  have hth : ∀ j, j ≠ i → (putO x i r cnt').th j = x.th j := fun j hj => upd_ne _ _ hj
  have hthi : (putO x i r cnt').th i = r.2 := upd_same _ _ _
  have hinv : ∀ l, (r.2.d.isSome = true → l ≠ [] ∧ (∀ f ∈ l, Plain f) ∧ Cont L g S i (1048577 - cnt') r.2 l y' hd' (fun b => pr' b = some i) w') → invO L g S yb k' o (putO x i r cnt') (upd cs i l) w' := fun l hl => by
    refine ⟨pr', upd hd i hd', y', L.trans hy hyy, ⟨P.st, hkn, Nat.le_trans P.size hsz, P.base, fun b hb h1 h2 => (hfr b (Nat.lt_of_lt_of_le hb P.size) (fun e => by have := (P.prl b i e).1; omega) (fun e => h1 ((P.shl b e).2.2.2 hb)) h2).trans (P.old b hb h1 h2), fun b j h => ?_, fun b h => ?_, hI, ⟨arr', ha', by rw [hasz]; exact hz0, fun j hj => ?_⟩, fun j hj => ?_, fun j hj hjn ho => ?_, fun j hj hjn => ?_⟩⟩
    · have hs : ¬ L.sh y' b := fun hs => by rw [hpr1 b hs] at h; cases h
      by_cases e : j = i
      · subst e
        have h0 : ownT (⟨V, f, fs, w, y, fun b => pr b = some j, r⟩ : Tn L) y' w' b := by rw [← hMi]; exact h
        have h1 := hown b h0.1
        exact ⟨h1.1, h1.2.1, h1.2.2, hs⟩
      · have := P.prl b j ((hMj j e b).1 h)
        exact ⟨this.1, by omega, this.2.2.1, hs⟩
    · have hl' := L.lt hI h
      rcases hpub b h with h1 | h1 | h1
      · have := P.shl b h1
        exact ⟨this.1, this.2.1, hl', this.2.2.2⟩
      · have h2 := hown b (.inl h1)
        exact ⟨h2.2.2, fun e => (by have := P.st.alo; omega), hl', fun e => (by omega)⟩
      · have h2 := hown b (.inr ⟨h1, hl'⟩)
        exact ⟨h2.2.2, fun e => (by have := P.st.alo; omega), hl', fun e => (by omega)⟩
    · by_cases e : j = i
      · subst e; rw [upd_same]; exact hai
      · rw [upd_ne _ _ e, haj j e]; exact hr0 j hj
    · by_cases e : j = i
      · subst e; rw [upd_same, hthi, hMi]; exact hrow
      · rw [upd_ne _ _ e, hth j e]
        have hM : (fun b => pr' b = some j) = (fun b => pr b = some j) := funext fun b => propext (hMj j e b)
        rw [hM]
        exact (P.row j hj).same fun b hb => hother j b e hb
    · by_cases e : j = i
      · subst e
        rw [hthi, upd_same, upd_same]
        have ho : upd x.out j (match r.2.d with | none => some false | some _ => none) j = none := ho
        rw [upd_same] at ho
        have hs : r.2.d.isSome = true := by
          cases hd : r.2.d with
          | none => rw [hd] at ho; cases ho
          | some d => rfl
        exact ⟨hs, hl hs⟩
      · have ho : upd x.out i (match r.2.d with | none => some false | some _ => none) j = none := ho
        rw [upd_ne _ _ e] at ho
        rw [hth j e, upd_ne _ _ e, upd_ne _ _ e]
        obtain ⟨h1, h2, h3, h4⟩ := P.cont j (hkk j hj e) hjn ho
        refine ⟨h1, h2, h3, ?_⟩
        have hM : (fun b => pr' b = some j) = (fun b => pr b = some j) := funext fun b => propext (hMj j e b)
        rw [hM]
        refine (h4.le (Nat.sub_le_sub_left hc _)).keep hyy hsz fun b hb => hother j b e hb
    · have e : j ≠ i := by omega
      rw [hth j e]
      exact P.fresh j (by omega) hjn
  refine ⟨hsz, fun b z hb => hfr b (hlt b z hb) (fun e => by rw [(P.prl b i e).2.2.1] at hb; cases hb) (fun e => by rw [(P.shl b e).1] at hb; cases hb) (fun e => by rw [P.base b (e ▸ P.st.alo)] at hb; cases hb), ?_⟩
  have hout : (putO x i r cnt').out i = match r.2.d with | none => some false | some _ => none := upd_same _ _ _
  rcases hend with ⟨h1, rfl⟩ | ⟨l, h1, h2, h3, h4, rfl⟩
  · refine ⟨[], hinv [] (fun h => by rw [h1] at h; cases h), .inr (.inl ⟨?_, rfl⟩)⟩
    show (putO x i r cnt').out i = some false
    rw [hout, h1]
  · refine ⟨l, hinv l (fun _ => ⟨h2, h3, by rw [hMi]; exact h4⟩), .inl ⟨?_, rfl⟩⟩
    show (putO x i r cnt').out i = none
    rw [hout]
    cases hd : r.2.d with
    | none => rw [hd] at h1; cases h1
    | some d => rfl
theorem goO {V : Nat → Option Wait} {i : Nat} {c : Frame} {l : List Frame} (f : Frame) (fs : List Frame) (h : invO L g S yb k o x cs w) (hik : i < k) (hout : x.out i = none) (hcs : cs i = c :: l) (hc : x.cnt < 1048576) (hA : ∀ b, o b = none → Apart V b) (hlt : ∀ b r, o b = some r → b < w.heap.size) :
    Walk Try.prog false (DR V) (Fin (invO L g S yb) OX.out S k o (nextO x i) cs i f fs w) (G (c.finish (.tuple #[])) (l ++ f :: fs)) w := by
  obtain ⟨pr, hd, y, hy, P⟩ := h
  have hi : i < g.n := Nat.lt_of_lt_of_le hik P.kn
  obtain ⟨h1, h2, h3, h4⟩ := P.cont i hik hi hout
  obtain ⟨d, hdd⟩ := Option.isSome_iff_exists.1 h1
  rw [show 1048577 - x.cnt = (1048577 - (x.cnt + 1)) + 1 from by omega] at h4
  have hn : nextO x i = putO x i (landO L (i : Nat) (L.act x.s d) (x.th i).left (x.th i).ans) (x.cnt + 1) := by
    unfold nextO; rw [hdd]
  rw [hn]
  exact (h4 V f fs y w x.s c l d (L.refl _) (Nat.le_refl _) (fun _ _ => rfl) (P.rely hi hA hlt) P.I hdd hcs).mono fun g' w' hS => fin_of_stop hy P hi hik (fun j hj _ => hj) (Nat.le_refl _) P.kn (Nat.le_succ _) hlt hS
theorem invO_shape {i : Nat} (h : invO L g S yb k o x cs w) (hik : i < k) (hout : x.out i = none) : (∃ c l, cs i = c :: l) ∧ ∀ f ∈ cs i, Plain f := by
  obtain ⟨pr, hd, y, hy, P⟩ := h
  obtain ⟨h1, h2, h3, h4⟩ := P.cont i hik (Nat.lt_of_lt_of_le hik P.kn) hout
  refine ⟨?_, h3⟩
  cases hc : cs i with
  | nil => exact absurd hc h2
  | cons c l => exact ⟨c, l, rfl⟩
theorem invO_thr {i : Nat} (h : invO L g S yb k o x cs w) (hi : i < S.n) : w.cell? ⟨S.tb, i, none⟩ = some (S.F i) := by
  obtain ⟨pr, hd, y, hy, P⟩ := h
  exact P.cell (P.st.tb i (P.st.n ▸ hi)) P.st.tbs.1 P.st.tbs.2
theorem invO_sch {j : Nat} {z : Int} (h : invO L g S yb k o x cs w) (hz : S.sl[j]? = some z) : ∃ s so, S.sa = some ⟨s, so, none⟩ ∧ w.cell? ⟨s, so + j, none⟩ = some (.int .i64 z) := by
  obtain ⟨pr, hd, y, hy, P⟩ := h
  obtain ⟨s, so, e, hc, h1, h2⟩ := P.st.sch j z hz
  exact ⟨s, so, e, P.cell hc h1 h2⟩
end
end
section
noncomputable def reg32_0 := rg Try.f32.body [0]
noncomputable def reg32_1 := rg Try.f32.body [1, 0]
theorem z32 : List.range reg32_0.size = [0, 1] ∧ List.range reg32_1.size = [0, 1] := by refine ⟨?_, ?_⟩ <;> kernel_rfl
theorem code32_is : Try.f32.body = some (.seq (.region 0 reg32_0 false) (.cond (.tmp 3 ) (.region 1 reg32_1 false) (.skip))) := by kernel_rfl
theorem undStepper : ∃ ms, Try.prog.underlying 63 = some (.interface ms) := by
  have h : (match Try.prog.underlying 63 with | some (.interface _) => true | _ => false) = true := by kernel_rfl
  revert h
  cases Try.prog.underlying 63 with
  | none => simp
  | some d =>
    cases d with
    | interface fs => exact fun _ => ⟨fs, rfl⟩
    | _ => simp
structure EC (L : La) (g : OG) (S : Stile) (i : Nat) where
  τ : Tn L
  N : Nat
  w : World
  y : L.Gh
  s : L.Sg
  ans : List Ans
  hd : Value
  le : L.le τ.y y
  size : τ.w.heap.size ≤ w.heap.size
  frame : ∀ b, b < τ.w.heap.size → ¬ τ.M b → ¬ L.sh τ.y b → b ≠ g.A → w.heap[b]? = τ.w.heap[b]?
  pub : ∀ b, L.sh y b → L.sh τ.y b ∨ τ.M b ∨ τ.w.heap.size ≤ b
  rely : ∃ hd0, Rely L g i τ.V τ.y τ.w hd0 τ.M
  an : AnT g i τ.w w hd
  row : RowA g.w0.heap.size (ownT τ y w) hd ans w
  inv : L.I y s w
structure OC where
  left : List OpV
  ans : List Ans
  hd : Value
  K : Nat → Prop
  wK : World
structure EO (L : La) (g : OG) (S : Stile) (i : Nat) (c : OC) extends EC L g S i where
  tgt : L.Sg × (Ans ⊕ L.D)
  eqA : ans = c.ans
  eqH : hd = c.hd
  goal : τ.goal = landO L (i : Nat) tgt c.left ans
  Kown : ∀ b, c.K b → ownT τ y w b
  kept : ∀ b, c.K b → w.heap[b]? = c.wK.heap[b]?
  rowK : RowA g.w0.heap.size c.K hd ans w
section
variable {L : La} {g : OG} {S : Stile} {i : Nat} {c : OC}
theorem EC.lo (e : EC L g S i) {b : Nat} (h : ownT e.τ e.y e.w b) : g.w0.heap.size ≤ b ∧ b < e.w.heap.size := by
  obtain ⟨hd0, r⟩ := e.rely
  have := e.size
  rcases h.1 with h | h
  · have := r.lo b h; omega
  · have := r.size; omega
theorem EC.noA (e : EC L g S i) {b : Nat} (h : ownT e.τ e.y e.w b) : ¬ L.sh e.y b ∧ b ≠ g.A := by
  obtain ⟨hd0, r⟩ := e.rely
  have h1 := e.lo h
  exact ⟨h.2, fun h => by have := r.alo; omega⟩
theorem EC.shb (e : EC L g S i) {b : Nat} (h : L.sh e.y b) : b ≠ g.A ∧ (b < g.w0.heap.size → g.sh b) := by
  obtain ⟨hd0, r⟩ := e.rely
  rcases e.pub b h with h | h | h
  · exact ⟨(r.shlo b h).1, (r.shlo b h).2.2⟩
  · have := r.lo b h; have := r.alo; exact ⟨by omega, fun _ => by omega⟩
  · have := r.alo; have := r.size; exact ⟨by omega, fun _ => by omega⟩
theorem EC.apart (e : EC L g S i) {b : Nat} (h : b < g.w0.heap.size ∨ ownT e.τ e.y e.w b ∨ e.w.heap.size ≤ b ∨ L.sh e.y b) : Apart e.τ.V b := by
  obtain ⟨hd0, r⟩ := e.rely
  have := e.size
  refine r.apart b ?_
  rcases h with h | h | h | h
  · exact .inl h
  · rcases h.1 with h | h
    · exact .inr (.inl h)
    · exact .inr (.inr (.inl h.1))
  · exact .inr (.inr (.inl (by omega)))
  · rcases e.pub b h with h | h | h
    · exact .inr (.inr (.inr h))
    · exact .inr (.inl h)
    · exact .inr (.inr (.inl h))
theorem EC.hdo (e : EC L g S i) : ∀ b, e.hd.ownBlock = some b → ownT e.τ e.y e.w b := e.row.hdo
def crewB (L : La) (g : OG) (S : Stile) (i : Nat) (c : OC) : Lb L where
  main := false
  E := EO L g S i c
  V := fun e => e.τ.V
  Stop := fun e => StopT L g S i (Cont L g S i e.N) e.τ
  bot := fun e => e.τ.f :: e.τ.fs
  w := fun e => e.w
  s := fun e => e.s
  gh := fun e => e.y
  tgt := fun e => e.tgt
  fuel := fun e => e.N
  mine := fun e b => ownT e.τ e.y e.w b ∧ ¬ c.K b
theorem EO.mg (e : EO L g S i c) (y' : L.Gh) (s' : L.Sg) (w' : World) (hle : L.le e.y y') (hs : e.w.heap.size ≤ w'.heap.size) (hsame : ∀ b, b < e.w.heap.size → ¬ (ownT e.τ e.y e.w b ∧ ¬ c.K b) → ¬ L.sh e.y b → w'.heap[b]? = e.w.heap[b]?) (hI : L.I y' s' w')
    (hpub : ∀ b, L.sh y' b → L.sh e.y b ∨ (ownT e.τ e.y e.w b ∧ ¬ c.K b) ∨ e.w.heap.size ≤ b) : ∃ e' : EO L g S i c, Mg (crewB L g S i c) e e' y' s' w' := by
  obtain ⟨hd0, r⟩ := e.rely
  have hK : ∀ b, c.K b → w'.heap[b]? = e.w.heap[b]? := fun b h => hsame b (e.lo (e.Kown b h)).2 (fun x => x.2 h) (e.noA (e.Kown b h)).1
  have hA : w'.heap[g.A]? = e.w.heap[g.A]? := hsame _ (by have := r.alo; have := r.size; have := e.size; omega) (fun x => by have := (e.lo x.1).1; have := r.alo; omega) (fun h => (e.shb h).1 rfl)
  have hKn : ∀ b, c.K b → ¬ L.sh y' b := fun b h hs => by
    rcases hpub b hs with h1 | h1 | h1
    · exact (e.noA (e.Kown b h)).1 h1
    · exact h1.2 h
    · have := (e.lo (e.Kown b h)).2; omega
  have hown : ∀ b, ownT e.τ e.y e.w b → ¬ L.sh y' b → ownT e.τ y' w' b := fun b h hn => ⟨h.1.imp id fun h => ⟨h.1, by omega⟩, hn⟩
  have hKo : ∀ b, c.K b → ownT e.τ y' w' b := fun b h => hown b (e.Kown b h) (hKn b h)
  refine ⟨{ τ := e.τ, N := e.N, w := w', y := y', s := s', ans := e.ans, hd := e.hd, le := L.trans e.le hle, size := Nat.le_trans e.size hs, frame := fun b h1 h2 h3 h4 => ?_, pub := fun b h => ?_, rely := e.rely, an := ?_, row := (e.rowK.same hK).imp hKo, inv := hI, tgt := e.tgt, eqA := e.eqA, eqH := e.eqH, goal := e.goal, Kown := hKo, kept := fun b h => (hK b h).trans (e.kept b h), rowK := e.rowK.same hK }, ⟨rfl, rfl, rfl, rfl, rfl, rfl, rfl, rfl, fun b => ?_⟩⟩
  · refine (hsame b (Nat.lt_of_lt_of_le h1 e.size) (fun x => ?_) (fun x => ?_)).trans (e.frame b h1 h2 h3 h4)
    · rcases x.1.1 with h | h
      · exact h2 h
      · have := h.1; omega
    · rcases e.pub b x with h | h | h
      · exact h3 h
      · exact h2 h
      · omega
  · rcases hpub b h with h | h | h
    · exact e.pub b h
    · rcases h.1.1 with h | h
      · exact .inr (.inl h)
      · exact .inr (.inr h.1)
    · exact .inr (.inr (Nat.le_trans e.size h))
  · obtain ⟨arr, arr', h1, h2, h3⟩ := e.an
    exact ⟨arr, arr', h1, hA.trans h2, h3⟩
  · show (ownT e.τ y' w' b ∧ ¬ c.K b) ↔ ((ownT e.τ e.y e.w b ∧ ¬ c.K b) ∨ (e.w.heap.size ≤ b ∧ b < w'.heap.size)) ∧ ¬ L.sh y' b
    constructor
    · rintro ⟨⟨h | h, hn⟩, hk⟩
      · exact ⟨.inl ⟨⟨.inl h, fun hs => hn (L.mono hle hs)⟩, hk⟩, hn⟩
      · refine ⟨?_, hn⟩
        by_cases hb : b < e.w.heap.size
        · exact .inl ⟨⟨.inr ⟨h.1, hb⟩, fun hs => hn (L.mono hle hs)⟩, hk⟩
        · exact .inr ⟨by omega, h.2⟩
    · rintro ⟨⟨h, hk⟩ | h, hn⟩
      · exact ⟨hown b h hn, hk⟩
      · exact ⟨⟨.inr ⟨Nat.le_trans e.size h.1, h.2⟩, hn⟩, fun hk => by have := (e.lo (e.Kown b hk)).2; omega⟩
theorem EO.step (e : EO L g S i c) (d : L.D) (ht : e.tgt = (e.s, .inr d)) (fr : Frame) (l : List Frame) (hp : Plain fr) (hl : ∀ f ∈ l, Plain f) (hk : ∀ e' : EO L g S i c, Aft (crewB L g S i c) e d e' → LW (crewB L g S i c) e' (G (fr.finish (.tuple #[])) (l ++ e'.τ.f :: e'.τ.fs))) :
    LW (crewB L g S i c) e (G (Frame.enter Try.prog 32 #[.iface 99 (.pointer (some ⟨S.p i, 0, none⟩))] .normal) (fr :: (l ++ e.τ.f :: e.τ.fs))) := by
  obtain ⟨ms, hu⟩ := undStepper
  have hn1 := fun w => run_neq_iface (P := Try.prog) (w := w) 63 99 (.pointer (some ⟨S.p i, 0, none⟩)) hu
  have hn2 := fun w es => ev_neq_iface (P := Try.prog) (w := w) 63 99 (.pointer (some ⟨S.p i, 0, none⟩)) es hu
  unfold LW
  show Walk Try.prog false (DR e.τ.V) (StopT L g S i (Cont L g S i e.N) e.τ) _ e.w
  rw [enter_at _ Try.func32 code32_is]
  simp only [Try.ntmps32, ez, Nat.reduceAdd, Nat.reduceSub]
  repeat (first | refine Walk.cx ?_ | (refine Walk.cReg ?_; simp only [z32]) | (refine Walk.oq ?_; try walk_nrm) | (refine Walk.un ?_; walk_nrm))
  refine Walk.invokeStep (S.p i) (ho_of (by conv => lhs; whnf) (by kernel_rfl)) (by rfl) (by decide) rfl rfl ?_
  generalize hX : Frame.at _ _ _ = X
  have hgoal : e.τ.goal = (e.s, ⟨c.left, some d, e.ans⟩) := by rw [e.goal, ht]; rfl
  refine .stop fun dr => ⟨e.y, e.le, e.size, e.frame, ?_, e.pub, e.hd, e.an, ?_, .inr ⟨X :: fr :: l, ?_, by simp, ?_, ?_, rfl⟩⟩
  · rw [hgoal]; exact L.stable e.inv fun _ _ => rfl
  · rw [hgoal]; exact e.row.same fun _ _ => rfl
  · rw [hgoal]; rfl
  · intro x hx
    rcases List.mem_cons.1 hx with rfl | hx
    · subst hX; exact ⟨rfl, rfl, _, Try.func32⟩
    · rcases List.mem_cons.1 hx with rfl | hx
      · exact hp
      · exact hl x hx
  · rw [hgoal]
    have hN : ∀ N', e.N = N' → Cont L g S i N' ⟨c.left, some d, e.ans⟩ (X :: fr :: l) e.y e.hd (ownT e.τ e.y (e.w.at dr)) (e.w.at dr) := fun N' hN' => by
      cases N' with
      | zero => trivial
      | succ n =>
        intro V f fs y' w' s' c1 l' d' h0 h1 h2 h3 h4 h5 h6
        obtain rfl : d = d' := Option.some.inj h5
        obtain ⟨rfl, rfl⟩ := List.cons.inj h6
        rw [← hX, Frame.finish_at]
        repeat (first | (refine Walk.oq ?_; try walk_nrm) | (refine Walk.un ?_; walk_nrm))
        repeat (first | refine Walk.cx ?_ | (refine Walk.cReg ?_; simp only [z32]) | (refine Walk.oq ?_; try walk_nrm) | (refine Walk.un ?_; walk_nrm))
        refine Walk.on0 rfl rfl Try.func32 rfl ?_
        have hKo : ∀ b, c.K b → ownT (⟨V, f, fs, w', y', ownT e.τ e.y e.w, landO L (i : Nat) (L.act s' d) c.left e.ans⟩ : Tn L) y' w' b := fun b h => ⟨.inl (e.Kown b h), (h3.lo b (e.Kown b h)).2.2⟩
        have hKs : ∀ b, c.K b → w'.heap[b]? = e.w.heap[b]? := fun b h => h2 b (e.Kown b h)
        refine hk { τ := ⟨V, f, fs, w', y', ownT e.τ e.y e.w, landO L (i : Nat) (L.act s' d) c.left e.ans⟩, N := n, w := w', y := y', s := s', ans := e.ans, hd := e.hd, le := L.refl _, size := Nat.le_refl _, frame := fun _ _ _ _ _ => rfl, pub := fun b h => .inl h, rely := ⟨e.hd, h3⟩, an := ?_, row := (e.rowK.same hKs).imp hKo, inv := h4, tgt := L.act s' d, eqA := e.eqA, eqH := e.eqH, goal := rfl, Kown := hKo, kept := fun b h => (hKs b h).trans (e.kept b h), rowK := e.rowK.same hKs } ⟨rfl, ?_, h0, h1, fun b hb => ⟨⟨⟨.inl hb.1, (h3.lo b hb.1).2.2⟩, hb.2⟩, h2 b hb.1⟩⟩
        · obtain ⟨arr, ha, hb⟩ := h3.an
          exact ⟨arr, arr, ha, ha, rfl, hb, fun _ _ => rfl⟩
        · show n < e.N
          omega
    exact hN e.N rfl
def crewL (L : La) (g : OG) (S : Stile) (i : Nat) (c : OC) : Lg L (.iface 99 (.pointer (some ⟨S.p i, 0, none⟩))) where
  toLb := crewB L g S i c
  one := rfl
  inv := fun e => e.inv
  shA := fun e b h => e.apart (.inr (.inr (.inr h)))
  mineA := fun e b h => ⟨e.apart (.inr (.inl h.1)), (e.noA h.1).1, (e.lo h.1).2⟩
  newA := fun e b h => e.apart (.inr (.inr (.inl h)))
  mg := fun e y' s' w' h0 h1 h2 h3 h4 => EO.mg e y' s' w' h0 h1 h2 h3 h4
  step := fun e d ht fr l hp hl hk => EO.step e d ht fr l hp hl hk
end
end
end Go.Proofs.Ytabpfdckgnimaaa
