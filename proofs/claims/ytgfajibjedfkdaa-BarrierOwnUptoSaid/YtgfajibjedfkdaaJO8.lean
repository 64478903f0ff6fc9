/- Part 8. -/
import Derived.Test.YtgfajibjedfkdaaJO7
set_option linter.unusedSimpArgs false
set_option linter.unusedVariables false
set_option maxHeartbeats 8000000
set_option maxRecDepth 100000
namespace Go.Proofs.Ytgfajibjedfkdaa
open Go.Conc Go.RowKit Go.Relay
open Go.ConcN (upd upd_ne upd_same)
section
structure OpV where
  k : Int
  a : Int
  b : Int
  c : Int
structure Ans where
  ok : Bool
  n : Int
  l : List Int
deriving DecidableEq
def ansV (a : Ans) (sl : Value) : Value := .agg #[.bool a.ok, .int .i64 a.n, sl]
def ansRow (z : List (Ans × Value)) : List Value := z.flatMap fun a => [.bool a.1.ok, .int .i64 a.1.n, a.2]
theorem ansRow_snoc (z : List (Ans × Value)) (a : Ans × Value) : ansRow (z ++ [a]) = ansRow z ++ [.bool a.1.ok, .int .i64 a.1.n, a.2] := by simp [ansRow]
def LsAt (base : Nat) (P : Nat → Prop) (sl : Value) (l : List Int) (w : World) : Prop := ∃ a c, sl = .slice a l.length c ∧ l.length ≤ 1048576 ∧ (∀ {p : Prop}, p → w.ownsRow base 2 1 sl l.length (l.map fun z => .int .i64 z) ∧ ∀ b, sl.ownBlock = some b → P b)
theorem LsAt.same {base : Nat} {P : Nat → Prop} {sl : Value} {l : List Int} {w w' : World} (h : LsAt base P sl l w) (hb : ∀ b, P b → w'.heap[b]? = w.heap[b]?) : LsAt base P sl l w' := by
  obtain ⟨a, c, e, hn, hr⟩ := h
  exact ⟨a, c, e, hn, fun hl => ⟨row_same (hr hl).1 fun b e => hb b ((hr hl).2 b e), (hr hl).2⟩⟩
theorem LsAt.imp {base : Nat} {P P' : Nat → Prop} {sl : Value} {l : List Int} {w : World} (h : LsAt base P sl l w) (hP : ∀ b, P b → P' b) : LsAt base P' sl l w := by
  obtain ⟨a, c, e, hn, hr⟩ := h
  exact ⟨a, c, e, hn, fun hl => ⟨(hr hl).1, fun b e => hP b ((hr hl).2 b e)⟩⟩
theorem LsAt.low {base base' : Nat} {P : Nat → Prop} {sl : Value} {l : List Int} {w : World} (h : LsAt base P sl l w) (hb : base' ≤ base) : LsAt base' P sl l w := by
  obtain ⟨a, c, e, hn, hr⟩ := h
  exact ⟨a, c, e, hn, fun hl => ⟨⟨(hr hl).1.1, (hr hl).1.2.imp id fun ⟨g, cap, cur, h1, h2, h3⟩ => ⟨g, cap, cur, h1, Nat.le_trans hb h2, h3⟩⟩, (hr hl).2⟩⟩
def LsR (sl : Value) (l : List Int) (w : World) : Prop := ∃ a c, sl = .slice a l.length c ∧ l.length ≤ c ∧ (a = none → c = 0) ∧ ∀ (j : Nat) (z : Int), l[j]? = some z → ∃ b off, a = some ⟨b, off, none⟩ ∧ w.cell? ⟨b, off + j, none⟩ = some (.int .i64 z)
theorem LsR.same {sl : Value} {l : List Int} {w w' : World} (h : LsR sl l w) (hb : ∀ b, b < w.heap.size → w'.heap[b]? = w.heap[b]?) : LsR sl l w' := by
  obtain ⟨a, c, h1, h2, h3, h4⟩ := h
  refine ⟨a, c, h1, h2, h3, fun j z hj => ?_⟩
  obtain ⟨b, off, e, hc⟩ := h4 j z hj
  have hlt : b < w.heap.size := by
    unfold World.cell? at hc
    split at hc
    · rename_i h'; exact (Array.getElem?_eq_some_iff.1 h').1
    · cases hc
  exact ⟨b, off, e, (World.cell?_of_block (a := ⟨b, off + j, none⟩) (hb b hlt)).trans hc⟩
theorem LsR.nil (w : World) : LsR (.slice none 0 0) [] w := ⟨none, 0, rfl, Nat.le_refl _, fun _ => rfl, fun j z hj => (by simp at hj)⟩
theorem LsAt.nil (base : Nat) (P : Nat → Prop) (w : World) : LsAt base P (.slice none 0 0) [] w := ⟨none, 0, rfl, Nat.zero_le _, fun _ => ⟨⟨rfl, .inl ⟨rfl, rfl⟩⟩, fun b h => by simp [Value.ownBlock] at h⟩⟩
def RowA (base : Nat) (P : Nat → Prop) (hd : Value) (ans : List Ans) (w : World) : Prop := ∃ (ta : Option Addr) (tc : Nat) (z : List (Ans × Value)), z.map Prod.fst = ans ∧ hd = .slice ta ans.length tc ∧ w.ownsRow base 81 3 hd ans.length (ansRow z) ∧ (∀ b, hd.ownBlock = some b → P b) ∧ ∀ p ∈ z, LsAt base P p.2 p.1.l w
theorem RowA.same {base : Nat} {P : Nat → Prop} {hd : Value} {ans : List Ans} {w w' : World} (h : RowA base P hd ans w) (hb : ∀ b, P b → w'.heap[b]? = w.heap[b]?) : RowA base P hd ans w' := by
  obtain ⟨ta, tc, z, h1, h2, h3, h4, h5⟩ := h
  exact ⟨ta, tc, z, h1, h2, row_same h3 fun b e => hb b (h4 b e), h4, fun p hp => (h5 p hp).same hb⟩
theorem RowA.imp {base : Nat} {P P' : Nat → Prop} {hd : Value} {ans : List Ans} {w : World} (h : RowA base P hd ans w) (hP : ∀ b, P b → P' b) : RowA base P' hd ans w := by
  obtain ⟨ta, tc, z, h1, h2, h3, h4, h5⟩ := h
  exact ⟨ta, tc, z, h1, h2, h3, fun b e => hP b (h4 b e), fun p hp => (h5 p hp).imp hP⟩
theorem RowA.hdo {base : Nat} {P : Nat → Prop} {hd : Value} {ans : List Ans} {w : World} (h : RowA base P hd ans w) : ∀ b, hd.ownBlock = some b → P b := by
  obtain ⟨ta, tc, z, h1, h2, h3, h4, h5⟩ := h
  exact h4
theorem RowA.low {base base' : Nat} {P : Nat → Prop} {hd : Value} {ans : List Ans} {w : World} (h : RowA base P hd ans w) (hb : base' ≤ base) : RowA base' P hd ans w := by
  obtain ⟨ta, tc, z, h1, h2, h3, h4, h5⟩ := h
  exact ⟨ta, tc, z, h1, h2, ⟨h3.1, h3.2.imp id fun ⟨g, cap, cur, e1, e2, e3⟩ => ⟨g, cap, cur, e1, Nat.le_trans hb e2, e3⟩⟩, h4, fun p hp => (h5 p hp).low hb⟩
theorem RowA.nil (base : Nat) (P : Nat → Prop) (w : World) : RowA base P (.slice none 0 0) [] w :=
  ⟨none, 0, [], rfl, rfl, ⟨rfl, .inl ⟨rfl, rfl⟩⟩, fun b h => (by simp [Value.ownBlock] at h), fun p hp => (by cases hp)⟩
structure La where
  Sg : Type
  D : Type
  Gh : Type
  le : Gh → Gh → Prop
  refl : ∀ y, le y y
  trans : ∀ {x y z : Gh}, le x y → le y z → le x z
  enter : Sg → Int → OpV → Sg × (Ans ⊕ D)
  act : Sg → D → Sg × (Ans ⊕ D)
  sh : Gh → Nat → Prop
  mono : ∀ {y y' : Gh} {b : Nat}, le y y' → sh y b → sh y' b
  I : Gh → Sg → World → Prop
  stable : ∀ {y : Gh} {s : Sg} {w w' : World}, I y s w → (∀ b, sh y b → w'.heap[b]? = w.heap[b]?) → I y s w'
  lt : ∀ {y : Gh} {s : Sg} {w : World} {b : Nat}, I y s w → sh y b → b < w.heap.size
structure Tst (L : La) where
  left : List OpV
  d : Option L.D
  ans : List Ans
def settleO (L : La) (th : Int) : L.Sg → List OpV → List Ans → L.Sg × Tst L
  | s, [], az => (s, ⟨[], none, az⟩)
  | s, o :: l, az => match L.enter s th o with
    | (s', .inl a) => settleO L th s' l (az ++ [a])
    | (s', .inr d) => (s', ⟨l, some d, az⟩)
def landO (L : La) (th : Int) (r : L.Sg × (Ans ⊕ L.D)) (left : List OpV) (az : List Ans) : L.Sg × Tst L := match r with
  | (s', .inl a) => settleO L th s' left (az ++ [a])
  | (s', .inr d) => (s', ⟨left, some d, az⟩)
structure OX (L : La) where
  s : L.Sg
  th : Nat → Tst L
  out : Nat → Option Bool
  cnt : Nat
structure OG where
  n : Nat
  w0 : World
  A : Nat
  ops : Nat → List OpV
  sh : Nat → Prop
def AnT (g : OG) (i : Nat) (w w' : World) (hd : Value) : Prop := ∃ arr arr' : Array Value, w.heap[g.A]? = some (.cells arr 79) ∧ w'.heap[g.A]? = some (.cells arr' 79) ∧ arr'.size = arr.size ∧ arr'[i]? = some hd ∧ ∀ j, j ≠ i → arr'[j]? = arr[j]?
structure Tn (L : La) where
  V : Nat → Option Wait
  f : Frame
  fs : List Frame
  w : World
  y : L.Gh
  M : Nat → Prop
  goal : L.Sg × Tst L
def ownT {L : La} (τ : Tn L) (y : L.Gh) (w : World) (b : Nat) : Prop := (τ.M b ∨ (τ.w.heap.size ≤ b ∧ b < w.heap.size)) ∧ ¬ L.sh y b
def StopT (L : La) (g : OG) (S : Stile) (i : Nat) (C : Tst L → List Frame → L.Gh → Value → (Nat → Prop) → World → Prop) (τ : Tn L) (g' : Goroutine) (w' : World) : Prop :=
  ∃ y', L.le τ.y y' ∧ τ.w.heap.size ≤ w'.heap.size ∧ (∀ b, b < τ.w.heap.size → ¬ τ.M b → ¬ L.sh τ.y b → b ≠ g.A → w'.heap[b]? = τ.w.heap[b]?) ∧ L.I y' τ.goal.1 w' ∧ (∀ b, L.sh y' b → L.sh τ.y b ∨ τ.M b ∨ τ.w.heap.size ≤ b) ∧
  ∃ hd, AnT g i τ.w w' hd ∧ RowA g.w0.heap.size (ownT τ y' w') hd τ.goal.2.ans w' ∧
    ((τ.goal.2.d = none ∧ g' = G (τ.f.finish (.tuple #[])) τ.fs) ∨
     ∃ l, τ.goal.2.d.isSome = true ∧ l ≠ [] ∧ (∀ f ∈ l, Plain f) ∧ C τ.goal.2 l y' hd (ownT τ y' w') w' ∧ g' = G (Frame.enter Try.prog 181 #[.pointer (some ⟨S.p i, 0, none⟩)] .normal) (l ++ τ.f :: τ.fs))
theorem StopT.mono {L : La} {g : OG} {S : Stile} {i : Nat} {C C' : Tst L → List Frame → L.Gh → Value → (Nat → Prop) → World → Prop} {τ : Tn L} {g' : Goroutine} {w' : World} (h : StopT L g S i C τ g' w') (hC : ∀ t l y hd M w, C t l y hd M w → C' t l y hd M w) : StopT L g S i C' τ g' w' := by
  obtain ⟨y', h0, h1, h2, h3, hp, hd, h4, h5, h7⟩ := h
  refine ⟨y', h0, h1, h2, h3, hp, hd, h4, h5, ?_⟩
  rcases h7 with h | ⟨l, a1, a2, a3, a4, a5⟩
  · exact .inl h
  · exact .inr ⟨l, a1, a2, a3, hC _ _ _ _ _ _ a4, a5⟩
structure Rely (L : La) (g : OG) (i : Nat) (V : Nat → Option Wait) (y : L.Gh) (w : World) (hd : Value) (M : Nat → Prop) : Prop where
  size : g.w0.heap.size ≤ w.heap.size
  old : ∀ b, b < g.w0.heap.size → ¬ g.sh b → b ≠ g.A → w.heap[b]? = g.w0.heap[b]?
  an : ∃ arr : Array Value, w.heap[g.A]? = some (.cells arr 79) ∧ arr[i]? = some hd
  lo : ∀ b, M b → g.w0.heap.size ≤ b ∧ b < w.heap.size ∧ ¬ L.sh y b
  apart : ∀ b, (b < g.w0.heap.size ∨ M b ∨ w.heap.size ≤ b ∨ L.sh y b) → Apart V b
  shlo : ∀ b, L.sh y b → b ≠ g.A ∧ b < w.heap.size ∧ (b < g.w0.heap.size → g.sh b)
  alo : g.A < g.w0.heap.size
  hdo : ∀ b, hd.ownBlock = some b → M b
def Cont (L : La) (g : OG) (S : Stile) (i : Nat) : Nat → Tst L → List Frame → L.Gh → Value → (Nat → Prop) → World → Prop
  | 0 => fun _ _ _ _ _ _ => True
  | N + 1 => fun t cs y hd M w => ∀ (V : Nat → Option Wait) (f : Frame) (fs : List Frame) (y' : L.Gh) (w' : World) (s : L.Sg) (c : Frame) (l : List Frame) (d : L.D), L.le y y' → w.heap.size ≤ w'.heap.size → (∀ b, M b → w'.heap[b]? = w.heap[b]?) → Rely L g i V y' w' hd M → L.I y' s w' → t.d = some d → cs = c :: l →
    Walk Try.prog false (DR V) (StopT L g S i (Cont L g S i N) ⟨V, f, fs, w', y', M, landO L (i : Nat) (L.act s d) t.left t.ans⟩) (G (c.finish (.tuple #[])) (l ++ f :: fs)) w'
section
variable {L : La} {g : OG} {S : Stile} {i : Nat}
theorem Cont.keep {N : Nat} {t : Tst L} {cs : List Frame} {y y1 : L.Gh} {hd : Value} {M : Nat → Prop} {w w1 : World} (h : Cont L g S i N t cs y hd M w) (hy : L.le y y1) (hs : w.heap.size ≤ w1.heap.size) (hb : ∀ b, M b → w1.heap[b]? = w.heap[b]?) : Cont L g S i N t cs y1 hd M w1 := by
  cases N with
  | zero => trivial
  | succ N => exact fun V f fs y' w' s c l d h0 h1 h2 h3 h4 h5 h6 => h V f fs y' w' s c l d (L.trans hy h0) (Nat.le_trans hs h1) (fun b hM => (h2 b hM).trans (hb b hM)) h3 h4 h5 h6
theorem Cont.less : ∀ {N : Nat} {t : Tst L} {cs : List Frame} {y : L.Gh} {hd : Value} {M : Nat → Prop} {w : World}, Cont L g S i (N + 1) t cs y hd M w → Cont L g S i N t cs y hd M w
  | 0, _, _, _, _, _, _, _ => trivial
  | _ + 1, _, _, _, _, _, _, h => fun V f fs y' w' s c l d h0 h1 h2 h3 h4 h5 h6 => (h V f fs y' w' s c l d h0 h1 h2 h3 h4 h5 h6).mono fun _ _ hS => hS.mono fun _ _ _ _ _ _ => Cont.less
theorem Cont.le {N N' : Nat} (hN : N' ≤ N) {t : Tst L} {cs : List Frame} {y : L.Gh} {hd : Value} {M : Nat → Prop} {w : World} (h : Cont L g S i N t cs y hd M w) : Cont L g S i N' t cs y hd M w := by
  induction N with
  | zero => rwa [Nat.le_zero.1 hN]
  | succ N ih =>
    by_cases e : N' = N + 1
    · rw [e]; exact h
    · exact ih (by omega) h.less
end
end
section
structure Lb (L : La) where
  main : Bool
  E : Type
  V : E → Nat → Option Wait
  Stop : E → Goroutine → World → Prop
  bot : E → List Frame
  w : E → World
  s : E → L.Sg
  gh : E → L.Gh
  tgt : E → L.Sg × (Ans ⊕ L.D)
  fuel : E → Nat
  mine : E → Nat → Prop
def LW {L : La} (K : Lb L) (e : K.E) (g : Goroutine) : Prop := Walk Try.prog K.main (DR (K.V e)) (K.Stop e) g (K.w e)
structure Mg {L : La} (K : Lb L) (e e' : K.E) (y' : L.Gh) (s' : L.Sg) (w' : World) : Prop where
  V : K.V e' = K.V e
  Stop : K.Stop e' = K.Stop e
  bot : K.bot e' = K.bot e
  w : K.w e' = w'
  s : K.s e' = s'
  gh : K.gh e' = y'
  tgt : K.tgt e' = K.tgt e
  fuel : K.fuel e' = K.fuel e
  mine : ∀ b, K.mine e' b ↔ (K.mine e b ∨ ((K.w e).heap.size ≤ b ∧ b < w'.heap.size)) ∧ ¬ L.sh y' b
structure Mv {L : La} (K : Lb L) (e e' : K.E) (s' : L.Sg) (w' : World) : Prop where
  V : K.V e' = K.V e
  Stop : K.Stop e' = K.Stop e
  bot : K.bot e' = K.bot e
  w : K.w e' = w'
  s : K.s e' = s'
  gh : K.gh e' = K.gh e
  tgt : K.tgt e' = K.tgt e
  fuel : K.fuel e' = K.fuel e
  mine : ∀ b, K.mine e' b ↔ K.mine e b ∨ ((K.w e).heap.size ≤ b ∧ b < w'.heap.size)
structure Aft {L : La} (K : Lb L) (e : K.E) (d : L.D) (e' : K.E) : Prop where
  tgt : K.tgt e' = L.act (K.s e') d
  fuel : K.fuel e' < K.fuel e
  le : L.le (K.gh e) (K.gh e')
  size : (K.w e).heap.size ≤ (K.w e').heap.size
  mine : ∀ b, K.mine e b → K.mine e' b ∧ (K.w e').heap[b]? = (K.w e).heap[b]?
structure Lg (L : La) (sv : Value) extends Lb L where
  inv : ∀ e, L.I (gh e) (s e) (w e)
  shA : ∀ e b, L.sh (gh e) b → Apart (V e) b
  mineA : ∀ e b, mine e b → Apart (V e) b ∧ ¬ L.sh (gh e) b ∧ b < (w e).heap.size
  newA : ∀ e b, (w e).heap.size ≤ b → Apart (V e) b
  one : sv.cells = #[sv]
  mg : ∀ (e : E) (y' : L.Gh) (s' : L.Sg) (w' : World), L.le (gh e) y' → (w e).heap.size ≤ w'.heap.size → (∀ b, b < (w e).heap.size → ¬ mine e b → ¬ L.sh (gh e) b → w'.heap[b]? = (w e).heap[b]?) → L.I y' s' w' → (∀ b, L.sh y' b → L.sh (gh e) b ∨ mine e b ∨ (w e).heap.size ≤ b) → ∃ e', Mg toLb e e' y' s' w'
  step : ∀ (e : E) (d : L.D), tgt e = (s e, .inr d) → ∀ (fr : Frame) (l : List Frame), Plain fr → (∀ f ∈ l, Plain f) → (∀ e', Aft toLb e d e' → LW toLb e' (G (fr.finish (.tuple #[])) (l ++ bot e'))) →
    LW toLb e (G (Frame.enter Try.prog 78 #[sv] .normal) (fr :: (l ++ bot e)))
theorem Mg.mv {L : La} {sv : Value} {K : Lg L sv} {e e' : K.E} {s' : L.Sg} {w' : World} (m : Mg K.toLb e e' (K.gh e) s' w') : Mv K.toLb e e' s' w' :=
  ⟨m.V, m.Stop, m.bot, m.w, m.s, m.gh, m.tgt, m.fuel, fun b => (m.mine b).trans ⟨fun h => h.1, fun h => ⟨h, fun hs => by
    rcases h with h | h
    · exact (K.mineA e b h).2.1 hs
    · have := L.lt (K.inv e) hs; omega⟩⟩⟩
theorem Lg.mv {L : La} {sv : Value} (K : Lg L sv) (e : K.E) (s' : L.Sg) (w' : World) (h1 : (K.w e).heap.size ≤ w'.heap.size) (h2 : ∀ b, b < (K.w e).heap.size → ¬ K.mine e b → ¬ L.sh (K.gh e) b → w'.heap[b]? = (K.w e).heap[b]?) (h3 : L.I (K.gh e) s' w') : ∃ e', Mv K.toLb e e' s' w' := by
  obtain ⟨e', m⟩ := K.mg e (K.gh e) s' w' (L.refl _) h1 h2 h3 fun b h => .inl h
  exact ⟨e', m.mv⟩
def SCall {L : La} (K : Lb L) (f : FuncId) (args : Array Value) (e : K.E) (Q : Value → K.E → Prop) : Prop :=
  ∀ (fr : Frame) (l : List Frame), Plain fr → (∀ f ∈ l, Plain f) → (∀ v e', Q v e' → LW K e' (G (fr.finish v) (l ++ K.bot e'))) → LW K e (G (Frame.enter Try.prog f args .normal) (fr :: (l ++ K.bot e)))
section
variable {L : La} {K : Lb L} {e : K.E} {g : Goroutine}
theorem SCall.mono {f : FuncId} {args : Array Value} {Q Q' : Value → K.E → Prop} (h : SCall K f args e Q) (hQ : ∀ v e', Q v e' → Q' v e') : SCall K f args e Q' := fun fr l hp hl hk => h fr l hp hl fun v e' hq => hk v e' (hQ v e' hq)
theorem LW.mv {e' : K.E} {s' : L.Sg} {w' : World} (h : Mv K e e' s' w') (hw : LW K e' g) : Walk Try.prog K.main (DR (K.V e)) (K.Stop e) g w' := by
  unfold LW at hw
  rw [h.V, h.Stop, h.w] at hw
  exact hw
theorem LW.mg {e' : K.E} {y' : L.Gh} {s' : L.Sg} {w' : World} (h : Mg K e e' y' s' w') (hw : LW K e' g) : Walk Try.prog K.main (DR (K.V e)) (K.Stop e) g w' := by
  unfold LW at hw
  rw [h.V, h.Stop, h.w] at hw
  exact hw
theorem SCall.mv {e' : K.E} {s' : L.Sg} {w' : World} {f : FuncId} {args : Array Value} {Q : Value → K.E → Prop} (h : Mv K e e' s' w') (hc : SCall K f args e' Q) {fr : Frame} {l : List Frame} (hp : Plain fr) (hl : ∀ f ∈ l, Plain f) (hk : ∀ v e', Q v e' → LW K e' (G (fr.finish v) (l ++ K.bot e'))) :
    Walk Try.prog K.main (DR (K.V e)) (K.Stop e) (G (Frame.enter Try.prog f args .normal) (fr :: (l ++ K.bot e))) w' := by
  have := hc fr l hp hl hk
  rw [h.bot] at this
  exact LW.mv h this
theorem Mv.trans {e1 e2 : K.E} {s1 s2 : L.Sg} {w1 w2 : World} (h : Mv K e e1 s1 w1) (h' : Mv K e1 e2 s2 w2) (hs : (K.w e).heap.size ≤ w1.heap.size) (hs' : w1.heap.size ≤ w2.heap.size) : Mv K e e2 s2 w2 := by
  refine ⟨h'.V.trans h.V, h'.Stop.trans h.Stop, h'.bot.trans h.bot, h'.w, h'.s, h'.gh.trans h.gh, h'.tgt.trans h.tgt, h'.fuel.trans h.fuel, fun b => ?_⟩
  rw [h'.mine, h.mine, h.w]
  constructor
  · rintro ((h | h) | h)
    · exact .inl h
    · exact .inr ⟨h.1, by omega⟩
    · exact .inr ⟨by omega, h.2⟩
  · rintro (h | h)
    · exact .inl (.inl h)
    · by_cases hb : b < w1.heap.size
      · exact .inl (.inr ⟨h.1, hb⟩)
      · exact .inr ⟨by omega, h.2⟩
variable {b : Frame} {a : Act} {k : List Item} {cs l : List Frame} {ops : Array Oper} {i : Nat} {rest : List Nat} {o : Oper}
end
section
variable {P : Program} {main : Bool} {V : Nat → Option Wait} {Stop : Goroutine → World → Prop} {b : Frame} {a : Act} {cs : List Frame} {w : World} {fn : Func} {todo : List Item} {c : Frame} {t s : Tmp}
theorem Walk.on1 (hn : b.kind = .normal) (hd : a.defers = []) (hf : P.funcs[b.fn]? = some fn) (hr : fn.results = #[.tmp t]) (h : Walk P main (DR V) Stop (G (c.finish (a.tmps.getD t undef)) cs) w) : Walk P main (DR V) Stop (G { b.at a todo with mode := .returning } (c :: cs)) w :=
  Walk.ctl rfl (fun w => stepG_leave hn hd hf (results_tmp hr _ P w) (events_results_tmp hr _ _)) h
theorem Walk.on0 (hn : b.kind = .normal) (hd : a.defers = []) (hf : P.funcs[b.fn]? = some fn) (hr : fn.results = #[]) (h : Walk P main (DR V) Stop (G (c.finish (.tuple #[])) cs) w) : Walk P main (DR V) Stop (G { b.at a todo with mode := .returning } (c :: cs)) w :=
  Walk.ctl rfl (fun w => stepG_leave hn hd hf (results_none hr _ P w) (events_results_none hr _ _)) h
theorem Walk.on2 (hn : b.kind = .normal) (hd : a.defers = []) (hf : P.funcs[b.fn]? = some fn) (hr : fn.results = #[.tmp t, .tmp s]) (h : Walk P main (DR V) Stop (G (c.finish (.tuple #[a.tmps.getD t undef, a.tmps.getD s undef])) cs) w) : Walk P main (DR V) Stop (G { b.at a todo with mode := .returning } (c :: cs)) w :=
  Walk.ctl rfl (fun w => stepG_leave (v := .tuple #[a.tmps.getD t undef, a.tmps.getD s undef]) hn hd hf (by simp [results, hr]) (by simp [results, hr])) h
end
end
section
structure OSt (L : La) (g : OG) (S : Stile) : Prop where
  n : S.n = g.n
  alo : g.A < g.w0.heap.size
  tbs : ¬ g.sh S.tb ∧ S.tb ≠ g.A
  tb : ∀ i, i < g.n → g.w0.cell? ⟨S.tb, i, none⟩ = some (S.F i)
  sch : ∀ (j : Nat) (z : Int), S.sl[j]? = some z → ∃ s so, S.sa = some ⟨s, so, none⟩ ∧ g.w0.cell? ⟨s, so + j, none⟩ = some (.int .i64 z) ∧ ¬ g.sh s ∧ s ≠ g.A
def t0 (L : La) : Tst L := ⟨[], none, []⟩
structure OInv (L : La) (g : OG) (S : Stile) (k : Nat) (o : Nat → Option Role) (x : OX L) (cs : Nat → List Frame) (w : World) (pr : Nat → Option Nat) (hd : Nat → Value) (y : L.Gh) : Prop where
  st : OSt L g S
  kn : k ≤ g.n
  size : g.w0.heap.size ≤ w.heap.size
  base : ∀ b, b < g.w0.heap.size → o b = none
  old : ∀ b, b < g.w0.heap.size → ¬ g.sh b → b ≠ g.A → w.heap[b]? = g.w0.heap[b]?
  prl : ∀ b i, pr b = some i → g.w0.heap.size ≤ b ∧ b < w.heap.size ∧ o b = none ∧ ¬ L.sh y b
  shl : ∀ b, L.sh y b → o b = none ∧ b ≠ g.A ∧ b < w.heap.size ∧ (b < g.w0.heap.size → g.sh b)
  I : L.I y x.s w
  an : ∃ arr : Array Value, w.heap[g.A]? = some (.cells arr 79) ∧ arr.size = g.n ∧ ∀ i, i < g.n → arr[i]? = some (hd i)
  row : ∀ i, i < g.n → RowA g.w0.heap.size (fun b => pr b = some i) (hd i) (x.th i).ans w
  cont : ∀ i, i < k → i < g.n → x.out i = none → (x.th i).d.isSome = true ∧ cs i ≠ [] ∧ (∀ f ∈ cs i, Plain f) ∧ Cont L g S i (1048577 - x.cnt) (x.th i) (cs i) y (hd i) (fun b => pr b = some i) w
  fresh : ∀ i, k ≤ i → i < g.n → x.th i = t0 L
theorem cell_lt' {w : World} {b i : Nat} {v : Value} (h : w.cell? ⟨b, i, none⟩ = some v) : b < w.heap.size := by
  unfold World.cell? at h
  split at h
  · rename_i h'; exact (Array.getElem?_eq_some_iff.1 h').1
  · cases h
section
variable {L : La} {g : OG} {S : Stile} {k : Nat} {o o' : Nat → Option Role} {x : OX L} {cs : Nat → List Frame} {w w' : World} {pr : Nat → Option Nat} {hd : Nat → Value} {y yb : L.Gh}
theorem OInv.cell (P : OInv L g S k o x cs w pr hd y) {b i : Nat} {v : Value} (h : g.w0.cell? ⟨b, i, none⟩ = some v) (hs : ¬ g.sh b) (hA : b ≠ g.A) : w.cell? ⟨b, i, none⟩ = some v :=
  (World.cell?_of_block (a := ⟨b, i, none⟩) (P.old b (cell_lt' h) hs hA)).trans h
theorem OInv.rely (P : OInv L g S k o x cs w pr hd y) {V : Nat → Option Wait} {i : Nat} (hi : i < g.n) (hA : ∀ b, o b = none → Apart V b) (hlt : ∀ b r, o b = some r → b < w.heap.size) : Rely L g i V y w (hd i) (fun b => pr b = some i) := by
  refine ⟨P.size, P.old, ?_, fun b e => ⟨(P.prl b i e).1, (P.prl b i e).2.1, (P.prl b i e).2.2.2⟩, fun b e => hA b ?_, fun b h => (P.shl b h).2, P.st.alo, (P.row i hi).hdo⟩
  · obtain ⟨arr, ha, hz, hr⟩ := P.an
    exact ⟨arr, ha, hr i hi⟩
  · rcases e with e | e | e | e
    · exact P.base b e
    · exact (P.prl b i e).2.2.1
    · cases ho : o b with
      | none => rfl
      | some r => have := hlt b r ho; omega
    · exact (P.shl b e).1
end
end
end Go.Proofs.Ytgfajibjedfkdaa
