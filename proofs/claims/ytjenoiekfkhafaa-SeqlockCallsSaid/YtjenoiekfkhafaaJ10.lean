/- Part 10. -/
import Derived.Test.YtjenoiekfkhafaaJ2
import Derived.Test.YtjenoiekfkhafaaJ3
import Derived.Test.YtjenoiekfkhafaaJ4
import Derived.Test.YtjenoiekfkhafaaJ9
import Derived.Conc.AtomicLaws2
set_option linter.unusedSimpArgs false
set_option linter.unusedVariables false
set_option maxHeartbeats 8000000
set_option maxRecDepth 100000
namespace Go.Proofs.Ytjenoiekfkhafaa
open Go.Conc Go.RowKit Go.Relay
open Go.ConcN (upd upd_ne upd_same)
section
structure OpV where
 k : Int
 a : Int
 b : Int
 c : Int
structure Ans where
 ok : Bool
 n : Int
 l : List Int
deriving DecidableEq
def Bu (o : OpV) : Value := .agg #[.int .i64 o.k, .int .i64 o.a, .int .i64 o.b, .int .i64 o.c]
def Bw (a : Ans) (sl : Value) : Value := .agg #[.bool a.ok, .int .i64 a.n, sl]
def Db (z : List (Ans × Value)) : List Value := z.flatMap fun a => [.bool a.1.ok, .int .i64 a.1.n, a.2]
theorem Mb (z : List (Ans × Value)) (a : Ans × Value) : Db (z ++ [a]) = Db z ++ [.bool a.1.ok, .int .i64 a.1.n, a.2] := by simp [Db]
def LsAt (base : Nat) (P : Nat -> Prop) (sl : Value) (l : List Int) (w : World) : Prop := ∃ a c, sl = .slice a l.length c /\ l.length <= 1048576 /\ (l ≠ [] -> w.ownsRow base 2 1 sl l.length (l.map fun z => .int .i64 z) /\ ∀ b, sl.ownBlock = some b -> P b)
theorem LsAt.same {base : Nat} {P : Nat -> Prop} {sl : Value} {l : List Int} {w w' : World} (h : LsAt base P sl l w) (hb : ∀ b, P b -> w'.heap[b]? = w.heap[b]?) : LsAt base P sl l w' := by
 obtain ⟨a, c, e, hn, hr⟩ := h
 exact ⟨a, c, e, hn, fun hl => ⟨Aw (hr hl).1 fun b e => hb b ((hr hl).2 b e), (hr hl).2⟩⟩
theorem LsAt.imp {base : Nat} {P P' : Nat -> Prop} {sl : Value} {l : List Int} {w : World} (h : LsAt base P sl l w) (hP : ∀ b, P b -> P' b) : LsAt base P' sl l w := by
 obtain ⟨a, c, e, hn, hr⟩ := h
 exact ⟨a, c, e, hn, fun hl => ⟨(hr hl).1, fun b e => hP b ((hr hl).2 b e)⟩⟩
theorem LsAt.low {base base' : Nat} {P : Nat -> Prop} {sl : Value} {l : List Int} {w : World} (h : LsAt base P sl l w) (hb : base' <= base) : LsAt base' P sl l w := by
 obtain ⟨a, c, e, hn, hr⟩ := h
 exact ⟨a, c, e, hn, fun hl => ⟨⟨(hr hl).1.1, (hr hl).1.2.imp id fun ⟨g, cap, cur, h1, h2, h3⟩ => ⟨g, cap, cur, h1, Nat.le_trans hb h2, h3⟩⟩, (hr hl).2⟩⟩
def LsR (sl : Value) (l : List Int) (w : World) : Prop := ∃ a c, sl = .slice a l.length c /\ l.length <= c /\ (a = none -> c = 0) /\ ∀ (j : Nat) (z : Int), l[j]? = some z -> ∃ b off, a = some ⟨b, off, none⟩ /\ w.cell? ⟨b, off + j, none⟩ = some (.int .i64 z)
theorem LsR.same {sl : Value} {l : List Int} {w w' : World} (h : LsR sl l w) (hb : ∀ b, b < w.heap.size -> w'.heap[b]? = w.heap[b]?) : LsR sl l w' := by
 obtain ⟨a, c, h1, h2, h3, h4⟩ := h
 refine ⟨a, c, h1, h2, h3, fun j z hj => ?_⟩
 obtain ⟨b, off, e, hc⟩ := h4 j z hj
 have hlt : b < w.heap.size := by
  unfold World.cell? at hc
  split at hc
  ·rename_i h'; exact (Array.getElem?_eq_some_iff.1 h').1
  ·cases hc
 exact ⟨b, off, e, (World.cell?_of_block (a := ⟨b, off + j, none⟩) (hb b hlt)).trans hc⟩
theorem LsR.nil (w : World) : LsR (.slice none 0 0) [] w := ⟨none, 0, rfl, Nat.le_refl _, fun _ => rfl, fun j z hj => (by simp at hj)⟩
theorem LsAt.nil (base : Nat) (P : Nat -> Prop) (w : World) : LsAt base P (.slice none 0 0) [] w := ⟨none, 0, rfl, Nat.zero_le _, fun h => absurd rfl h⟩
def RowA (base : Nat) (P : Nat -> Prop) (hd : Value) (ans : List Ans) (w : World) : Prop := ∃ (ta : Option Addr) (tc : Nat) (z : List (Ans × Value)), z.map Prod.fst = ans /\ hd = .slice ta ans.length tc /\ w.ownsRow base 44 3 hd ans.length (Db z) /\ (∀ b, hd.ownBlock = some b -> P b) /\ ∀ p ∈ z, LsAt base P p.2 p.1.l w
theorem RowA.same {base : Nat} {P : Nat -> Prop} {hd : Value} {ans : List Ans} {w w' : World} (h : RowA base P hd ans w) (hb : ∀ b, P b -> w'.heap[b]? = w.heap[b]?) : RowA base P hd ans w' := by
 obtain ⟨ta, tc, z, h1, h2, h3, h4, h5⟩ := h
 exact ⟨ta, tc, z, h1, h2, Aw h3 fun b e => hb b (h4 b e), h4, fun p hp => (h5 p hp).same hb⟩
theorem RowA.imp {base : Nat} {P P' : Nat -> Prop} {hd : Value} {ans : List Ans} {w : World} (h : RowA base P hd ans w) (hP : ∀ b, P b -> P' b) : RowA base P' hd ans w := by
 obtain ⟨ta, tc, z, h1, h2, h3, h4, h5⟩ := h
 exact ⟨ta, tc, z, h1, h2, h3, fun b e => hP b (h4 b e), fun p hp => (h5 p hp).imp hP⟩
theorem RowA.hdo {base : Nat} {P : Nat -> Prop} {hd : Value} {ans : List Ans} {w : World} (h : RowA base P hd ans w) : ∀ b, hd.ownBlock = some b -> P b := by
 obtain ⟨ta, tc, z, h1, h2, h3, h4, h5⟩ := h
 exact h4
theorem RowA.low {base base' : Nat} {P : Nat -> Prop} {hd : Value} {ans : List Ans} {w : World} (h : RowA base P hd ans w) (hb : base' <= base) : RowA base' P hd ans w := by
 obtain ⟨ta, tc, z, h1, h2, h3, h4, h5⟩ := h
 exact ⟨ta, tc, z, h1, h2, ⟨h3.1, h3.2.imp id fun ⟨g, cap, cur, e1, e2, e3⟩ => ⟨g, cap, cur, e1, Nat.le_trans hb e2, e3⟩⟩, h4, fun p hp => (h5 p hp).low hb⟩
theorem RowA.nil (base : Nat) (P : Nat -> Prop) (w : World) : RowA base P (.slice none 0 0) [] w :=
 ⟨none, 0, [], rfl, rfl, ⟨rfl, .inl ⟨rfl, rfl⟩⟩, fun b h => (by simp [Value.ownBlock] at h), fun p hp => (by cases hp)⟩
structure La where
 Sg : Type
 D : Type
 Gh : Type
 le : Gh -> Gh -> Prop
 refl : ∀ y, le y y
 trans : ∀ {x y z : Gh}, le x y -> le y z -> le x z
 enter : Sg -> Int -> OpV -> Sg × (Ans ⊕ D)
 act : Sg -> D -> Sg × (Ans ⊕ D)
 sh : Gh -> Nat -> Prop
 mono : ∀ {y y' : Gh} {b : Nat}, le y y' -> sh y b -> sh y' b
 I : Gh -> Sg -> World -> Prop
 stable : ∀ {y : Gh} {s : Sg} {w w' : World}, I y s w -> (∀ b, sh y b -> w'.heap[b]? = w.heap[b]?) -> I y s w'
 lt : ∀ {y : Gh} {s : Sg} {w : World} {b : Nat}, I y s w -> sh y b -> b < w.heap.size
structure Tst (L : La) where
 left : List OpV
 d : Option L.D
 ans : List Ans
def Bs (L : La) (th : Int) : L.Sg -> List OpV -> List Ans -> L.Sg × Tst L
 | s, [], az => (s, ⟨[], none, az⟩)
 | s, o :: l, az => match L.enter s th o with
  | (s', .inl a) => Bs L th s' l (az ++ [a])
  | (s', .inr d) => (s', ⟨l, some d, az⟩)
def Em (L : La) (th : Int) (r : L.Sg × (Ans ⊕ L.D)) (left : List OpV) (az : List Ans) : L.Sg × Tst L := match r with
 | (s', .inl a) => Bs L th s' left (az ++ [a])
 | (s', .inr d) => (s', ⟨left, some d, az⟩)
theorem Gx (L : La) (th : Int) (s : L.Sg) (o : OpV) (l : List OpV) (az : List Ans) : Bs L th s (o :: l) az = Em L th (L.enter s th o) l az := rfl
structure OX (L : La) where
 s : L.Sg
 th : Nat -> Tst L
 out : Nat -> Option Bool
 cnt : Nat
def Gi {L : La} (x : OX L) (i : Nat) (r : L.Sg × Tst L) (c : Nat) : OX L := ⟨r.1, upd x.th i r.2, upd x.out i (match r.2.d with | none => some false | some _ => none), c⟩
def Kr {L : La} (ops : Nat -> List OpV) (x : OX L) (i : Nat) : OX L := Gi x i (Bs L (i : Nat) x.s (ops i) []) x.cnt
def Cz {L : La} (x : OX L) (i : Nat) : OX L := match (x.th i).d with
 | none => { x with cnt := x.cnt + 1 }
 | some d => Gi x i (Em L (i : Nat) (L.act x.s d) (x.th i).left (x.th i).ans) (x.cnt + 1)
structure OG where
 n : Nat
 w0 : World
 A : Nat
 ops : Nat -> List OpV
 sh : Nat -> Prop
def AnT (g : OG) (i : Nat) (w w' : World) (hd : Value) : Prop := ∃ arr arr' : Array Value, w.heap[g.A]? = some (.cells arr 42) /\ w'.heap[g.A]? = some (.cells arr' 42) /\ arr'.size = arr.size /\ arr'[i]? = some hd /\ ∀ j, j ≠ i -> arr'[j]? = arr[j]?
structure Tn (L : La) where
 V : Nat -> Option Wait
 f : Frame
 fs : List Frame
 w : World
 y : L.Gh
 M : Nat -> Prop
 goal : L.Sg × Tst L
def Ct {L : La} (τ : Tn L) (y : L.Gh) (w : World) (b : Nat) : Prop := (τ.M b ∨ (τ.w.heap.size <= b /\ b < w.heap.size)) /\ ¬ L.sh y b
def StopT (L : La) (g : OG) (S : Stile) (i : Nat) (C : Tst L -> List Frame -> L.Gh -> Value -> (Nat -> Prop) -> World -> Prop) (τ : Tn L) (g' : Goroutine) (w' : World) : Prop :=
 ∃ y', L.le τ.y y' /\ τ.w.heap.size <= w'.heap.size /\ (∀ b, b < τ.w.heap.size -> ¬ τ.M b -> ¬ L.sh τ.y b -> b ≠ g.A -> w'.heap[b]? = τ.w.heap[b]?) /\ L.I y' τ.goal.1 w' /\ (∀ b, L.sh y' b -> L.sh τ.y b ∨ τ.M b ∨ τ.w.heap.size <= b) /\
 ∃ hd, AnT g i τ.w w' hd /\ RowA g.w0.heap.size (Ct τ y' w') hd τ.goal.2.ans w' /\
  ((τ.goal.2.d = none /\ g' = G (τ.f.finish (.tuple #[])) τ.fs) ∨
   ∃ l, τ.goal.2.d.isSome = true /\ l ≠ [] /\ (∀ f ∈ l, Bf f) /\ C τ.goal.2 l y' hd (Ct τ y' w') w' /\ g' = G (Frame.enter Try.prog 139 #[.pointer (some ⟨S.p i, 0, none⟩)] .normal) (l ++ τ.f :: τ.fs))
theorem StopT.mono {L : La} {g : OG} {S : Stile} {i : Nat} {C C' : Tst L -> List Frame -> L.Gh -> Value -> (Nat -> Prop) -> World -> Prop} {τ : Tn L} {g' : Goroutine} {w' : World} (h : StopT L g S i C τ g' w') (hC : ∀ t l y hd M w, C t l y hd M w -> C' t l y hd M w) : StopT L g S i C' τ g' w' := by
 obtain ⟨y', h0, h1, h2, h3, hp, hd, h4, h5, h7⟩ := h
 refine ⟨y', h0, h1, h2, h3, hp, hd, h4, h5, ?_⟩
 rcases h7 with h | ⟨l, a1, a2, a3, a4, a5⟩
 ·exact .inl h
 ·exact .inr ⟨l, a1, a2, a3, hC _ _ _ _ _ _ a4, a5⟩
structure Rely (L : La) (g : OG) (i : Nat) (V : Nat -> Option Wait) (y : L.Gh) (w : World) (hd : Value) (M : Nat -> Prop) : Prop where
 size : g.w0.heap.size <= w.heap.size
 old : ∀ b, b < g.w0.heap.size -> ¬ g.sh b -> b ≠ g.A -> w.heap[b]? = g.w0.heap[b]?
 an : ∃ arr : Array Value, w.heap[g.A]? = some (.cells arr 42) /\ arr[i]? = some hd
 lo : ∀ b, M b -> g.w0.heap.size <= b /\ b < w.heap.size /\ ¬ L.sh y b
 apart : ∀ b, (b < g.w0.heap.size ∨ M b ∨ w.heap.size <= b ∨ L.sh y b) -> Ay V b
 shlo : ∀ b, L.sh y b -> b ≠ g.A /\ b < w.heap.size /\ (b < g.w0.heap.size -> g.sh b)
 alo : g.A < g.w0.heap.size
 hdo : ∀ b, hd.ownBlock = some b -> M b
def Cont (L : La) (g : OG) (S : Stile) (i : Nat) : Nat -> Tst L -> List Frame -> L.Gh -> Value -> (Nat -> Prop) -> World -> Prop
 | 0 => fun _ _ _ _ _ _ => True
 | N + 1 => fun t cs y hd M w => ∀ (V : Nat -> Option Wait) (f : Frame) (fs : List Frame) (y' : L.Gh) (w' : World) (s : L.Sg) (c : Frame) (l : List Frame) (d : L.D), L.le y y' -> w.heap.size <= w'.heap.size -> (∀ b, M b -> w'.heap[b]? = w.heap[b]?) -> Rely L g i V y' w' hd M -> L.I y' s w' -> t.d = some d -> cs = c :: l ->
  Walk Try.prog false (DR V) (StopT L g S i (Cont L g S i N) ⟨V, f, fs, w', y', M, Em L (i : Nat) (L.act s d) t.left t.ans⟩) (G (c.finish (.tuple #[])) (l ++ f :: fs)) w'
section
variable {L : La} {g : OG} {S : Stile} {i : Nat}
theorem Cont.keep {N : Nat} {t : Tst L} {cs : List Frame} {y y1 : L.Gh} {hd : Value} {M : Nat -> Prop} {w w1 : World} (h : Cont L g S i N t cs y hd M w) (hy : L.le y y1) (hs : w.heap.size <= w1.heap.size) (hb : ∀ b, M b -> w1.heap[b]? = w.heap[b]?) : Cont L g S i N t cs y1 hd M w1 := by
 cases N with
 | zero => trivial
 | succ N => exact fun V f fs y' w' s c l d h0 h1 h2 h3 h4 h5 h6 => h V f fs y' w' s c l d (L.trans hy h0) (Nat.le_trans hs h1) (fun b hM => (h2 b hM).trans (hb b hM)) h3 h4 h5 h6
theorem Cont.less : ∀ {N : Nat} {t : Tst L} {cs : List Frame} {y : L.Gh} {hd : Value} {M : Nat -> Prop} {w : World}, Cont L g S i (N + 1) t cs y hd M w -> Cont L g S i N t cs y hd M w
 | 0, _, _, _, _, _, _, _ => trivial
 | _ + 1, _, _, _, _, _, _, h => fun V f fs y' w' s c l d h0 h1 h2 h3 h4 h5 h6 => (h V f fs y' w' s c l d h0 h1 h2 h3 h4 h5 h6).mono fun _ _ hS => hS.mono fun _ _ _ _ _ _ => Cont.less
theorem Cont.le {N N' : Nat} (hN : N' <= N) {t : Tst L} {cs : List Frame} {y : L.Gh} {hd : Value} {M : Nat -> Prop} {w : World} (h : Cont L g S i N t cs y hd M w) : Cont L g S i N' t cs y hd M w := by
 induction N with
 | zero => rwa [Nat.le_zero.1 hN]
 | succ N ih =>
  by_cases e : N' = N + 1
  ·rw [e]; exact h
  ·exact ih (by omega) h.less
end
end
section
structure Lb (L : La) where
 main : Bool
 E : Type
 V : E -> Nat -> Option Wait
 Stop : E -> Goroutine -> World -> Prop
 bot : E -> List Frame
 w : E -> World
 s : E -> L.Sg
 gh : E -> L.Gh
 tgt : E -> L.Sg × (Ans ⊕ L.D)
 fuel : E -> Nat
 mine : E -> Nat -> Prop
def LW {L : La} (K : Lb L) (e : K.E) (g : Goroutine) : Prop := Walk Try.prog K.main (DR (K.V e)) (K.Stop e) g (K.w e)
structure Mg {L : La} (K : Lb L) (e e' : K.E) (y' : L.Gh) (s' : L.Sg) (w' : World) : Prop where
 V : K.V e' = K.V e
 Stop : K.Stop e' = K.Stop e
 bot : K.bot e' = K.bot e
 w : K.w e' = w'
 s : K.s e' = s'
 gh : K.gh e' = y'
 tgt : K.tgt e' = K.tgt e
 fuel : K.fuel e' = K.fuel e
 mine : ∀ b, K.mine e' b ↔ (K.mine e b ∨ ((K.w e).heap.size <= b /\ b < w'.heap.size)) /\ ¬ L.sh y' b
structure Mv {L : La} (K : Lb L) (e e' : K.E) (s' : L.Sg) (w' : World) : Prop where
 V : K.V e' = K.V e
 Stop : K.Stop e' = K.Stop e
 bot : K.bot e' = K.bot e
 w : K.w e' = w'
 s : K.s e' = s'
 gh : K.gh e' = K.gh e
 tgt : K.tgt e' = K.tgt e
 fuel : K.fuel e' = K.fuel e
 mine : ∀ b, K.mine e' b ↔ K.mine e b ∨ ((K.w e).heap.size <= b /\ b < w'.heap.size)
structure Aft {L : La} (K : Lb L) (e : K.E) (d : L.D) (e' : K.E) : Prop where
 tgt : K.tgt e' = L.act (K.s e') d
 fuel : K.fuel e' < K.fuel e
 le : L.le (K.gh e) (K.gh e')
 size : (K.w e).heap.size <= (K.w e').heap.size
 mine : ∀ b, K.mine e b -> K.mine e' b /\ (K.w e').heap[b]? = (K.w e).heap[b]?
structure Lg (L : La) (sv : Value) extends Lb L where
 inv : ∀ e, L.I (gh e) (s e) (w e)
 shA : ∀ e b, L.sh (gh e) b -> Ay (V e) b
 mineA : ∀ e b, mine e b -> Ay (V e) b /\ ¬ L.sh (gh e) b /\ b < (w e).heap.size
 newA : ∀ e b, (w e).heap.size <= b -> Ay (V e) b
 one : sv.cells = #[sv]
 mg : ∀ (e : E) (y' : L.Gh) (s' : L.Sg) (w' : World), L.le (gh e) y' -> (w e).heap.size <= w'.heap.size -> (∀ b, b < (w e).heap.size -> ¬ mine e b -> ¬ L.sh (gh e) b -> w'.heap[b]? = (w e).heap[b]?) -> L.I y' s' w' -> (∀ b, L.sh y' b -> L.sh (gh e) b ∨ mine e b ∨ (w e).heap.size <= b) -> ∃ e', Mg toLb e e' y' s' w'
 step : ∀ (e : E) (d : L.D), tgt e = (s e, .inr d) -> ∀ (fr : Frame) (l : List Frame), Bf fr -> (∀ f ∈ l, Bf f) -> (∀ e', Aft toLb e d e' -> LW toLb e' (G (fr.finish (.tuple #[])) (l ++ bot e'))) ->
  LW toLb e (G (Frame.enter Try.prog 56 #[sv] .normal) (fr :: (l ++ bot e)))
theorem Mg.mv {L : La} {sv : Value} {K : Lg L sv} {e e' : K.E} {s' : L.Sg} {w' : World} (m : Mg K.toLb e e' (K.gh e) s' w') : Mv K.toLb e e' s' w' :=
 ⟨m.V, m.Stop, m.bot, m.w, m.s, m.gh, m.tgt, m.fuel, fun b => (m.mine b).trans ⟨fun h => h.1, fun h => ⟨h, fun hs => by
  rcases h with h | h
  ·exact (K.mineA e b h).2.1 hs
  ·have := L.lt (K.inv e) hs; omega⟩⟩⟩
theorem Lg.mv {L : La} {sv : Value} (K : Lg L sv) (e : K.E) (s' : L.Sg) (w' : World) (h1 : (K.w e).heap.size <= w'.heap.size) (h2 : ∀ b, b < (K.w e).heap.size -> ¬ K.mine e b -> ¬ L.sh (K.gh e) b -> w'.heap[b]? = (K.w e).heap[b]?) (h3 : L.I (K.gh e) s' w') : ∃ e', Mv K.toLb e e' s' w' := by
 obtain ⟨e', m⟩ := K.mg e (K.gh e) s' w' (L.refl _) h1 h2 h3 fun b h => .inl h
 exact ⟨e', m.mv⟩
def SCall {L : La} (K : Lb L) (f : FuncId) (args : Array Value) (e : K.E) (Q : Value -> K.E -> Prop) : Prop :=
 ∀ (fr : Frame) (l : List Frame), Bf fr -> (∀ f ∈ l, Bf f) -> (∀ v e', Q v e' -> LW K e' (G (fr.finish v) (l ++ K.bot e'))) -> LW K e (G (Frame.enter Try.prog f args .normal) (fr :: (l ++ K.bot e)))
section
variable {L : La} {K : Lb L} {e : K.E} {g : Goroutine}
theorem SCall.mono {f : FuncId} {args : Array Value} {Q Q' : Value -> K.E -> Prop} (h : SCall K f args e Q) (hQ : ∀ v e', Q v e' -> Q' v e') : SCall K f args e Q' := fun fr l hp hl hk => h fr l hp hl fun v e' hq => hk v e' (hQ v e' hq)
theorem LW.mv {e' : K.E} {s' : L.Sg} {w' : World} (h : Mv K e e' s' w') (hw : LW K e' g) : Walk Try.prog K.main (DR (K.V e)) (K.Stop e) g w' := by
 unfold LW at hw
 rw [h.V, h.Stop, h.w] at hw
 exact hw
variable {b : Frame} {a : Act} {k : List Item} {cs l : List Frame} {ops : Array Oper} {i : Nat} {rest : List Nat} {o : Oper}
theorem Bb {f : FuncId} {fn : Func} {args : Array Operand} {ats : Array TypeId} {Q : Value -> K.E -> Prop} (hc : SCall K f (args.map a.eval) e Q) (ho : ops[i]? = some o) (hw : Region.wanted o (yielded ops a.tmps) = true) (hk : b.kind ≠ .early) (hop : o.op = .call { callee := .value (.func f), args, argTypes := ats })
  (hf : Try.prog.funcs[f]? = some fn) (hname : (fn.name == "runtime.NumGoroutine") = false) (hb : fn.body.isNone = false) (hp : Bf (b.at a (.inRegion ops (i :: rest) :: k))) (hl : ∀ f ∈ l, Bf f)
  (h : ∀ v e', Q v e' -> LW K e' (G (b.at (a.put o.dst v) (.inRegion ops rest :: k)) (l ++ K.bot e'))) :
  LW K e (G (b.at a (.inRegion ops (i :: rest) :: k)) (l ++ K.bot e)) := by
 refine Walk.ctl (g' := G (Frame.enter Try.prog f (args.map a.eval) .normal) (b.at a (.inRegion ops (i :: rest) :: k) :: (l ++ K.bot e))) rfl (fun w => ?_) (hc _ l hp hl ?_)
 ·rw [stepG_enter ho hw hk (run_call_body hop hf hname hb)]
  have : listed Try.prog b.fn a o w = #[] := by unfold listed; rw [events_call_body hop hf hname hb]; exact seen_none Try.prog _
  rw [this]
 ·intro v e' hq
  rw [Frame.finish_at, ho]
  exact h v e' hq
end
section
variable {P : Program} {main : Bool} {V : Nat -> Option Wait} {Stop : Goroutine -> World -> Prop} {b : Frame} {a : Act} {cs : List Frame} {w : World} {fn : Func} {todo : List Item} {c : Frame} {t s : Tmp}
theorem Bh (hn : b.kind = .normal) (hd : a.defers = []) (hf : P.funcs[b.fn]? = some fn) (hr : fn.results = #[.tmp t]) (h : Walk P main (DR V) Stop (G (c.finish (a.tmps.getD t undef)) cs) w) : Walk P main (DR V) Stop (G { b.at a todo with mode := .returning } (c :: cs)) w :=
 Walk.ctl rfl (fun w => stepG_leave hn hd hf (results_tmp hr _ P w) (events_results_tmp hr _ _)) h
theorem Av (hn : b.kind = .normal) (hd : a.defers = []) (hf : P.funcs[b.fn]? = some fn) (hr : fn.results = #[]) (h : Walk P main (DR V) Stop (G (c.finish (.tuple #[])) cs) w) : Walk P main (DR V) Stop (G { b.at a todo with mode := .returning } (c :: cs)) w :=
 Walk.ctl rfl (fun w => stepG_leave hn hd hf (results_none hr _ P w) (events_results_none hr _ _)) h
theorem Kt (hn : b.kind = .normal) (hd : a.defers = []) (hf : P.funcs[b.fn]? = some fn) (hr : fn.results = #[.tmp t, .tmp s]) (h : Walk P main (DR V) Stop (G (c.finish (.tuple #[a.tmps.getD t undef, a.tmps.getD s undef])) cs) w) : Walk P main (DR V) Stop (G { b.at a todo with mode := .returning } (c :: cs)) w :=
 Walk.ctl rfl (fun w => stepG_leave (v := .tuple #[a.tmps.getD t undef, a.tmps.getD s undef]) hn hd hf (by simp [results, hr]) (by simp [results, hr])) h
end
end
section
section
variable {L : La} {sv : Value}
def FzE (K : Lg L sv) (e0 : K.E) : Type := { e : K.E // ∀ b, K.mine e0 b -> K.mine e b /\ (K.w e).heap[b]? = (K.w e0).heap[b]? }
def FzB (K : Lg L sv) (e0 : K.E) : Lb L where
 main := K.main
 E := FzE K e0
 V := fun e => K.V e.1
 Stop := fun e => K.Stop e.1
 bot := fun e => K.bot e.1
 w := fun e => K.w e.1
 s := fun e => K.s e.1
 gh := fun e => K.gh e.1
 tgt := fun e => K.tgt e.1
 fuel := fun e => K.fuel e.1
 mine := fun e b => K.mine e.1 b /\ ¬ K.mine e0 b
def Fz (K : Lg L sv) (e0 : K.E) : Lg L sv where
 toLb := FzB K e0
 inv := fun e => K.inv e.1
 shA := fun e => K.shA e.1
 mineA := fun e b h => K.mineA e.1 b h.1
 newA := fun e => K.newA e.1
 one := K.one
 mg := fun e y' s' w' h0 h1 h2 h3 h4 => by
  have hz : ∀ b, K.mine e0 b -> b < (K.w e.1).heap.size /\ w'.heap[b]? = (K.w e.1).heap[b]? := fun b h => by
   have hm := K.mineA e.1 b (e.2 b h).1
   exact ⟨hm.2.2, h2 b hm.2.2 (fun x => x.2 h) hm.2.1⟩
  have hn : ∀ b, K.mine e0 b -> ¬ L.sh y' b := fun b h hs => by
   have hm := K.mineA e.1 b (e.2 b h).1
   rcases h4 b hs with x | x | x
   ·exact hm.2.1 x
   ·exact x.2 h
   ·have : (K.w e.1).heap.size <= b := x
    have := hm.2.2; omega
  obtain ⟨e', m⟩ := K.mg e.1 y' s' w' h0 h1 (fun b hb hn hs => h2 b hb (fun x => hn x.1) hs) h3 (fun b h => (h4 b h).imp id fun x => x.imp (fun x => x.1) id)
  refine ⟨⟨e', fun b h => ⟨(m.mine b).2 ⟨.inl (e.2 b h).1, hn b h⟩, ?_⟩⟩, m.V, m.Stop, m.bot, m.w, m.s, m.gh, m.tgt, m.fuel, fun b => ?_⟩
  ·rw [m.w]; exact (hz b h).2.trans (e.2 b h).2
  ·show (K.mine e' b /\ ¬ K.mine e0 b) ↔ ((K.mine e.1 b /\ ¬ K.mine e0 b) ∨ ((K.w e.1).heap.size <= b /\ b < w'.heap.size)) /\ ¬ L.sh y' b
   rw [m.mine]
   constructor
   ·rintro ⟨⟨h | h, hs⟩, hn⟩
    ·exact ⟨.inl ⟨h, hn⟩, hs⟩
    ·exact ⟨.inr h, hs⟩
   ·rintro ⟨⟨h, hn⟩ | h, hs⟩
    ·exact ⟨⟨.inl h, hs⟩, hn⟩
    ·exact ⟨⟨.inr h, hs⟩, fun hn => by have := (hz b hn).1; omega⟩
 step := fun e d ht fr l hp hl hk => by
  refine K.step e.1 d ht fr l hp hl fun e' ha => ?_
  refine hk ⟨e', fun b h => ?_⟩ ⟨ha.tgt, ha.fuel, ha.le, ha.size, fun b hb => ⟨⟨(ha.mine b hb.1).1, hb.2⟩, (ha.mine b hb.1).2⟩⟩
  have hm := ha.mine b (e.2 b h).1
  exact ⟨hm.1, hm.2.trans (e.2 b h).2⟩
def fz0 (K : Lg L sv) (e : K.E) : (Fz K e).E := ⟨e, fun _ h => ⟨h, rfl⟩⟩
def Lo (K : Lg L sv) (e e' : K.E) : Prop := ∀ b, K.mine e b -> K.mine e' b /\ (K.w e').heap[b]? = (K.w e).heap[b]?
theorem Cs (K : Lg L sv) {e : K.E} {f : FuncId} {args : Array Value} {Q : Value -> (Fz K e).E -> Prop} (h : SCall (Fz K e).toLb f args (fz0 K e) Q) : SCall K.toLb f args e (fun v e' => ∃ h : Lo K e e', Q v ⟨e', h⟩) := fun fr l hp hl hk =>
 h fr l hp hl fun v e' hq => hk v e'.1 ⟨e'.2, hq⟩
theorem Mv.new {K : Lg L sv} {e e' : K.E} {s' : L.Sg} {w' : World} (m : Mv K.toLb e e' s' w') {b : Nat} (h1 : (K.w e).heap.size <= b) (h2 : b < w'.heap.size) : K.mine e' b := (m.mine b).2 (.inr ⟨h1, h2⟩)
theorem Lg.grow (K : Lg L sv) (e : K.E) {w' : World} (hs : (K.w e).heap.size <= w'.heap.size) (hb : ∀ b, b < (K.w e).heap.size -> w'.heap[b]? = (K.w e).heap[b]?) : ∃ e', Mv K.toLb e e' (K.s e) w' :=
 K.mv e (K.s e) w' hs (fun b h _ _ => hb b h) (L.stable (K.inv e) fun b h => hb b (L.lt (K.inv e) h))
theorem Lg.own (K : Lg L sv) (e : K.E) {w' : World} (hs : (K.w e).heap.size <= w'.heap.size) (hb : ∀ b, b < (K.w e).heap.size -> ¬ K.mine e b -> w'.heap[b]? = (K.w e).heap[b]?) : ∃ e', Mv K.toLb e e' (K.s e) w' :=
 K.mv e (K.s e) w' hs (fun b h hm _ => hb b h hm) (L.stable (K.inv e) fun b h => hb b (L.lt (K.inv e) h) fun hm => (K.mineA e b hm).2.1 h)
theorem Am {b : Frame} {A : Array Value} {todo : List Item} {cs : List Frame} {F : (Nat -> Value) -> Goroutine} (h : G (b.at ⟨A, []⟩ todo) cs = F (fun k => A.getD k undef)) : ∃ u, G (b.at ⟨A, []⟩ todo) cs = F u := ⟨_, h⟩
theorem Bz {P : Program} {main : Bool} {D : World -> World -> Array Event -> Prop} {Stop : Goroutine -> World -> Prop} {b : Frame} {A : Array Value} {todo : List Item} {cs : List Frame} {w : World} {F : (Nat -> Value) -> Goroutine} (h : ∀ u, Walk P main D Stop (F u) w) (e : G (b.at ⟨A, []⟩ todo) cs = F (fun k => A.getD k undef)) : Walk P main D Stop (G (b.at ⟨A, []⟩ todo) cs) w := e ▸ h _
theorem Walk.finish {P : Program} {main : Bool} {D : World -> World -> Array Event -> Prop} {Stop : Goroutine -> World -> Prop} {w : World} {b : Frame} {a : Act} {k : List Item} {cs : List Frame} {ops : Array Oper} {i : Nat} {rest : List Nat} {o : Oper} {v : Value} (ho : ops[i]? = some o)
  (h : Walk P main D Stop (G (b.at (a.put o.dst v) (.inRegion ops rest :: k)) cs) w) : Walk P main D Stop (G ((b.at a (.inRegion ops (i :: rest) :: k)).finish v) cs) w := by
 rw [Frame.finish_at, ho]
 exact h
theorem Dq {K : Lb L} {e e' : K.E} {s' : L.Sg} {w' : World} {fr : Frame} {l : List Frame} (m : Mv K e e' s' w') (h : LW K e' (G fr (l ++ K.bot e'))) : Walk Try.prog K.main (DR (K.V e)) (K.Stop e) (G fr (l ++ K.bot e)) w' := by
 rw [m.bot] at h
 exact LW.mv m h
end
end
section
theorem Cf (t : TypeId) (h : (match Try.prog.underlying t with | some (.struct _) => true | _ => false) = true) : ∃ fs, Try.prog.underlying t = some (.struct fs) := by
 revert h
 cases Try.prog.underlying t with
 | none => simp
 | some d =>
  cases d with
  | struct fs => exact fun _ => ⟨fs, rfl⟩
  | _ => simp
section
variable {P : Program} {w : World}
theorem run_eql_func (t : TypeId) (f : Fn) (x y : Array Value) {a b c} (hu : P.underlying t = some (.func a b c)) : (binOp .eql t (.func f x y) .nilFunc).run P w = .ok (.bool false) w := by
 simp only [binOp]
 simp [Op.equal, Op.maxDepth, Ey (w := w) 9999 t f x y hu]
theorem ev_eql_func (t : TypeId) (f : Fn) (x y : Array Value) (es : Array Event) {a b c} (hu : P.underlying t = some (.func a b c)) : (binOp .eql t (.func f x y) .nilFunc).events P w es = es := by
 simp only [binOp]
 simp [Op.equal, Op.maxDepth, Ey (w := w) 9999 t f x y hu, Km (w := w) 9999 t f x y es hu]
end
section
variable {P : Program} {w : World}
theorem Ga (d : Nat) (t : TypeId) {e} (hu : P.underlying t = some (.slice e)) : (Op.equalIn (d + 1) t (.slice none 0 0) (.slice none 0 0)).run P w = .ok true w := by simp [Op.equalIn, run_underlying hu]
theorem ev_eqIn_nilSlice (d : Nat) (t : TypeId) (es : Array Event) {e} (hu : P.underlying t = some (.slice e)) : (Op.equalIn (d + 1) t (.slice none 0 0) (.slice none 0 0)).events P w es = es := by simp [Op.equalIn, run_underlying hu]
theorem run_eql_nilSlice (t : TypeId) {e} (hu : P.underlying t = some (.slice e)) : (binOp .eql t (.slice none 0 0) (.slice none 0 0)).run P w = .ok (.bool true) w := by
 simp only [binOp]
 simp [Op.equal, Op.maxDepth, Ga (w := w) 9999 t hu]
theorem ev_eql_nilSlice (t : TypeId) (es : Array Event) {e} (hu : P.underlying t = some (.slice e)) : (binOp .eql t (.slice none 0 0) (.slice none 0 0)).events P w es = es := by
 simp only [binOp]
 simp [Op.equal, Op.maxDepth, Ga (w := w) 9999 t hu, ev_eqIn_nilSlice (w := w) 9999 t es hu]
end
theorem Jz {fn : Func} {tmps : Array Value} {t : Tmp} {ty tt : TypeId} {T : Nat} {cells : Array Value} {w : World} {V : Nat -> Option Wait} (hr : fn.results = #[.cell t ty]) (h8 : tmps.getD t undef = .pointer (some ⟨T, 0, none⟩)) (hT : w.heap[T]? = some (.cells cells tt (0, 0)))
  {fs} (hu : Try.prog.underlying ty = some (.struct fs)) (hi : (Try.prog.info? ty).map (·.size) = some cells.size) :
  (results fn tmps).run Try.prog w = .ok (.agg cells) w /\ ∀ e ∈ (results fn tmps).events Try.prog w #[], Im V e := by
 have hl := run_loadVar_row (P := Try.prog) w T tt ty cells (0, 0) _ hT hu rfl hi
 have he := Do (P := Try.prog) w ⟨T, 0, none⟩ ty hu rfl hi
 simp only [Array.getD_eq_getD_getElem?] at h8
 constructor
 ·simp only [results, hr]
  simp [h8, asAddr, hl]
 ·intro e hm
  refine Es (he e ?_)
  simp only [results, hr] at hm
  simpa [h8, asAddr, hl] using hm
theorem Ec {main : Bool} {V : Nat -> Option Wait} {Stop : Goroutine -> World -> Prop} {fr c : Frame} {cs : List Frame} {w : World} {fn : Func} {t : Tmp} {ty tt : TypeId} {T : Nat} {cells : Array Value} (hm : fr.mode = .returning) (hn : fr.kind = .normal) (hd : fr.defers = []) (hf : Try.prog.funcs[fr.fn]? = some fn)
  (hr : fn.results = #[.cell t ty]) (h8 : fr.tmps.getD t undef = .pointer (some ⟨T, 0, none⟩)) (hT : w.heap[T]? = some (.cells cells tt (0, 0))) (hs : (match Try.prog.underlying ty with | some (.struct _) => true | _ => false) = true) (hi : (Try.prog.info? ty).map (·.size) = some cells.size)
  (h : Walk Try.prog main (DR V) Stop (G (c.finish (.agg cells)) cs) w) : Walk Try.prog main (DR V) Stop (G fr (c :: cs)) w := by
 obtain ⟨fs, hu⟩ := Cf ty hs
 exact Ku (fun x => seen Try.prog fr.fn ((results fn fr.tmps).events Try.prog (w.at x) #[])) rfl (fun x => Ju hm hn hd hf (Jz (V := V) (w := w.at x) hr h8 hT hu hi).1)
  (fun x e he => (Jz (V := V) (w := w.at x) hr h8 hT hu hi).2 e (mem_seen he)) h
section
variable {P : Program}
theorem Dz (d : Nat) (t : TypeId) {e} (hu : P.underlying t = some (.slice e)) (a : Addr) (n c : Nat) (w : World) (es : Array Event) : (Op.equalIn (d + 1) t (.slice (some a) n c) (.slice none 0 0)).run P w = .ok false w /\ (Op.equalIn (d + 1) t (.slice (some a) n c) (.slice none 0 0)).events P w es = es := by
 constructor <;> simp [Op.equalIn, run_underlying hu]
theorem Jy (t : TypeId) {e} (hu : P.underlying t = some (.slice e)) (a : Addr) (n c : Nat) (w : World) : (binOp .eql t (.slice (some a) n c) (.slice none 0 0)).run P w = .ok (.bool false) w := by
 simp only [binOp]
 simp [Op.equal, Op.maxDepth, (Dz 9999 t hu a n c w #[]).1]
theorem ev_eql_someSlice (t : TypeId) {e} (hu : P.underlying t = some (.slice e)) (a : Addr) (n c : Nat) (w : World) (es : Array Event) : (binOp .eql t (.slice (some a) n c) (.slice none 0 0)).events P w es = es := by
 simp only [binOp]
 simp [Op.equal, Op.maxDepth, (Dz 9999 t hu a n c w #[]).1, (Dz 9999 t hu a n c w es).2]
theorem run_app0 {t e : TypeId} {ti : TypeInfo} (hu : P.underlying t = some (.slice e)) (hi : P.info? e = some ti) (ty : TypeId) (a : Addr) (x : Option Addr) (c : Nat) (w : World) (es : Array Event) : (Builtin.append_ #[t, t] ty #[.slice (some a) 0 0, .slice x 0 c]).run P w = .ok (.slice (some a) 0 0) w /\ (Builtin.append_ #[t, t] ty #[.slice (some a) 0 0, .slice x 0 c]).events P w es = es := by
 constructor <;> cases x <;> simp [Builtin.append_, run_underlying hu, sizeOf, typeInfo, hi, Builtin.lenOf, Builtin.firstCells, loadCells] <;> rfl
end
section
variable {main : Bool} {V : Nat -> Option Wait}
noncomputable def reg81_0 := rk Try.f81.body 0
noncomputable def reg81_1 := rk Try.f81.body 1
noncomputable def reg81_2 := rk Try.f81.body 2
noncomputable def reg81_3 := rk Try.f81.body 3
theorem z81 : reg81_0.size = 1 /\ reg81_1.size = 2 /\ reg81_2.size = 1 /\ reg81_3.size = 4 := by and_intros <;> kernel_rfl
theorem code81_is : Try.f81.body = some (.seq (.region 0 reg81_0 false) (.seq (.seq (.region 1 reg81_1 false) (.cond (.tmp 4 ) (.seq (.region 2 reg81_2 false) (.ret)) (.skip))) (.seq (.region 3 reg81_3 false) (.ret)))) := by kernel_rfl
theorem Ff : Try.prog.underlying 22 = some (.slice 2) := by kernel_rfl
theorem clone_nil (w : World) : Bn Try.prog main V 81 #[.slice none 0 0] w (.slice none 0 0) w := by
 have hn1 := fun w => run_eql_nilSlice (P := Try.prog) (w := w) 22 Ff
 have hn2 := fun w es => ev_eql_nilSlice (P := Try.prog) (w := w) 22 es Ff
 refine Bg Try.func81 code81_is fun fr cs => ?_
 simp only [Try.ntmps81, ez, Nat.reduceAdd, Nat.reduceSub]
 refine Aa z81 ?_
 exact Bd rfl rfl Try.func81 rfl fun d => ⟨rfl, d, rfl⟩
theorem clone_some (w : World) (a : Addr) (c : Nat) (l : List Int) (h63 : l.length <= 1048576) (hA : ∀ b, w.heap.size <= b -> Ay V b) (hcells : ∀ (j : Nat) (z : Int), l[j]? = some z -> ∃ b off, some a = some ⟨b, off, none⟩ /\ w.cell? ⟨b, off + j, none⟩ = some (.int .i64 z)) :
  CallW Try.prog main V 81 #[.slice (some a) l.length c] w (fun v w' => LsAt w.heap.size (fun b => w.heap.size <= b /\ b < w'.heap.size) v l w' /\ w.heap.size <= w'.heap.size /\ ∀ b, b < w.heap.size -> w'.heap[b]? = w.heap[b]?) := by
 have hi1 := Option.some_get (show (Try.prog.info? 2).isSome = true by kernel_rfl)
 have hn1 := fun w => Jy (P := Try.prog) 22 Ff a l.length c w
 have hn2 := fun w es => ev_eql_someSlice (P := Try.prog) 22 Ff a l.length c w es
 refine Bg Try.func81 code81_is fun fr cs => ?_
 simp only [Try.ntmps81, ez, Nat.reduceAdd, Nat.reduceSub]
 refine Aa z81 ?_
 (refine Walk.oa ?_; try walk_nrm)
 have s1 : (w.alloc (.cells #[] 2)).heap.size = w.heap.size + 1 := by simp
 have o1 : ∀ b, b < w.heap.size -> (w.alloc (.cells #[] 2)).heap[b]? = w.heap[b]? := fun b hb => Ab _ _ hb
 have hown : (w.alloc (.cells #[] 2)).ownsRow w.heap.size 2 1 (.slice (some ⟨w.heap.size, 0, none⟩) 0 0) 0 [] := World.ownsRow_made w #[] 0 (Nat.le_refl _) (by decide) (by simp)
 have hap := hA w.heap.size (Nat.le_refl _)
 have hcells1 : ∀ (j : Nat) (z : Int), l[j]? = some z -> ∃ b off, a = ⟨b, off, none⟩ /\ (w.alloc (.cells #[] 2)).cell? ⟨b, off + j, none⟩ = some (.int .i64 z) := fun j z hj => by
  obtain ⟨b, off, e, h⟩ := hcells j z hj
  exact ⟨b, off, Option.some.inj e, Ag w _ h⟩
 generalize w.alloc (.cells #[] 2) = w1 at *
 generalize hT : w.heap.size = T at *
 cases l with
 | nil =>
  have hz := fun w es => run_app0 Ff hi1.symm 22 ⟨T, 0, none⟩ (some a) c w es
  have hz1 := fun w => (hz w #[]).1
  have hz2 := fun w es => (hz w es).2
  clear hz
  refine Aa z81 ?_
  refine Bd rfl rfl Try.func81 rfl fun d => ⟨⟨some ⟨T, 0, none⟩, 0, rfl, Nat.zero_le _, fun h => absurd rfl h⟩, ?_, o1⟩
  show T <= w1.heap.size
  omega
 | cons z l =>
  obtain ⟨b, off, rfl, _⟩ := hcells1 0 z rfl
  refine Aa z81 ?_
  refine Walk.append (.tmp 5) (.tmp 6) 22 Ao (by rfl) (by decide) rfl T 2 _ (.int .i64 0) 1 8 Ff hi1.symm (by rfl) (by rfl) (by rfl) (by rfl) (by decide) (.slice (some ⟨T, 0, none⟩) 0 0) 0 [] rfl hown ⟨b, off, none⟩ (z :: l).length c ((z :: l).map fun z => .int .i64 z) rfl (by simp) (fun j u hu => ?_) (fun u hu => ?_) (by simp) (by simp only [maxLen]; omega) (by omega) (by omega) (fun g hg => ?_) (fun g cap w' hown' hgr hat hlt => ?_)
  ·rw [List.getElem?_map, Option.map_eq_some_iff] at hu
   obtain ⟨y, hy, rfl⟩ := hu
   obtain ⟨b', off', e, h⟩ := hcells1 j y hy
   obtain ⟨rfl, rfl, _⟩ := Addr.mk.inj e
   rw [Bj]; exact h
  ·obtain ⟨y, _, rfl⟩ := List.mem_map.1 hu
   rfl
  ·simp only [Value.ownBlock, Option.some.injEq] at hg
   rw [<- hg]; exact hap
  ·walk_nrm
   refine Aa z81 ?_
   have hgT : T <= g := by
    rcases hat with h | h
    ·simp only [Value.ownBlock, Option.some.injEq] at h
     omega
    ·omega
   refine Bd rfl rfl Try.func81 rfl fun d => ⟨⟨some ⟨g, 0, none⟩, cap, by simp, h63, fun _ => ⟨?_, fun b' hb' => ?_⟩⟩, ?_, fun b' hb' => ?_⟩
   ·have h := hown'
    simp only [Nat.zero_add, List.nil_append] at h
    exact Aw h fun _ _ => rfl
   ·have hb' : some g = some b' := hb'
    obtain rfl := Option.some.inj hb'
    exact ⟨hgT, hlt⟩
   ·show T <= w'.heap.size
    have := hgr.size; omega
   ·exact (hgr.block b' (by omega) (by simp [Value.ownBlock]; omega)).trans (o1 b' hb')
theorem clone_w (w : World) (sl : Value) (l : List Int) (hl : LsR sl l w) (h63 : l.length <= 1048576) (hA : ∀ b, w.heap.size <= b -> Ay V b) :
  CallW Try.prog main V 81 #[sl] w (fun v w' => LsAt w.heap.size (fun b => w.heap.size <= b /\ b < w'.heap.size) v l w' /\ w.heap.size <= w'.heap.size /\ ∀ b, b < w.heap.size -> w'.heap[b]? = w.heap[b]?) := by
 obtain ⟨a, c, rfl, hc, hn, hcells⟩ := hl
 cases a with
 | none =>
  obtain rfl := hn rfl
  have h0 : l.length = 0 := Nat.le_zero.1 hc
  rw [h0]
  intro fr cs
  refine (clone_nil w fr cs).mono ?_
  rintro g w' ⟨v, ⟨rfl, d, rfl⟩, rfl⟩
  exact ⟨_, ⟨⟨none, 0, by rw [h0], by omega, fun h => absurd (List.eq_nil_of_length_eq_zero h0) h⟩, Nat.le_refl _, fun _ _ => rfl⟩, rfl⟩
 | some a => exact clone_some w a c l h63 hA hcells
end
theorem setRow_self {w : World} {g : Nat} {old cells : Array Value} {tt : TypeId} {fr : Nat × Nat} (h : w.heap[g]? = some (.cells old tt fr)) : (w.setRow g cells).heap[g]? = some (.cells cells tt fr) := setRow_heap w g old cells tt fr h
theorem Aq (w : World) {g b : Nat} (cells : Array Value) (h : b ≠ g) : (w.setRow g cells).heap[b]? = w.heap[b]? := by
 unfold World.setRow
 simp only [Array.getElem?_modify]
 rw [if_neg (Ne.symm h)]
theorem Az (w : World) (g : Nat) (cells : Array Value) : (w.setRow g cells).heap.size = w.heap.size := by
 unfold World.setRow
 simp
end
section
section
variable {main : Bool} {V : Nat -> Option Wait}
theorem Walk.turn {P : Program} {Stop : Goroutine -> World -> Prop} {g g' : Goroutine} {w W : World} {es : Array Event} (hr : g.status = .running) (hs : ∀ d, stepG P main g (w.at d) = .go g' (W.at d) es) (hd : ∀ d, DR V (w.at d) (W.at d) es) (h : Walk P main (DR V) Stop g' W) : Walk P main (DR V) Stop g w :=
 Walk.step hr (fun _ => g') (fun d => W.at d) (fun _ => es) hs hd (fun d => h.back d)
theorem evR_rw {ad : Addr} (hf : Df V ad) : ∀ e ∈ (#[⟨.cell ad, false, true⟩, ⟨.cell ad, true, true⟩] : Array Event), Im V e := by
 intro e he
 simp only [List.mem_toArray, List.mem_cons, List.not_mem_nil, or_false] at he
 rcases he with rfl | rfl
 ·exact Cc _ _
 ·exact Gr _ _ hf
theorem atLoad (b q : Nat) (v : Int) (w : World) (hc : w.cell? ⟨b, q, none⟩ = some (.int .i64 v)) : Bn Try.prog main V 137 #[.pointer (some ⟨b, q, none⟩)] w (.int .i64 v) w := by
 refine Bg Try.func137 rfl fun fr cs => ?_
 simp only [Try.ntmps137, ez, Nat.reduceAdd, Nat.reduceSub]
 refine Ae ?_
 refine Ku (fun _ => #[⟨.cell ⟨b, q, none⟩, false, true⟩]) rfl (fun d => stepG_load_atomic (w := w.at d) rfl (by rfl) (by decide) rfl Try.func138 (by kernel_rfl) (by rfl) (by kernel_rfl) .i64 (by kernel_rfl) rfl hc) (fun d e he => by simp at he; subst he; exact Cc _ _) ?_
 walk_nrm
 refine Ae ?_
 exact Bd rfl rfl Try.func137 rfl fun d => ⟨rfl, d, rfl⟩
theorem atStore (b q : Nat) (u : Value) (v : Int) (w : World) (hc : w.cell? ⟨b, q, none⟩ = some u) (hz : w.frozen? ⟨b, q, none⟩ = false) (hf : Df V ⟨b, q, none⟩) : Bn Try.prog main V 57 #[.pointer (some ⟨b, q, none⟩), .int .i64 v] w (.tuple #[]) (w.setCell ⟨b, q, none⟩ (.int .i64 v)) := by
 refine Bg Try.func57 rfl fun fr cs => ?_
 simp only [Try.ntmps57, ez, Nat.reduceAdd, Nat.reduceSub]
 refine Ae ?_
 refine Walk.turn (W := w.setCell ⟨b, q, none⟩ (.int .i64 v)) rfl (fun d => stepG_store_atomic (w := w.at d) rfl (by rfl) (by decide) rfl Try.func74 (by kernel_rfl) (by rfl) (by kernel_rfl) (by kernel_rfl) rfl rfl hc hz) (fun d => Kx hf hc d _ (fun e he => by simp at he; subst he; exact Gr _ _ hf)) ?_
 walk_nrm
 refine Ae ?_
 exact Iv rfl rfl Try.func57 rfl fun d => ⟨rfl, d, rfl⟩
theorem atCas_hit (b q : Nat) (v x : Int) (w : World) (hc : w.cell? ⟨b, q, none⟩ = some (.int .i64 v)) (hz : w.frozen? ⟨b, q, none⟩ = false) (hf : Df V ⟨b, q, none⟩) : Bn Try.prog main V 75 #[.pointer (some ⟨b, q, none⟩), .int .i64 v, .int .i64 x] w (.bool true) (w.setCell ⟨b, q, none⟩ (.int .i64 x)) := by
 refine Bg Try.func75 rfl fun fr cs => ?_
 simp only [Try.ntmps75, ez, Nat.reduceAdd, Nat.reduceSub]
 refine Ae ?_
 refine Walk.turn (W := w.setCell ⟨b, q, none⟩ (.int .i64 x)) rfl (fun d => stepG_cas_hit (w := w.at d) rfl (by rfl) (by decide) rfl Try.func90 (by kernel_rfl) (by rfl) (by kernel_rfl) .i64 (by kernel_rfl) rfl rfl rfl hc hz) (fun d => Kx hf hc d _ (evR_rw hf)) ?_
 walk_nrm
 refine Ae ?_
 exact Bd rfl rfl Try.func75 rfl fun d => ⟨rfl, d, rfl⟩
theorem atCas_miss (b q : Nat) (v old x : Int) (w : World) (hc : w.cell? ⟨b, q, none⟩ = some (.int .i64 v)) (hz : w.frozen? ⟨b, q, none⟩ = false) (hne : ¬ v = old) : Bn Try.prog main V 75 #[.pointer (some ⟨b, q, none⟩), .int .i64 old, .int .i64 x] w (.bool false) w := by
 refine Bg Try.func75 rfl fun fr cs => ?_
 simp only [Try.ntmps75, ez, Nat.reduceAdd, Nat.reduceSub]
 refine Ae ?_
 refine Ku (fun _ => #[⟨.cell ⟨b, q, none⟩, false, true⟩]) rfl (fun d => stepG_cas_miss (w := w.at d) rfl (by rfl) (by decide) rfl Try.func90 (by kernel_rfl) (by rfl) (by kernel_rfl) .i64 (by kernel_rfl) rfl rfl rfl hc hz hne) (fun d e he => by simp at he; subst he; exact Cc _ _) ?_
 walk_nrm
 refine Ae ?_
 exact Bd rfl rfl Try.func75 rfl fun d => ⟨rfl, d, rfl⟩
end
structure Wd (L : La) where
 on : L.Gh -> Prop
 up : ∀ {y y' : L.Gh}, L.le y y' -> on y -> on y'
 b : Nat
 q : Nat
 get : L.Sg -> Int
 put : L.Sg -> Int -> L.Sg
 ok : Int -> Prop
 sh : ∀ y, on y -> L.sh y b
 rd : ∀ y s w, on y -> L.I y s w -> w.cell? ⟨b, q, none⟩ = some (.int .i64 (get s)) /\ w.frozen? ⟨b, q, none⟩ = false
 wr : ∀ y s w v, on y -> ok v -> L.I y s w -> L.I y (put s v) (w.setCell ⟨b, q, none⟩ (.int .i64 v))
def Wd.p {L : La} (W : Wd L) : Value := .pointer (some ⟨W.b, W.q, none⟩)
noncomputable def reg60_0 := rk Try.f60.body 0
noncomputable def reg60_1 := rk Try.f60.body 1
noncomputable def reg60_2 := rk Try.f60.body 2
theorem z60 : reg60_0.size = 1 /\ reg60_1.size = 2 /\ reg60_2.size = 4 := by and_intros <;> kernel_rfl
theorem code60_is : Try.f60.body = some (.seq (.region 0 reg60_0 false) (.seq (.region 1 reg60_1 false) (.seq (.region 2 reg60_2 false) (.ret)))) := by kernel_rfl
noncomputable def reg46_0 := rk Try.f46.body 0
noncomputable def reg46_1 := rk Try.f46.body 1
noncomputable def reg46_2 := rk Try.f46.body 2
noncomputable def reg46_3 := rk Try.f46.body 3
theorem z46 : reg46_0.size = 1 /\ reg46_1.size = 2 /\ reg46_2.size = 1 /\ reg46_3.size = 6 := by and_intros <;> kernel_rfl
theorem code46_is : Try.f46.body = some (.seq (.region 0 reg46_0 false) (.seq (.seq (.region 1 reg46_1 false) (.cond (.tmp 6 ) (.seq (.region 2 reg46_2 false) (.ret)) (.skip))) (.seq (.region 3 reg46_3 false) (.ret)))) := by kernel_rfl
noncomputable def reg39_0 := rk Try.f39.body 0
noncomputable def reg39_1 := rk Try.f39.body 1
noncomputable def reg39_2 := rk Try.f39.body 2
theorem z39 : reg39_0.size = 2 /\ reg39_1.size = 2 /\ reg39_2.size = 5 := by and_intros <;> kernel_rfl
theorem code39_is : Try.f39.body = some (.seq (.seq (.region 0 reg39_0 false) (.cond (.tmp 7 ) (.ret) (.skip))) (.seq (.region 1 reg39_1 false) (.region 2 reg39_2 false))) := by kernel_rfl
noncomputable def reg58_0 := rk Try.f58.body 0
noncomputable def reg58_1 := rk Try.f58.body 1
noncomputable def reg58_2 := rk Try.f58.body 2
noncomputable def reg58_3 := rk Try.f58.body 3
noncomputable def reg58_4 := rk Try.f58.body 4
theorem z58 : reg58_0.size = 1 /\ reg58_1.size = 2 /\ reg58_2.size = 1 /\ reg58_3.size = 2 /\ reg58_4.size = 7 := by and_intros <;> kernel_rfl
theorem code58_is : Try.f58.body = some (.seq (.region 0 reg58_0 false) (.seq (.seq (.region 1 reg58_1 false) (.cond (.tmp 10 ) (.seq (.region 2 reg58_2 false) (.ret)) (.skip))) (.seq (.region 3 reg58_3 false) (.seq (.region 4 reg58_4 false) (.ret))))) := by kernel_rfl
section
variable {L : La} {sv : Value}
theorem Ov (K : Lg L sv) (e : K.E) (d : L.D) (ht : K.tgt e = (K.s e, .inr d)) : SCall K.toLb 56 #[sv] e (fun _ e' => Aft K.toLb e d e') := fun fr l hp hl hk => K.step e d ht fr l hp hl fun e' ha => hk _ e' ha
theorem As {fr : Frame} {l : List Frame} (hp : Bf fr) (hl : ∀ f ∈ l, Bf f) : ∀ f ∈ fr :: l, Bf f := fun x hx => by
 rcases List.mem_cons.1 hx with rfl | hx
 ·exact hp
 ·exact hl x hx
theorem Wd.put_mv (W : Wd L) (K : Lg L sv) (e : K.E) (v : Int) (hon : W.on (K.gh e)) (hv : W.ok v) : ∃ e', Mv K.toLb e e' (W.put (K.s e) v) ((K.w e).setCell ⟨W.b, W.q, none⟩ (.int .i64 v)) :=
 K.mv e _ _ (Nat.le_of_eq (Ai ..).symm) (fun b _ _ hs => Ac _ _ _ _ fun he : b = W.b => hs (by rw [he]; exact W.sh _ hon)) (W.wr _ _ _ v hon hv (K.inv e))
theorem holds_s (K : Lg L sv) (W : Wd L) (e : K.E) (d : L.D) (hon : W.on (K.gh e)) (ht : K.tgt e = (K.s e, .inr d)) : SCall K.toLb 60 #[sv, W.p] e (fun v e' => Aft K.toLb e d e' /\ v = .int .i64 (W.get (K.s e'))) := by
 intro fr l hp hl hk
 unfold LW Wd.p
 rw [enter_at _ Try.func60 code60_is]
 simp only [Try.ntmps60, ez, Nat.reduceAdd, Nat.reduceSub]
 refine Aa z60 ?_
 refine Bb (K := K.toLb) (e := e) (l := fr :: l) (f := 56) (Q := fun _ e' => Aft K.toLb e d e') ?_ Ao (by rfl) (by decide) rfl Try.func56 (by kernel_rfl) (by rfl) ⟨rfl, rfl, _, Try.func60⟩ (As hp hl) ?_
 ·walk_nrm
  exact Ov K e d ht
 intro v e' ha
 have hc := (W.rd _ _ _ (W.up ha.le hon) (K.inv e')).1
 have hi1 := run_ifaceAtomic
 have hi2 := ev_ifaceAtomic
 unfold LW
 walk_nrm
 refine Aa z60 ?_
 refine Walk.invokeLoad W.b W.q Ao (by rfl) (by decide) rfl rfl ?_
 refine (atLoad W.b W.q _ (K.w e') hc _ _).then ?_
 rintro g' w' ⟨v', ⟨rfl, dd, rfl⟩, rfl⟩
 refine Walk.back ?_ dd
 refine Walk.finish Ao ?_
 walk_nrm
 refine Aa z60 ?_
 exact Bh rfl rfl Try.func60 rfl (hk _ e' ⟨ha, rfl⟩)
theorem word_load (K : Lg L sv) (W : Wd L) (e : K.E) (d : L.D) (hon : W.on (K.gh e)) (ht : K.tgt e = (K.s e, .inr d)) : SCall K.toLb 46 #[W.p, sv] e (fun v e' => Aft K.toLb e d e' /\ v = .int .i64 (W.get (K.s e'))) := by
 intro fr l hp hl hk
 have hh := holds_s K W e d hon ht
 unfold Wd.p at *
 unfold LW
 have hp1 := fun w => Br (P := Try.prog) 93 Ew (some ⟨W.b, W.q, none⟩) w
 have hp2 := fun w es => Cb (P := Try.prog) 93 Ew (some ⟨W.b, W.q, none⟩) w es
 simp only [Option.isNone_some] at hp1
 rw [enter_at _ Try.func46 code46_is]
 simp only [Try.ntmps46, ez, Nat.reduceAdd, Nat.reduceSub]
 refine Aa z46 ?_
 refine Bb (K := K.toLb) (e := e) (l := fr :: l) (f := 60) (Q := fun v e' => Aft K.toLb e d e' /\ v = .int .i64 (W.get (K.s e'))) ?_ Ao (by rfl) (by decide) rfl Try.func60 (by kernel_rfl) (by rfl) ⟨rfl, rfl, _, Try.func46⟩ (As hp hl) ?_
 ·walk_nrm
  exact hh
 rintro v e' ⟨ha, rfl⟩
 unfold LW
 walk_nrm
 refine Aa z46 ?_
 exact Bh rfl rfl Try.func46 rfl (hk _ e' ⟨ha, rfl⟩)
structure Wrote (K : Lg L sv) (e : K.E) (d : L.D) (s : L.Sg) (s' : L.Sg) (e' : K.E) : Prop where
 tgt : K.tgt e' = L.act s d
 fuel : K.fuel e' < K.fuel e
 le : L.le (K.gh e) (K.gh e')
 s : K.s e' = s'
 size : (K.w e).heap.size <= (K.w e').heap.size
 mine : ∀ b, K.mine e b -> K.mine e' b /\ (K.w e').heap[b]? = (K.w e).heap[b]?
theorem Wrote.of {K : Lg L sv} {e e1 e' : K.E} {d : L.D} {s' : L.Sg} {W : Wd L} {v : Int} (hon : W.on (K.gh e)) (ha : Aft K.toLb e d e1) (m : Mv K.toLb e1 e' s' ((K.w e1).setCell ⟨W.b, W.q, none⟩ (.int .i64 v))) : Wrote K e d (K.s e1) s' e' :=
 ⟨m.tgt.trans ha.tgt, by rw [m.fuel]; exact ha.fuel, by rw [m.gh]; exact ha.le, m.s, by rw [m.w, Ai]; exact ha.size, fun b hb => by
  obtain ⟨h1, h2⟩ := ha.mine b hb
  have hne : b ≠ W.b := fun he => (K.mineA e1 b h1).2.1 (by rw [he]; exact W.sh _ (W.up ha.le hon))
  refine ⟨(m.mine b).2 (.inl h1), ?_⟩
  rw [m.w, Ac _ _ _ _ hne]
  exact h2⟩
theorem Wrote.same {K : Lg L sv} {e e1 : K.E} {d : L.D} (ha : Aft K.toLb e d e1) : Wrote K e d (K.s e1) (K.s e1) e1 := ⟨ha.tgt, ha.fuel, ha.le, rfl, ha.size, ha.mine⟩
theorem Mk (K : Lg L sv) (W : Wd L) (e : K.E) (d : L.D) (x : Int) (hx : W.ok x) (hon : W.on (K.gh e)) (ht : K.tgt e = (K.s e, .inr d)) : SCall K.toLb 39 #[W.p, sv, .int .i64 x] e (fun _ e' => ∃ s, Wrote K e d s (W.put s x) e') := by
 intro fr l hp hl hk
 unfold Wd.p
 unfold LW
 have hp1 := fun w => Br (P := Try.prog) 93 Ew (some ⟨W.b, W.q, none⟩) w
 have hp2 := fun w es => Cb (P := Try.prog) 93 Ew (some ⟨W.b, W.q, none⟩) w es
 simp only [Option.isNone_some] at hp1
 rw [enter_at _ Try.func39 code39_is]
 simp only [Try.ntmps39, ez, Nat.reduceAdd, Nat.reduceSub]
 refine Aa z39 ?_
 refine Bb (K := K.toLb) (e := e) (l := fr :: l) (f := 56) (Q := fun _ e' => Aft K.toLb e d e') ?_ Ao (by rfl) (by decide) rfl Try.func56 (by kernel_rfl) (by rfl) ⟨rfl, rfl, _, Try.func39⟩ (As hp hl) ?_
 ·walk_nrm
  exact Ov K e d ht
 intro v e1 ha
 obtain ⟨hc, hz⟩ := W.rd _ _ _ (W.up ha.le hon) (K.inv e1)
 obtain ⟨e', m⟩ := W.put_mv K e1 x (W.up ha.le hon) hx
 unfold LW
 walk_nrm
 refine Aa z39 ?_
 refine Walk.callV (x := .tuple #[]) (W := (K.w e1).setCell ⟨W.b, W.q, none⟩ (.int .i64 x)) ?_ Ao (by rfl) (by decide) rfl Try.func57 (by kernel_rfl) (by rfl) ?_
 ·walk_nrm
  exact atStore W.b W.q _ x (K.w e1) hc hz ((K.shA e1 _ (W.sh _ (W.up ha.le hon))).1 _ rfl)
 walk_nrm
 refine Aa z39 ?_
 exact Av rfl rfl Try.func39 rfl (Dq m (hk _ e' ⟨K.s e1, Wrote.of hon ha m⟩))
theorem word_cas (K : Lg L sv) (W : Wd L) (e : K.E) (d : L.D) (old x : Int) (hx : W.ok x) (hon : W.on (K.gh e)) (ht : K.tgt e = (K.s e, .inr d)) : SCall K.toLb 58 #[W.p, sv, .int .i64 old, .int .i64 x] e (fun v e' => ∃ s, (W.get s = old /\ v = .bool true /\ Wrote K e d s (W.put s x) e') ∨ (W.get s ≠ old /\ v = .bool false /\ Wrote K e d s s e')) := by
 intro fr l hp hl hk
 unfold Wd.p
 unfold LW
 have hp1 := fun w => Br (P := Try.prog) 93 Ew (some ⟨W.b, W.q, none⟩) w
 have hp2 := fun w es => Cb (P := Try.prog) 93 Ew (some ⟨W.b, W.q, none⟩) w es
 simp only [Option.isNone_some] at hp1
 rw [enter_at _ Try.func58 code58_is]
 simp only [Try.ntmps58, ez, Nat.reduceAdd, Nat.reduceSub]
 refine Aa z58 ?_
 refine Bb (K := K.toLb) (e := e) (l := fr :: l) (f := 56) (Q := fun _ e' => Aft K.toLb e d e') ?_ Ao (by rfl) (by decide) rfl Try.func56 (by kernel_rfl) (by rfl) ⟨rfl, rfl, _, Try.func58⟩ (As hp hl) ?_
 ·walk_nrm
  exact Ov K e d ht
 intro v e1 ha
 obtain ⟨hc, hz⟩ := W.rd _ _ _ (W.up ha.le hon) (K.inv e1)
 unfold LW
 walk_nrm
 refine Aa z58 ?_
 by_cases hv : W.get (K.s e1) = old
 ·obtain ⟨e', m⟩ := W.put_mv K e1 x (W.up ha.le hon) hx
  refine Walk.callV (x := .bool true) (W := (K.w e1).setCell ⟨W.b, W.q, none⟩ (.int .i64 x)) ?_ Ao (by rfl) (by decide) rfl Try.func75 (by kernel_rfl) (by rfl) ?_
  ·walk_nrm
   rw [hv] at hc
   exact atCas_hit W.b W.q old x (K.w e1) hc hz ((K.shA e1 _ (W.sh _ (W.up ha.le hon))).1 _ rfl)
  walk_nrm
  refine Aa z58 ?_
  exact Bh rfl rfl Try.func58 rfl (Dq m (hk _ e' ⟨K.s e1, .inl ⟨hv, rfl, Wrote.of hon ha m⟩⟩))
 ·refine Walk.callV (x := .bool false) (W := K.w e1) ?_ Ao (by rfl) (by decide) rfl Try.func75 (by kernel_rfl) (by rfl) ?_
  ·walk_nrm
   exact atCas_miss W.b W.q _ old x (K.w e1) hc hz hv
  walk_nrm
  refine Aa z58 ?_
  exact Bh rfl rfl Try.func58 rfl (hk _ e1 ⟨K.s e1, .inr ⟨hv, rfl, Wrote.same ha⟩⟩)
end
end
end Go.Proofs.Ytjenoiekfkhafaa
