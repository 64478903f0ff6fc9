/- Part 11. -/
import Derived.Test.YtdmpmoggacjgcaaJ3
import Derived.Test.YtdmpmoggacjgcaaJ10
set_option linter.unusedSimpArgs false
set_option maxHeartbeats 8000000
set_option maxRecDepth 100000
namespace Go.Proofs.Ytdmpmoggacjgcaa
open Go.Conc Go.RowKit Go.Relay
open Go.ConcN (upd upd_ne upd_same)
section
structure OpV where
 k : Int
 a : Int
 b : Int
 c : Int
abbrev Ans := Bool × Int
def opVal (o : OpV) : Value := .agg #[.int .i64 o.k, .int .i64 o.a, .int .i64 o.b, .int .i64 o.c]
def ansVal (a : Ans) : Value := .agg #[.bool a.1, .int .i64 a.2, .slice none 0 0]
def ansRow (l : List Ans) : List Value := l.flatMap fun a => [.bool a.1, .int .i64 a.2, .slice none 0 0]
theorem ansRow_snoc (l : List Ans) (a : Ans) : ansRow (l ++ [a]) = ansRow l ++ [.bool a.1, .int .i64 a.2, .slice none 0 0] := by simp [ansRow]
structure La where
 Sg : Type
 D : Type
 enter : Sg → OpV → Sg × (Ans ⊕ D)
 act : Sg → D → Sg × (Ans ⊕ D)
 sh : Nat → Prop
 I : Sg → World → Prop
 stable : ∀ {s : Sg} {w w' : World}, I s w → (∀ b, sh b → w'.heap[b]? = w.heap[b]?) → I s w'
 lt : ∀ {s : Sg} {w : World} {b : Nat}, I s w → sh b → b < w.heap.size
structure Tst (L : La) where
 left : List OpV
 d : Option L.D
 ans : List Ans
def settleO (L : La) : L.Sg → List OpV → List Ans → L.Sg × Tst L
 | s, [], az => (s, ⟨[], none, az⟩)
 | s, o :: l, az => match L.enter s o with
  | (s', .inl a) => settleO L s' l (az ++ [a])
  | (s', .inr d) => (s', ⟨l, some d, az⟩)
def landO (L : La) (r : L.Sg × (Ans ⊕ L.D)) (left : List OpV) (az : List Ans) : L.Sg × Tst L := match r with
 | (s', .inl a) => settleO L s' left (az ++ [a])
 | (s', .inr d) => (s', ⟨left, some d, az⟩)
theorem settleO_cons (L : La) (s : L.Sg) (o : OpV) (l : List OpV) (az : List Ans) : settleO L s (o :: l) az = landO L (L.enter s o) l az := rfl
structure OX (L : La) where
 s : L.Sg
 th : Nat → Tst L
 out : Nat → Option Bool
 cnt : Nat
def putO {L : La} (x : OX L) (i : Nat) (r : L.Sg × Tst L) (c : Nat) : OX L := ⟨r.1, upd x.th i r.2, upd x.out i (match r.2.d with | none => some false | some _ => none), c⟩
def bornO {L : La} (ops : Nat → List OpV) (x : OX L) (i : Nat) : OX L := putO x i (settleO L x.s (ops i) []) x.cnt
def nextO {L : La} (x : OX L) (i : Nat) : OX L := match (x.th i).d with
 | none => { x with cnt := x.cnt + 1 }
 | some d => putO x i (landO L (L.act x.s d) (x.th i).left (x.th i).ans) (x.cnt + 1)
structure OG where
 n : Nat
 w0 : World
 A : Nat
 ops : Nat → List OpV
def RowO (g : OG) (hd : Value) (ans : List Ans) (w : World) : Prop := ∃ ta tc, hd = .slice ta ans.length tc ∧ w.ownsRow g.w0.heap.size 32 3 hd ans.length (ansRow ans)
theorem RowO.same {g : OG} {hd : Value} {ans : List Ans} {w w' : World} (h : RowO g hd ans w) (hb : ∀ b, hd.ownBlock = some b → w'.heap[b]? = w.heap[b]?) : RowO g hd ans w' := by
 obtain ⟨ta, tc, e, hr⟩ := h
 exact ⟨ta, tc, e, row_same hr hb⟩
def AnT (g : OG) (i : Nat) (w w' : World) (hd : Value) : Prop := ∃ arr arr' : Array Value, w.heap[g.A]? = some (.cells arr 29) ∧ w'.heap[g.A]? = some (.cells arr' 29) ∧ arr'.size = arr.size ∧ arr'[i]? = some hd ∧ ∀ j, j ≠ i → arr'[j]? = arr[j]?
structure Tn (L : La) where
 V : Nat → Option Wait
 f : Frame
 fs : List Frame
 w : World
 M : Nat → Prop
 goal : L.Sg × Tst L
def ownT {L : La} (τ : Tn L) (w : World) (b : Nat) : Prop := τ.M b ∨ (τ.w.heap.size ≤ b ∧ b < w.heap.size)
def StopT (L : La) (g : OG) (S : Stile) (i : Nat) (C : Tst L → List Frame → Value → (Nat → Prop) → World → Prop) (τ : Tn L) (g' : Goroutine) (w' : World) : Prop :=
 τ.w.heap.size ≤ w'.heap.size ∧ (∀ b, b < τ.w.heap.size → ¬ τ.M b → ¬ L.sh b → b ≠ g.A → w'.heap[b]? = τ.w.heap[b]?) ∧ L.I τ.goal.1 w' ∧
 ∃ hd, AnT g i τ.w w' hd ∧ RowO g hd τ.goal.2.ans w' ∧ (∀ b, hd.ownBlock = some b → ownT τ w' b) ∧
  ((τ.goal.2.d = none ∧ g' = G (τ.f.finish (.tuple #[])) τ.fs) ∨
   ∃ l, τ.goal.2.d.isSome = true ∧ l ≠ [] ∧ (∀ f ∈ l, Plain f) ∧ C τ.goal.2 l hd (ownT τ w') w' ∧ g' = G (Frame.enter Try.prog 140 #[.pointer (some ⟨S.p i, 0, none⟩)] .normal) (l ++ τ.f :: τ.fs))
theorem StopT.mono {L : La} {g : OG} {S : Stile} {i : Nat} {C C' : Tst L → List Frame → Value → (Nat → Prop) → World → Prop} {τ : Tn L} {g' : Goroutine} {w' : World} (h : StopT L g S i C τ g' w') (hC : ∀ t l hd M w, C t l hd M w → C' t l hd M w) : StopT L g S i C' τ g' w' := by
 obtain ⟨h1, h2, h3, hd, h4, h5, h6, h7⟩ := h
 refine ⟨h1, h2, h3, hd, h4, h5, h6, ?_⟩
 rcases h7 with h | ⟨l, a1, a2, a3, a4, a5⟩
 ·exact .inl h
 ·exact .inr ⟨l, a1, a2, a3, hC _ _ _ _ _ a4, a5⟩
structure Rely (L : La) (g : OG) (i : Nat) (V : Nat → Option Wait) (w : World) (hd : Value) (M : Nat → Prop) : Prop where
 size : g.w0.heap.size ≤ w.heap.size
 old : ∀ b, b < g.w0.heap.size → ¬ L.sh b → b ≠ g.A → w.heap[b]? = g.w0.heap[b]?
 an : ∃ arr : Array Value, w.heap[g.A]? = some (.cells arr 29) ∧ arr[i]? = some hd
 lo : ∀ b, M b → g.w0.heap.size ≤ b ∧ b < w.heap.size
 apart : ∀ b, (b < g.w0.heap.size ∨ M b ∨ w.heap.size ≤ b) → Apart V b
 shlo : ∀ b, L.sh b → b < g.w0.heap.size ∧ b ≠ g.A
 alo : g.A < g.w0.heap.size
 hdo : ∀ b, hd.ownBlock = some b → M b
def Cont (L : La) (g : OG) (S : Stile) (i : Nat) : Nat → Tst L → List Frame → Value → (Nat → Prop) → World → Prop
 | 0 => fun _ _ _ _ _ => True
 | N + 1 => fun t cs hd M w => ∀ (V : Nat → Option Wait) (f : Frame) (fs : List Frame) (w' : World) (s : L.Sg) (c : Frame) (l : List Frame) (d : L.D), w.heap.size ≤ w'.heap.size → (∀ b, M b → w'.heap[b]? = w.heap[b]?) → Rely L g i V w' hd M → L.I s w' → t.d = some d → cs = c :: l →
  Walk Try.prog false (DR V) (StopT L g S i (Cont L g S i N) ⟨V, f, fs, w', M, landO L (L.act s d) t.left t.ans⟩) (G (c.finish (.tuple #[])) (l ++ f :: fs)) w'
section
variable {L : La} {g : OG} {S : Stile} {i : Nat}
theorem Cont.keep {N : Nat} {t : Tst L} {cs : List Frame} {hd : Value} {M : Nat → Prop} {w w1 : World} (h : Cont L g S i N t cs hd M w) (hs : w.heap.size ≤ w1.heap.size) (hb : ∀ b, M b → w1.heap[b]? = w.heap[b]?) : Cont L g S i N t cs hd M w1 := by
 cases N with
 | zero => trivial
 | succ N => exact fun V f fs w' s c l d h1 h2 h3 h4 h5 h6 => h V f fs w' s c l d (Nat.le_trans hs h1) (fun b hM => (h2 b hM).trans (hb b hM)) h3 h4 h5 h6
theorem Cont.less : ∀ {N : Nat} {t : Tst L} {cs : List Frame} {hd : Value} {M : Nat → Prop} {w : World}, Cont L g S i (N + 1) t cs hd M w → Cont L g S i N t cs hd M w
 | 0, _, _, _, _, _, _ => trivial
 | _ + 1, _, _, _, _, _, h => fun V f fs w' s c l d h1 h2 h3 h4 h5 h6 => (h V f fs w' s c l d h1 h2 h3 h4 h5 h6).mono fun _ _ hS => hS.mono fun _ _ _ _ _ => Cont.less
theorem Cont.le {N N' : Nat} (hN : N' ≤ N) {t : Tst L} {cs : List Frame} {hd : Value} {M : Nat → Prop} {w : World} (h : Cont L g S i N t cs hd M w) : Cont L g S i N' t cs hd M w := by
 induction N with
 | zero => rwa [Nat.le_zero.1 hN]
 | succ N ih =>
  by_cases e : N' = N + 1
  ·rw [e]; exact h
  ·exact ih (by omega) h.less
end
end
section
structure Lb (L : La) where
 main : Bool
 E : Type
 V : E → Nat → Option Wait
 Stop : E → Goroutine → World → Prop
 bot : E → List Frame
 w : E → World
 s : E → L.Sg
 tgt : E → L.Sg × (Ans ⊕ L.D)
 fuel : E → Nat
 mine : E → Nat → Prop
def LW {L : La} (K : Lb L) (e : K.E) (g : Goroutine) : Prop := Walk Try.prog K.main (DR (K.V e)) (K.Stop e) g (K.w e)
structure Mv {L : La} (K : Lb L) (e e' : K.E) (s' : L.Sg) (w' : World) : Prop where
 V : K.V e' = K.V e
 Stop : K.Stop e' = K.Stop e
 bot : K.bot e' = K.bot e
 w : K.w e' = w'
 s : K.s e' = s'
 tgt : K.tgt e' = K.tgt e
 fuel : K.fuel e' = K.fuel e
 mine : ∀ b, K.mine e' b ↔ K.mine e b ∨ ((K.w e).heap.size ≤ b ∧ b < w'.heap.size)
structure Aft {L : La} (K : Lb L) (e : K.E) (d : L.D) (e' : K.E) : Prop where
 tgt : K.tgt e' = L.act (K.s e') d
 fuel : K.fuel e' < K.fuel e
 size : (K.w e).heap.size ≤ (K.w e').heap.size
 mine : ∀ b, K.mine e b → K.mine e' b ∧ (K.w e').heap[b]? = (K.w e).heap[b]?
structure Lg (L : La) (sv : Value) extends Lb L where
 inv : ∀ e, L.I (s e) (w e)
 shA : ∀ e b, L.sh b → Apart (V e) b
 mineA : ∀ e b, mine e b → Apart (V e) b ∧ ¬ L.sh b ∧ b < (w e).heap.size
 newA : ∀ e b, (w e).heap.size ≤ b → Apart (V e) b
 mv : ∀ (e : E) (s' : L.Sg) (w' : World), (w e).heap.size ≤ w'.heap.size → (∀ b, b < (w e).heap.size → ¬ mine e b → ¬ L.sh b → w'.heap[b]? = (w e).heap[b]?) → L.I s' w' → ∃ e', Mv toLb e e' s' w'
 step : ∀ (e : E) (d : L.D), tgt e = (s e, .inr d) → ∀ (fr : Frame) (l : List Frame), Plain fr → (∀ f ∈ l, Plain f) → (∀ e', Aft toLb e d e' → LW toLb e' (G (fr.finish (.tuple #[])) (l ++ bot e'))) →
  LW toLb e (G (Frame.enter Try.prog 62 #[sv] .normal) (fr :: (l ++ bot e)))
def SCall {L : La} (K : Lb L) (f : FuncId) (args : Array Value) (e : K.E) (Q : Value → K.E → Prop) : Prop :=
 ∀ (fr : Frame) (l : List Frame), Plain fr → (∀ f ∈ l, Plain f) → (∀ v e', Q v e' → LW K e' (G (fr.finish v) (l ++ K.bot e'))) → LW K e (G (Frame.enter Try.prog f args .normal) (fr :: (l ++ K.bot e)))
section
variable {L : La} {K : Lb L} {e : K.E} {g : Goroutine}
theorem SCall.mono {f : FuncId} {args : Array Value} {Q Q' : Value → K.E → Prop} (h : SCall K f args e Q) (hQ : ∀ v e', Q v e' → Q' v e') : SCall K f args e Q' := fun fr l hp hl hk => h fr l hp hl fun v e' hq => hk v e' (hQ v e' hq)
theorem LW.mv {e' : K.E} {s' : L.Sg} {w' : World} (h : Mv K e e' s' w') (hw : LW K e' g) : Walk Try.prog K.main (DR (K.V e)) (K.Stop e) g w' := by
 unfold LW at hw
 rw [h.V, h.Stop, h.w] at hw
 exact hw
variable {b : Frame} {a : Act} {k : List Item} {cs l : List Frame} {ops : Array Oper} {i : Nat} {rest : List Nat} {o : Oper}
theorem LW.callS {f : FuncId} {fn : Func} {args : Array Operand} {ats : Array TypeId} {Q : Value → K.E → Prop} (hc : SCall K f (args.map a.eval) e Q) (ho : ops[i]? = some o) (hw : Region.wanted o (yielded ops a.tmps) = true) (hk : b.kind ≠ .early) (hop : o.op = .call { callee := .value (.func f), args, argTypes := ats })
  (hf : Try.prog.funcs[f]? = some fn) (hname : (fn.name == "runtime.NumGoroutine") = false) (hb : fn.body.isNone = false) (hp : Plain (b.at a (.inRegion ops (i :: rest) :: k))) (hl : ∀ f ∈ l, Plain f)
  (h : ∀ v e', Q v e' → LW K e' (G (b.at (a.put o.dst v) (.inRegion ops rest :: k)) (l ++ K.bot e'))) :
  LW K e (G (b.at a (.inRegion ops (i :: rest) :: k)) (l ++ K.bot e)) := by
 refine Walk.ctl (g' := G (Frame.enter Try.prog f (args.map a.eval) .normal) (b.at a (.inRegion ops (i :: rest) :: k) :: (l ++ K.bot e))) rfl (fun w => ?_) (hc _ l hp hl ?_)
 ·rw [stepG_enter ho hw hk (run_call_body hop hf hname hb)]
  have : listed Try.prog b.fn a o w = #[] := by unfold listed; rw [events_call_body hop hf hname hb]; exact seen_none Try.prog _
  rw [this]
 ·intro v e' hq
  rw [Frame.finish_at, ho]
  exact h v e' hq
end
section
variable {P : Program} {main : Bool} {V : Nat → Option Wait} {Stop : Goroutine → World → Prop} {b : Frame} {a : Act} {cs : List Frame} {w : World} {fn : Func} {todo : List Item} {c : Frame} {t s : Tmp}
theorem Walk.on1 (hn : b.kind = .normal) (hd : a.defers = []) (hf : P.funcs[b.fn]? = some fn) (hr : fn.results = #[.tmp t]) (h : Walk P main (DR V) Stop (G (c.finish (a.tmps.getD t undef)) cs) w) : Walk P main (DR V) Stop (G { b.at a todo with mode := .returning } (c :: cs)) w :=
 Walk.ctl rfl (fun w => stepG_leave hn hd hf (results_tmp hr _ P w) (events_results_tmp hr _ _)) h
theorem Walk.on0 (hn : b.kind = .normal) (hd : a.defers = []) (hf : P.funcs[b.fn]? = some fn) (hr : fn.results = #[]) (h : Walk P main (DR V) Stop (G (c.finish (.tuple #[])) cs) w) : Walk P main (DR V) Stop (G { b.at a todo with mode := .returning } (c :: cs)) w :=
 Walk.ctl rfl (fun w => stepG_leave hn hd hf (results_none hr _ P w) (events_results_none hr _ _)) h
theorem Walk.on2 (hn : b.kind = .normal) (hd : a.defers = []) (hf : P.funcs[b.fn]? = some fn) (hr : fn.results = #[.tmp t, .tmp s]) (h : Walk P main (DR V) Stop (G (c.finish (.tuple #[a.tmps.getD t undef, a.tmps.getD s undef])) cs) w) : Walk P main (DR V) Stop (G { b.at a todo with mode := .returning } (c :: cs)) w :=
 Walk.ctl rfl (fun w => stepG_leave (v := .tuple #[a.tmps.getD t undef, a.tmps.getD s undef]) hn hd hf (by simp [results, hr]) (by simp [results, hr])) h
end
end
section
structure OSt (L : La) (g : OG) (S : Stile) : Prop where
 n : S.n = g.n
 shlo : ∀ b, L.sh b → b < g.w0.heap.size ∧ b ≠ g.A
 alo : g.A < g.w0.heap.size
 tbs : ¬ L.sh S.tb ∧ S.tb ≠ g.A
 tb : ∀ i, i < g.n → g.w0.cell? ⟨S.tb, i, none⟩ = some (S.F i)
 sch : ∀ (j : Nat) (z : Int), S.sl[j]? = some z → ∃ s so, S.sa = some ⟨s, so, none⟩ ∧ g.w0.cell? ⟨s, so + j, none⟩ = some (.int .i64 z) ∧ ¬ L.sh s ∧ s ≠ g.A
def t0 (L : La) : Tst L := ⟨[], none, []⟩
structure OInv (L : La) (g : OG) (S : Stile) (k : Nat) (o : Nat → Option Role) (x : OX L) (cs : Nat → List Frame) (w : World) (pr : Nat → Option Nat) (hd : Nat → Value) : Prop where
 st : OSt L g S
 kn : k ≤ g.n
 size : g.w0.heap.size ≤ w.heap.size
 base : ∀ b, b < g.w0.heap.size → o b = none
 old : ∀ b, b < g.w0.heap.size → ¬ L.sh b → b ≠ g.A → w.heap[b]? = g.w0.heap[b]?
 prl : ∀ b i, pr b = some i → g.w0.heap.size ≤ b ∧ b < w.heap.size ∧ o b = none
 I : L.I x.s w
 an : ∃ arr : Array Value, w.heap[g.A]? = some (.cells arr 29) ∧ ∀ i, i < g.n → arr[i]? = some (hd i)
 row : ∀ i, i < g.n → RowO g (hd i) (x.th i).ans w
 prow : ∀ i, i < g.n → ∀ b, (hd i).ownBlock = some b → pr b = some i
 cont : ∀ i, i < k → i < g.n → x.out i = none → (x.th i).d.isSome = true ∧ cs i ≠ [] ∧ (∀ f ∈ cs i, Plain f) ∧ Cont L g S i (1048577 - x.cnt) (x.th i) (cs i) (hd i) (fun b => pr b = some i) w
 fresh : ∀ i, k ≤ i → i < g.n → x.th i = t0 L
def invO (L : La) (g : OG) (S : Stile) (k : Nat) (o : Nat → Option Role) (x : OX L) (cs : Nat → List Frame) (w : World) : Prop := ∃ pr hd, OInv L g S k o x cs w pr hd
theorem cell_lt' {w : World} {b i : Nat} {v : Value} (h : w.cell? ⟨b, i, none⟩ = some v) : b < w.heap.size := by
 unfold World.cell? at h
 split at h
 ·rename_i h'; exact (Array.getElem?_eq_some_iff.1 h').1
 ·cases h
section
variable {L : La} {g : OG} {S : Stile} {k : Nat} {o o' : Nat → Option Role} {x : OX L} {cs : Nat → List Frame} {w w' : World} {pr : Nat → Option Nat} {hd : Nat → Value}
theorem OInv.cell (P : OInv L g S k o x cs w pr hd) {b i : Nat} {v : Value} (h : g.w0.cell? ⟨b, i, none⟩ = some v) (hs : ¬ L.sh b) (hA : b ≠ g.A) : w.cell? ⟨b, i, none⟩ = some v :=
 (World.cell?_of_block (a := ⟨b, i, none⟩) (P.old b (cell_lt' h) hs hA)).trans h
theorem invO_keep (h : invO L g S k o x cs w) (K : Keeps o o' w w') : invO L g S k o' x cs w' := by
 obtain ⟨pr, hd, P⟩ := h
 have hb : ∀ b, b < g.w0.heap.size → o' b = none ∧ w'.heap[b]? = w.heap[b]? := fun b h => K.same b (Nat.lt_of_lt_of_le h P.size) (P.base b h)
 have hp : ∀ b i, pr b = some i → o' b = none ∧ w'.heap[b]? = w.heap[b]? := fun b i h => K.same b (P.prl b i h).2.1 (P.prl b i h).2.2
 refine ⟨pr, hd, ⟨P.st, P.kn, Nat.le_trans P.size K.size, fun b h => (hb b h).1, fun b h h1 h2 => (hb b h).2.trans (P.old b h h1 h2), fun b i h => ⟨(P.prl b i h).1, Nat.lt_of_lt_of_le (P.prl b i h).2.1 K.size, (hp b i h).1⟩, L.stable P.I fun b h => (hb b (P.st.shlo b h).1).2, ?_, fun i hi => (P.row i hi).same fun b e => (hp b i (P.prow i hi b e)).2, P.prow, fun i hi hin ho => ?_, P.fresh⟩⟩
 ·obtain ⟨arr, ha, hr⟩ := P.an
  exact ⟨arr, (hb _ P.st.alo).2.trans ha, hr⟩
 ·obtain ⟨h1, h2, h3, h4⟩ := P.cont i hi hin ho
  exact ⟨h1, h2, h3, h4.keep K.size fun b e => (hp b i e).2⟩
theorem OInv.rely (P : OInv L g S k o x cs w pr hd) {V : Nat → Option Wait} {i : Nat} (hi : i < g.n) (hA : ∀ b, o b = none → Apart V b) (hlt : ∀ b r, o b = some r → b < w.heap.size) : Rely L g i V w (hd i) (fun b => pr b = some i) := by
 refine ⟨P.size, P.old, ?_, fun b e => ⟨(P.prl b i e).1, (P.prl b i e).2.1⟩, fun b e => hA b ?_, P.st.shlo, P.st.alo, P.prow i hi⟩
 ·obtain ⟨arr, ha, hr⟩ := P.an
  exact ⟨arr, ha, hr i hi⟩
 ·rcases e with e | e | e
  ·exact P.base b e
  ·exact (P.prl b i e).2.2
  ·cases ho : o b with
   | none => rfl
   | some r => have := hlt b r ho; omega
theorem fin_of_stop {V : Nat → Option Wait} {f : Frame} {fs : List Frame} {i k' cnt' : Nat} {r : L.Sg × Tst L} {g' : Goroutine} (P : OInv L g S k o x cs w pr hd) (hi : i < g.n) (hik : i < k') (hkk : ∀ j, j < k' → j ≠ i → j < k) (hkf : k ≤ k') (hkn : k' ≤ g.n) (hc : x.cnt ≤ cnt')
  (hlt : ∀ b r, o b = some r → b < w.heap.size) (hS : StopT L g S i (Cont L g S i (1048577 - cnt')) ⟨V, f, fs, w, fun b => pr b = some i, r⟩ g' w') : Fin (invO L g S) OX.out S k' o (putO x i r cnt') cs i f fs w g' w' := by
 obtain ⟨hsz, hfr, hI, hd', ⟨arr, arr', ha, ha', hasz, hai, haj⟩, hrow, hdo, hend⟩ := hS
 dsimp only at hsz hfr hI hrow hdo hend ha ha' hasz hai haj
 let pr' : Nat → Option Nat := fun b => if w.heap.size ≤ b ∧ b < w'.heap.size then some i else pr b
 have hMi : (fun b => pr' b = some i) = ownT (⟨V, f, fs, w, fun b => pr b = some i, r⟩ : Tn L) w' := by
  funext b
  refine propext ⟨fun h => ?_, fun h => ?_⟩
  ·by_cases e : w.heap.size ≤ b ∧ b < w'.heap.size
   ·exact .inr e
   ·have h : (if w.heap.size ≤ b ∧ b < w'.heap.size then some i else pr b) = some i := h
    rw [if_neg e] at h
    exact .inl h
  ·show (if w.heap.size ≤ b ∧ b < w'.heap.size then some i else pr b) = some i
   rcases h with h | h
   ·split
    ·rfl
    ·exact h
   ·rw [if_pos h]
 have hMj : ∀ j, j ≠ i → ∀ b, pr' b = some j ↔ pr b = some j := fun j hj b => by
  show (if w.heap.size ≤ b ∧ b < w'.heap.size then some i else pr b) = some j ↔ pr b = some j
  by_cases e : w.heap.size ≤ b ∧ b < w'.heap.size
  ·rw [if_pos e]
   refine ⟨fun h => absurd (Option.some.inj h).symm hj, fun h => ?_⟩
   have := (P.prl b j h).2.1
   omega
  ·rw [if_neg e]
 have hother : ∀ j b, j ≠ i → pr b = some j → w'.heap[b]? = w.heap[b]? := fun j b hj h => by
  have h1 := P.prl b j h
  refine hfr b h1.2.1 (fun e => hj ?_) (fun e => ?_) (fun e => ?_)
  ·rw [h] at e; exact Option.some.inj e
  ·have := (P.st.shlo b e).1; omega
  ·have := P.st.alo; omega
 have hown : ∀ b, ownT (⟨V, f, fs, w, fun b => pr b = some i, r⟩ : Tn L) w' b → g.w0.heap.size ≤ b ∧ b < w'.heap.size ∧ o b = none := fun b h => by
  rcases h with h | h
  ·have := P.prl b i h
   exact ⟨this.1, by omega, this.2.2⟩
  ·refine ⟨Nat.le_trans P.size h.1, h.2, ?_⟩
   cases ho : o b with
   | none => rfl
   | some z => have := hlt b z ho; have h1 : w.heap.size ≤ b := h.1; omega
 have harr : arr.size = arr'.size := hasz.symm
 obtain ⟨arr0, ha0, hr0⟩ := P.an
 rw [ha] at ha0
 have harr0 : arr0 = arr := by cases ha0; rfl
 subst harr0
 have hth : ∀ j, j ≠ i → (putO x i r cnt').th j = x.th j := fun j hj => upd_ne _ _ hj
 have hthi : (putO x i r cnt').th i = r.2 := upd_same _ _ _
 have hinv : ∀ l, (r.2.d.isSome = true → l ≠ [] ∧ (∀ f ∈ l, Plain f) ∧ Cont L g S i (1048577 - cnt') r.2 l hd' (fun b => pr' b = some i) w') → invO L g S k' o (putO x i r cnt') (upd cs i l) w' := fun l hl => by
  refine ⟨pr', upd hd i hd', ⟨P.st, hkn, Nat.le_trans P.size hsz, P.base, fun b hb h1 h2 => (hfr b (Nat.lt_of_lt_of_le hb P.size) (fun e => by have := (P.prl b i e).1; omega) h1 h2).trans (P.old b hb h1 h2), fun b j h => ?_, hI, ⟨arr', ha', fun j hj => ?_⟩, fun j hj => ?_, fun j hj b hb => ?_, fun j hj hjn ho => ?_, fun j hj hjn => ?_⟩⟩
  ·by_cases e : j = i
   ·subst e
    exact hown b (by rw [← hMi]; exact h)
   ·have := P.prl b j ((hMj j e b).1 h)
    exact ⟨this.1, by omega, this.2.2⟩
  ·by_cases e : j = i
   ·subst e; rw [upd_same]; exact hai
   ·rw [upd_ne _ _ e, haj j e]; exact hr0 j hj
  ·by_cases e : j = i
   ·subst e; rw [upd_same, hthi]; exact hrow
   ·rw [upd_ne _ _ e, hth j e]
    exact (P.row j hj).same fun b hb => hother j b e (P.prow j hj b hb)
  ·by_cases e : j = i
   ·subst e
    rw [upd_same] at hb
    have : (fun b => pr' b = some j) b := by rw [hMi]; exact hdo b hb
    exact this
   ·rw [upd_ne _ _ e] at hb
    exact (hMj j e b).2 (P.prow j hj b hb)
  ·by_cases e : j = i
   ·subst e
    rw [hthi, upd_same, upd_same]
    have ho : upd x.out j (match r.2.d with | none => some false | some _ => none) j = none := ho
    rw [upd_same] at ho
    have hs : r.2.d.isSome = true := by
     cases hd : r.2.d with
     | none => rw [hd] at ho; cases ho
     | some d => rfl
    exact ⟨hs, hl hs⟩
   ·have ho : upd x.out i (match r.2.d with | none => some false | some _ => none) j = none := ho
    rw [upd_ne _ _ e] at ho
    rw [hth j e, upd_ne _ _ e, upd_ne _ _ e]
    obtain ⟨h1, h2, h3, h4⟩ := P.cont j (hkk j hj e) hjn ho
    refine ⟨h1, h2, h3, ?_⟩
    have hM : (fun b => pr' b = some j) = (fun b => pr b = some j) := funext fun b => propext (hMj j e b)
    rw [hM]
    refine (h4.le (Nat.sub_le_sub_left hc _)).keep hsz fun b hb => hother j b e hb
  ·have e : j ≠ i := by omega
   rw [hth j e]
   exact P.fresh j (by omega) hjn
 refine ⟨hsz, fun b z hb => hfr b (hlt b z hb) (fun e => by rw [(P.prl b i e).2.2] at hb; cases hb) (fun e => by rw [P.base b (P.st.shlo b e).1] at hb; cases hb) (fun e => by rw [P.base b (e ▸ P.st.alo)] at hb; cases hb), ?_⟩
 have hout : (putO x i r cnt').out i = match r.2.d with | none => some false | some _ => none := upd_same _ _ _
 rcases hend with ⟨h1, rfl⟩ | ⟨l, h1, h2, h3, h4, rfl⟩
 ·refine ⟨[], hinv [] (fun h => by rw [h1] at h; cases h), .inr (.inl ⟨?_, rfl⟩)⟩
  show (putO x i r cnt').out i = some false
  rw [hout, h1]
 ·refine ⟨l, hinv l (fun _ => ⟨h2, h3, by rw [hMi]; exact h4⟩), .inl ⟨?_, rfl⟩⟩
  show (putO x i r cnt').out i = none
  rw [hout]
  cases hd : r.2.d with
  | none => rw [hd] at h1; cases h1
  | some d => rfl
theorem goO {V : Nat → Option Wait} {i : Nat} {c : Frame} {l : List Frame} (f : Frame) (fs : List Frame) (h : invO L g S k o x cs w) (hik : i < k) (hout : x.out i = none) (hcs : cs i = c :: l) (hc : x.cnt < 1048576) (hA : ∀ b, o b = none → Apart V b) (hlt : ∀ b r, o b = some r → b < w.heap.size) :
  Walk Try.prog false (DR V) (Fin (invO L g S) OX.out S k o (nextO x i) cs i f fs w) (G (c.finish (.tuple #[])) (l ++ f :: fs)) w := by
 obtain ⟨pr, hd, P⟩ := h
 have hi : i < g.n := Nat.lt_of_lt_of_le hik P.kn
 obtain ⟨h1, h2, h3, h4⟩ := P.cont i hik hi hout
 obtain ⟨d, hdd⟩ := Option.isSome_iff_exists.1 h1
 rw [show 1048577 - x.cnt = (1048577 - (x.cnt + 1)) + 1 from by omega] at h4
 have hn : nextO x i = putO x i (landO L (L.act x.s d) (x.th i).left (x.th i).ans) (x.cnt + 1) := by
  unfold nextO; rw [hdd]
 rw [hn]
 exact (h4 V f fs w x.s c l d (Nat.le_refl _) (fun _ _ => rfl) (P.rely hi hA hlt) P.I hdd hcs).mono fun g' w' hS => fin_of_stop P hi hik (fun j hj _ => hj) (Nat.le_refl _) P.kn (Nat.le_succ _) hlt hS
theorem invO_shape {i : Nat} (h : invO L g S k o x cs w) (hik : i < k) (hout : x.out i = none) : (∃ c l, cs i = c :: l) ∧ ∀ f ∈ cs i, Plain f := by
 obtain ⟨pr, hd, P⟩ := h
 obtain ⟨h1, h2, h3, h4⟩ := P.cont i hik (Nat.lt_of_lt_of_le hik P.kn) hout
 refine ⟨?_, h3⟩
 cases hc : cs i with
 | nil => exact absurd hc h2
 | cons c l => exact ⟨c, l, rfl⟩
theorem invO_thr {i : Nat} (h : invO L g S k o x cs w) (hi : i < S.n) : w.cell? ⟨S.tb, i, none⟩ = some (S.F i) := by
 obtain ⟨pr, hd, P⟩ := h
 exact P.cell (P.st.tb i (P.st.n ▸ hi)) P.st.tbs.1 P.st.tbs.2
theorem invO_sch {j : Nat} {z : Int} (h : invO L g S k o x cs w) (hz : S.sl[j]? = some z) : ∃ s so, S.sa = some ⟨s, so, none⟩ ∧ w.cell? ⟨s, so + j, none⟩ = some (.int .i64 z) := by
 obtain ⟨pr, hd, P⟩ := h
 obtain ⟨s, so, e, hc, h1, h2⟩ := P.st.sch j z hz
 exact ⟨s, so, e, P.cell hc h1 h2⟩
end
end
section
noncomputable def reg62_0 := rg Try.f62.body [0]
noncomputable def reg62_1 := rg Try.f62.body [1, 0]
theorem z62 : List.range reg62_0.size = [0, 1] ∧ List.range reg62_1.size = [0, 1] := by refine ⟨?_, ?_⟩ <;> kernel_rfl
theorem code62_is : Try.f62.body = some (.seq (.region 0 reg62_0 false) (.cond (.tmp 3 ) (.region 1 reg62_1 false) (.skip))) := by kernel_rfl
theorem undStepper : ∃ ms, Try.prog.underlying 100 = some (.interface ms) := by
 have h : (match Try.prog.underlying 100 with | some (.interface _) => true | _ => false) = true := by kernel_rfl
 revert h
 cases Try.prog.underlying 100 with
 | none => simp
 | some d =>
  cases d with
  | interface fs => exact fun _ => ⟨fs, rfl⟩
  | _ => simp
structure EC (L : La) (g : OG) (S : Stile) (i : Nat) where
 τ : Tn L
 N : Nat
 w : World
 s : L.Sg
 ans : List Ans
 hd : Value
 size : τ.w.heap.size ≤ w.heap.size
 frame : ∀ b, b < τ.w.heap.size → ¬ τ.M b → ¬ L.sh b → b ≠ g.A → w.heap[b]? = τ.w.heap[b]?
 rely : ∃ hd0, Rely L g i τ.V τ.w hd0 τ.M
 an : AnT g i τ.w w hd
 row : RowO g hd ans w
 hdo : ∀ b, hd.ownBlock = some b → ownT τ w b
 inv : L.I s w
structure OC where
 left : List OpV
 ans : List Ans
 hd : Value
 K : Nat → Prop
 wK : World
structure EO (L : La) (g : OG) (S : Stile) (i : Nat) (c : OC) extends EC L g S i where
 tgt : L.Sg × (Ans ⊕ L.D)
 eqA : ans = c.ans
 eqH : hd = c.hd
 goal : τ.goal = landO L tgt c.left ans
 Kown : ∀ b, c.K b → ownT τ w b
 kept : ∀ b, c.K b → w.heap[b]? = c.wK.heap[b]?
 hdK : ∀ b, hd.ownBlock = some b → c.K b
section
variable {L : La} {g : OG} {S : Stile} {i : Nat} {c : OC}
theorem EC.lo (e : EC L g S i) {b : Nat} (h : ownT e.τ e.w b) : g.w0.heap.size ≤ b ∧ b < e.w.heap.size := by
 obtain ⟨hd0, r⟩ := e.rely
 have := e.size
 rcases h with h | h
 ·have := r.lo b h; omega
 ·have := r.size; omega
theorem EC.noA (e : EC L g S i) {b : Nat} (h : ownT e.τ e.w b) : ¬ L.sh b ∧ b ≠ g.A := by
 obtain ⟨hd0, r⟩ := e.rely
 have h1 := e.lo h
 exact ⟨fun h => by have := (r.shlo b h).1; omega, fun h => by have := r.alo; omega⟩
theorem EC.apart (e : EC L g S i) {b : Nat} (h : b < g.w0.heap.size ∨ ownT e.τ e.w b ∨ e.w.heap.size ≤ b) : Apart e.τ.V b := by
 obtain ⟨hd0, r⟩ := e.rely
 have := e.size
 refine r.apart b ?_
 rcases h with h | (h | h) | h
 ·exact .inl h
 ·exact .inr (.inl h)
 ·exact .inr (.inr h.1)
 ·exact .inr (.inr (by omega))
def crewB (L : La) (g : OG) (S : Stile) (i : Nat) (c : OC) : Lb L where
 main := false
 E := EO L g S i c
 V := fun e => e.τ.V
 Stop := fun e => StopT L g S i (Cont L g S i e.N) e.τ
 bot := fun e => e.τ.f :: e.τ.fs
 w := fun e => e.w
 s := fun e => e.s
 tgt := fun e => e.tgt
 fuel := fun e => e.N
 mine := fun e b => ownT e.τ e.w b ∧ ¬ c.K b
theorem EO.mv (e : EO L g S i c) (s' : L.Sg) (w' : World) (hs : e.w.heap.size ≤ w'.heap.size) (hsame : ∀ b, b < e.w.heap.size → ¬ (ownT e.τ e.w b ∧ ¬ c.K b) → ¬ L.sh b → w'.heap[b]? = e.w.heap[b]?) (hI : L.I s' w') : ∃ e' : EO L g S i c, Mv (crewB L g S i c) e e' s' w' := by
 obtain ⟨hd0, r⟩ := e.rely
 have hK : ∀ b, c.K b → w'.heap[b]? = e.w.heap[b]? := fun b h => hsame b (e.lo (e.Kown b h)).2 (fun x => x.2 h) (e.noA (e.Kown b h)).1
 have hA : w'.heap[g.A]? = e.w.heap[g.A]? := hsame _ (by have := r.alo; have := r.size; have := e.size; omega) (fun x => by have := (e.lo x.1).1; have := r.alo; omega) (fun h => (r.shlo _ h).2 rfl)
 have hown : ∀ b, ownT e.τ e.w b → ownT e.τ w' b := fun b h => h.imp id fun h => ⟨h.1, by omega⟩
 refine ⟨{ τ := e.τ, N := e.N, w := w', s := s', ans := e.ans, hd := e.hd, size := Nat.le_trans e.size hs, frame := fun b h1 h2 h3 h4 => (hsame b (Nat.lt_of_lt_of_le h1 e.size) (fun x => ?_) h3).trans (e.frame b h1 h2 h3 h4), rely := e.rely, an := ?_, row := e.row.same fun b h => hK b (e.hdK b h), hdo := fun b h => hown b (e.hdo b h), inv := hI, tgt := e.tgt, eqA := e.eqA, eqH := e.eqH, goal := e.goal, Kown := fun b h => hown b (e.Kown b h), kept := fun b h => (hK b h).trans (e.kept b h), hdK := e.hdK }, ⟨rfl, rfl, rfl, rfl, rfl, rfl, rfl, fun b => ?_⟩⟩
 ·rcases x.1 with h | h
  ·exact h2 h
  ·have := h.1; omega
 ·obtain ⟨arr, arr', h1, h2, h3⟩ := e.an
  exact ⟨arr, arr', h1, hA.trans h2, h3⟩
 ·show (ownT e.τ w' b ∧ ¬ c.K b) ↔ ((ownT e.τ e.w b ∧ ¬ c.K b) ∨ (e.w.heap.size ≤ b ∧ b < w'.heap.size))
  constructor
  ·rintro ⟨h | h, hk⟩
   ·exact .inl ⟨.inl h, hk⟩
   ·by_cases hb : b < e.w.heap.size
    ·exact .inl ⟨.inr ⟨h.1, hb⟩, hk⟩
    ·exact .inr ⟨by omega, h.2⟩
  ·rintro (⟨h, hk⟩ | h)
   ·exact ⟨hown b h, hk⟩
   ·exact ⟨.inr ⟨Nat.le_trans e.size h.1, h.2⟩, fun hk => by have := (e.lo (e.Kown b hk)).2; omega⟩
theorem EO.step (e : EO L g S i c) (d : L.D) (ht : e.tgt = (e.s, .inr d)) (fr : Frame) (l : List Frame) (hp : Plain fr) (hl : ∀ f ∈ l, Plain f) (hk : ∀ e' : EO L g S i c, Aft (crewB L g S i c) e d e' → LW (crewB L g S i c) e' (G (fr.finish (.tuple #[])) (l ++ e'.τ.f :: e'.τ.fs))) :
  LW (crewB L g S i c) e (G (Frame.enter Try.prog 62 #[.iface 160 (.pointer (some ⟨S.p i, 0, none⟩))] .normal) (fr :: (l ++ e.τ.f :: e.τ.fs))) := by
 obtain ⟨ms, hu⟩ := undStepper
 have hn1 := fun w => run_neq_iface (P := Try.prog) (w := w) 100 160 (.pointer (some ⟨S.p i, 0, none⟩)) hu
 have hn2 := fun w es => ev_neq_iface (P := Try.prog) (w := w) 100 160 (.pointer (some ⟨S.p i, 0, none⟩)) es hu
 unfold LW
 show Walk Try.prog false (DR e.τ.V) (StopT L g S i (Cont L g S i e.N) e.τ) _ e.w
 rw [enter_at _ Try.func62 code62_is]
 simp only [Try.ntmps62, ez, Nat.reduceAdd, Nat.reduceSub]
 refine Walk.gz z62 ?_
 refine Walk.invokeStep (S.p i) hoA (by rfl) (by decide) rfl rfl ?_
 generalize hX : Frame.at _ _ _ = X
 have hgoal : e.τ.goal = (e.s, ⟨c.left, some d, e.ans⟩) := by rw [e.goal, ht]; rfl
 obtain ⟨hd0, r⟩ := e.rely
 refine .stop fun dr => ⟨e.size, e.frame, ?_, e.hd, e.an, ?_, e.hdo, .inr ⟨X :: fr :: l, ?_, by simp, ?_, ?_, rfl⟩⟩
 ·rw [hgoal]; exact L.stable e.inv fun _ _ => rfl
 ·rw [hgoal]; exact e.row.same fun _ _ => rfl
 ·rw [hgoal]; rfl
 ·intro x hx
  rcases List.mem_cons.1 hx with rfl | hx
  ·subst hX; exact ⟨rfl, rfl, _, Try.func62⟩
  ·rcases List.mem_cons.1 hx with rfl | hx
   ·exact hp
   ·exact hl x hx
 ·rw [hgoal]
  have hN : ∀ N', e.N = N' → Cont L g S i N' ⟨c.left, some d, e.ans⟩ (X :: fr :: l) e.hd (ownT e.τ (e.w.at dr)) (e.w.at dr) := fun N' hN' => by
   cases N' with
   | zero => trivial
   | succ n =>
    intro V f fs w' s' c1 l' d' h1 h2 h3 h4 h5 h6
    obtain rfl : d = d' := Option.some.inj h5
    obtain ⟨rfl, rfl⟩ := List.cons.inj h6
    rw [← hX, Frame.finish_at]
    repeat (first | (refine Walk.oq ?_; try walk_nrm) | (refine Walk.un ?_; walk_nrm))
    refine Walk.gz z62 ?_
    refine Walk.on0 rfl rfl Try.func62 rfl ?_
    refine hk { τ := ⟨V, f, fs, w', ownT e.τ e.w, landO L (L.act s' d) c.left e.ans⟩, N := n, w := w', s := s', ans := e.ans, hd := e.hd, size := Nat.le_refl _, frame := fun _ _ _ _ _ => rfl, rely := ⟨e.hd, h3⟩, an := ?_, row := e.row.same fun b h => h2 b (e.hdo b h), hdo := fun b h => .inl (e.hdo b h), inv := h4, tgt := L.act s' d, eqA := e.eqA, eqH := e.eqH, goal := rfl, Kown := fun b h => .inl (e.Kown b h), kept := fun b h => (h2 b (e.Kown b h)).trans (e.kept b h), hdK := e.hdK } ⟨rfl, ?_, h1, fun b hb => ⟨⟨.inl hb.1, hb.2⟩, h2 b hb.1⟩⟩
    ·obtain ⟨arr, ha, hb⟩ := h3.an
     exact ⟨arr, arr, ha, ha, rfl, hb, fun _ _ => rfl⟩
    ·show n < e.N
     omega
  exact hN e.N rfl
def crewL (L : La) (g : OG) (S : Stile) (i : Nat) (c : OC) : Lg L (.iface 160 (.pointer (some ⟨S.p i, 0, none⟩))) where
 toLb := crewB L g S i c
 inv := fun e => e.inv
 shA := fun e b h => e.apart (.inl (by obtain ⟨hd0, r⟩ := e.rely; exact (r.shlo b h).1))
 mineA := fun e b h => ⟨e.apart (.inr (.inl h.1)), (e.noA h.1).1, (e.lo h.1).2⟩
 newA := fun e b h => e.apart (.inr (.inr h))
 mv := fun e s' w' h1 h2 h3 => by
  exact EO.mv e s' w' h1 h2 h3
 step := fun e d ht fr l hp hl hk => EO.step e d ht fr l hp hl hk
end
end
section
section
variable {L : La} {sv : Value}
def FzE (K : Lg L sv) (e0 : K.E) : Type := { e : K.E // ∀ b, K.mine e0 b → K.mine e b ∧ (K.w e).heap[b]? = (K.w e0).heap[b]? }
def FzB (K : Lg L sv) (e0 : K.E) : Lb L where
 main := K.main
 E := FzE K e0
 V := fun e => K.V e.1
 Stop := fun e => K.Stop e.1
 bot := fun e => K.bot e.1
 w := fun e => K.w e.1
 s := fun e => K.s e.1
 tgt := fun e => K.tgt e.1
 fuel := fun e => K.fuel e.1
 mine := fun e b => K.mine e.1 b ∧ ¬ K.mine e0 b
def Fz (K : Lg L sv) (e0 : K.E) : Lg L sv where
 toLb := FzB K e0
 inv := fun e => K.inv e.1
 shA := fun e => K.shA e.1
 mineA := fun e b h => K.mineA e.1 b h.1
 newA := fun e => K.newA e.1
 mv := fun e s' w' h1 h2 h3 => by
  have hz : ∀ b, K.mine e0 b → b < (K.w e.1).heap.size ∧ w'.heap[b]? = (K.w e.1).heap[b]? := fun b h => by
   have hm := K.mineA e.1 b (e.2 b h).1
   exact ⟨hm.2.2, h2 b hm.2.2 (fun x => x.2 h) hm.2.1⟩
  obtain ⟨e', m⟩ := K.mv e.1 s' w' h1 (fun b hb hn hs => h2 b hb (fun x => hn x.1) hs) h3
  refine ⟨⟨e', fun b h => ⟨(m.mine b).2 (.inl (e.2 b h).1), ?_⟩⟩, m.V, m.Stop, m.bot, m.w, m.s, m.tgt, m.fuel, fun b => ?_⟩
  ·rw [m.w]; exact (hz b h).2.trans (e.2 b h).2
  ·show (K.mine e' b ∧ ¬ K.mine e0 b) ↔ ((K.mine e.1 b ∧ ¬ K.mine e0 b) ∨ ((K.w e.1).heap.size ≤ b ∧ b < w'.heap.size))
   rw [m.mine]
   constructor
   ·rintro ⟨h | h, hn⟩
    ·exact .inl ⟨h, hn⟩
    ·exact .inr h
   ·rintro (⟨h, hn⟩ | h)
    ·exact ⟨.inl h, hn⟩
    ·exact ⟨.inr h, fun hn => by have := (hz b hn).1; omega⟩
 step := fun e d ht fr l hp hl hk => by
  refine K.step e.1 d ht fr l hp hl fun e' ha => ?_
  refine hk ⟨e', fun b h => ?_⟩ ⟨ha.tgt, ha.fuel, ha.size, fun b hb => ⟨⟨(ha.mine b hb.1).1, hb.2⟩, (ha.mine b hb.1).2⟩⟩
  have hm := ha.mine b (e.2 b h).1
  exact ⟨hm.1, hm.2.trans (e.2 b h).2⟩
def fz0 (K : Lg L sv) (e : K.E) : (Fz K e).E := ⟨e, fun _ h => ⟨h, rfl⟩⟩
def Kept (K : Lg L sv) (e e' : K.E) : Prop := ∀ b, K.mine e b → K.mine e' b ∧ (K.w e').heap[b]? = (K.w e).heap[b]?
theorem SCall.fz (K : Lg L sv) {e : K.E} {f : FuncId} {args : Array Value} {Q : Value → (Fz K e).E → Prop} (h : SCall (Fz K e).toLb f args (fz0 K e) Q) : SCall K.toLb f args e (fun v e' => ∃ h : Kept K e e', Q v ⟨e', h⟩) := fun fr l hp hl hk =>
 h fr l hp hl fun v e' hq => hk v e'.1 ⟨e'.2, hq⟩
theorem Mv.new {K : Lg L sv} {e e' : K.E} {s' : L.Sg} {w' : World} (m : Mv K.toLb e e' s' w') {b : Nat} (h1 : (K.w e).heap.size ≤ b) (h2 : b < w'.heap.size) : K.mine e' b := (m.mine b).2 (.inr ⟨h1, h2⟩)
theorem Lg.grow (K : Lg L sv) (e : K.E) {w' : World} (hs : (K.w e).heap.size ≤ w'.heap.size) (hb : ∀ b, b < (K.w e).heap.size → w'.heap[b]? = (K.w e).heap[b]?) : ∃ e', Mv K.toLb e e' (K.s e) w' :=
 K.mv e (K.s e) w' hs (fun b h _ _ => hb b h) (L.stable (K.inv e) fun b h => hb b (L.lt (K.inv e) h))
theorem Lg.own (K : Lg L sv) (e : K.E) {w' : World} (hs : (K.w e).heap.size ≤ w'.heap.size) (hb : ∀ b, b < (K.w e).heap.size → ¬ K.mine e b → w'.heap[b]? = (K.w e).heap[b]?) : ∃ e', Mv K.toLb e e' (K.s e) w' :=
 K.mv e (K.s e) w' hs (fun b h hm _ => hb b h hm) (L.stable (K.inv e) fun b h => hb b (L.lt (K.inv e) h) fun hm => (K.mineA e b hm).2.1 h)
theorem at_slots {b : Frame} {A : Array Value} {todo : List Item} {cs : List Frame} {F : (Nat → Value) → Goroutine} (h : G (b.at ⟨A, []⟩ todo) cs = F (fun k => A.getD k undef)) : ∃ u, G (b.at ⟨A, []⟩ todo) cs = F u := ⟨_, h⟩
theorem slots_walk {P : Program} {main : Bool} {D : World → World → Array Event → Prop} {Stop : Goroutine → World → Prop} {b : Frame} {A : Array Value} {todo : List Item} {cs : List Frame} {w : World} {F : (Nat → Value) → Goroutine} (h : ∀ u, Walk P main D Stop (F u) w) (e : G (b.at ⟨A, []⟩ todo) cs = F (fun k => A.getD k undef)) : Walk P main D Stop (G (b.at ⟨A, []⟩ todo) cs) w := e ▸ h _
theorem Walk.finish {P : Program} {main : Bool} {D : World → World → Array Event → Prop} {Stop : Goroutine → World → Prop} {w : World} {b : Frame} {a : Act} {k : List Item} {cs : List Frame} {ops : Array Oper} {i : Nat} {rest : List Nat} {o : Oper} {v : Value} (ho : ops[i]? = some o)
  (h : Walk P main D Stop (G (b.at (a.put o.dst v) (.inRegion ops rest :: k)) cs) w) : Walk P main D Stop (G ((b.at a (.inRegion ops (i :: rest) :: k)).finish v) cs) w := by
 rw [Frame.finish_at, ho]
 exact h
theorem LW.to {K : Lb L} {e e' : K.E} {s' : L.Sg} {w' : World} {fr : Frame} {l : List Frame} (m : Mv K e e' s' w') (h : LW K e' (G fr (l ++ K.bot e'))) : Walk Try.prog K.main (DR (K.V e)) (K.Stop e) (G fr (l ++ K.bot e)) w' := by
 rw [m.bot] at h
 exact LW.mv m h
end
end
section
theorem structT (t : TypeId) (h : (match Try.prog.underlying t with | some (.struct _) => true | _ => false) = true) : ∃ fs, Try.prog.underlying t = some (.struct fs) := by
 revert h
 cases Try.prog.underlying t with
 | none => simp
 | some d =>
  cases d with
  | struct fs => exact fun _ => ⟨fs, rfl⟩
  | _ => simp
section
variable {P : Program} {w : World}
theorem run_eql_func (t : TypeId) (f : Fn) (x y : Array Value) {a b c} (hu : P.underlying t = some (.func a b c)) : (binOp .eql t (.func f x y) .nilFunc).run P w = .ok (.bool false) w := by
 simp only [binOp]
 simp [Op.equal, Op.maxDepth, run_eqIn_func (w := w) 9999 t f x y hu]
theorem ev_eql_func (t : TypeId) (f : Fn) (x y : Array Value) (es : Array Event) {a b c} (hu : P.underlying t = some (.func a b c)) : (binOp .eql t (.func f x y) .nilFunc).events P w es = es := by
 simp only [binOp]
 simp [Op.equal, Op.maxDepth, run_eqIn_func (w := w) 9999 t f x y hu, ev_eqIn_func (w := w) 9999 t f x y es hu]
end
section
variable {P : Program} {w : World}
theorem run_eqIn_nilSlice (d : Nat) (t : TypeId) {e} (hu : P.underlying t = some (.slice e)) : (Op.equalIn (d + 1) t (.slice none 0 0) (.slice none 0 0)).run P w = .ok true w := by simp [Op.equalIn, run_underlying hu]
theorem ev_eqIn_nilSlice (d : Nat) (t : TypeId) (es : Array Event) {e} (hu : P.underlying t = some (.slice e)) : (Op.equalIn (d + 1) t (.slice none 0 0) (.slice none 0 0)).events P w es = es := by simp [Op.equalIn, run_underlying hu]
theorem run_eql_nilSlice (t : TypeId) {e} (hu : P.underlying t = some (.slice e)) : (binOp .eql t (.slice none 0 0) (.slice none 0 0)).run P w = .ok (.bool true) w := by
 simp only [binOp]
 simp [Op.equal, Op.maxDepth, run_eqIn_nilSlice (w := w) 9999 t hu]
theorem ev_eql_nilSlice (t : TypeId) (es : Array Event) {e} (hu : P.underlying t = some (.slice e)) : (binOp .eql t (.slice none 0 0) (.slice none 0 0)).events P w es = es := by
 simp only [binOp]
 simp [Op.equal, Op.maxDepth, run_eqIn_nilSlice (w := w) 9999 t hu, ev_eqIn_nilSlice (w := w) 9999 t es hu]
end
theorem results_cell {fn : Func} {tmps : Array Value} {t : Tmp} {ty tt : TypeId} {T : Nat} {cells : Array Value} {w : World} {V : Nat → Option Wait} (hr : fn.results = #[.cell t ty]) (h8 : tmps.getD t undef = .pointer (some ⟨T, 0, none⟩)) (hT : w.heap[T]? = some (.cells cells tt (0, 0)))
  {fs} (hu : Try.prog.underlying ty = some (.struct fs)) (hi : (Try.prog.info? ty).map (·.size) = some cells.size) :
  (results fn tmps).run Try.prog w = .ok (.agg cells) w ∧ ∀ e ∈ (results fn tmps).events Try.prog w #[], EvR V e := by
 have hl := run_loadVar_row (P := Try.prog) w T tt ty cells (0, 0) _ hT hu rfl hi
 have he := events_loadVar_reads (P := Try.prog) w ⟨T, 0, none⟩ ty hu rfl hi
 simp only [Array.getD_eq_getD_getElem?] at h8
 constructor
 ·simp only [results, hr]
  simp [h8, asAddr, hl]
 ·intro e hm
  refine evR_isRead (he e ?_)
  simp only [results, hr] at hm
  simpa [h8, asAddr, hl] using hm
theorem Walk.onCell {main : Bool} {V : Nat → Option Wait} {Stop : Goroutine → World → Prop} {fr c : Frame} {cs : List Frame} {w : World} {fn : Func} {t : Tmp} {ty tt : TypeId} {T : Nat} {cells : Array Value} (hm : fr.mode = .returning) (hn : fr.kind = .normal) (hd : fr.defers = []) (hf : Try.prog.funcs[fr.fn]? = some fn)
  (hr : fn.results = #[.cell t ty]) (h8 : fr.tmps.getD t undef = .pointer (some ⟨T, 0, none⟩)) (hT : w.heap[T]? = some (.cells cells tt (0, 0))) (hs : (match Try.prog.underlying ty with | some (.struct _) => true | _ => false) = true) (hi : (Try.prog.info? ty).map (·.size) = some cells.size)
  (h : Walk Try.prog main (DR V) Stop (G (c.finish (.agg cells)) cs) w) : Walk Try.prog main (DR V) Stop (G fr (c :: cs)) w := by
 obtain ⟨fs, hu⟩ := structT ty hs
 exact Walk.evs (fun x => seen Try.prog fr.fn ((results fn fr.tmps).events Try.prog (w.at x) #[])) rfl (fun x => stepG_leaveF hm hn hd hf (results_cell (V := V) (w := w.at x) hr h8 hT hu hi).1)
  (fun x e he => (results_cell (V := V) (w := w.at x) hr h8 hT hu hi).2 e (mem_seen he)) h
section
variable {main : Bool} {V : Nat → Option Wait}
noncomputable def reg82_0 := rg Try.f82.body [0]
noncomputable def reg82_1 := rg Try.f82.body [1, 0, 0]
noncomputable def reg82_2 := rg Try.f82.body [1, 0, 1, 0, 0]
noncomputable def reg82_3 := rg Try.f82.body [1, 1, 0]
theorem z82 : List.range reg82_0.size = [0] ∧ List.range reg82_1.size = [0, 1] ∧ List.range reg82_2.size = [0] ∧ List.range reg82_3.size = [0, 1, 2, 3] := by refine ⟨?_, ?_, ?_, ?_⟩ <;> kernel_rfl
theorem code82_is : Try.f82.body = some (.seq (.region 0 reg82_0 false) (.seq (.seq (.region 1 reg82_1 false) (.cond (.tmp 4 ) (.seq (.region 2 reg82_2 false) (.ret)) (.skip))) (.seq (.region 3 reg82_3 false) (.ret)))) := by kernel_rfl
theorem clone_nil (w : World) : CallV Try.prog main V 82 #[.slice none 0 0] w (.slice none 0 0) w := by
 have hn1 := fun w => run_eql_nilSlice (P := Try.prog) (w := w) 25 (by kernel_rfl : Try.prog.underlying 25 = some (.slice 2))
 have hn2 := fun w es => ev_eql_nilSlice (P := Try.prog) (w := w) 25 es (by kernel_rfl : Try.prog.underlying 25 = some (.slice 2))
 refine callW_in Try.func82 code82_is fun fr cs => ?_
 simp only [Try.ntmps82, ez, Nat.reduceAdd, Nat.reduceSub]
 refine Walk.gz z82 ?_
 exact Walk.ret1 rfl rfl Try.func82 rfl fun d => ⟨rfl, d, rfl⟩
end
theorem setRow_self {w : World} {g : Nat} {old cells : Array Value} {tt : TypeId} {fr : Nat × Nat} (h : w.heap[g]? = some (.cells old tt fr)) : (w.setRow g cells).heap[g]? = some (.cells cells tt fr) := setRow_heap w g old cells tt fr h
theorem setRow_other (w : World) {g b : Nat} (cells : Array Value) (h : b ≠ g) : (w.setRow g cells).heap[b]? = w.heap[b]? := by
 unfold World.setRow
 simp only [Array.getElem?_modify]
 rw [if_neg (Ne.symm h)]
theorem setRow_size (w : World) (g : Nat) (cells : Array Value) : (w.setRow g cells).heap.size = w.heap.size := by
 unfold World.setRow
 simp
end
end Go.Proofs.Ytdmpmoggacjgcaa
