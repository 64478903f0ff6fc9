/- Part 13. -/
import Derived.Test.YtgfajibjedfkdaaJO3
import Derived.Test.YtgfajibjedfkdaaJO4
import Derived.Test.YtgfajibjedfkdaaJO5
import Derived.Test.YtgfajibjedfkdaaJO6
import Derived.Test.YtgfajibjedfkdaaJO7
import Derived.Test.YtgfajibjedfkdaaJO9
import Derived.Test.YtgfajibjedfkdaaProg
import Derived.KernelRfl
import Derived.Handy
import Derived.Laws.OwnMore
set_option linter.unusedSimpArgs false
set_option linter.unusedVariables false
set_option linter.unusedVariables false
set_option maxHeartbeats 8000000
set_option maxRecDepth 100000
namespace Go.Proofs.Ytgfajibjedfkdaa
open Go.Conc Go.RowKit Go.Relay
open Go.ConcN (upd upd_ne upd_same)
section
def ansA (w1 : World) (a : Ans) (sl : Value) : World := w1.alloc (.cells #[.bool a.ok, .int .i64 a.n, sl] 81)
structure AppO (g : OG) (w1 : World) (a : Ans) (sl : Value) (hd : Value) (z : List (Ans × Value)) (gb gcap : Nat) (w3 : World) : Prop where
  own : w3.ownsRow g.w0.heap.size 81 3 (.slice (some ⟨gb, 0, none⟩) (z.length + 1) gcap) (z.length + 1) (ansRow z ++ [.bool a.ok, .int .i64 a.n, sl])
  grown : (ansA w1 a sl).grownBy w3 hd.ownBlock
  hat : hd.ownBlock = some gb ∨ gb = (ansA w1 a sl).heap.size
  hlt : gb < w3.heap.size
structure ThS (L : La) (g : OG) (i pO pA pI pD acap : Nat) (oa : Option Addr) (oc : Nat) (dv : Value) : Prop where
  hi : i < g.n
  n64 : g.n ≤ 64
  len : (g.ops i).length ≤ 65536
  cO : g.w0.cell? ⟨pO, 0, none⟩ = some (.slice oa (g.ops i).length oc)
  cA : g.w0.cell? ⟨pA, 0, none⟩ = some (.slice (some ⟨g.A, 0, none⟩) g.n acap)
  cI : g.w0.cell? ⟨pI, 0, none⟩ = some (.int .i64 (i : Nat))
  cD : g.w0.cell? ⟨pD, 0, none⟩ = some dv
  nO : ¬ g.sh pO ∧ pO ≠ g.A
  nA : ¬ g.sh pA ∧ pA ≠ g.A
  nI : ¬ g.sh pI ∧ pI ≠ g.A
  nD : ¬ g.sh pD ∧ pD ≠ g.A
  ops : ∀ (j : Nat) (o : OpV), (g.ops i)[j]? = some o → ∃ b off, oa = some ⟨b, off, none⟩ ∧ ¬ g.sh b ∧ b ≠ g.A ∧ g.w0.cell? ⟨b, off + j * 4, none⟩ = some (.int .i64 o.k) ∧ g.w0.cell? ⟨b, off + j * 4 + 1, none⟩ = some (.int .i64 o.a) ∧ g.w0.cell? ⟨b, off + j * 4 + 2, none⟩ = some (.int .i64 o.b) ∧ g.w0.cell? ⟨b, off + j * 4 + 3, none⟩ = some (.int .i64 o.c)
structure ClO (g : OG) (i pA pI pD acap : Nat) (dv hd : Value) (w : World) : Prop where
  hA : w.cell? ⟨pA, 0, none⟩ = some (.slice (some ⟨g.A, 0, none⟩) g.n acap)
  hI : w.cell? ⟨pI, 0, none⟩ = some (.int .i64 (i : Nat))
  hD : w.cell? ⟨pD, 0, none⟩ = some dv
  hH : w.cell? ⟨g.A, i, none⟩ = some hd
  hHz : w.frozen? ⟨g.A, i, none⟩ = false
section
variable {L : La} {g : OG} {S : Stile} {i : Nat}
theorem EC.ro (e : EC L g S i) {b : Nat} (h : b < g.w0.heap.size) (h1 : ¬ g.sh b) (h2 : b ≠ g.A) : e.w.heap[b]? = g.w0.heap[b]? := by
  obtain ⟨hd0, r⟩ := e.rely
  exact (e.frame b (Nat.lt_of_lt_of_le h r.size) (fun hm => by have := (r.lo b hm).1; omega) (fun hs => h1 ((r.shlo b hs).2.2 h)) h2).trans (r.old b h h1 h2)
theorem EC.cell (e : EC L g S i) {b j : Nat} {v : Value} (h : g.w0.cell? ⟨b, j, none⟩ = some v) (h1 : ¬ g.sh b ∧ b ≠ g.A) : e.w.cell? ⟨b, j, none⟩ = some v :=
  (World.cell?_of_block (a := ⟨b, j, none⟩) (e.ro (cell_lt' h) h1.1 h1.2)).trans h
variable {pO pA pI pD acap : Nat} {oa : Option Addr} {oc : Nat} {dv hd : Value}
theorem ThS.cl (T : ThS L g i pO pA pI pD acap oa oc dv) (e : EC L g S i) (h : e.hd = hd) : ClO g i pA pI pD acap dv hd e.w := by
  obtain ⟨arr, arr', h1, h2, h3, h4, h5⟩ := e.an
  exact ⟨e.cell T.cA T.nA, e.cell T.cI T.nI, e.cell T.cD T.nD, (cell_of h2 i).trans (h ▸ h4), frozen_of h2 i⟩
theorem ClO.new {w : World} (h : ClO g i pA pI pD acap dv hd w) (a : Ans) (sl : Value) : ClO g i pA pI pD acap dv hd (ansA w a sl) :=
  ⟨cell_alloc w _ h.hA, cell_alloc w _ h.hI, cell_alloc w _ h.hD, cell_alloc w _ h.hH, frozen_alloc w _ h.hH h.hHz⟩
theorem ThS.app (T : ThS L g i pO pA pI pD acap oa oc dv) (e : EC L g S i) {a : Ans} {sl : Value} {z : List (Ans × Value)} {gb gcap : Nat} {w3 : World} (h : AppO g e.w a sl e.hd z gb gcap w3) (hc : ClO g i pA pI pD acap dv hd (ansA e.w a sl)) : ClO g i pA pI pD acap dv hd w3 := by
  obtain ⟨hd0, r⟩ := e.rely
  have far : ∀ b, b < g.w0.heap.size → some b ≠ e.hd.ownBlock := fun b hb he => by have := (e.lo (e.hdo b he.symm)).1; omega
  have f1 : ∀ {b j : Nat} {v : Value}, b < g.w0.heap.size → (ansA e.w a sl).cell? ⟨b, j, none⟩ = some v → w3.cell? ⟨b, j, none⟩ = some v := fun {b j v} hb hv =>
    (h.grown.cell_far _ (cell_lt _ hv) (far b hb)).trans hv
  exact ⟨f1 (cell_lt' T.cA) hc.hA, f1 (cell_lt' T.cI) hc.hI, f1 (cell_lt' T.cD) hc.hD, f1 r.alo hc.hH, (h.grown.frozen_far _ (cell_lt _ hc.hH) (far _ r.alo)).trans hc.hHz⟩
structure RowZ (g : OG) (P : Nat → Prop) (hd : Value) (z : List (Ans × Value)) (w : World) : Prop where
  sl : ∃ ta tc, hd = .slice ta z.length tc
  own : w.ownsRow g.w0.heap.size 81 3 hd z.length (ansRow z)
  hdo : ∀ b, hd.ownBlock = some b → P b
  ls : ∀ p ∈ z, LsAt g.w0.heap.size P p.2 p.1.l w
theorem RowA.z {g : OG} {P : Nat → Prop} {hd : Value} {ans : List Ans} {w : World} (h : RowA g.w0.heap.size P hd ans w) : ∃ z, z.map Prod.fst = ans ∧ RowZ g P hd z w := by
  obtain ⟨ta, tc, z, h1, h2, h3, h4, h5⟩ := h
  have : z.length = ans.length := by rw [← h1, List.length_map]
  exact ⟨z, h1, ⟨ta, tc, by rw [this]; exact h2⟩, by rw [this]; exact h3, h4, h5⟩
def Ph (L : La) (g : OG) (S : Stile) (i : Nat) (o : OpV) (rest' : List OpV) (X : Nat) (f : Nat → Bool) (u : Nat → Value) (e : EC L g S i) (w' : World) : Prop :=
  (f 10 = false ∧ e.τ.goal = landO L (i : Nat) (L.enter e.s (i : Nat) o) rest' e.ans ∧ e.w.heap[X]? = some (.cells #[.int .i64 o.k, .int .i64 o.a, .int .i64 o.b, .int .i64 o.c] 84) ∧ ∃ d, w' = e.w.at d) ∨
  (f 10 = true ∧ ∃ a sl, u 24 = ansV a sl ∧ LsAt g.w0.heap.size (ownT e.τ e.y e.w) sl a.l e.w ∧ e.τ.goal = settleO L (i : Nat) e.s rest' (e.ans ++ [a]) ∧
    ((f 11 = false ∧ f 12 = false ∧ f 14 = false ∧ ∃ d, w' = e.w.at d) ∨
     (f 11 = true ∧ f 12 = false ∧ f 14 = false ∧ u 25 = .slice (some ⟨e.w.heap.size, 0, none⟩) 1 1 ∧ ∃ d, w' = (ansA e.w a sl).at d) ∨
     (f 11 = true ∧ f 12 = true ∧ ∃ z gb gcap w3, z.map Prod.fst = e.ans ∧ RowZ g (ownT e.τ e.y e.w) e.hd z e.w ∧ AppO g e.w a sl e.hd z gb gcap w3 ∧ u 26 = .slice (some ⟨gb, 0, none⟩) (e.ans.length + 1) gcap ∧
       ((f 14 = false ∧ ∃ d, w' = w3.at d) ∨ (f 14 = true ∧ ∃ d, w' = (w3.setCell ⟨g.A, i, none⟩ (u 26)).at d)))))
variable {o : OpV} {rest' : List OpV} {X : Nat} {f : Nat → Bool} {u : Nat → Value} {e : EC L g S i} {w' : World}
theorem Ph.quiet {j d : Nat} {v : Value} (h : Ph L g S i o rest' X f u e w') (hj : j ≠ 10 ∧ j ≠ 11 ∧ j ≠ 12 ∧ j ≠ 14) (hd : d ≠ 24 ∧ d ≠ 25 ∧ d ≠ 26) : Ph L g S i o rest' X (upd f j true) (upd u d v) e w' := by
  unfold Ph
  rw [upd_ne f true (Ne.symm hj.1), upd_ne f true (Ne.symm hj.2.1), upd_ne f true (Ne.symm hj.2.2.1), upd_ne f true (Ne.symm hj.2.2.2), upd_ne u v (Ne.symm hd.1), upd_ne u v (Ne.symm hd.2.1), upd_ne u v (Ne.symm hd.2.2)]
  exact h
theorem Ph.early (h : Ph L g S i o rest' X f u e w') (h10 : f 10 = false) : w'.heap[X]? = some (.cells #[.int .i64 o.k, .int .i64 o.a, .int .i64 o.b, .int .i64 o.c] 84) := by
  rcases h with ⟨_, _, h, d, rfl⟩ | ⟨h, _⟩
  · exact h
  · rw [h10] at h; cases h
theorem LsAt.far {base : Nat} {P : Nat → Prop} {sl : Value} {l : List Int} {w w' : World} (h : LsAt base P sl l w) (hb : ∀ b cur fr, P b → w.heap[b]? = some (.cells cur 2 fr) → w'.heap[b]? = w.heap[b]?) : LsAt base P sl l w' := by
  obtain ⟨a, c, e, hn, hr⟩ := h
  refine ⟨a, c, e, hn, fun hl => ⟨row_same (hr hl).1 fun b hb' => ?_, (hr hl).2⟩⟩
  rcases (hr hl).1.2 with ⟨h1, _⟩ | ⟨g, cap, cur, h1, _, h3, _⟩
  · rw [h1] at hb'; cases hb'
  · have : g = b := by rw [h1] at hb'; exact Option.some.inj hb'
    subst this
    exact hb _ _ _ ((hr hl).2 _ hb') h3
theorem RowZ.kind {g : OG} {P : Nat → Prop} {hd : Value} {z : List (Ans × Value)} {w : World} (h : RowZ g P hd z w) {b : Nat} (hb : hd.ownBlock = some b) {cur : Array Value} {fr : Nat × Nat} : w.heap[b]? ≠ some (.cells cur 2 fr) := by
  intro hc
  rcases h.own.2 with ⟨h1, _⟩ | ⟨g', cap, cur', h1, _, h3, _⟩
  · rw [h1] at hb; cases hb
  · have : g' = b := by rw [h1] at hb; exact Option.some.inj hb
    subst this
    rw [h3] at hc
    simp at hc
theorem EC.told (e : EC L g S i) {a : Ans} {sl : Value} {z : List (Ans × Value)} {gb gcap : Nat} {w3 : World} (hl : LsAt g.w0.heap.size (ownT e.τ e.y e.w) sl a.l e.w) (hz : z.map Prod.fst = e.ans) (hZ : RowZ g (ownT e.τ e.y e.w) e.hd z e.w) (h : AppO g e.w a sl e.hd z gb gcap w3) : ∃ e' : EC L g S i, e'.τ = e.τ ∧ e'.N = e.N ∧ e'.s = e.s ∧ e'.ans = e.ans ++ [a] ∧ e'.w = w3.setCell ⟨g.A, i, none⟩ (.slice (some ⟨gb, 0, none⟩) (e.ans.length + 1) gcap) := by
  obtain ⟨hd0, r⟩ := e.rely
  obtain ⟨arr, arr', a1, a2, a3, a4, a5⟩ := e.an
  have hzl : z.length = e.ans.length := by rw [← hz, List.length_map]
  have hsz1 : (ansA e.w a sl).heap.size = e.w.heap.size + 1 := by simp [ansA]
  have hs3 := h.grown.size
  have hold : ∀ b, b < e.w.heap.size → some b ≠ e.hd.ownBlock → w3.heap[b]? = e.w.heap[b]? := fun b hb hne => (h.grown.block b (by omega) hne).trans (heap_new_lt _ _ hb)
  have hAo : some g.A ≠ e.hd.ownBlock := fun he => by have := (e.lo (e.hdo _ he.symm)).1; have := r.alo; omega
  have hAl : g.A < e.w.heap.size := by have := r.alo; have := r.size; have := e.size; omega
  have hA3 : w3.heap[g.A]? = some (.cells arr' 79) := (hold _ hAl hAo).trans a2
  have hgo : ownT e.τ e.y e.w gb ∨ e.w.heap.size ≤ gb := by
    rcases h.hat with h | h
    · exact .inl (e.hdo _ h)
    · exact .inr (by omega)
  have hgA : gb ≠ g.A := fun he => by
    rcases hgo with h | h
    · exact (e.noA h).2 he
    · omega
  have hset : ∀ b, b ≠ g.A → (w3.setCell ⟨g.A, i, none⟩ (.slice (some ⟨gb, 0, none⟩) (e.ans.length + 1) gcap)).heap[b]? = w3.heap[b]? := fun b hb => heap_set_other _ _ _ _ hb
  have hil : i < arr'.size := (Array.getElem?_eq_some_iff.1 a4).1
  have hown' : ∀ b, ownT e.τ e.y e.w b → ownT e.τ e.y (w3.setCell ⟨g.A, i, none⟩ (.slice (some ⟨gb, 0, none⟩) (e.ans.length + 1) gcap)) b := fun b hb => ⟨hb.1.imp id fun h => ⟨h.1, by rw [size_set]; omega⟩, hb.2⟩
  have hgn : ¬ L.sh e.y gb := fun hs => by
    rcases hgo with h | h
    · exact h.2 hs
    · have := L.lt e.inv hs; omega
  refine ⟨{ τ := e.τ, N := e.N, w := w3.setCell ⟨g.A, i, none⟩ (.slice (some ⟨gb, 0, none⟩) (e.ans.length + 1) gcap), y := e.y, s := e.s, ans := e.ans ++ [a], hd := .slice (some ⟨gb, 0, none⟩) (e.ans.length + 1) gcap, le := e.le, size := by rw [size_set]; have := e.size; omega, frame := fun b h1 h2 h3 h4 => (hset b h4).trans ((hold b (Nat.lt_of_lt_of_le h1 e.size) fun he => ?_).trans (e.frame b h1 h2 h3 h4)), pub := e.pub, rely := e.rely, an := ⟨arr, arr'.setIfInBounds i (.slice (some ⟨gb, 0, none⟩) (e.ans.length + 1) gcap), a1, heap_set_self _ _ hA3, by simp [a3], by simp [hil], fun j hj => ?_⟩, row := ⟨some ⟨gb, 0, none⟩, gcap, z ++ [(a, sl)], by simp [hz], by simp, ?_, fun b hb => ?_, fun p hp => ?_⟩, inv := L.stable e.inv fun b hb => ?_ }, rfl, rfl, rfl, rfl, rfl⟩
  · rcases (e.hdo b he.symm).1 with h | h
    · exact h2 h
    · have := h.1; omega
  · rw [Array.getElem?_setIfInBounds_ne (Ne.symm hj)]; exact a5 j hj
  · rw [ansRow_snoc, List.length_append, List.length_singleton, ← hzl]
    refine row_same h.own fun b hb => ?_
    rw [hzl]
    refine hset b fun he => ?_
    simp only [Value.ownBlock, Option.some.injEq] at hb
    exact hgA (hb.trans he)
  · simp only [Value.ownBlock, Option.some.injEq] at hb
    subst hb
    refine ⟨?_, hgn⟩
    rcases hgo with hg | hg
    · exact (hown' _ hg).1
    · exact .inr ⟨Nat.le_trans e.size hg, by rw [size_set]; exact h.hlt⟩
  · have hp' : LsAt g.w0.heap.size (ownT e.τ e.y e.w) p.2 p.1.l e.w := by
      rcases List.mem_append.1 hp with hp | hp
      · exact hZ.ls p hp
      · rw [List.mem_singleton.1 hp]; exact hl
    refine (hp'.far fun b cur fr hb hc => ?_).imp hown'
    refine (hset b (e.noA hb).2).trans (hold b (e.lo hb).2 fun he => hZ.kind he.symm hc)
  · have h1 := e.shb hb
    exact (hset b h1.1).trans (hold b (L.lt e.inv hb) fun he => (e.noA (e.hdo b he.symm)).1 hb)
end
end
section
section
variable {L : La} {g : OG} {S : Stile} {i : Nat}
theorem EC.grow (e : EC L g S i) (w' : World) (hs : e.w.heap.size ≤ w'.heap.size) (hb : ∀ b, b < e.w.heap.size → w'.heap[b]? = e.w.heap[b]?) : ∃ e' : EC L g S i, e'.τ = e.τ ∧ e'.N = e.N ∧ e'.s = e.s ∧ e'.ans = e.ans ∧ e'.hd = e.hd ∧ e'.w = w' := by
  obtain ⟨hd0, r⟩ := e.rely
  obtain ⟨arr, arr', a1, a2, a3, a4, a5⟩ := e.an
  have hA : g.A < e.w.heap.size := by have := r.alo; have := r.size; have := e.size; omega
  exact ⟨{ τ := e.τ, N := e.N, w := w', y := e.y, s := e.s, ans := e.ans, hd := e.hd, le := e.le, size := Nat.le_trans e.size hs, frame := fun b h1 h2 h3 h4 => (hb b (Nat.lt_of_lt_of_le h1 e.size)).trans (e.frame b h1 h2 h3 h4), pub := e.pub, rely := e.rely, an := ⟨arr, arr', a1, (hb _ hA).trans a2, a3, a4, a5⟩, row := (e.row.same fun b h => hb b (e.lo h).2).imp fun b h => ⟨h.1.imp id fun h => ⟨h.1, by omega⟩, h.2⟩, inv := L.stable e.inv fun b h => hb b (L.lt e.inv h) }, rfl, rfl, rfl, rfl, rfl, rfl⟩
variable {pO pA pI pD acap : Nat} {oa : Option Addr} {oc : Nat} {fdo : FuncId} {first cap : Array Value}
end
end
def thrO (N i : Nat) : Value := .func (.func 109) #[] #[.pointer (some ⟨N + 5 + 2 * i, 0, none⟩), .pointer (some ⟨N + 2, 0, none⟩), .pointer (some ⟨N + 4 + 2 * i, 0, none⟩), .pointer (some ⟨N, 0, none⟩)]
structure MkO (N n : Nat) (dv : Value) (oa : Nat → Option Addr) (ln oc : Nat → Nat) (w0 w : World) (i : Nat) : Prop where
  size : w.heap.size = N + 4 + 2 * i
  old : ∀ b, b < N → w.heap[b]? = w0.heap[b]?
  cD : w.heap[N]? = some (.cells #[dv] 119)
  cN : w.heap[N + 1]? = some (.cells (madeCells #[.slice none 0 0] n) 79)
  cA : w.heap[N + 2]? = some (.cells #[.slice (some ⟨N + 1, 0, none⟩) n n] 61)
  cF : ∃ arr : Array Value, w.heap[N + 3]? = some (.cells arr 153) ∧ arr.size = n ∧ ∀ j, j < i → arr[j]? = some (thrO N j)
  cI : ∀ j, j < i → w.heap[N + 4 + 2 * j]? = some (.cells #[.int .i64 (j : Nat)] 3)
  cO : ∀ j, j < i → w.heap[N + 5 + 2 * j]? = some (.cells #[.slice (oa j) (min (ln j) 65536) (oc j)] 73)
theorem MkO.at {N n : Nat} {dv : Value} {oa : Nat → Option Addr} {ln oc : Nat → Nat} {w0 w : World} {i : Nat} (h : MkO N n dv oa ln oc w0 w i) (d : Nat) : MkO N n dv oa ln oc w0 (w.at d) i := ⟨h.size, h.old, h.cD, h.cN, h.cA, h.cF, h.cI, h.cO⟩
section
section
variable {main : Bool} {V : Nat → Option Wait}
structure OpsIn (tb toff n : Nat) (oa : Nat → Option Addr) (ln oc : Nat → Nat) (ops : Nat → List OpV) (w : World) : Prop where
  hd : ∀ i, i < n → w.cell? ⟨tb, toff + i, none⟩ = some (.slice (oa i) (ln i) (oc i))
  cap : ∀ i, i < n → ln i ≤ oc i
  ad : ∀ i, i < n → (oa i = none ∧ oc i = 0) ∨ ∃ p, oa i = some p
  len : ∀ i, i < n → (ops i).length = min (ln i) 65536
  ops : ∀ i, i < n → ∀ (j : Nat) (o : OpV), (ops i)[j]? = some o → ∃ b off, oa i = some ⟨b, off, none⟩ ∧ w.cell? ⟨b, off + j * 4, none⟩ = some (.int .i64 o.k) ∧ w.cell? ⟨b, off + j * 4 + 1, none⟩ = some (.int .i64 o.a) ∧ w.cell? ⟨b, off + j * 4 + 2, none⟩ = some (.int .i64 o.b) ∧ w.cell? ⟨b, off + j * 4 + 3, none⟩ = some (.int .i64 o.c)
end
end
section
structure Chg (S : Nat → Prop) (w w' : World) : Prop where
  size : w.heap.size ≤ w'.heap.size
  same : ∀ b, b < w.heap.size → ¬ S b → w'.heap[b]? = w.heap[b]?
section
variable {S S' : Nat → Prop} {w w' w1 w2 : World}
theorem Chg.refl : Chg S w w := ⟨Nat.le_refl _, fun _ _ _ => rfl⟩
theorem Chg.at (h : Chg S w w') (d : Nat) : Chg S w (w'.at d) := ⟨h.size, h.same⟩
theorem Chg.mono (h : Chg S w w') (hS : ∀ b, b < w.heap.size → S b → S' b) : Chg S' w w' := ⟨h.size, fun b hb hn => h.same b hb fun e => hn (hS b hb e)⟩
theorem Chg.trans (h1 : Chg S w w1) (h2 : Chg S' w1 w2) (hS : ∀ b, b < w.heap.size → S' b → S b) : Chg S w w2 :=
  ⟨Nat.le_trans h1.size h2.size, fun b hb hn => (h2.same b (Nat.lt_of_lt_of_le hb h1.size) fun e => hn (hS b hb e)).trans (h1.same b hb hn)⟩
theorem Chg.set {b i : Nat} {v : Value} (hb : S b) : Chg S w (w.setCell ⟨b, i, none⟩ v) := ⟨Nat.le_of_eq (size_set ..).symm, fun c _ hn => heap_set_other _ _ _ _ (fun e => hn (by rw [e]; exact hb))⟩
theorem Chg.alloc {o : Obj} : Chg S w (w.alloc o) := ⟨by simp, fun b hb _ => heap_new_lt _ _ hb⟩
theorem Chg.grown {row : Option Nat} (h : w.grownBy w' row) (hr : ∀ g, row = some g → S g) : Chg S w w' := ⟨h.size, fun b hb hn => h.block b hb fun e => hn (hr b e.symm)⟩
end
theorem row_at {w : World} {base : Nat} {e : TypeId} {size m tc n : Nat} {ta : Option Addr} {xs : List Value} (h : w.ownsRow base e size (.slice ta m tc) n xs) {j : Nat} {x : Value} (hx : xs[j]? = some x) : ∃ g, ta = some ⟨g, 0, none⟩ ∧ base ≤ g ∧ g < w.heap.size ∧ w.cell? ⟨g, j, none⟩ = some x := by
  obtain ⟨hl, h⟩ := h
  have hj := (List.getElem?_eq_some_iff.1 hx).1
  rcases h with ⟨_, rfl⟩ | ⟨g, cap, cur, e, h1, h2, h3, _, h5, h6⟩
  · omega
  · injection e with e1 e2 e3
    refine ⟨g, e1, h1, (Array.getElem?_eq_some_iff.1 h2).1, (cell_of h2 j).trans ?_⟩
    rw [← h6, List.getElem?_take, if_pos (by omega)] at hx
    simpa using hx
def NumA (a : Option Addr) (l : List Int) (w : World) : Prop := ∀ (i : Nat) (x : Int), l[i]? = some x → ∃ b o, a = some ⟨b, o, none⟩ ∧ w.cell? ⟨b, o + i, none⟩ = some (.int .i64 x)
theorem numA_of {w : World} {base : Nat} {e : TypeId} {ta : Option Addr} {m tc : Nat} {l : List Int} (h : w.ownsRow base e 1 (.slice ta m tc) m (l.map (.int .i64))) : NumA ta l w := fun i x hx => by
  obtain ⟨g, e, _, _, h0⟩ := row_at h (j := i) (x := .int .i64 x) (by simp [hx])
  exact ⟨g, 0, e, by rw [Nat.zero_add]; exact h0⟩
theorem numA_nil (a : Option Addr) (w : World) : NumA a [] w := fun i x hx => (by simp at hx)
theorem LsAt.num {base : Nat} {P : Nat → Prop} {sl : Value} {l : List Int} {w : World} (h : LsAt base P sl l w) : ∃ la lc, sl = .slice la l.length lc ∧ NumA la l w ∧ l.length ≤ 1048576 := by
  obtain ⟨a, c, e, hn, hr⟩ := h
  refine ⟨a, c, e, ?_, hn⟩
  by_cases hl : l = []
  · subst hl; exact numA_nil _ _
  · have h1 := (hr hl).1
    rw [e] at h1
    exact numA_of h1
theorem OpsIn.old {tb toff n : Nat} {oa : Nat → Option Addr} {ln oc : Nat → Nat} {ops : Nat → List OpV} {w w' : World} (I : OpsIn tb toff n oa ln oc ops w) (h : ∀ b, b < w.heap.size → w'.heap[b]? = w.heap[b]?) : OpsIn tb toff n oa ln oc ops w' := by
  have hc : ∀ {b j : Nat} {v : Value}, w.cell? ⟨b, j, none⟩ = some v → w'.cell? ⟨b, j, none⟩ = some v := fun {b j v} e => (World.cell?_of_block (a := ⟨b, j, none⟩) (h b (cell_lt' e))).trans e
  exact ⟨fun i hi => hc (I.hd i hi), I.cap, I.ad, I.len, fun i hi j o ho => by
    obtain ⟨b, off, e, c0, c1, c2, c3⟩ := I.ops i hi j o ho
    exact ⟨b, off, e, hc c0, hc c1, hc c2, hc c3⟩⟩
end
section
def NumB (w : World) (B : Nat) (xs : List Int) : Prop := w.heap[B]? = some (.cells (xs.map fun z => Value.int .i64 z).toArray 2)
theorem NumB.cell {w : World} {B : Nat} {xs : List Int} (h : NumB w B xs) {j : Nat} {z : Int} (hj : xs[j]? = some z) : w.cell? ⟨B, j, none⟩ = some (.int .i64 z) := by
  refine (cell_of h j).trans ?_
  simp [hj]
theorem NumB.frozen {w : World} {B : Nat} {xs : List Int} (h : NumB w B xs) (j : Nat) : w.frozen? ⟨B, j, none⟩ = false := frozen_of h j
theorem NumB.set {w : World} {B : Nat} {xs : List Int} (h : NumB w B xs) (j : Nat) (z : Int) : NumB (w.setCell ⟨B, j, none⟩ (.int .i64 z)) B (xs.set j z) := by
  unfold NumB
  rw [heap_set_self _ _ h]
  simp [List.map_set]
theorem NumB.same {w w' : World} {B : Nat} {xs : List Int} (h : NumB w B xs) (hb : w'.heap[B]? = w.heap[B]?) : NumB w' B xs := hb.trans h
theorem NumB.lt {w : World} {B : Nat} {xs : List Int} (h : NumB w B xs) : B < w.heap.size := (Array.getElem?_eq_some_iff.1 h).1
theorem NumB.row {w : World} {B : Nat} {xs : List Int} (h : NumB w B xs) {base : Nat} (hb : base ≤ B) (hn : xs.length ≤ maxLen) : w.ownsRow base 2 1 (.slice (some ⟨B, 0, none⟩) xs.length xs.length) xs.length (xs.map fun z => .int .i64 z) :=
  ⟨by simp, .inr ⟨B, xs.length, _, rfl, hb, h, Nat.le_refl _, hn, by simp, by simpa using List.take_of_length_le (by simp)⟩⟩
def GatL {L : La} {sv : Value} (K : Lg L sv) (e : K.E) (sl : Value) (ls : List Int) : Prop := (∃ a c, sl = .slice a ls.length c) ∧ (K.w e).ownsRow 0 2 1 sl ls.length (ls.map fun z => .int .i64 z) ∧ ∀ b, sl.ownBlock = some b → K.mine e b
theorem GatL.ne {L : La} {sv : Value} {K : Lg L sv} {e : K.E} {sl : Value} {ls : List Int} (h : GatL K e sl ls) {R : Nat} {arr : Array Value} (hR : (K.w e).heap[R]? = some (.cells arr 81)) : ∀ b, sl.ownBlock = some b → b ≠ R := fun b hb e' => by
  subst e'
  rcases h.2.1.2 with ⟨e1, _⟩ | ⟨g, cap, cur, e1, _, h2, _⟩
  · rw [e1] at hb; cases hb
  · rw [e1] at hb
    cases hb
    rw [hR] at h2
    cases h2
theorem GatL.keep {L : La} {sv : Value} {K : Lg L sv} {e e' : K.E} {sl : Value} {ls : List Int} (h : GatL K e sl ls) (hm : ∀ b, K.mine e b → K.mine e' b) (hb : ∀ b, K.mine e b → sl.ownBlock = some b → (K.w e').heap[b]? = (K.w e).heap[b]?) : GatL K e' sl ls :=
  ⟨h.1, row_same h.2.1 fun b hb' => hb b (h.2.2 b hb') hb', fun b hb' => hm b (h.2.2 b hb')⟩
theorem GatL.nil {L : La} {sv : Value} (K : Lg L sv) (e : K.E) : GatL K e (.slice none 0 0) [] := ⟨⟨_, _, rfl⟩, ⟨rfl, .inl ⟨rfl, rfl⟩⟩, fun b h => by simp [Value.ownBlock] at h⟩
section
variable {P : Program} {t e : TypeId} {ti : TypeInfo}
theorem run_from (hu : P.underlying t = some (.slice e)) (hi : P.info? e = some ti) (hz : ti.size = 1) (b o p y cap : Nat) (hc : p + y ≤ cap) : ∃ a' : Option Addr, (0 < y → a' = some ⟨b, o + p, none⟩) ∧ ∀ (w : World) (es : Array Event), (Instr.sliceAt t (.slice (some ⟨b, o, none⟩) (p + y) cap) (some (.int .i64 (p : Nat))) none none).run P w = .ok (.slice a' y (cap - p)) w ∧
    (Instr.sliceAt t (.slice (some ⟨b, o, none⟩) (p + y) cap) (some (.int .i64 (p : Nat))) none none).events P w es = es := by
  have g1 : (p : Int) ≤ ((p + y : Nat) : Int) := by omega
  have g3 : (p : Int) ≤ (p : Int) + y := by omega
  have g4 : ¬ ((p : Int) + y < p) := by omega
  have g5 : (0 : Int) ≤ p := by omega
  have g6 : ¬ ((p : Int) < 0) := by omega
  have g7 : p + y - p = y := by omega
  have g8 : ¬ (p + y < p) := by omega
  by_cases g2 : cap = p
  · subst g2
    have hy : y = 0 := by omega
    subst hy
    refine ⟨some ⟨b, o, none⟩, fun h => by omega, fun w es => ?_⟩
    constructor <;> simp [Instr.sliceAt, Instr.slice, run_underlying hu, Instr.sliceBounds, Instr.sliceBound, asIntOf, sizeOf, typeInfo, hi, hz, g6, Addr.add]
  · have g9 : ¬ p = cap := fun e => g2 e.symm
    have g10 : ¬ (cap ≤ p) := by omega
    refine ⟨some ⟨b, o + p, none⟩, fun _ => rfl, fun w es => ?_⟩
    constructor <;> simp [Instr.sliceAt, Instr.slice, run_underlying hu, Instr.sliceBounds, Instr.sliceBound, asIntOf, sizeOf, typeInfo, hi, hz, g1, g2, g3, g4, g5, g6, g7, g8, g9, g10, Addr.add]
theorem run_upto (hu : P.underlying t = some (.slice e)) (hi : P.info? e = some ti) (hz : ti.size = 1) (b o q y cap : Nat) (hq : q ≤ y) (hy : 0 < y) (hc : y ≤ cap) (w : World) (es : Array Event) : (Instr.sliceAt t (.slice (some ⟨b, o, none⟩) y cap) none (some (.int .i64 (q : Nat))) none).run P w = .ok (.slice (some ⟨b, o, none⟩) q cap) w ∧ (Instr.sliceAt t (.slice (some ⟨b, o, none⟩) y cap) none (some (.int .i64 (q : Nat))) none).events P w es = es := by
  have g1 : (q : Int) ≤ (cap : Nat) := by omega
  have g2 : ¬ ((q : Int) < 0) := by omega
  have g3 : (0 : Int) ≤ q := by omega
  have g4 : ¬ cap = 0 := by omega
  have g5 : q ≤ cap := by omega
  have g6 : 0 < cap := by omega
  constructor <;> simp [Instr.sliceAt, Instr.slice, run_underlying hu, Instr.sliceBounds, Instr.sliceBound, asIntOf, sizeOf, typeInfo, hi, hz, g1, g2, g3, g4, g5, g6, Addr.add]
end
end
end Go.Proofs.Ytgfajibjedfkdaa
