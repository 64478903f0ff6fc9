/- Part 12. -/
import Derived.Test.YtgfajibjedfkdaaJK3
import Derived.Test.YtgfajibjedfkdaaJK11
set_option linter.unusedSimpArgs false
set_option linter.unusedVariables false
set_option maxHeartbeats 8000000
set_option maxRecDepth 100000
namespace Go.Proofs.Ytgfajibjedfkdaa
open Go.Conc Go.RowKit Go.Relay
open Go.ConcN (upd upd_ne upd_same)
section
noncomputable def reg109_0 := rg Try.f109.body [0]
noncomputable def reg109_1 := rg Try.f109.body [1, 0, 0, 0]
noncomputable def reg109_2 := rg Try.f109.body [1, 0, 0, 1, 1, 0, 0, 0]
noncomputable def reg109_3 := rg Try.f109.body [1, 0, 0, 1, 1, 0, 0, 1]
theorem size109_3 : reg109_3.size = 15 := by kernel_rfl
noncomputable def reg109_4 := rg Try.f109.body [1, 0, 0, 1, 1, 1]
theorem z109 : List.range reg109_0.size = [0, 1, 2] ∧ List.range reg109_1.size = [0] ∧ List.range reg109_2.size = [0, 1, 2, 3] ∧ List.range reg109_3.size = [0, 1, 2, 3, 4, 5, 6, 7, 8, 9, 10, 11, 12, 13, 14] ∧ List.range reg109_4.size = [0, 1] := by refine ⟨?_, ?_, ?_, ?_, ?_⟩ <;> kernel_rfl
theorem code109_is : Try.f109.body = some (.seq (.region 0 reg109_0 false) (.block 0 (.loop (.seq (.region 1 reg109_1 false) (.seq (.cond (.tmp 11 ) (.skip) (.exit 0)) (.seq (.block 1 (.seq (.region 2 reg109_2 false) (.region 3 reg109_3 true))) (.region 4 reg109_4 false))))))) := by kernel_rfl
def ansA (w1 : World) (a : Ans) (sl : Value) : World := w1.alloc (.cells #[.bool a.ok, .int .i64 a.n, sl] 81)
structure AppO (g : OG) (w1 : World) (a : Ans) (sl : Value) (hd : Value) (z : List (Ans × Value)) (gb gcap : Nat) (w3 : World) : Prop where
  own : w3.ownsRow g.w0.heap.size 81 3 (.slice (some ⟨gb, 0, none⟩) (z.length + 1) gcap) (z.length + 1) (ansRow z ++ [.bool a.ok, .int .i64 a.n, sl])
  grown : (ansA w1 a sl).grownBy w3 hd.ownBlock
  hat : hd.ownBlock = some gb ∨ gb = (ansA w1 a sl).heap.size
  hlt : gb < w3.heap.size
structure ThS (L : La) (g : OG) (i pO pA pI pD acap : Nat) (oa : Option Addr) (oc : Nat) (dv : Value) : Prop where
  hi : i < g.n
  n64 : g.n ≤ 64
  len : (g.ops i).length ≤ 65536
  cO : g.w0.cell? ⟨pO, 0, none⟩ = some (.slice oa (g.ops i).length oc)
  cA : g.w0.cell? ⟨pA, 0, none⟩ = some (.slice (some ⟨g.A, 0, none⟩) g.n acap)
  cI : g.w0.cell? ⟨pI, 0, none⟩ = some (.int .i64 (i : Nat))
  cD : g.w0.cell? ⟨pD, 0, none⟩ = some dv
  nO : ¬ g.sh pO ∧ pO ≠ g.A
  nA : ¬ g.sh pA ∧ pA ≠ g.A
  nI : ¬ g.sh pI ∧ pI ≠ g.A
  nD : ¬ g.sh pD ∧ pD ≠ g.A
  ops : ∀ (j : Nat) (o : OpV), (g.ops i)[j]? = some o → ∃ b off, oa = some ⟨b, off, none⟩ ∧ ¬ g.sh b ∧ b ≠ g.A ∧ g.w0.cell? ⟨b, off + j * 4, none⟩ = some (.int .i64 o.k) ∧ g.w0.cell? ⟨b, off + j * 4 + 1, none⟩ = some (.int .i64 o.a) ∧ g.w0.cell? ⟨b, off + j * 4 + 2, none⟩ = some (.int .i64 o.b) ∧ g.w0.cell? ⟨b, off + j * 4 + 3, none⟩ = some (.int .i64 o.c)
structure ClO (g : OG) (i pA pI pD acap : Nat) (dv hd : Value) (w : World) : Prop where
  hA : w.cell? ⟨pA, 0, none⟩ = some (.slice (some ⟨g.A, 0, none⟩) g.n acap)
  hI : w.cell? ⟨pI, 0, none⟩ = some (.int .i64 (i : Nat))
  hD : w.cell? ⟨pD, 0, none⟩ = some dv
  hH : w.cell? ⟨g.A, i, none⟩ = some hd
  hHz : w.frozen? ⟨g.A, i, none⟩ = false
section
variable {L : La} {g : OG} {S : Stile} {i : Nat}
theorem EC.ro (e : EC L g S i) {b : Nat} (h : b < g.w0.heap.size) (h1 : ¬ g.sh b) (h2 : b ≠ g.A) : e.w.heap[b]? = g.w0.heap[b]? := by
  obtain ⟨hd0, r⟩ := e.rely
  exact (e.frame b (Nat.lt_of_lt_of_le h r.size) (fun hm => by have := (r.lo b hm).1; omega) (fun hs => h1 ((r.shlo b hs).2.2 h)) h2).trans (r.old b h h1 h2)
theorem EC.cell (e : EC L g S i) {b j : Nat} {v : Value} (h : g.w0.cell? ⟨b, j, none⟩ = some v) (h1 : ¬ g.sh b ∧ b ≠ g.A) : e.w.cell? ⟨b, j, none⟩ = some v :=
  (World.cell?_of_block (a := ⟨b, j, none⟩) (e.ro (cell_lt' h) h1.1 h1.2)).trans h
theorem EC.apA (e : EC L g S i) : ∀ a : Addr, a.block = g.A → Free e.τ.V a := (e.apart (b := g.A) (.inl (by obtain ⟨hd0, r⟩ := e.rely; exact r.alo))).1
variable {pO pA pI pD acap : Nat} {oa : Option Addr} {oc : Nat} {dv hd : Value}
theorem ThS.cl (T : ThS L g i pO pA pI pD acap oa oc dv) (e : EC L g S i) (h : e.hd = hd) : ClO g i pA pI pD acap dv hd e.w := by
  obtain ⟨arr, arr', h1, h2, h3, h4, h5⟩ := e.an
  exact ⟨e.cell T.cA T.nA, e.cell T.cI T.nI, e.cell T.cD T.nD, (cell_of h2 i).trans (h ▸ h4), frozen_of h2 i⟩
theorem ClO.new {w : World} (h : ClO g i pA pI pD acap dv hd w) (a : Ans) (sl : Value) : ClO g i pA pI pD acap dv hd (ansA w a sl) :=
  ⟨cell_alloc w _ h.hA, cell_alloc w _ h.hI, cell_alloc w _ h.hD, cell_alloc w _ h.hH, frozen_alloc w _ h.hH h.hHz⟩
theorem ThS.app (T : ThS L g i pO pA pI pD acap oa oc dv) (e : EC L g S i) {a : Ans} {sl : Value} {z : List (Ans × Value)} {gb gcap : Nat} {w3 : World} (h : AppO g e.w a sl e.hd z gb gcap w3) (hc : ClO g i pA pI pD acap dv hd (ansA e.w a sl)) : ClO g i pA pI pD acap dv hd w3 := by
  obtain ⟨hd0, r⟩ := e.rely
  have far : ∀ b, b < g.w0.heap.size → some b ≠ e.hd.ownBlock := fun b hb he => by have := (e.lo (e.hdo b he.symm)).1; omega
  have f1 : ∀ {b j : Nat} {v : Value}, b < g.w0.heap.size → (ansA e.w a sl).cell? ⟨b, j, none⟩ = some v → w3.cell? ⟨b, j, none⟩ = some v := fun {b j v} hb hv =>
    (h.grown.cell_far _ (cell_lt _ hv) (far b hb)).trans hv
  exact ⟨f1 (cell_lt' T.cA) hc.hA, f1 (cell_lt' T.cI) hc.hI, f1 (cell_lt' T.cD) hc.hD, f1 r.alo hc.hH, (h.grown.frozen_far _ (cell_lt _ hc.hH) (far _ r.alo)).trans hc.hHz⟩
structure RowZ (g : OG) (P : Nat → Prop) (hd : Value) (z : List (Ans × Value)) (w : World) : Prop where
  sl : ∃ ta tc, hd = .slice ta z.length tc
  own : w.ownsRow g.w0.heap.size 81 3 hd z.length (ansRow z)
  hdo : ∀ b, hd.ownBlock = some b → P b
  ls : ∀ p ∈ z, LsAt g.w0.heap.size P p.2 p.1.l w
theorem RowA.z {g : OG} {P : Nat → Prop} {hd : Value} {ans : List Ans} {w : World} (h : RowA g.w0.heap.size P hd ans w) : ∃ z, z.map Prod.fst = ans ∧ RowZ g P hd z w := by
  obtain ⟨ta, tc, z, h1, h2, h3, h4, h5⟩ := h
  have : z.length = ans.length := by rw [← h1, List.length_map]
  exact ⟨z, h1, ⟨ta, tc, by rw [this]; exact h2⟩, by rw [this]; exact h3, h4, h5⟩
def Ph (L : La) (g : OG) (S : Stile) (i : Nat) (o : OpV) (rest' : List OpV) (X : Nat) (f : Nat → Bool) (u : Nat → Value) (e : EC L g S i) (w' : World) : Prop :=
  (f 10 = false ∧ e.τ.goal = landO L (i : Nat) (L.enter e.s (i : Nat) o) rest' e.ans ∧ e.w.heap[X]? = some (.cells #[.int .i64 o.k, .int .i64 o.a, .int .i64 o.b, .int .i64 o.c] 84) ∧ ∃ d, w' = e.w.at d) ∨
  (f 10 = true ∧ ∃ a sl, u 24 = ansV a sl ∧ LsAt g.w0.heap.size (ownT e.τ e.y e.w) sl a.l e.w ∧ e.τ.goal = settleO L (i : Nat) e.s rest' (e.ans ++ [a]) ∧
    ((f 11 = false ∧ f 12 = false ∧ f 14 = false ∧ ∃ d, w' = e.w.at d) ∨
     (f 11 = true ∧ f 12 = false ∧ f 14 = false ∧ u 25 = .slice (some ⟨e.w.heap.size, 0, none⟩) 1 1 ∧ ∃ d, w' = (ansA e.w a sl).at d) ∨
     (f 11 = true ∧ f 12 = true ∧ ∃ z gb gcap w3, z.map Prod.fst = e.ans ∧ RowZ g (ownT e.τ e.y e.w) e.hd z e.w ∧ AppO g e.w a sl e.hd z gb gcap w3 ∧ u 26 = .slice (some ⟨gb, 0, none⟩) (e.ans.length + 1) gcap ∧
       ((f 14 = false ∧ ∃ d, w' = w3.at d) ∨ (f 14 = true ∧ ∃ d, w' = (w3.setCell ⟨g.A, i, none⟩ (u 26)).at d)))))
variable {o : OpV} {rest' : List OpV} {X : Nat} {f : Nat → Bool} {u : Nat → Value} {e : EC L g S i} {w' : World}
theorem Ph.quiet {j d : Nat} {v : Value} (h : Ph L g S i o rest' X f u e w') (hj : j ≠ 10 ∧ j ≠ 11 ∧ j ≠ 12 ∧ j ≠ 14) (hd : d ≠ 24 ∧ d ≠ 25 ∧ d ≠ 26) : Ph L g S i o rest' X (upd f j true) (upd u d v) e w' := by
  unfold Ph
  rw [upd_ne f true (Ne.symm hj.1), upd_ne f true (Ne.symm hj.2.1), upd_ne f true (Ne.symm hj.2.2.1), upd_ne f true (Ne.symm hj.2.2.2), upd_ne u v (Ne.symm hd.1), upd_ne u v (Ne.symm hd.2.1), upd_ne u v (Ne.symm hd.2.2)]
  exact h
theorem Ph.early (h : Ph L g S i o rest' X f u e w') (h10 : f 10 = false) : w'.heap[X]? = some (.cells #[.int .i64 o.k, .int .i64 o.a, .int .i64 o.b, .int .i64 o.c] 84) := by
  rcases h with ⟨_, _, h, d, rfl⟩ | ⟨h, _⟩
  · exact h
  · rw [h10] at h; cases h
theorem Ph.callAt (h : Ph L g S i o rest' X f u e w') (h10 : f 10 = false) : e.τ.goal = landO L (i : Nat) (L.enter e.s (i : Nat) o) rest' e.ans ∧ ∃ d, w' = e.w.at d := by
  rcases h with ⟨_, h, _, h2⟩ | ⟨h, _⟩
  · exact ⟨h, h2⟩
  · rw [h10] at h; cases h
theorem Ph.newAt (h : Ph L g S i o rest' X f u e w') (h10 : f 10 = true) (h11 : f 11 = false) : ∃ a sl, u 24 = ansV a sl ∧ LsAt g.w0.heap.size (ownT e.τ e.y e.w) sl a.l e.w ∧ e.τ.goal = settleO L (i : Nat) e.s rest' (e.ans ++ [a]) ∧ f 12 = false ∧ ∃ d, w' = e.w.at d := by
  rcases h with ⟨h, _⟩ | ⟨_, a, sl, h1, hl, h2, ⟨_, h12, _, h⟩ | ⟨h, _⟩ | ⟨h, _⟩⟩
  · rw [h10] at h; cases h
  · exact ⟨a, sl, h1, hl, h2, h12, h⟩
  · rw [h11] at h; cases h
  · rw [h11] at h; cases h
theorem Ph.appAt (h : Ph L g S i o rest' X f u e w') (h10 : f 10 = true) (h11 : f 11 = true) (h12 : f 12 = false) : ∃ a sl, u 24 = ansV a sl ∧ LsAt g.w0.heap.size (ownT e.τ e.y e.w) sl a.l e.w ∧ e.τ.goal = settleO L (i : Nat) e.s rest' (e.ans ++ [a]) ∧ u 25 = .slice (some ⟨e.w.heap.size, 0, none⟩) 1 1 ∧ ∃ d, w' = (ansA e.w a sl).at d := by
  rcases h with ⟨h, _⟩ | ⟨_, a, sl, h1, hl, h2, ⟨h, _⟩ | ⟨_, _, _, h25, h⟩ | ⟨_, h, _⟩⟩
  · rw [h10] at h; cases h
  · rw [h11] at h; cases h
  · exact ⟨a, sl, h1, hl, h2, h25, h⟩
  · rw [h12] at h; cases h
theorem Ph.stAt (h : Ph L g S i o rest' X f u e w') (h10 : f 10 = true) (h11 : f 11 = true) (h12 : f 12 = true) (h14 : f 14 = false) : ∃ a sl, u 24 = ansV a sl ∧ LsAt g.w0.heap.size (ownT e.τ e.y e.w) sl a.l e.w ∧ e.τ.goal = settleO L (i : Nat) e.s rest' (e.ans ++ [a]) ∧ ∃ z gb gcap w3, z.map Prod.fst = e.ans ∧ RowZ g (ownT e.τ e.y e.w) e.hd z e.w ∧ AppO g e.w a sl e.hd z gb gcap w3 ∧ u 26 = .slice (some ⟨gb, 0, none⟩) (e.ans.length + 1) gcap ∧ ∃ d, w' = w3.at d := by
  rcases h with ⟨h, _⟩ | ⟨_, a, sl, h1, hl, h2, ⟨h, _⟩ | ⟨_, h, _⟩ | ⟨_, _, z, gb, gcap, w3, hz, hZ, hA, h26, ⟨_, h⟩ | ⟨h, _⟩⟩⟩
  · rw [h10] at h; cases h
  · rw [h11] at h; cases h
  · rw [h12] at h; cases h
  · exact ⟨a, sl, h1, hl, h2, z, gb, gcap, w3, hz, hZ, hA, h26, h⟩
  · rw [h14] at h; cases h
theorem Ph.endAt (h : Ph L g S i o rest' X f u e w') (h10 : f 10 = true) (h12 : f 12 = true) (h14 : f 14 = true) : ∃ a sl, LsAt g.w0.heap.size (ownT e.τ e.y e.w) sl a.l e.w ∧ e.τ.goal = settleO L (i : Nat) e.s rest' (e.ans ++ [a]) ∧ ∃ z gb gcap w3, z.map Prod.fst = e.ans ∧ RowZ g (ownT e.τ e.y e.w) e.hd z e.w ∧ AppO g e.w a sl e.hd z gb gcap w3 ∧ ∃ d, w' = (w3.setCell ⟨g.A, i, none⟩ (.slice (some ⟨gb, 0, none⟩) (e.ans.length + 1) gcap)).at d := by
  rcases h with ⟨h, _⟩ | ⟨_, a, sl, h1, hl, h2, ⟨_, h, _⟩ | ⟨_, h, _⟩ | ⟨_, _, z, gb, gcap, w3, hz, hZ, hA, h26, ⟨h, _⟩ | ⟨_, h⟩⟩⟩
  · rw [h10] at h; cases h
  · rw [h12] at h; cases h
  · rw [h12] at h; cases h
  · rw [h14] at h; cases h
  · rw [h26] at h
    exact ⟨a, sl, hl, h2, z, gb, gcap, w3, hz, hZ, hA, h⟩
theorem Facts.other {dsts : List Nat} {vals : List Value} {f : Nat → Bool} {u : Nat → Value} (F : Facts dsts vals f u) {d : Nat} {v : Value} (hd : d ∉ dsts) : Facts dsts vals f (upd u d v) := by
  intro j d' v' hf hd' hv'
  have hne : d' ≠ d := fun e => hd (by rw [← e]; exact List.mem_of_getElem? hd')
  rw [upd_ne _ _ hne]
  exact F j d' v' hf hd' hv'
theorem LsAt.far {base : Nat} {P : Nat → Prop} {sl : Value} {l : List Int} {w w' : World} (h : LsAt base P sl l w) (hb : ∀ b cur fr, P b → w.heap[b]? = some (.cells cur 2 fr) → w'.heap[b]? = w.heap[b]?) : LsAt base P sl l w' := by
  obtain ⟨a, c, e, hn, hr⟩ := h
  refine ⟨a, c, e, hn, fun hl => ⟨row_same (hr hl).1 fun b hb' => ?_, (hr hl).2⟩⟩
  rcases (hr hl).1.2 with ⟨h1, _⟩ | ⟨g, cap, cur, h1, _, h3, _⟩
  · rw [h1] at hb'; cases hb'
  · have : g = b := by rw [h1] at hb'; exact Option.some.inj hb'
    subst this
    exact hb _ _ _ ((hr hl).2 _ hb') h3
theorem RowZ.kind {g : OG} {P : Nat → Prop} {hd : Value} {z : List (Ans × Value)} {w : World} (h : RowZ g P hd z w) {b : Nat} (hb : hd.ownBlock = some b) {cur : Array Value} {fr : Nat × Nat} : w.heap[b]? ≠ some (.cells cur 2 fr) := by
  intro hc
  rcases h.own.2 with ⟨h1, _⟩ | ⟨g', cap, cur', h1, _, h3, _⟩
  · rw [h1] at hb; cases hb
  · have : g' = b := by rw [h1] at hb; exact Option.some.inj hb
    subst this
    rw [h3] at hc
    simp at hc
theorem EC.told (e : EC L g S i) {a : Ans} {sl : Value} {z : List (Ans × Value)} {gb gcap : Nat} {w3 : World} (hl : LsAt g.w0.heap.size (ownT e.τ e.y e.w) sl a.l e.w) (hz : z.map Prod.fst = e.ans) (hZ : RowZ g (ownT e.τ e.y e.w) e.hd z e.w) (h : AppO g e.w a sl e.hd z gb gcap w3) : ∃ e' : EC L g S i, e'.τ = e.τ ∧ e'.N = e.N ∧ e'.s = e.s ∧ e'.ans = e.ans ++ [a] ∧ e'.w = w3.setCell ⟨g.A, i, none⟩ (.slice (some ⟨gb, 0, none⟩) (e.ans.length + 1) gcap) := by
  obtain ⟨hd0, r⟩ := e.rely
  obtain ⟨arr, arr', a1, a2, a3, a4, a5⟩ := e.an
  have hzl : z.length = e.ans.length := by rw [← hz, List.length_map]
  have hsz1 : (ansA e.w a sl).heap.size = e.w.heap.size + 1 := by simp [ansA]
  have hs3 := h.grown.size
  have hold : ∀ b, b < e.w.heap.size → some b ≠ e.hd.ownBlock → w3.heap[b]? = e.w.heap[b]? := fun b hb hne => (h.grown.block b (by omega) hne).trans (heap_new_lt _ _ hb)
  have hAo : some g.A ≠ e.hd.ownBlock := fun he => by have := (e.lo (e.hdo _ he.symm)).1; have := r.alo; omega
  have hAl : g.A < e.w.heap.size := by have := r.alo; have := r.size; have := e.size; omega
  have hA3 : w3.heap[g.A]? = some (.cells arr' 79) := (hold _ hAl hAo).trans a2
  have hgo : ownT e.τ e.y e.w gb ∨ e.w.heap.size ≤ gb := by
    rcases h.hat with h | h
    · exact .inl (e.hdo _ h)
    · exact .inr (by omega)
  have hgA : gb ≠ g.A := fun he => by
    rcases hgo with h | h
    · exact (e.noA h).2 he
    · omega
  have hset : ∀ b, b ≠ g.A → (w3.setCell ⟨g.A, i, none⟩ (.slice (some ⟨gb, 0, none⟩) (e.ans.length + 1) gcap)).heap[b]? = w3.heap[b]? := fun b hb => heap_set_other _ _ _ _ hb
  have hil : i < arr'.size := (Array.getElem?_eq_some_iff.1 a4).1
  have hown' : ∀ b, ownT e.τ e.y e.w b → ownT e.τ e.y (w3.setCell ⟨g.A, i, none⟩ (.slice (some ⟨gb, 0, none⟩) (e.ans.length + 1) gcap)) b := fun b hb => ⟨hb.1.imp id fun h => ⟨h.1, by rw [size_set]; omega⟩, hb.2⟩
  have hgn : ¬ L.sh e.y gb := fun hs => by
    rcases hgo with h | h
    · exact h.2 hs
    · have := L.lt e.inv hs; omega
  refine ⟨{ τ := e.τ, N := e.N, w := w3.setCell ⟨g.A, i, none⟩ (.slice (some ⟨gb, 0, none⟩) (e.ans.length + 1) gcap), y := e.y, s := e.s, ans := e.ans ++ [a], hd := .slice (some ⟨gb, 0, none⟩) (e.ans.length + 1) gcap, le := e.le, size := by rw [size_set]; have := e.size; omega, frame := fun b h1 h2 h3 h4 => (hset b h4).trans ((hold b (Nat.lt_of_lt_of_le h1 e.size) fun he => ?_).trans (e.frame b h1 h2 h3 h4)), pub := e.pub, rely := e.rely, an := ⟨arr, arr'.setIfInBounds i (.slice (some ⟨gb, 0, none⟩) (e.ans.length + 1) gcap), a1, heap_set_self _ _ hA3, by simp [a3], by simp [hil], fun j hj => ?_⟩, row := ⟨some ⟨gb, 0, none⟩, gcap, z ++ [(a, sl)], by simp [hz], by simp, ?_, fun b hb => ?_, fun p hp => ?_⟩, inv := L.stable e.inv fun b hb => ?_ }, rfl, rfl, rfl, rfl, rfl⟩
  · rcases (e.hdo b he.symm).1 with h | h
    · exact h2 h
    · have := h.1; omega
  · rw [Array.getElem?_setIfInBounds_ne (Ne.symm hj)]; exact a5 j hj
  · rw [ansRow_snoc, List.length_append, List.length_singleton, ← hzl]
    refine row_same h.own fun b hb => ?_
    rw [hzl]
    refine hset b fun he => ?_
    simp only [Value.ownBlock, Option.some.injEq] at hb
    exact hgA (hb.trans he)
  · simp only [Value.ownBlock, Option.some.injEq] at hb
    subst hb
    refine ⟨?_, hgn⟩
    rcases hgo with hg | hg
    · exact (hown' _ hg).1
    · exact .inr ⟨Nat.le_trans e.size hg, by rw [size_set]; exact h.hlt⟩
  · have hp' : LsAt g.w0.heap.size (ownT e.τ e.y e.w) p.2 p.1.l e.w := by
      rcases List.mem_append.1 hp with hp | hp
      · exact hZ.ls p hp
      · rw [List.mem_singleton.1 hp]; exact hl
    refine (hp'.far fun b cur fr hb hc => ?_).imp hown'
    refine (hset b (e.noA hb).2).trans (hold b (e.lo hb).2 fun he => hZ.kind he.symm hc)
  · have h1 := e.shb hb
    exact (hset b h1.1).trans (hold b (L.lt e.inv hb) fun he => (e.noA (e.hdo b he.symm)).1 hb)
end
end
section
section
variable {L : La} {g : OG} {S : Stile} {i : Nat} {pO pA pI pD acap : Nat} {oa : Option Addr} {oc : Nat} {o : OpV} {rest' : List OpV} {X : Nat}
def tm68 (sv : Value) (pO pA pI pD X : Nat) (ov : Value) (ln j : Nat) (u : Nat → Value) : Array Value := #[sv, .pointer (some ⟨pO, 0, none⟩), .pointer (some ⟨pA, 0, none⟩), .pointer (some ⟨pI, 0, none⟩), .pointer (some ⟨pD, 0, none⟩), u 5, u 6, .pointer (some ⟨X, 0, none⟩), ov, .int .i64 ln, .int .i64 j, u 11, u 12, u 13, u 14, u 15, u 16, u 17, u 18, u 19, u 20, u 21, u 22, u 23, u 24, u 25, u 26, u 27, u 28]
theorem reg68_walk {fdo : FuncId} {first cap : Array Value} (T : ThS L g i pO pA pI pD acap oa oc (.func (.func fdo) first cap)) {fn : Func} (hf : Try.prog.funcs[fdo]? = some fn) (hname : (fn.name == "runtime.NumGoroutine") = false) (hb : fn.body.isNone = false) (hdo : DoOK L fdo first cap)
    (e0 : EC L g S i) (hlen : e0.ans.length < 1099511627776) (hg0 : e0.τ.goal = landO L (i : Nat) (L.enter e0.s (i : Nat) o) rest' e0.ans) (hX : e0.w.heap[X]? = some (.cells #[.int .i64 o.k, .int .i64 o.a, .int .i64 o.b, .int .i64 o.c] 84)) (ov : Value) (ln j : Nat) (u0 : Nat → Value) (k : List Item)
    (hk : ∀ (u : Nat → Value) (e : EC L g S i) a, e.ans = e0.ans ++ [a] → e.τ.goal = settleO L (i : Nat) e.s rest' e.ans → Walk Try.prog false (DR e.τ.V) (StopT L g S i (Cont L g S i e.N) e.τ) (G ((base 109).at ⟨tm68 (.iface 230 (.pointer (some ⟨S.p i, 0, none⟩))) pO pA pI pD X ov ln j u, []⟩ (.inRegion reg109_3 [] :: k)) (e.τ.f :: e.τ.fs)) e.w) :
    Walk Try.prog false (DR e0.τ.V) (StopT L g S i (Cont L g S i e0.N) e0.τ) (G ((base 109).at ⟨tm68 (.iface 230 (.pointer (some ⟨S.p i, 0, none⟩))) pO pA pI pD X ov ln j u0, []⟩ (.code (.region 3 reg109_3 true) :: k)) (e0.τ.f :: e0.τ.fs)) e0.w := by
  have hiA := Option.some_get (show (Try.prog.info? 81).isSome = true by kernel_rfl)
  obtain ⟨fsO, huO⟩ := structT 84 (by kernel_rfl)
  have hi := T.hi
  have hn64 := T.n64
  generalize hsv : (.iface 230 (.pointer (some ⟨S.p i, 0, none⟩)) : Value) = sv at *
  generalize hdv : (.func (.func fdo) first cap : Value) = dv at *
  generalize hans : e0.ans = ans at *
  generalize hhd : e0.hd = hd
  refine Walk.drawnE (E := EC L g S i × World) (V := fun x => x.1.τ.V) (Stop := fun x => StopT L g S i (Cont L g S i x.1.N) x.1.τ) (cs := fun x => x.1.τ.f :: x.1.τ.fs) (w := fun x => x.2)
    (Inv := fun f a x => ∃ u, a = ⟨tm68 sv pO pA pI pD X ov ln j u, []⟩ ∧ Facts [14, 15, 16, 17, 18, 19, 20, 21, 22, 23, 1010, 1011, 1012, 27, 1014] [.slice (some ⟨g.A, 0, none⟩) g.n acap, .int .i64 (i : Nat), .slice (some ⟨g.A, 0, none⟩) g.n acap, .int .i64 (i : Nat), .pointer (some ⟨g.A, i, none⟩), hd, dv, sv, .int .i64 (i : Nat), opVal o, undef, undef, undef, .pointer (some ⟨g.A, i, none⟩), undef] f u ∧ x.1.ans = ans ∧ x.1.hd = hd ∧ (f 14 = false → ClO g i pA pI pD acap dv hd x.2) ∧ Ph L g S i o rest' X f u x.1 x.2) (e0, e0.w) (by kernel_rfl) (by kernel_rfl)
    ⟨u0, rfl, Facts.none _ _ _, hans, hhd, fun _ => T.cl e0 hhd, .inl ⟨rfl, hans ▸ hg0, hX, e0.w.drawn, rfl⟩⟩ ?_ ?_
  · rintro f oi op a ⟨e, w'⟩ ⟨u, rfl, F, he1, he2, hc, hw⟩ hC hfi ho hdeps rest hr
    dsimp only at he1 he2 hc hw hr ⊢
    have hil : oi < 15 := (Array.getElem?_eq_some_iff.1 ho).1
    match oi, hil with
    | 0, _ =>
      have h14 : f 14 = false := by cases h : f 14 with | false => rfl | true => exact absurd (hC.deps (l := [0]) h (by kernel_rfl) 0 (by simp)) (by simp [hfi])
      have h14' : upd f 0 true 14 = false := (upd_ne _ _ (by decide)).trans h14
      replace hc := hc h14
      clear hdeps ho hC hfi
      obtain ⟨hA, hI, hD, hH, hHz⟩ := hc
      simp only [tm68] at hr ⊢
      (refine Walk.oq ?_; try walk_nrm)
      refine hr _ (e, w') ⟨upd u 14 (.slice (some ⟨g.A, 0, none⟩) g.n acap), ?_, F.set (by decide) rfl rfl, he1, he2, fun _ => ⟨hA, hI, hD, hH, hHz⟩, hw.quiet (by decide) (by decide)⟩
      simp [tm68, upd]
    | 1, _ =>
      have h14 : f 14 = false := by cases h : f 14 with | false => rfl | true => exact absurd (hC.deps (l := [1]) h (by kernel_rfl) 1 (by simp)) (by simp [hfi])
      have h14' : upd f 1 true 14 = false := (upd_ne _ _ (by decide)).trans h14
      replace hc := hc h14
      clear hdeps ho hC hfi
      obtain ⟨hA, hI, hD, hH, hHz⟩ := hc
      simp only [tm68] at hr ⊢
      (refine Walk.oq ?_; try walk_nrm)
      refine hr _ (e, w') ⟨upd u 15 (.int .i64 (i : Nat)), ?_, F.set (by decide) rfl rfl, he1, he2, fun _ => ⟨hA, hI, hD, hH, hHz⟩, hw.quiet (by decide) (by decide)⟩
      simp [tm68, upd]
    | 2, _ =>
      have h14 : f 14 = false := by cases h : f 14 with | false => rfl | true => exact absurd (hC.deps (l := [2]) h (by kernel_rfl) 2 (by simp)) (by simp [hfi])
      have h14' : upd f 2 true 14 = false := (upd_ne _ _ (by decide)).trans h14
      replace hc := hc h14
      clear hdeps ho hC hfi
      obtain ⟨hA, hI, hD, hH, hHz⟩ := hc
      simp only [tm68] at hr ⊢
      (refine Walk.oq ?_; try walk_nrm)
      refine hr _ (e, w') ⟨upd u 16 (.slice (some ⟨g.A, 0, none⟩) g.n acap), ?_, F.set (by decide) rfl rfl, he1, he2, fun _ => ⟨hA, hI, hD, hH, hHz⟩, hw.quiet (by decide) (by decide)⟩
      simp [tm68, upd]
    | 3, _ =>
      have h14 : f 14 = false := by cases h : f 14 with | false => rfl | true => exact absurd (hC.deps (l := [3]) h (by kernel_rfl) 3 (by simp)) (by simp [hfi])
      have h14' : upd f 3 true 14 = false := (upd_ne _ _ (by decide)).trans h14
      replace hc := hc h14
      clear hdeps ho hC hfi
      obtain ⟨hA, hI, hD, hH, hHz⟩ := hc
      simp only [tm68] at hr ⊢
      (refine Walk.oq ?_; try walk_nrm)
      refine hr _ (e, w') ⟨upd u 17 (.int .i64 (i : Nat)), ?_, F.set (by decide) rfl rfl, he1, he2, fun _ => ⟨hA, hI, hD, hH, hHz⟩, hw.quiet (by decide) (by decide)⟩
      simp [tm68, upd]
    | 4, _ =>
      have hdd := deps_of (l := [2, 3]) (by kernel_rfl) ho hdeps
      have e16 := F 2 16 _ (hdd 2 (by simp)) rfl rfl
      have e17 := F 3 17 _ (hdd 3 (by simp)) rfl rfl
      have h14 : f 14 = false := by cases h : f 14 with | false => rfl | true => exact absurd (hC.deps (l := [4]) h (by kernel_rfl) 4 (by simp)) (by simp [hfi])
      have h14' : upd f 4 true 14 = false := (upd_ne _ _ (by decide)).trans h14
      replace hc := hc h14
      clear hdeps ho hC hfi hdd
      obtain ⟨hA, hI, hD, hH, hHz⟩ := hc
      simp only [tm68] at hr ⊢
      (refine Walk.oq ?_; try walk_nrm)
      refine hr _ (e, w') ⟨upd u 18 (.pointer (some ⟨g.A, i, none⟩)), ?_, F.set (by decide) rfl rfl, he1, he2, fun _ => ⟨hA, hI, hD, hH, hHz⟩, hw.quiet (by decide) (by decide)⟩
      simp [tm68, upd, e16, e17]
    | 5, _ =>
      have hdd := deps_of (l := [4]) (by kernel_rfl) ho hdeps
      have e18 := F 4 18 _ (hdd 4 (by simp)) rfl rfl
      have h14 : f 14 = false := by cases h : f 14 with | false => rfl | true => exact absurd (hC.deps (l := [5]) h (by kernel_rfl) 5 (by simp)) (by simp [hfi])
      have h14' : upd f 5 true 14 = false := (upd_ne _ _ (by decide)).trans h14
      replace hc := hc h14
      clear hdeps ho hC hfi hdd
      obtain ⟨hA, hI, hD, hH, hHz⟩ := hc
      simp only [tm68] at hr ⊢
      (refine Walk.oq ?_; try walk_nrm)
      refine hr _ (e, w') ⟨upd u 19 (hd), ?_, F.set (by decide) rfl rfl, he1, he2, fun _ => ⟨hA, hI, hD, hH, hHz⟩, hw.quiet (by decide) (by decide)⟩
      simp [tm68, upd, e18]
    | 6, _ =>
      have h14 : f 14 = false := by cases h : f 14 with | false => rfl | true => exact absurd (hC.deps (l := [6]) h (by kernel_rfl) 6 (by simp)) (by simp [hfi])
      have h14' : upd f 6 true 14 = false := (upd_ne _ _ (by decide)).trans h14
      replace hc := hc h14
      clear hdeps ho hC hfi
      obtain ⟨hA, hI, hD, hH, hHz⟩ := hc
      simp only [tm68] at hr ⊢
      (refine Walk.oq ?_; try walk_nrm)
      refine hr _ (e, w') ⟨upd u 20 (dv), ?_, F.set (by decide) rfl rfl, he1, he2, fun _ => ⟨hA, hI, hD, hH, hHz⟩, hw.quiet (by decide) (by decide)⟩
      simp [tm68, upd]
    | 7, _ =>
      have h14 : f 14 = false := by cases h : f 14 with | false => rfl | true => exact absurd (hC.deps (l := [7]) h (by kernel_rfl) 7 (by simp)) (by simp [hfi])
      have h14' : upd f 7 true 14 = false := (upd_ne _ _ (by decide)).trans h14
      replace hc := hc h14
      clear hdeps ho hC hfi
      obtain ⟨hA, hI, hD, hH, hHz⟩ := hc
      simp only [tm68] at hr ⊢
      (refine Walk.oq ?_; try walk_nrm)
      refine hr _ (e, w') ⟨upd u 21 (sv), ?_, F.set (by decide) rfl rfl, he1, he2, fun _ => ⟨hA, hI, hD, hH, hHz⟩, hw.quiet (by decide) (by decide)⟩
      simp [tm68, upd]
    | 8, _ =>
      have h14 : f 14 = false := by cases h : f 14 with | false => rfl | true => exact absurd (hC.deps (l := [8]) h (by kernel_rfl) 8 (by simp)) (by simp [hfi])
      have h14' : upd f 8 true 14 = false := (upd_ne _ _ (by decide)).trans h14
      replace hc := hc h14
      clear hdeps ho hC hfi
      obtain ⟨hA, hI, hD, hH, hHz⟩ := hc
      simp only [tm68] at hr ⊢
      (refine Walk.oq ?_; try walk_nrm)
      refine hr _ (e, w') ⟨upd u 22 (.int .i64 (i : Nat)), ?_, F.set (by decide) rfl rfl, he1, he2, fun _ => ⟨hA, hI, hD, hH, hHz⟩, hw.quiet (by decide) (by decide)⟩
      simp [tm68, upd]
    | 9, _ =>
      have h14 : f 14 = false := by cases h : f 14 with | false => rfl | true => exact absurd (hC.deps (l := [9]) h (by kernel_rfl) 9 (by simp)) (by simp [hfi])
      have h14' : upd f 9 true 14 = false := (upd_ne _ _ (by decide)).trans h14
      replace hc := hc h14
      have hX := hw.early (by cases h : f 10 with | false => rfl | true => exact absurd (hC.deps (l := [9]) h (by kernel_rfl) 9 (by simp)) (by simp [hfi]))
      clear hdeps ho hC hfi
      simp only [tm68] at hr ⊢
      refine Walk.loadS 84 (.tmp 7) (ho_of (by conv => lhs; whnf) (by kernel_rfl)) (by rfl) (by decide) rfl X 0 [.int .i64 o.k, .int .i64 o.a, .int .i64 o.b, .int .i64 o.c] (.struct fsO) rfl (fun j v hj => ?_) huO rfl (by kernel_rfl) ?_
      · rw [Nat.zero_add, cell_of hX]
        simpa using hj
      walk_nrm
      refine hr _ (e, w') ⟨upd u 23 (opVal o), ?_, F.set (by decide) rfl rfl, he1, he2, fun _ => hc, hw.quiet (by decide) (by decide)⟩
      simp [tm68, upd, opVal]
    | 10, _ =>
      have hdd := deps_of (l := [6, 7, 8, 9]) (by kernel_rfl) ho hdeps
      have e20 := F 6 20 _ (hdd 6 (by simp)) rfl rfl
      have e21 := F 7 21 _ (hdd 7 (by simp)) rfl rfl
      have e22 := F 8 22 _ (hdd 8 (by simp)) rfl rfl
      have e23 := F 9 23 _ (hdd 9 (by simp)) rfl rfl
      have h14 : f 14 = false := by cases h : f 14 with | false => rfl | true => exact absurd (hC.deps (l := [10]) h (by kernel_rfl) 10 (by simp)) (by simp [hfi])
      have h14' : upd f 10 true 14 = false := (upd_ne _ _ (by decide)).trans h14
      replace hc := hc h14
      obtain ⟨hg, dd, rfl⟩ := hw.callAt hfi
      refine Walk.back ?_ dd
      have h11 : f 11 = false := by cases h : f 11 with | false => rfl | true => exact absurd (hC.deps (l := [10]) h (by kernel_rfl) 10 (by simp)) (by simp [hfi])
      have h12 : f 12 = false := by cases h : f 12 with | false => rfl | true => exact absurd (hC.deps (l := [11]) h (by kernel_rfl) 11 (by simp)) (by simp [h11])
      clear hdeps ho hC
      obtain ⟨c, eo, q1, q2, q3, q4, q5⟩ : ∃ (c : OC) (eo : EO L g S i c), eo.toEC = e ∧ eo.tgt = L.enter e.s (i : Nat) o ∧ c.left = rest' ∧ c.ans = e.ans ∧ c.hd = e.hd := ⟨⟨rest', e.ans, e.hd, ownT e.τ e.y e.w, e.w⟩, { e with tgt := L.enter e.s (i : Nat) o, eqA := rfl, eqH := rfl, goal := hg, Kown := fun _ h => h, kept := fun _ _ => rfl, rowK := e.row }, rfl, rfl, rfl, rfl, rfl⟩
      subst q1
      have hcall : SCall (crewB L g S i c) 110 #[dv, sv, .int .i64 (i : Nat), opVal o] eo (fun v e' => ∃ a sl, e'.tgt = (e'.s, .inl a) ∧ v = ansV a sl ∧ LsAt eo.w.heap.size (fun b => ownT e'.τ e'.y e'.w b ∧ ¬ c.K b) sl a.l e'.w) := by
        rw [← hsv, ← hdv]
        exact doOne_s (crewL L g S i c) eo o (i : Nat) fdo fn first cap hf hname hb hdo q2
      refine (?_ : LW (crewB L g S i c) eo (G _ ([] ++ (crewB L g S i c).bot eo)))
      refine LW.callS (f := 110) (Q := fun v e' => ∃ a sl, e'.tgt = (e'.s, .inl a) ∧ v = ansV a sl ∧ LsAt eo.w.heap.size (fun b => ownT e'.τ e'.y e'.w b ∧ ¬ c.K b) sl a.l e'.w) ?_ (ho_of (by conv => lhs; whnf) (by kernel_rfl)) (by rfl) (by decide) rfl Try.func110 (by kernel_rfl) (by rfl) ⟨rfl, rfl, _, Try.func109⟩ (fun _ h => by cases h) ?_
      · simp only [tm68]
        walk_nrm
        simp only [e20, e21, e22, e23]
        exact hcall
      rintro v e' ⟨a', sl, ht, rfl, hls⟩
      have hbs : g.w0.heap.size ≤ eo.w.heap.size := by
        obtain ⟨hd0, r⟩ := eo.rely
        have := r.size
        have := eo.size
        omega
      replace hls : LsAt g.w0.heap.size (ownT e'.τ e'.y e'.w) sl a'.l e'.w := (hls.imp fun b h => h.1).low hbs
      have hg' : e'.τ.goal = settleO L (i : Nat) e'.s rest' (e'.ans ++ [a']) := by rw [e'.goal, ht, q3]; rfl
      have hans : e'.ans = eo.ans := e'.eqA.trans q4
      have hhd : e'.hd = eo.hd := e'.eqH.trans q5
      simp only [tm68] at hr ⊢
      walk_nrm
      refine hr _ (e'.toEC, e'.w) ⟨upd (upd u 1010 undef) 24 (ansV a' sl), ?_, Facts.other (F.set (by decide) rfl rfl) (by decide), hans.trans he1, hhd.trans he2, fun _ => T.cl e'.toEC (hhd.trans he2), .inr ⟨upd_same _ _ _, a', sl, upd_same _ _ _, hls, hg', .inl ⟨by rw [upd_ne _ _ (by decide)]; exact h11, by rw [upd_ne _ _ (by decide)]; exact h12, h14', e'.w.drawn, rfl⟩⟩⟩
      simp [tm68, upd]
    | 11, _ =>
      have h14 : f 14 = false := by cases h : f 14 with | false => rfl | true => exact absurd (hC.deps (l := [11]) h (by kernel_rfl) 11 (by simp)) (by simp [hfi])
      have h14' : upd f 11 true 14 = false := (upd_ne _ _ (by decide)).trans h14
      replace hc := hc h14
      have h10 := (deps_of (l := [10]) (by kernel_rfl) ho hdeps) 10 (by simp)
      obtain ⟨a', sl, h24, hls, hg, h12, dd, rfl⟩ := hw.newAt h10 hfi
      refine Walk.back ?_ dd
      clear hdeps ho hC
      replace hc : ClO g i pA pI pD acap dv hd e.w := ⟨hc.hA, hc.hI, hc.hD, hc.hH, hc.hHz⟩
      have hc1 := hc.new a' sl
      simp only [tm68, h24, ansV] at hr ⊢
      (refine Walk.oa ?_; try walk_nrm)
      refine hr _ (e, ansA e.w a' sl) ⟨upd (upd u 1011 undef) 25 (.slice (some ⟨e.w.heap.size, 0, none⟩) 1 1), ?_, Facts.other (F.set (by decide) rfl rfl) (by decide), he1, he2, fun _ => hc1, .inr ⟨by rw [upd_ne _ _ (by decide)]; exact h10, a', sl, by rw [upd_ne _ _ (by decide), upd_ne _ _ (by decide)]; exact h24, hls, hg, .inr (.inl ⟨upd_same _ _ _, by rw [upd_ne _ _ (by decide)]; exact h12, h14', upd_same _ _ _, (ansA e.w a' sl).drawn, rfl⟩)⟩⟩
      simp [tm68, upd, h24, ansV]
    | 12, _ =>
      have hdd := deps_of (l := [5]) (by kernel_rfl) ho hdeps
      have e19 := F 5 19 _ (hdd 5 (by simp)) rfl rfl
      have h14 : f 14 = false := by cases h : f 14 with | false => rfl | true => exact absurd (hC.deps (l := [12]) h (by kernel_rfl) 12 (by simp)) (by simp [hfi])
      have h14' : upd f 12 true 14 = false := (upd_ne _ _ (by decide)).trans h14
      replace hc := hc h14
      have h11 := (deps_of (l := [10, 11]) (by kernel_rfl) ho hdeps) 11 (by simp)
      have h10 := (deps_of (l := [10, 11]) (by kernel_rfl) ho hdeps) 10 (by simp)
      obtain ⟨a', sl, h24, hls, hg, h25, dd, rfl⟩ := hw.appAt h10 h11 hfi
      obtain ⟨z, hz, hZ⟩ := e.row.z
      have hzl : z.length = ans.length := by rw [← he1, ← hz, List.length_map]
      refine Walk.back ?_ dd
      clear hdeps ho hC
      replace hc : ClO g i pA pI pD acap dv hd (ansA e.w a' sl) := ⟨hc.hA, hc.hI, hc.hD, hc.hH, hc.hHz⟩
      have hrow : (ansA e.w a' sl).ownsRow g.w0.heap.size 81 3 hd ans.length (ansRow z) := by
        have q2 := hZ.own
        rw [hzl, he2] at q2
        exact row_same q2 fun b hb' => heap_new_lt _ _ (q2.lt b hb').2
      have hnews : ∀ (j : Nat) (x : Value), ([.bool a'.ok, .int .i64 a'.n, sl] : List Value)[j]? = some x → (ansA e.w a' sl).cell? ((⟨e.w.heap.size, 0, none⟩ : Addr).add j) = some x := fun j x hx => by
        rw [add_none, Nat.zero_add]
        refine (cell_of (heap_alloc_new _ _) j).trans ?_
        simpa using hx
      have hbase : g.w0.heap.size ≤ (ansA e.w a' sl).heap.size := by
        obtain ⟨hd0, r⟩ := e.rely
        have := r.size
        have := e.size
        have : (ansA e.w a' sl).heap.size = e.w.heap.size + 1 := by simp [ansA]
        omega
      simp only [tm68] at hr ⊢
      simp only [h25, e19]
      refine Walk.append (.tmp 19) (.tmp 25) 79 (ho_of (by conv => lhs; whnf) (by kernel_rfl)) (by rfl) (by decide) rfl g.w0.heap.size 81 _ (.agg #[.bool false, .int .i64 0, .slice none 0 0]) 3 40 (by kernel_rfl) hiA.symm (by rfl) (by rfl) (by rfl) (by rfl) (by decide) hd ans.length (ansRow z) rfl hrow ⟨e.w.heap.size, 0, none⟩ 1 1 [.bool a'.ok, .int .i64 a'.n, sl] rfl (by rfl) hnews (by rcases hls with ⟨_, _, rfl, _⟩; simp [Value.oneCell']) (by decide) (by simp [maxLen]; omega) (by omega) hbase (fun b hb' => e.apart (.inr (.inl (e.hdo b (by rw [he2]; exact hb'))))) (fun gb gcap w3 hown3 hgr hat hlt => ?_)
      walk_nrm
      have hA3 : AppO g e.w a' sl e.hd z gb gcap w3 := by
        rw [← hzl] at hown3
        rw [he2]
        exact ⟨hown3, hgr, hat, hlt⟩
      refine hr _ (e, w3) ⟨upd (upd u 1012 undef) 26 (.slice (some ⟨gb, 0, none⟩) (ans.length + 1) gcap), ?_, Facts.other (F.set (by decide) rfl rfl) (by decide), he1, he2, fun _ => T.app e hA3 hc , .inr ⟨by rw [upd_ne _ _ (by decide)]; exact h10, a', sl, by rw [upd_ne _ _ (by decide), upd_ne _ _ (by decide)]; exact h24, hls, hg, .inr (.inr ⟨by rw [upd_ne _ _ (by decide)]; exact h11, upd_same _ _ _, z, gb, gcap, w3, hz, hZ, hA3, by rw [upd_same, he1], .inl ⟨h14', w3.drawn, rfl⟩⟩)⟩⟩
      simp [tm68, upd, h25, e19]
    | 13, _ =>
      have hdd := deps_of (l := [0, 1, 2, 3, 4, 5, 6, 7, 8, 9, 10, 11, 12]) (by kernel_rfl) ho hdeps
      have e14 := F 0 14 _ (hdd 0 (by simp)) rfl rfl
      have e15 := F 1 15 _ (hdd 1 (by simp)) rfl rfl
      have h14 : f 14 = false := by cases h : f 14 with | false => rfl | true => exact absurd (hC.deps (l := [13]) h (by kernel_rfl) 13 (by simp)) (by simp [hfi])
      have h14' : upd f 13 true 14 = false := (upd_ne _ _ (by decide)).trans h14
      replace hc := hc h14
      clear hdeps ho hC hfi hdd
      obtain ⟨hA, hI, hD, hH, hHz⟩ := hc
      simp only [tm68] at hr ⊢
      (refine Walk.oq ?_; try walk_nrm)
      refine hr _ (e, w') ⟨upd u 27 (.pointer (some ⟨g.A, i, none⟩)), ?_, F.set (by decide) rfl rfl, he1, he2, fun _ => ⟨hA, hI, hD, hH, hHz⟩, hw.quiet (by decide) (by decide)⟩
      simp [tm68, upd, e14, e15]
    | 14, _ =>
      have hdd := deps_of (l := [0, 1, 2, 3, 4, 5, 6, 7, 8, 9, 10, 11, 12, 13]) (by kernel_rfl) ho hdeps
      have e27 := F 13 27 _ (hdd 13 (by simp)) rfl rfl
      replace hc := hc hfi
      have h10 := hdd 10 (by simp)
      have h11 := hdd 11 (by simp)
      have h12 := hdd 12 (by simp)
      obtain ⟨a', sl, h24, hls, hg, z, gb, gcap, w3, hz, hZ, hA3, h26, dd, rfl⟩ := hw.stAt h10 h11 h12 hfi
      refine Walk.back ?_ dd
      obtain ⟨hA, hI, hD, hH, hHz⟩ := hc
      replace hH : w3.cell? ⟨g.A, i, none⟩ = some hd := hH
      replace hHz : w3.frozen? ⟨g.A, i, none⟩ = false := hHz
      clear hdeps ho hC hdd hA hI hD
      simp only [tm68] at hr ⊢
      have h26' : u 26 = .slice (some ⟨gb, 0, none⟩) (ans.length + 1) gcap := by rw [h26, he1]
      simp only [h26', e27]
      (have hfr := e.apA ⟨g.A, i, none⟩ rfl; refine Walk.os hfr hH ?_; clear hfr; try walk_nrm)
      refine hr _ (e, w3.setCell ⟨g.A, i, none⟩ (.slice (some ⟨gb, 0, none⟩) (ans.length + 1) gcap)) ⟨upd u 1014 undef, ?_, F.set (by decide) rfl rfl, he1, he2, fun h => (by rw [upd_same] at h; cases h), .inr ⟨by rw [upd_ne _ _ (by decide)]; exact h10, a', sl, by rw [upd_ne _ _ (by decide)]; exact h24, hls, hg, .inr (.inr ⟨by rw [upd_ne _ _ (by decide)]; exact h11, by rw [upd_ne _ _ (by decide)]; exact h12, z, gb, gcap, w3, hz, hZ, hA3, by rw [upd_ne _ _ (by decide)]; exact h26, .inr ⟨upd_same _ _ _, (w3.setCell ⟨g.A, i, none⟩ (.slice (some ⟨gb, 0, none⟩) (ans.length + 1) gcap)).drawn, by rw [upd_ne _ _ (by decide), h26']; rfl⟩⟩)⟩⟩
      simp [tm68, upd, h24, h26', e27]
  · rintro f a ⟨e, w'⟩ ⟨u, rfl, F, he1, he2, hc, hw⟩ hall
    have hsz : reg109_3.size = 15 := size109_3
    obtain ⟨a', sl, hls, hg, z, gb, gcap, w3, hz, hZ, hA3, dd, hw'⟩ := hw.endAt (hall 10 (by omega)) (hall 12 (by omega)) (hall 14 (by omega))
    obtain ⟨e', h1, h2, h3, h4, h5⟩ := e.told hls hz hZ hA3
    have := hk u e' a' (h4.trans (by dsimp only at he1; rw [he1])) (by rw [h1, h3, h4]; exact hg)
    dsimp only at hw' ⊢
    subst hw'
    refine Walk.back ?_ dd
    rw [← h1, ← h2, ← h5]
    exact this
end
end
section
noncomputable def hd68 (sv : Value) (pO pA pI pD : Nat) (ov : Value) (ln j : Nat) (u : Nat → Value) : Frame :=
  (base 109).at { tmps := #[sv, .pointer (some ⟨pO, 0, none⟩), .pointer (some ⟨pA, 0, none⟩), .pointer (some ⟨pI, 0, none⟩), .pointer (some ⟨pD, 0, none⟩), u 5, u 6, u 7, ov, .int .i64 ln, .int .i64 j, u 11, u 12, u 13, u 14, u 15, u 16, u 17, u 18, u 19, u 20, u 21, u 22, u 23, u 24, u 25, u 26, u 27, u 28], defers := [] } [.code (.seq (.region 1 reg109_1 false) (.seq (.cond (.tmp 11 ) (.skip) (.exit 0)) (.seq (.block 1 (.seq (.region 2 reg109_2 false) (.region 3 reg109_3 true))) (.region 4 reg109_4 false)))), .inLoop (.seq (.region 1 reg109_1 false) (.seq (.cond (.tmp 11 ) (.skip) (.exit 0)) (.seq (.block 1 (.seq (.region 2 reg109_2 false) (.region 3 reg109_3 true))) (.region 4 reg109_4 false)))), .inBlock 0]
section
variable {L : La} {g : OG} {S : Stile} {i : Nat}
def EW (e : EC L g S i) (fr : Frame) : Prop := Walk Try.prog false (DR e.τ.V) (StopT L g S i (Cont L g S i e.N) e.τ) (G fr (e.τ.f :: e.τ.fs)) e.w
theorem EC.grow (e : EC L g S i) (w' : World) (hs : e.w.heap.size ≤ w'.heap.size) (hb : ∀ b, b < e.w.heap.size → w'.heap[b]? = e.w.heap[b]?) : ∃ e' : EC L g S i, e'.τ = e.τ ∧ e'.N = e.N ∧ e'.s = e.s ∧ e'.ans = e.ans ∧ e'.hd = e.hd ∧ e'.w = w' := by
  obtain ⟨hd0, r⟩ := e.rely
  obtain ⟨arr, arr', a1, a2, a3, a4, a5⟩ := e.an
  have hA : g.A < e.w.heap.size := by have := r.alo; have := r.size; have := e.size; omega
  exact ⟨{ τ := e.τ, N := e.N, w := w', y := e.y, s := e.s, ans := e.ans, hd := e.hd, le := e.le, size := Nat.le_trans e.size hs, frame := fun b h1 h2 h3 h4 => (hb b (Nat.lt_of_lt_of_le h1 e.size)).trans (e.frame b h1 h2 h3 h4), pub := e.pub, rely := e.rely, an := ⟨arr, arr', a1, (hb _ hA).trans a2, a3, a4, a5⟩, row := (e.row.same fun b h => hb b (e.lo h).2).imp fun b h => ⟨h.1.imp id fun h => ⟨h.1, by omega⟩, h.2⟩, inv := L.stable e.inv fun b h => hb b (L.lt e.inv h) }, rfl, rfl, rfl, rfl, rfl, rfl⟩
variable {pO pA pI pD acap : Nat} {oa : Option Addr} {oc : Nat} {fdo : FuncId} {first cap : Array Value}
theorem loop68_end (T : ThS L g i pO pA pI pD acap oa oc (.func (.func fdo) first cap)) (e : EC L g S i) (hg : e.τ.goal = settleO L (i : Nat) e.s [] e.ans) (ov : Value) (u : Nat → Value) :
    EW e (hd68 (.iface 230 (.pointer (some ⟨S.p i, 0, none⟩))) pO pA pI pD ov (g.ops i).length (g.ops i).length u) := by
  unfold EW hd68
  repeat (first | refine Walk.cx ?_ | (refine Walk.cReg ?_; simp only [z109]) | (refine Walk.oq ?_; try walk_nrm) | (refine Walk.un ?_; walk_nrm))
  refine Walk.on0 rfl rfl Try.func109 rfl ?_
  refine .stop fun d => ⟨e.y, e.le, e.size, e.frame, ?_, e.pub, e.hd, e.an, ?_, .inl ⟨?_, rfl⟩⟩
  · rw [hg]; exact L.stable e.inv fun _ _ => rfl
  · rw [hg]; exact e.row.same fun _ _ => rfl
  · rw [hg]; rfl
theorem loop68_go (T : ThS L g i pO pA pI pD acap oa oc (.func (.func fdo) first cap)) {fn : Func} (hf : Try.prog.funcs[fdo]? = some fn) (hname : (fn.name == "runtime.NumGoroutine") = false) (hb : fn.body.isNone = false) (hdo : DoOK L fdo first cap)
    (e : EC L g S i) (j : Nat) (o : OpV) (rest : List OpV) (ho : (g.ops i)[j]? = some o) (hlen : e.ans.length = j) (hg : e.τ.goal = settleO L (i : Nat) e.s (o :: rest) e.ans) (u : Nat → Value)
    (hk : ∀ (e' : EC L g S i) (u' : Nat → Value), e'.ans.length = j + 1 → e'.τ.goal = settleO L (i : Nat) e'.s rest e'.ans → EW e' (hd68 (.iface 230 (.pointer (some ⟨S.p i, 0, none⟩))) pO pA pI pD (.slice oa (g.ops i).length oc) (g.ops i).length (j + 1) u')) :
    EW e (hd68 (.iface 230 (.pointer (some ⟨S.p i, 0, none⟩))) pO pA pI pD (.slice oa (g.ops i).length oc) (g.ops i).length j u) := by
  obtain ⟨fsO, huO⟩ := structT 84 (by kernel_rfl)
  have hjl : j < (g.ops i).length := (List.getElem?_eq_some_iff.1 ho).1
  have hl64 := T.len
  obtain ⟨ob, off, rfl, n1, n2, c0, c1, c2, c3⟩ := T.ops j o ho
  replace c0 := e.cell c0 ⟨n1, n2⟩
  replace c1 := e.cell c1 ⟨n1, n2⟩
  replace c2 := e.cell c2 ⟨n1, n2⟩
  replace c3 := e.cell c3 ⟨n1, n2⟩
  have hw1 : IntKind.wrap .i64 ((j : Int) + 1) = (j : Int) + 1 := by rw [IntKind.wrap_i64]; omega
  generalize hln : (g.ops i).length = ln at *
  have hi0 : (0 : Int) ≤ j := by omega
  have hi1 : decide ((j : Int) < ln) = true := by simp; omega
  have hi2 : decide (ln ≤ j) = false := by simp; omega
  have hi3 : decide (j < ln) = true := by simp; omega
  unfold EW hd68
  repeat (first | refine Walk.cx ?_ | (refine Walk.cReg ?_; simp only [z109]) | (refine Walk.oq ?_; try walk_nrm) | (refine Walk.un ?_; walk_nrm))
  refine Walk.loadS 84 (.tmp 12) (ho_of (by conv => lhs; whnf) (by kernel_rfl)) (by rfl) (by decide) rfl ob (off + j * 4) [.int .i64 o.k, .int .i64 o.a, .int .i64 o.b, .int .i64 o.c] (.struct fsO) (by simp [Act.eval]) (fun q v hq => ?_) huO rfl (by kernel_rfl) ?_
  · match q, hq with
    | 0, hq => cases hq; exact c0
    | 1, hq => cases hq; exact c1
    | 2, hq => cases hq; exact c2
    | 3, hq => cases hq; exact c3
  walk_nrm
  (refine Walk.oa ?_; try walk_nrm)
  have hX := heap_alloc_new e.w (.cells #[.int .i64 0, .int .i64 0, .int .i64 0, .int .i64 0] 84)
  have hap := e.apart (b := e.w.heap.size) (.inr (.inr (.inl (Nat.le_refl _))))
  refine Walk.storeS 84 (.tmp 7) (.tmp 13) (ho_of (by conv => lhs; whnf) (by kernel_rfl)) (by rfl) (by decide) rfl e.w.heap.size #[.int .i64 o.k, .int .i64 o.a, .int .i64 o.b, .int .i64 o.c] _ 84 rfl rfl hX (by kernel_rfl) (by rfl) (by simp [Value.oneCell']) hap ?_
  have hX2 := setRow_self (cells := #[.int .i64 o.k, .int .i64 o.a, .int .i64 o.b, .int .i64 o.c]) hX
  walk_nrm
  repeat (first | refine Walk.cx ?_ | (refine Walk.cReg ?_; simp only [z109]) | (refine Walk.oq ?_; try walk_nrm) | (refine Walk.un ?_; walk_nrm))
  obtain ⟨e1, q1, q2, q3, q4, q5, q6⟩ := e.grow ((e.w.alloc (.cells #[.int .i64 0, .int .i64 0, .int .i64 0, .int .i64 0] 84)).setRow e.w.heap.size #[.int .i64 o.k, .int .i64 o.a, .int .i64 o.b, .int .i64 o.c]) (by rw [setRow_size]; simp) (fun b hb' => (setRow_other _ _ (by omega)).trans (heap_new_lt _ _ hb'))
  have key := reg68_walk (rest' := rest) (X := e.w.heap.size) T hf hname hb hdo e1 (by rw [q4]; omega) (by rw [q1, q3, q4, hg]; rfl) (by rw [q6]; exact hX2) (.slice (some ⟨ob, off, none⟩) ln oc) ln j
  rw [q1, q2, q6] at key
  simp only [tm68] at key
  refine key (fun k => ([u 0, u 1, u 2, u 3, u 4, u 5, u 6, u 7, u 8, u 9, u 10, .bool true, .pointer (some ⟨ob, off + j * 4, none⟩), opVal o, u 14, u 15, u 16, u 17, u 18, u 19, u 20, u 21, u 22, u 23, u 24, u 25, u 26, u 27, u 28] : List Value).getD k undef) _ ?_
  · intro u' e' a ha hg'
    have := hk e' (fun k => ([u' 0, u' 1, u' 2, u' 3, u' 4, u' 5, u' 6, .pointer (some ⟨e.w.heap.size, 0, none⟩), u' 8, u' 9, u' 10, u' 11, u' 12, u' 13, u' 14, u' 15, u' 16, u' 17, u' 18, u' 19, u' 20, u' 21, u' 22, u' 23, u' 24, u' 25, u' 26, u' 27, .int .i64 ((j : Int) + 1)] : List Value).getD k undef) (by rw [ha, q4]; simp; omega) hg'
    unfold EW hd68 at this
    have hc : ((j + 1 : Nat) : Int) = (j : Int) + 1 := by simp
    simp only [hc] at this
    repeat (first | refine Walk.cx ?_ | (refine Walk.cReg ?_; simp only [z109]) | (refine Walk.oq ?_; try walk_nrm) | (refine Walk.un ?_; walk_nrm))
    refine Walk.ctl rfl (fun w => stepG_inLoop) ?_
    exact this
theorem loop68 (T : ThS L g i pO pA pI pD acap oa oc (.func (.func fdo) first cap)) {fn : Func} (hf : Try.prog.funcs[fdo]? = some fn) (hname : (fn.name == "runtime.NumGoroutine") = false) (hb : fn.body.isNone = false) (hdo : DoOK L fdo first cap) :
    ∀ (left : List OpV) (e : EC L g S i) (u : Nat → Value), (g.ops i).drop e.ans.length = left → e.ans.length ≤ (g.ops i).length → e.τ.goal = settleO L (i : Nat) e.s left e.ans → EW e (hd68 (.iface 230 (.pointer (some ⟨S.p i, 0, none⟩))) pO pA pI pD (.slice oa (g.ops i).length oc) (g.ops i).length e.ans.length u) := by
  intro left
  induction left with
  | nil =>
    intro e u hd hl hg
    have : e.ans.length = (g.ops i).length := by have := List.drop_eq_nil_iff.1 hd; omega
    rw [this]
    exact loop68_end T e hg _ u
  | cons o rest ih =>
    intro e u hd hl hg
    have hj : e.ans.length < (g.ops i).length := by
      refine Nat.lt_of_not_le fun h => ?_
      rw [List.drop_eq_nil_iff.2 h] at hd; cases hd
    rw [List.drop_eq_getElem_cons hj] at hd
    obtain ⟨h1, h2⟩ := List.cons.inj hd
    refine loop68_go T hf hname hb hdo e _ o rest (by rw [List.getElem?_eq_getElem hj, h1]) rfl hg u fun e' u' h3 h4 => ?_
    rw [← h3]
    exact ih e' u' (by rw [h3]; exact h2) (by omega) h4
theorem enter68 (T : ThS L g i pO pA pI pD acap oa oc (.func (.func fdo) first cap)) {fn : Func} (hf : Try.prog.funcs[fdo]? = some fn) (hname : (fn.name == "runtime.NumGoroutine") = false) (hb : fn.body.isNone = false) (hdo : DoOK L fdo first cap)
    (e : EC L g S i) (ha : e.ans = []) (hg : e.τ.goal = settleO L (i : Nat) e.s (g.ops i) []) :
    EW e (Frame.enter Try.prog 109 #[.iface 230 (.pointer (some ⟨S.p i, 0, none⟩)), .pointer (some ⟨pO, 0, none⟩), .pointer (some ⟨pA, 0, none⟩), .pointer (some ⟨pI, 0, none⟩), .pointer (some ⟨pD, 0, none⟩)] .normal) := by
  have h := loop68 T hf hname hb hdo (g.ops i) e (fun _ => undef) (by rw [ha]; rfl) (by rw [ha]; simp) (by rw [ha]; exact hg)
  have cO := e.cell T.cO T.nO
  rw [ha] at h
  unfold EW hd68 at h
  unfold EW
  simp only [List.length_nil] at h
  rw [enter_at _ Try.func109 code109_is]
  simp only [Try.ntmps109, ez, Nat.reduceAdd, Nat.reduceSub]
  repeat (first | refine Walk.cx ?_ | (refine Walk.cReg ?_; simp only [z109]) | (refine Walk.oq ?_; try walk_nrm) | (refine Walk.un ?_; walk_nrm))
  refine Walk.ctl rfl (fun w => stepG_loop) ?_
  exact h
end
end
end Go.Proofs.Ytgfajibjedfkdaa
