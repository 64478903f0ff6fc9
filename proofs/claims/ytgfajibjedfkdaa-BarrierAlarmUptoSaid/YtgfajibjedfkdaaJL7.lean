/- Part 7. -/
import Derived.Test.YtgfajibjedfkdaaJL6
import Derived.Deep.Heap
set_option linter.unusedSimpArgs false
set_option linter.unusedVariables false
set_option maxHeartbeats 8000000
set_option maxRecDepth 100000
namespace Go.Proofs.Ytgfajibjedfkdaa
open Go.Conc Go.RowKit Go.Relay
open Go.ConcN (upd upd_ne upd_same)
section
structure Fini {S : Stile} {X : Type} (C : Crew S X) (n0 : Nat) (D : Dyn) (x : X) (w : World) (q j : Nat) : Prop where
  sys : Sys S n0 D w
  inv : C.inv D.k (upd D.own q (some .ord)) x D.cs w
  qo : D.own q = none
  qh : ∃ arr, w.heap[q]? = some (.cells arr 4 (0, 0)) ∧ ∀ i, i < S.n → arr[i]? = some (.bool (decide (i < j) && (C.out x i == some true)))
  hi : ∀ i, j ≤ i → i < S.n → D.f i = D.e i ∧ D.e i = (C.out x i).isSome
  lo : ∀ i, i < j → D.e i = true
  b : ∀ i, i < S.n → D.b i = (C.out x i == some true)
  k : D.k = S.n
section
variable {S : Stile} {X : Type} {C : Crew S X} {n0 : Nat} {D D' : Dyn} {w w' : World} {i j q nG : Nat} {m : Machine} {T : Trace} {l : List Frame} {x : X} {home : Goroutine → Prop}
theorem Fini.lt (H : Fini C n0 D x w q j) : q < w.heap.size := by
  obtain ⟨arr, h, _⟩ := H.qh
  exact (Array.getElem?_eq_some_iff.1 h).1
theorem Fini.next (hs : Sys S n0 D' w) (hi : C.inv D'.k (upd D'.own q (some .ord)) x D'.cs w) (qo : D'.own q = none) (qh : ∃ arr, w.heap[q]? = some (.cells arr 4 (0, 0)) ∧ ∀ i, i < S.n → arr[i]? = some (.bool (decide (i < j) && (C.out x i == some true))))
    (hhi : ∀ i, j + 1 ≤ i → i < S.n → D'.f i = D'.e i ∧ D'.e i = (C.out x i).isSome) (hlo : ∀ i, i < j + 1 → D'.e i = true) (hb : ∀ i, i < S.n → D'.b i = (C.out x i == some true)) (hk : D'.k = S.n) (hj : j < S.n) {br : Bool} (hbr : br = (C.out x j == some true)) (d : Nat) :
    Fini C n0 D' x ((w.setCell ⟨q, j, none⟩ (.bool br)).at d) q (j + 1) := by
  obtain ⟨arr, h, ha⟩ := qh
  refine ⟨Sys.at (hs.same (Nat.le_of_eq (size_set ..).symm) fun b x hx => heap_set_other w _ b _ fun e => ?_) d, C.keep hi ((Keeps.set (a := ⟨q, j, none⟩) (r := .ord) _ (upd_same _ q _)).at d), qo, ⟨_, heap_set_self w _ h, fun i hi => ?_⟩, hhi, hlo, hb, hk⟩
  · subst e; rw [qo] at hx; cases hx
  · have hl : j < arr.size := (Array.getElem?_eq_some_iff.1 (ha j hj)).1
    by_cases e : i = j
    · subst e
      rw [Array.getElem?_setIfInBounds_self_of_lt hl, hbr]
      simp
    · rw [Array.getElem?_setIfInBounds_ne (Ne.symm e), ha i hi]
      have : decide (i < j) = decide (i < j + 1) := by
        by_cases h : i < j
        · simp [h, Nat.lt_succ_of_lt h]
        · have : ¬ i < j + 1 := by omega
          simp [h, this]
      rw [this]
end
end
section
variable {main : Bool} {V : Nat → Option Wait}
noncomputable def chan0 : Obj := .chan 0 #[] false 0 0 false
noncomputable def standW (w : World) (t r : Nat) : World := ((w.alloc chan0).alloc chan0).alloc (.cells #[.chan (some t), .chan (some r), .bool false, .bool false] 236)
end
section
variable {main : Bool} {V : Nat → Option Wait}
def TR (w : World) (t r : Nat) : Prop := (t = w.heap.size ∧ r = w.heap.size + 1) ∨ (t = w.heap.size + 1 ∧ r = w.heap.size)
structure NT (V : Nat → Option Wait) (B : Nat) (oa : Option Addr) (on oc n0 : Nat) (xs : List Value) (w : World) : Prop where
  h0 : w.cell? ⟨B, 0, none⟩ = some (.slice oa on oc)
  hz : w.frozen? ⟨B, 0, none⟩ = false
  hf : Free V ⟨B, 0, none⟩
  own : w.ownsRow n0 230 1 (.slice oa on oc) on xs
  hn0 : n0 ≤ w.heap.size
  hon : on ≤ 64
  hap : ∀ g, (Value.slice oa on oc).ownBlock = some g → Apart V g ∧ g ≠ B
noncomputable def newW (w : World) (t r : Nat) : World := (standW w t r).alloc (.cells #[.pointer (some ⟨w.heap.size + 2, 0, none⟩)] 230)
structure NT7 (B : Nat) (oa : Option Addr) (on oc n0 : Nat) (xs : List Value) (w : World) (t r g cap : Nat) (w' : World) : Prop where
  own : w'.ownsRow n0 230 1 (.slice (some ⟨g, 0, none⟩) (on + 1) cap) (on + 1) (xs ++ [.pointer (some ⟨w.heap.size + 2, 0, none⟩)])
  grown : (newW w t r).grownBy w' (Value.slice oa on oc).ownBlock
  hat : (Value.slice oa on oc).ownBlock = some g ∨ g = (newW w t r).heap.size
  hlt : g < w'.heap.size
  h0 : w'.cell? ⟨B, 0, none⟩ = some (.slice oa on oc)
  hz : w'.frozen? ⟨B, 0, none⟩ = false
section
variable {B : Nat} {oa : Option Addr} {on oc n0 : Nat} {xs : List Value} {w : World}
theorem NT.stand (H : NT V B oa on oc n0 xs w) (t r : Nat) : (standW w t r).cell? ⟨B, 0, none⟩ = some (.slice oa on oc) ∧ (standW w t r).frozen? ⟨B, 0, none⟩ = false :=
  ⟨cell_alloc _ _ (cell_alloc _ _ (cell_alloc _ _ H.h0)), frozen_alloc _ _ (cell_alloc _ _ (cell_alloc _ _ H.h0)) (frozen_alloc _ _ (cell_alloc _ _ H.h0) (frozen_alloc _ _ H.h0 H.hz))⟩
theorem NT.new (H : NT V B oa on oc n0 xs w) (t r : Nat) : (newW w t r).cell? ⟨B, 0, none⟩ = some (.slice oa on oc) ∧ (newW w t r).frozen? ⟨B, 0, none⟩ = false :=
  ⟨cell_alloc _ _ (H.stand t r).1, frozen_alloc _ _ (H.stand t r).1 (H.stand t r).2⟩
theorem newW_size (w : World) (t r : Nat) : (newW w t r).heap.size = w.heap.size + 4 := by simp [newW, standW]
theorem standW_size (w : World) (t r : Nat) : (standW w t r).heap.size = w.heap.size + 3 := by simp [standW]
end
structure St53 (w : World) (B : Nat) (oa : Option Addr) (on oc n0 : Nat) (xs : List Value) (t r g cap : Nat) (w' : World) (f : Nat → Bool) (x : World) : Prop where
  s0 : f 5 = false → ∃ d, x = w.at d
  s5 : f 5 = true → TR w t r ∧ (f 6 = false → ∃ d, x = (standW w t r).at d)
  s6 : f 6 = true → f 7 = false → ∃ d, x = (newW w t r).at d
  s7 : f 7 = true → NT7 B oa on oc n0 xs w t r g cap w' ∧ (f 10 = false → ∃ d, x = w'.at d)
  s10 : f 10 = true → ∃ d, x = (w'.setCell ⟨B, 0, none⟩ (.slice (some ⟨g, 0, none⟩) (on + 1) cap)).at d
section
variable {w : World} {B : Nat} {oa : Option Addr} {on oc n0 : Nat} {xs : List Value} {t r g cap : Nat} {w' : World} {f : Nat → Bool} {x : World}
theorem St53.quiet (h : St53 w B oa on oc n0 xs t r g cap w' f x) {i : Nat} (h5 : i ≠ 5) (h6 : i ≠ 6) (h7 : i ≠ 7) (h10 : i ≠ 10) : St53 w B oa on oc n0 xs t r g cap w' (upd f i true) x := by
  refine ⟨?_, ?_, ?_, ?_, ?_⟩
  · rw [upd_ne _ _ (Ne.symm h5)]; exact h.s0
  · rw [upd_ne _ _ (Ne.symm h5), upd_ne _ _ (Ne.symm h6)]; exact h.s5
  · rw [upd_ne _ _ (Ne.symm h6), upd_ne _ _ (Ne.symm h7)]; exact h.s6
  · rw [upd_ne _ _ (Ne.symm h7), upd_ne _ _ (Ne.symm h10)]; exact h.s7
  · rw [upd_ne _ _ (Ne.symm h10)]; exact h.s10
end
variable {Stop : Goroutine → World → Prop} {k : List Item} {cs : List Frame}
end
section
variable {V : Nat → Option Wait} {B : Nat} {oa : Option Addr} {on oc n0 : Nat} {xs : List Value} {w : World} {t r g cap : Nat} {w' : World}
noncomputable def ntW (B on g cap : Nat) (w' : World) : World := w'.setCell ⟨B, 0, none⟩ (.slice (some ⟨g, 0, none⟩) (on + 1) cap)
theorem NT7.ne (H : NT V B oa on oc n0 xs w) (h7 : NT7 B oa on oc n0 xs w t r g cap w') : g ≠ B := fun e => by
  rcases h7.hat with h | h
  · exact (H.hap g h).2 e
  · have := cell_lt w H.h0; rw [newW_size] at h; simp only at this; omega
theorem NT7.size (h7 : NT7 B oa on oc n0 xs w t r g cap w') : w.heap.size + 4 ≤ (ntW B on g cap w').heap.size := by
  have h := h7.grown.size
  rw [newW_size] at h
  unfold ntW
  rw [Go.Deep.nblk_setCell]
  exact h
theorem NT.next (H : NT V B oa on oc n0 xs w) (hlt : on < 64) (hA : ∀ b, w.heap.size ≤ b → Apart V b) (h7 : NT7 B oa on oc n0 xs w t r g cap w') :
    NT V B (some ⟨g, 0, none⟩) (on + 1) cap n0 (xs ++ [.pointer (some ⟨w.heap.size + 2, 0, none⟩)]) (ntW B on g cap w') := by
  refine ⟨World.cell?_setCell_same w' ⟨B, 0, none⟩ _ h7.h0, (World.frozen?_setCell ..).trans h7.hz, H.hf, h7.own.kept (row := some B) ⟨rfl, rfl, rfl, Nat.le_of_eq (Go.Deep.nblk_setCell ..).symm, fun b _ hb => Go.Deep.blk_setCell_other _ _ _ b (fun e => hb (by rw [e]))⟩ (.inr (by simp [Value.ownBlock, h7.ne H])), ?_, by omega, fun b hb => ?_⟩
  · have := h7.size; have := H.hn0; omega
  · obtain rfl : g = b := by simpa [Value.ownBlock] using hb
    refine ⟨?_, h7.ne H⟩
    rcases h7.hat with h | h
    · exact (H.hap _ h).1
    · exact hA _ (by rw [newW_size] at h; omega)
theorem NT7.block (h7 : NT7 B oa on oc n0 xs w t r g cap w') {b : Nat} (hb : b < w.heap.size) (hbB : b ≠ B) (hbo : some b ≠ (Value.slice oa on oc).ownBlock) : (ntW B on g cap w').heap[b]? = w.heap[b]? := by
  have e4 : (newW w t r).heap[b]? = w.heap[b]? := by
    unfold newW standW
    rw [Below.heap_alloc _ _ _ (by simp; omega), Below.heap_alloc _ _ _ (by simp; omega), Below.heap_alloc _ _ _ (by simp; omega), Below.heap_alloc _ _ _ hb]
  exact (Go.Deep.blk_setCell_other _ _ _ b hbB).trans ((h7.grown.block b (by rw [newW_size]; omega) hbo).trans e4)
theorem NT7.stand (h7 : NT7 B oa on oc n0 xs w t r g cap w') (hB : B < w.heap.size) (hown : ∀ b, (Value.slice oa on oc).ownBlock = some b → b < w.heap.size) {b : Nat} (hb : w.heap.size ≤ b) (hb2 : b < w.heap.size + 3) : (ntW B on g cap w').heap[b]? = (standW w t r).heap[b]? := by
  have e4 : (newW w t r).heap[b]? = (standW w t r).heap[b]? := by
    unfold newW
    exact Below.heap_alloc _ _ _ (by rw [standW_size]; exact hb2)
  exact (Go.Deep.blk_setCell_other _ _ _ b (by simp only; omega)).trans ((h7.grown.block b (by rw [newW_size]; omega) (fun e => by have := hown b e.symm; omega)).trans e4)
end
section
variable {V : Nat → Option Wait} {B : Nat} {oa : Option Addr} {on oc n0 : Nat} {xs : List Value} {w : World} {t r g cap : Nat} {w' : World}
structure StandIs (w : World) (n0 : Nat) (s : Nat × Nat × Nat) : Prop where
  c0 : w.heap[s.1]? = some chan0
  c1 : w.heap[s.1 + 1]? = some chan0
  cells : w.heap[s.1 + 2]? = some (.cells #[.chan (some s.2.1), .chan (some s.2.2), .bool false, .bool false] 236)
  tr : (s.2.1 = s.1 ∧ s.2.2 = s.1 + 1) ∨ (s.2.1 = s.1 + 1 ∧ s.2.2 = s.1)
  lo : n0 ≤ s.1
  hi : s.1 + 3 ≤ w.heap.size
structure Built (w : World) (B n0 : Nat) (v : Value) (sts : List (Nat × Nat × Nat)) : Prop where
  all : ∀ s ∈ sts, StandIs w n0 s
  apart : sts.Pairwise (fun s s' => s.1 + 3 ≤ s'.1)
  list : ∀ b, v.ownBlock = some b → b < w.heap.size ∧ n0 ≤ b ∧ ∀ s ∈ sts, b < s.1 ∨ s.1 + 3 ≤ b
  low : B < n0
theorem standW_blocks (w : World) (t r : Nat) : (standW w t r).heap[w.heap.size]? = some chan0 ∧ (standW w t r).heap[w.heap.size + 1]? = some chan0 ∧ (standW w t r).heap[w.heap.size + 2]? = some (.cells #[.chan (some t), .chan (some r), .bool false, .bool false] 236) := by
  have e1 : (w.alloc chan0).heap.size = w.heap.size + 1 := by simp
  have e2 : ((w.alloc chan0).alloc chan0).heap.size = w.heap.size + 2 := by simp
  unfold standW
  refine ⟨?_, ?_, ?_⟩
  · rw [Below.heap_alloc _ _ _ (by omega), Below.heap_alloc _ _ _ (by omega)]; exact heap_alloc_new w _
  · rw [Below.heap_alloc _ _ _ (by omega), ← e1]; exact heap_alloc_new _ _
  · rw [← e2]; exact heap_alloc_new _ _
theorem Built.next {sts : List (Nat × Nat × Nat)} (H : NT V B oa on oc n0 xs w) (hT : TR w t r) (h7 : NT7 B oa on oc n0 xs w t r g cap w') (hb : Built w B n0 (.slice oa on oc) sts) :
    Built (ntW B on g cap w') B n0 (.slice (some ⟨g, 0, none⟩) (on + 1) cap) (sts ++ [(w.heap.size, t, r)]) := by
  have hn := H.hn0
  have hB := hb.low
  have hs := h7.size
  have hg : (Value.slice oa on oc).ownBlock = some g ∨ g = w.heap.size + 4 := by have h := h7.hat; rwa [newW_size] at h
  have hlt : g < (ntW B on g cap w').heap.size := by unfold ntW; rw [Go.Deep.nblk_setCell]; exact h7.hlt
  have hold : ∀ s ∈ sts, ∀ b, s.1 ≤ b → b < s.1 + 3 → (ntW B on g cap w').heap[b]? = w.heap[b]? := fun s hm b h1 h2 => by
    have hi := hb.all s hm
    have := hi.lo; have := hi.hi
    refine h7.block (by omega) (by omega) fun e => ?_
    rcases (hb.list b e.symm).2.2 s hm with h | h <;> omega
  have hnew : ∀ b, w.heap.size ≤ b → b < w.heap.size + 3 → (ntW B on g cap w').heap[b]? = (standW w t r).heap[b]? := fun b h1 h2 => h7.stand (by omega) (fun b e => (hb.list b e).1) h1 h2
  obtain ⟨q0, q1, q2⟩ := standW_blocks w t r
  refine ⟨fun s hm => ?_, ?_, fun b e => ?_, hB⟩
  · rcases List.mem_append.1 hm with hm | hm
    · have hi := hb.all s hm
      have := hi.lo; have := hi.hi
      exact ⟨(hold s hm _ (by omega) (by omega)).trans hi.c0, (hold s hm _ (by omega) (by omega)).trans hi.c1, (hold s hm _ (by omega) (by omega)).trans hi.cells, hi.tr, hi.lo, by omega⟩
    · obtain rfl : s = (w.heap.size, t, r) := by simpa using hm
      exact ⟨(hnew _ (by simp) (by simp)).trans q0, (hnew _ (by simp) (by simp)).trans q1, (hnew _ (by simp) (by simp)).trans q2, hT, hn, by simp only; omega⟩
  · refine List.pairwise_append.2 ⟨hb.apart, by simp, fun s hm s' hm' => ?_⟩
    obtain rfl : s' = (w.heap.size, t, r) := by simpa using hm'
    exact (hb.all s hm).hi
  · obtain rfl : g = b := by simpa [Value.ownBlock] using e
    refine ⟨hlt, ?_, fun s hm => ?_⟩
    · rcases hg with h | h
      · exact (hb.list _ h).2.1
      · omega
    · rcases List.mem_append.1 hm with hm | hm
      · rcases hg with h | h
        · exact (hb.list _ h).2.2 s hm
        · have := (hb.all s hm).hi; omega
      · obtain rfl : s = (w.heap.size, t, r) := by simpa using hm
        rcases hg with h | h
        · have := (hb.list _ h).1; simp only; omega
        · simp only; omega
end
section
variable {main : Bool} {V : Nat → Option Wait} {B n0 : Nat}
structure Rest53 (B n0 : Nat) (w w0 : World) : Prop where
  low : ∀ b, b < n0 → b ≠ B → w0.heap[b]? = w.heap[b]?
  cell : ∀ i, i ≠ 0 → w0.cell? ⟨B, i, none⟩ = w.cell? ⟨B, i, none⟩ ∧ w0.frozen? ⟨B, i, none⟩ = w.frozen? ⟨B, i, none⟩
  size : w.heap.size ≤ w0.heap.size
theorem Rest53.trans {a b c : World} (h : Rest53 B n0 a b) (k : Rest53 B n0 b c) : Rest53 B n0 a c :=
  ⟨fun x h1 h2 => (k.low x h1 h2).trans (h.low x h1 h2), fun i hi => ⟨(k.cell i hi).1.trans (h.cell i hi).1, (k.cell i hi).2.trans (h.cell i hi).2⟩, Nat.le_trans h.size k.size⟩
end
section
section
variable (B sb : Nat) (sts : List (Nat × Nat × Nat))
def stA (i : Nat) : Nat × Nat × Nat := sts.getD i (0, 0, 0)
structure Far : Prop where
  lo : ∀ i, i < sts.length → B < (stA sts i).1
  tr : ∀ i, i < sts.length → ((stA sts i).2.1 = (stA sts i).1 ∧ (stA sts i).2.2 = (stA sts i).1 + 1) ∨ ((stA sts i).2.1 = (stA sts i).1 + 1 ∧ (stA sts i).2.2 = (stA sts i).1)
  ap : ∀ i j, i < j → j < sts.length → (stA sts i).1 + 3 ≤ (stA sts j).1
  sB : B < sb
  sl : ∀ i, i < sts.length → sb < (stA sts i).1 ∨ (stA sts i).1 + 3 ≤ sb
variable {B sb sts}
theorem Far.inj (H : Far B sb sts) {i j : Nat} (hi : i < sts.length) (hj : j < sts.length) {a b : Nat} (ha : a < 3) (hb : b < 3) (h : (stA sts i).1 + a = (stA sts j).1 + b) : i = j := by
  rcases Nat.lt_trichotomy i j with h' | h' | h'
  · have := H.ap i j h' hj; omega
  · exact h'
  · have := H.ap j i h' hi; omega
theorem Far.t (H : Far B sb sts) {i : Nat} (hi : i < sts.length) : (stA sts i).1 ≤ (stA sts i).2.1 ∧ (stA sts i).2.1 < (stA sts i).1 + 2 ∧ (stA sts i).1 ≤ (stA sts i).2.2 ∧ (stA sts i).2.2 < (stA sts i).1 + 2 ∧ (stA sts i).2.1 ≠ (stA sts i).2.2 := by
  rcases H.tr i hi with h | h <;> omega
end
structure Given where
  g0 : Nat
  n : Nat
  tb : Nat
  tcap : Nat
  most : Int
  F : Nat → Value
  sa : Option Addr
  sc : Nat
  sl : List Int
end
def Runs (Post : Goroutine → World → Prop) (g : Goroutine) (w : World) : Prop := ∀ nG m T, 1 ≤ nG → At Try.prog (fun _ => none) 0 nG g w m T →
  Relay.Comes Try.prog (fun m' T' => ∃ nG' g' w', 1 ≤ nG' ∧ Post g' w' ∧ At Try.prog (fun _ => none) 0 nG' g' w' m' T') m T
theorem Runs.now {Post : Goroutine → World → Prop} {g : Goroutine} {w : World} (h : Post g w) : Runs Post g w := fun nG _ _ h1 A => .now ⟨nG, g, w, h1, h, A⟩
theorem Runs.walk {Stop Post : Goroutine → World → Prop} {g : Goroutine} {w : World} (h : Walk Try.prog true (DR (fun _ => none)) Stop g w) (k : ∀ g w, Stop g w → Runs Post g w) : Runs Post g w := fun nG _ _ h1 A =>
  (At.walk (h := 0) h A).bind fun m' T' ⟨a', w', hs, A'⟩ => k a' w' hs nG m' T' h1 A'
theorem Runs.then {Post Post' : Goroutine → World → Prop} {g : Goroutine} {w : World} (h : Runs Post g w) (k : ∀ g w, Post g w → Runs Post' g w) : Runs Post' g w := fun nG m T h1 A =>
  (h nG m T h1 A).bind fun m' T' ⟨nG', g', w', h1', hp, A'⟩ => k g' w' hp nG' m' T' h1' A'
def Given.at (Q : Given) (g : Nat) : Given := { Q with g0 := g }
end Go.Proofs.Ytgfajibjedfkdaa
