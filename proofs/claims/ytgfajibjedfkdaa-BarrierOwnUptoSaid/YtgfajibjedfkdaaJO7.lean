/- Part 7. -/
import Derived.Test.YtgfajibjedfkdaaJO3
import Derived.Test.YtgfajibjedfkdaaJO4
import Derived.Test.YtgfajibjedfkdaaJO5
import Derived.Test.YtgfajibjedfkdaaJO6
import Derived.Test.YtgfajibjedfkdaaProg
import Derived.KernelRfl
import Derived.Handy
import Derived.Deep.Heap
import Derived.Deep.AppendLies
set_option linter.unusedSimpArgs false
set_option linter.unusedVariables false
set_option maxHeartbeats 8000000
set_option maxRecDepth 100000
namespace Go.Proofs.Ytgfajibjedfkdaa
open Go.Conc Go.RowKit Go.Relay
open Go.ConcN (upd upd_ne upd_same)
section
variable {main : Bool} {V : Nat → Option Wait}
noncomputable def chan0 : Obj := .chan 0 #[] false 0 0 false
noncomputable def standW (w : World) (t r : Nat) : World := ((w.alloc chan0).alloc chan0).alloc (.cells #[.chan (some t), .chan (some r), .bool false, .bool false] 236)
end
section
variable {main : Bool} {V : Nat → Option Wait}
def TR (w : World) (t r : Nat) : Prop := (t = w.heap.size ∧ r = w.heap.size + 1) ∨ (t = w.heap.size + 1 ∧ r = w.heap.size)
structure NT (V : Nat → Option Wait) (B : Nat) (oa : Option Addr) (on oc n0 : Nat) (xs : List Value) (w : World) : Prop where
  h0 : w.cell? ⟨B, 0, none⟩ = some (.slice oa on oc)
  hz : w.frozen? ⟨B, 0, none⟩ = false
  hf : Free V ⟨B, 0, none⟩
  own : w.ownsRow n0 230 1 (.slice oa on oc) on xs
  hn0 : n0 ≤ w.heap.size
  hon : on ≤ 64
  hap : ∀ g, (Value.slice oa on oc).ownBlock = some g → Apart V g ∧ g ≠ B
noncomputable def newW (w : World) (t r : Nat) : World := (standW w t r).alloc (.cells #[.pointer (some ⟨w.heap.size + 2, 0, none⟩)] 230)
structure NT7 (B : Nat) (oa : Option Addr) (on oc n0 : Nat) (xs : List Value) (w : World) (t r g cap : Nat) (w' : World) : Prop where
  own : w'.ownsRow n0 230 1 (.slice (some ⟨g, 0, none⟩) (on + 1) cap) (on + 1) (xs ++ [.pointer (some ⟨w.heap.size + 2, 0, none⟩)])
  grown : (newW w t r).grownBy w' (Value.slice oa on oc).ownBlock
  hat : (Value.slice oa on oc).ownBlock = some g ∨ g = (newW w t r).heap.size
  hlt : g < w'.heap.size
  h0 : w'.cell? ⟨B, 0, none⟩ = some (.slice oa on oc)
  hz : w'.frozen? ⟨B, 0, none⟩ = false
section
variable {B : Nat} {oa : Option Addr} {on oc n0 : Nat} {xs : List Value} {w : World}
theorem NT.stand (H : NT V B oa on oc n0 xs w) (t r : Nat) : (standW w t r).cell? ⟨B, 0, none⟩ = some (.slice oa on oc) ∧ (standW w t r).frozen? ⟨B, 0, none⟩ = false :=
  ⟨cell_alloc _ _ (cell_alloc _ _ (cell_alloc _ _ H.h0)), frozen_alloc _ _ (cell_alloc _ _ (cell_alloc _ _ H.h0)) (frozen_alloc _ _ (cell_alloc _ _ H.h0) (frozen_alloc _ _ H.h0 H.hz))⟩
theorem NT.new (H : NT V B oa on oc n0 xs w) (t r : Nat) : (newW w t r).cell? ⟨B, 0, none⟩ = some (.slice oa on oc) ∧ (newW w t r).frozen? ⟨B, 0, none⟩ = false :=
  ⟨cell_alloc _ _ (H.stand t r).1, frozen_alloc _ _ (H.stand t r).1 (H.stand t r).2⟩
theorem newW_size (w : World) (t r : Nat) : (newW w t r).heap.size = w.heap.size + 4 := by simp [newW, standW]
theorem standW_size (w : World) (t r : Nat) : (standW w t r).heap.size = w.heap.size + 3 := by simp [standW]
end
structure St53 (w : World) (B : Nat) (oa : Option Addr) (on oc n0 : Nat) (xs : List Value) (t r g cap : Nat) (w' : World) (f : Nat → Bool) (x : World) : Prop where
  s0 : f 5 = false → ∃ d, x = w.at d
  s5 : f 5 = true → TR w t r ∧ (f 6 = false → ∃ d, x = (standW w t r).at d)
  s6 : f 6 = true → f 7 = false → ∃ d, x = (newW w t r).at d
  s7 : f 7 = true → NT7 B oa on oc n0 xs w t r g cap w' ∧ (f 10 = false → ∃ d, x = w'.at d)
  s10 : f 10 = true → ∃ d, x = (w'.setCell ⟨B, 0, none⟩ (.slice (some ⟨g, 0, none⟩) (on + 1) cap)).at d
section
variable {w : World} {B : Nat} {oa : Option Addr} {on oc n0 : Nat} {xs : List Value} {t r g cap : Nat} {w' : World} {f : Nat → Bool} {x : World}
theorem St53.quiet (h : St53 w B oa on oc n0 xs t r g cap w' f x) {i : Nat} (h5 : i ≠ 5) (h6 : i ≠ 6) (h7 : i ≠ 7) (h10 : i ≠ 10) : St53 w B oa on oc n0 xs t r g cap w' (upd f i true) x := by
  refine ⟨?_, ?_, ?_, ?_, ?_⟩
  · rw [upd_ne _ _ (Ne.symm h5)]; exact h.s0
  · rw [upd_ne _ _ (Ne.symm h5), upd_ne _ _ (Ne.symm h6)]; exact h.s5
  · rw [upd_ne _ _ (Ne.symm h6), upd_ne _ _ (Ne.symm h7)]; exact h.s6
  · rw [upd_ne _ _ (Ne.symm h7), upd_ne _ _ (Ne.symm h10)]; exact h.s7
  · rw [upd_ne _ _ (Ne.symm h10)]; exact h.s10
end
variable {Stop : Goroutine → World → Prop} {k : List Item} {cs : List Frame}
end
section
variable {V : Nat → Option Wait} {B : Nat} {oa : Option Addr} {on oc n0 : Nat} {xs : List Value} {w : World} {t r g cap : Nat} {w' : World}
noncomputable def ntW (B on g cap : Nat) (w' : World) : World := w'.setCell ⟨B, 0, none⟩ (.slice (some ⟨g, 0, none⟩) (on + 1) cap)
theorem NT7.ne (H : NT V B oa on oc n0 xs w) (h7 : NT7 B oa on oc n0 xs w t r g cap w') : g ≠ B := fun e => by
  rcases h7.hat with h | h
  · exact (H.hap g h).2 e
  · have := cell_lt w H.h0; rw [newW_size] at h; simp only at this; omega
theorem NT7.size (h7 : NT7 B oa on oc n0 xs w t r g cap w') : w.heap.size + 4 ≤ (ntW B on g cap w').heap.size := by
  have h := h7.grown.size
  rw [newW_size] at h
  unfold ntW
  rw [Go.Deep.nblk_setCell]
  exact h
theorem NT.next (H : NT V B oa on oc n0 xs w) (hlt : on < 64) (hA : ∀ b, w.heap.size ≤ b → Apart V b) (h7 : NT7 B oa on oc n0 xs w t r g cap w') :
    NT V B (some ⟨g, 0, none⟩) (on + 1) cap n0 (xs ++ [.pointer (some ⟨w.heap.size + 2, 0, none⟩)]) (ntW B on g cap w') := by
  refine ⟨World.cell?_setCell_same w' ⟨B, 0, none⟩ _ h7.h0, (World.frozen?_setCell ..).trans h7.hz, H.hf, h7.own.kept (row := some B) ⟨rfl, rfl, rfl, Nat.le_of_eq (Go.Deep.nblk_setCell ..).symm, fun b _ hb => Go.Deep.blk_setCell_other _ _ _ b (fun e => hb (by rw [e]))⟩ (.inr (by simp [Value.ownBlock, h7.ne H])), ?_, by omega, fun b hb => ?_⟩
  · have := h7.size; have := H.hn0; omega
  · obtain rfl : g = b := by simpa [Value.ownBlock] using hb
    refine ⟨?_, h7.ne H⟩
    rcases h7.hat with h | h
    · exact (H.hap _ h).1
    · exact hA _ (by rw [newW_size] at h; omega)
theorem NT7.block (h7 : NT7 B oa on oc n0 xs w t r g cap w') {b : Nat} (hb : b < w.heap.size) (hbB : b ≠ B) (hbo : some b ≠ (Value.slice oa on oc).ownBlock) : (ntW B on g cap w').heap[b]? = w.heap[b]? := by
  have e4 : (newW w t r).heap[b]? = w.heap[b]? := by
    unfold newW standW
    rw [Below.heap_alloc _ _ _ (by simp; omega), Below.heap_alloc _ _ _ (by simp; omega), Below.heap_alloc _ _ _ (by simp; omega), Below.heap_alloc _ _ _ hb]
  exact (Go.Deep.blk_setCell_other _ _ _ b hbB).trans ((h7.grown.block b (by rw [newW_size]; omega) hbo).trans e4)
theorem NT7.stand (h7 : NT7 B oa on oc n0 xs w t r g cap w') (hB : B < w.heap.size) (hown : ∀ b, (Value.slice oa on oc).ownBlock = some b → b < w.heap.size) {b : Nat} (hb : w.heap.size ≤ b) (hb2 : b < w.heap.size + 3) : (ntW B on g cap w').heap[b]? = (standW w t r).heap[b]? := by
  have e4 : (newW w t r).heap[b]? = (standW w t r).heap[b]? := by
    unfold newW
    exact Below.heap_alloc _ _ _ (by rw [standW_size]; exact hb2)
  exact (Go.Deep.blk_setCell_other _ _ _ b (by simp only; omega)).trans ((h7.grown.block b (by rw [newW_size]; omega) (fun e => by have := hown b e.symm; omega)).trans e4)
end
section
variable {V : Nat → Option Wait} {B : Nat} {oa : Option Addr} {on oc n0 : Nat} {xs : List Value} {w : World} {t r g cap : Nat} {w' : World}
structure StandIs (w : World) (n0 : Nat) (s : Nat × Nat × Nat) : Prop where
  c0 : w.heap[s.1]? = some chan0
  c1 : w.heap[s.1 + 1]? = some chan0
  cells : w.heap[s.1 + 2]? = some (.cells #[.chan (some s.2.1), .chan (some s.2.2), .bool false, .bool false] 236)
  tr : (s.2.1 = s.1 ∧ s.2.2 = s.1 + 1) ∨ (s.2.1 = s.1 + 1 ∧ s.2.2 = s.1)
  lo : n0 ≤ s.1
  hi : s.1 + 3 ≤ w.heap.size
structure Built (w : World) (B n0 : Nat) (v : Value) (sts : List (Nat × Nat × Nat)) : Prop where
  all : ∀ s ∈ sts, StandIs w n0 s
  apart : sts.Pairwise (fun s s' => s.1 + 3 ≤ s'.1)
  list : ∀ b, v.ownBlock = some b → b < w.heap.size ∧ n0 ≤ b ∧ ∀ s ∈ sts, b < s.1 ∨ s.1 + 3 ≤ b
  low : B < n0
theorem standW_blocks (w : World) (t r : Nat) : (standW w t r).heap[w.heap.size]? = some chan0 ∧ (standW w t r).heap[w.heap.size + 1]? = some chan0 ∧ (standW w t r).heap[w.heap.size + 2]? = some (.cells #[.chan (some t), .chan (some r), .bool false, .bool false] 236) := by
  have e1 : (w.alloc chan0).heap.size = w.heap.size + 1 := by simp
  have e2 : ((w.alloc chan0).alloc chan0).heap.size = w.heap.size + 2 := by simp
  unfold standW
  refine ⟨?_, ?_, ?_⟩
  · rw [Below.heap_alloc _ _ _ (by omega), Below.heap_alloc _ _ _ (by omega)]; exact heap_alloc_new w _
  · rw [Below.heap_alloc _ _ _ (by omega), ← e1]; exact heap_alloc_new _ _
  · rw [← e2]; exact heap_alloc_new _ _
theorem Built.next {sts : List (Nat × Nat × Nat)} (H : NT V B oa on oc n0 xs w) (hT : TR w t r) (h7 : NT7 B oa on oc n0 xs w t r g cap w') (hb : Built w B n0 (.slice oa on oc) sts) :
    Built (ntW B on g cap w') B n0 (.slice (some ⟨g, 0, none⟩) (on + 1) cap) (sts ++ [(w.heap.size, t, r)]) := by
  have hn := H.hn0
  have hB := hb.low
  have hs := h7.size
  have hg : (Value.slice oa on oc).ownBlock = some g ∨ g = w.heap.size + 4 := by have h := h7.hat; rwa [newW_size] at h
  have hlt : g < (ntW B on g cap w').heap.size := by unfold ntW; rw [Go.Deep.nblk_setCell]; exact h7.hlt
  have hold : ∀ s ∈ sts, ∀ b, s.1 ≤ b → b < s.1 + 3 → (ntW B on g cap w').heap[b]? = w.heap[b]? := fun s hm b h1 h2 => by
    have hi := hb.all s hm
    have := hi.lo; have := hi.hi
    refine h7.block (by omega) (by omega) fun e => ?_
    rcases (hb.list b e.symm).2.2 s hm with h | h <;> omega
  have hnew : ∀ b, w.heap.size ≤ b → b < w.heap.size + 3 → (ntW B on g cap w').heap[b]? = (standW w t r).heap[b]? := fun b h1 h2 => h7.stand (by omega) (fun b e => (hb.list b e).1) h1 h2
  obtain ⟨q0, q1, q2⟩ := standW_blocks w t r
  refine ⟨fun s hm => ?_, ?_, fun b e => ?_, hB⟩
  · rcases List.mem_append.1 hm with hm | hm
    · have hi := hb.all s hm
      have := hi.lo; have := hi.hi
      exact ⟨(hold s hm _ (by omega) (by omega)).trans hi.c0, (hold s hm _ (by omega) (by omega)).trans hi.c1, (hold s hm _ (by omega) (by omega)).trans hi.cells, hi.tr, hi.lo, by omega⟩
    · obtain rfl : s = (w.heap.size, t, r) := by simpa using hm
      exact ⟨(hnew _ (by simp) (by simp)).trans q0, (hnew _ (by simp) (by simp)).trans q1, (hnew _ (by simp) (by simp)).trans q2, hT, hn, by simp only; omega⟩
  · refine List.pairwise_append.2 ⟨hb.apart, by simp, fun s hm s' hm' => ?_⟩
    obtain rfl : s' = (w.heap.size, t, r) := by simpa using hm'
    exact (hb.all s hm).hi
  · obtain rfl : g = b := by simpa [Value.ownBlock] using e
    refine ⟨hlt, ?_, fun s hm => ?_⟩
    · rcases hg with h | h
      · exact (hb.list _ h).2.1
      · omega
    · rcases List.mem_append.1 hm with hm | hm
      · rcases hg with h | h
        · exact (hb.list _ h).2.2 s hm
        · have := (hb.all s hm).hi; omega
      · obtain rfl : s = (w.heap.size, t, r) := by simpa using hm
        rcases hg with h | h
        · have := (hb.list _ h).1; simp only; omega
        · simp only; omega
end
section
variable {main : Bool} {V : Nat → Option Wait} {B n0 : Nat}
structure Rest53 (B n0 : Nat) (w w0 : World) : Prop where
  low : ∀ b, b < n0 → b ≠ B → w0.heap[b]? = w.heap[b]?
  cell : ∀ i, i ≠ 0 → w0.cell? ⟨B, i, none⟩ = w.cell? ⟨B, i, none⟩ ∧ w0.frozen? ⟨B, i, none⟩ = w.frozen? ⟨B, i, none⟩
  size : w.heap.size ≤ w0.heap.size
theorem Rest53.trans {a b c : World} (h : Rest53 B n0 a b) (k : Rest53 B n0 b c) : Rest53 B n0 a c :=
  ⟨fun x h1 h2 => (k.low x h1 h2).trans (h.low x h1 h2), fun i hi => ⟨(k.cell i hi).1.trans (h.cell i hi).1, (k.cell i hi).2.trans (h.cell i hi).2⟩, Nat.le_trans h.size k.size⟩
end
section
section
variable (B sb : Nat) (sts : List (Nat × Nat × Nat))
def stA (i : Nat) : Nat × Nat × Nat := sts.getD i (0, 0, 0)
structure Far : Prop where
  lo : ∀ i, i < sts.length → B < (stA sts i).1
  tr : ∀ i, i < sts.length → ((stA sts i).2.1 = (stA sts i).1 ∧ (stA sts i).2.2 = (stA sts i).1 + 1) ∨ ((stA sts i).2.1 = (stA sts i).1 + 1 ∧ (stA sts i).2.2 = (stA sts i).1)
  ap : ∀ i j, i < j → j < sts.length → (stA sts i).1 + 3 ≤ (stA sts j).1
  sB : B < sb
  sl : ∀ i, i < sts.length → sb < (stA sts i).1 ∨ (stA sts i).1 + 3 ≤ sb
variable {B sb sts}
theorem Far.inj (H : Far B sb sts) {i j : Nat} (hi : i < sts.length) (hj : j < sts.length) {a b : Nat} (ha : a < 3) (hb : b < 3) (h : (stA sts i).1 + a = (stA sts j).1 + b) : i = j := by
  rcases Nat.lt_trichotomy i j with h' | h' | h'
  · have := H.ap i j h' hj; omega
  · exact h'
  · have := H.ap j i h' hi; omega
theorem Far.t (H : Far B sb sts) {i : Nat} (hi : i < sts.length) : (stA sts i).1 ≤ (stA sts i).2.1 ∧ (stA sts i).2.1 < (stA sts i).1 + 2 ∧ (stA sts i).1 ≤ (stA sts i).2.2 ∧ (stA sts i).2.2 < (stA sts i).1 + 2 ∧ (stA sts i).2.1 ≠ (stA sts i).2.2 := by
  rcases H.tr i hi with h | h <;> omega
end
structure Given where
  g0 : Nat
  n : Nat
  tb : Nat
  tcap : Nat
  most : Int
  F : Nat → Value
  sa : Option Addr
  sc : Nat
  sl : List Int
end
def Runs (Post : Goroutine → World → Prop) (g : Goroutine) (w : World) : Prop := ∀ nG m T, 1 ≤ nG → At Try.prog (fun _ => none) 0 nG g w m T →
  Relay.Comes Try.prog (fun m' T' => ∃ nG' g' w', 1 ≤ nG' ∧ Post g' w' ∧ At Try.prog (fun _ => none) 0 nG' g' w' m' T') m T
theorem Runs.now {Post : Goroutine → World → Prop} {g : Goroutine} {w : World} (h : Post g w) : Runs Post g w := fun nG _ _ h1 A => .now ⟨nG, g, w, h1, h, A⟩
theorem Runs.walk {Stop Post : Goroutine → World → Prop} {g : Goroutine} {w : World} (h : Walk Try.prog true (DR (fun _ => none)) Stop g w) (k : ∀ g w, Stop g w → Runs Post g w) : Runs Post g w := fun nG _ _ h1 A =>
  (At.walk (h := 0) h A).bind fun m' T' ⟨a', w', hs, A'⟩ => k a' w' hs nG m' T' h1 A'
theorem Runs.then {Post Post' : Goroutine → World → Prop} {g : Goroutine} {w : World} (h : Runs Post g w) (k : ∀ g w, Post g w → Runs Post' g w) : Runs Post' g w := fun nG m T h1 A =>
  (h nG m T h1 A).bind fun m' T' ⟨nG', g', w', h1', hp, A'⟩ => k g' w' hp nG' m' T' h1' A'
def Given.at (Q : Given) (g : Nat) : Given := { Q with g0 := g }
section
variable {main : Bool} {V : Nat → Option Wait}
noncomputable def row161B : Bool := match Try.prog.info? 230 with
  | some ti => (match ti.methods.find? (·.name == "Step") with
    | some m => m.path.isEmpty && (m.func == some (181, true))
    | none => false)
  | none => false
theorem row161 : ∃ ti m, Try.prog.info? 230 = some ti ∧ ti.methods.find? (·.name == "Step") = some m ∧ m.path = #[] ∧ m.func = some (181, true) := by
  have h : row161B = true := by kernel_rfl
  unfold row161B at h
  revert h
  cases h1 : Try.prog.info? 230 with
  | none => simp
  | some ti =>
    simp only []
    cases h2 : ti.methods.find? (·.name == "Step") with
    | none => simp
    | some m =>
      simp only [Bool.and_eq_true, Array.isEmpty_iff, beq_iff_eq]
      exact fun h => ⟨ti, m, rfl, h2, h.1, h.2⟩
theorem method_step (p : Nat) (w : World) (es : Array Event) : (method (Try.prog.types.size + Made.depth) 230 (.pointer (some ⟨p, 0, none⟩)) "Step").run Try.prog w = .ok (181, .pointer (some ⟨p, 0, none⟩)) w ∧ (method (Try.prog.types.size + Made.depth) 230 (.pointer (some ⟨p, 0, none⟩)) "Step").events Try.prog w es = es := by
  obtain ⟨ti, m, h1, h2, h3, h4⟩ := row161
  obtain ⟨k, hk⟩ : ∃ k, Try.prog.types.size + Made.depth = k + 1 := ⟨Try.prog.types.size + (Made.depth - 1), by have : 1 ≤ Made.depth := by decide
                                                                                                                omega⟩
  rw [hk]
  unfold method
  refine ⟨?_, ?_⟩
  · simp [typeInfo, h1, h2, h3, h4, follow, receiverAt, run_underlying und161, Place.get]
  · simp [typeInfo, h1, h2, h3, h4, follow, receiverAt, run_underlying und161, Place.get]
section
variable {Stop : Goroutine → World → Prop} {w : World} {b : Frame} {a : Act} {k : List Item} {cs : List Frame} {ops : Array Oper} {i : Nat} {rest : List Nat} {o : Oper}
theorem stepG_invokeStep {x : Operand} {ats : Array TypeId} (p : Nat) (ho : ops[i]? = some o) (hw : Region.wanted o (yielded ops a.tmps) = true) (hk : b.kind ≠ .early) (hop : o.op = .call { callee := .invoke x "Step", args := #[], argTypes := ats }) (hx : a.eval x = .iface 230 (.pointer (some ⟨p, 0, none⟩))) :
    stepG Try.prog main (G (b.at a (.inRegion ops (i :: rest) :: k)) cs) w = .go (G (Frame.enter Try.prog 181 #[.pointer (some ⟨p, 0, none⟩)] .normal) (b.at a (.inRegion ops (i :: rest) :: k) :: cs)) w := by
  have h1 : ¬ Try.f181.name = "runtime.NumGoroutine" := by decide
  have h2 : ¬ Try.f181.body = none := by simp [Try.f181]
  have hm := method_step p w #[]
  rw [show Try.prog.types.size = 269 from by kernel_rfl] at hm
  have hr : (execOp a.eval o).run Try.prog w = .ok (.enter 181 #[.pointer (some ⟨p, 0, none⟩)]) w := by
    unfold execOp
    simp [hop, resolve, invoke, callMethod, callFunc, hm.1, Try.func181, h1, h2, hx]
  have he : (execOp a.eval o).events Try.prog w #[] = #[] := by
    unfold execOp
    simp [hop, resolve, invoke, callMethod, callFunc, hm.1, hm.2, Try.func181, h1, h2, hx]
  rw [stepG_enter ho hw hk hr]
  have : listed Try.prog b.fn a o w = #[] := by unfold listed; rw [he]; exact seen_none Try.prog _
  rw [this]
theorem Walk.invokeStep {x : Operand} {ats : Array TypeId} (p : Nat) (ho : ops[i]? = some o) (hw : Region.wanted o (yielded ops a.tmps) = true) (hk : b.kind ≠ .early) (hop : o.op = .call { callee := .invoke x "Step", args := #[], argTypes := ats }) (hx : a.eval x = .iface 230 (.pointer (some ⟨p, 0, none⟩)))
    (h : Walk Try.prog main (DR V) Stop (G (Frame.enter Try.prog 181 #[.pointer (some ⟨p, 0, none⟩)] .normal) (b.at a (.inRegion ops (i :: rest) :: k) :: cs)) w) : Walk Try.prog main (DR V) Stop (G (b.at a (.inRegion ops (i :: rest) :: k)) cs) w :=
  Walk.ctl rfl (fun _ => stepG_invokeStep p ho hw hk hop hx) h
end
end
end Go.Proofs.Ytgfajibjedfkdaa
namespace Go.Relay
section
open Go.Conc Go.RowKit
open Go.ConcN (upd upd_ne upd_same)
def lowW (ops : Array Oper) : Bool := (List.range ops.size).all fun i => (ops[i]?).any fun o => o.after.all fun e => !Region.binds .any e || decide (e.on < i)
theorem all_upW {ops : Array Oper} (hlow : lowW ops = true) {L : Array Bool} (hL : L.size = ops.size) (hr : Region.ready .any ops L = []) : ∀ i, i < ops.size → upTo L i = true := by
  intro i
  induction i using Nat.strongRecOn with
  | _ i ih =>
    intro hi
    refine Classical.byContradiction fun hne => ?_
    have hf : upTo L i = false := by simpa using hne
    have key : ∀ e ∈ ops[i].after, Region.binds .any e = true → e.on < i := fun e he hb => by
      have := List.all_eq_true.1 hlow i (List.mem_range.2 hi)
      rw [Array.getElem?_eq_getElem hi] at this
      simp only [Option.any_some] at this
      have := (Array.all_eq_true_iff_forall_mem.1 this) e he
      simpa [hb] using this
    have hm : i ∈ Region.ready .any ops L := mem_ready.2 ⟨by rw [upTo_in (by omega)]; exact hf, ops[i], Array.getElem?_eq_getElem hi, fun e he hb => ih e.on (key e he hb) (Nat.lt_trans (key e he hb) hi)⟩
    rw [hr] at hm; cases hm
section
variable {ops : Array Oper} {E : Type} {Good : List Nat → Act → E → Prop}
theorem anyE {Inv : (Nat → Bool) → Act → E → Prop} (hlow : lowW ops = true)
    (hop : ∀ f i o a e, Inv f a e → Closed ops f → f i = false → ops[i]? = some o → (∀ x ∈ o.after, Region.binds .any x = true → f x.on = true) → ∀ rest, (∀ a' e', Inv (upd f i true) a' e' → Good rest a' e') → Good (i :: rest) a e)
    (hend : ∀ f a e, Inv f a e → (∀ i, i < ops.size → f i = true) → Good [] a e) :
    ∀ (fuel t : Nat) (L : Array Bool) (a : Act) (e : E), L.size = ops.size → Inv (upTo L) a e → Closed ops (upTo L) → leftOf ops.size (upTo L) ≤ fuel → Good (Region.linearise.go .any ops fuel t L []) a e := by
  intro fuel
  induction fuel with
  | zero =>
    intro t L a e hL hI _ hf
    have hall : ∀ i, i < ops.size → upTo L i = true := fun i hi => by
      refine Classical.byContradiction fun hne => ?_
      have := leftOf_pos hi (f := upTo L) (by simpa using hne)
      omega
    exact hend _ a e hI hall
  | succ fuel ih =>
    intro t L a e hL hI hC hf
    simp only [Region.linearise.go]
    change Good (match (Region.ready .any ops L)[t % (Region.ready .any ops L).length]? with
      | some i => Region.linearise.go .any ops fuel (t / (Region.ready .any ops L).length) (L.setIfInBounds i true) [i]
      | none => [].reverse) a e
    cases hi : (Region.ready .any ops L)[t % (Region.ready .any ops L).length]? with
    | none =>
      have hnil : Region.ready .any ops L = [] := by
        cases hr : Region.ready .any ops L with
        | nil => rfl
        | cons x xs =>
          rw [hr] at hi
          have hlt : t % (x :: xs).length < (x :: xs).length := Nat.mod_lt _ (by simp)
          simp at hi
          simp at hlt
          omega
      exact hend _ a e hI (all_upW hlow hL hnil)
    | some i =>
      simp only []
      rw [linearise_go_acc, List.reverse_singleton, List.singleton_append]
      obtain ⟨h0, o, ho, hd⟩ := mem_ready.1 (List.mem_of_getElem? hi)
      have hil : i < ops.size := (Array.getElem?_eq_some_iff.1 ho).1
      rw [upTo_in (by omega)] at h0
      refine hop (upTo L) i o a e hI hC h0 ho hd _ fun a' e' hI' => ?_
      refine ih _ _ a' e' (by simp [hL]) (by rw [upTo_set (by omega)]; exact hI') ?_ ?_
      · rw [upTo_set (by omega)]
        intro j o' ho' hj x hx hb
        have hup : ∀ x, upTo L x = true → upd (upTo L) i true x = true := fun x hx => by
          by_cases ex : x = i
          · subst ex; exact upd_same _ _ _
          · rw [upd_ne _ _ ex]; exact hx
        by_cases ej : j = i
        · subst ej
          rw [ho] at ho'; cases ho'
          exact hup _ (hd x hx hb)
        · rw [upd_ne _ _ ej] at hj
          exact hup _ (hC j o' ho' hj x hx hb)
      · rw [upTo_set (by omega), leftOf_set hil h0]
        omega
end
theorem Walk.drawnE {P : Program} {main : Bool} {b : Frame} {k : List Item} {ops : Array Oper} {id : Nat} {a : Act} {E : Type} {V : E → Nat → Option Wait} {Stop : E → Goroutine → World → Prop} {cs : E → List Frame} {w : E → World}
    {Inv : (Nat → Bool) → Act → E → Prop} (e0 : E) (hm : P.follows .mixedOrders = true) (hlow : lowW ops = true) (h0 : Inv (fun _ => false) a e0)
    (hop : ∀ f i o a e, Inv f a e → Closed ops f → f i = false → ops[i]? = some o → (∀ x ∈ o.after, Region.binds .any x = true → f x.on = true) → ∀ rest, (∀ a' e', Inv (upd f i true) a' e' → Walk P main (DR (V e')) (Stop e') (G (b.at a' (.inRegion ops rest :: k)) (cs e')) (w e')) → Walk P main (DR (V e)) (Stop e) (G (b.at a (.inRegion ops (i :: rest) :: k)) (cs e)) (w e))
    (hend : ∀ f a e, Inv f a e → (∀ i, i < ops.size → f i = true) → Walk P main (DR (V e)) (Stop e) (G (b.at a (.inRegion ops [] :: k)) (cs e)) (w e)) :
    Walk P main (DR (V e0)) (Stop e0) (G (b.at a (.code (.region id ops true) :: k)) (cs e0)) (w e0) := by
  have hu : upTo (Array.replicate ops.size false) = fun _ => false := by
    funext j
    unfold upTo
    rw [Array.getD_eq_getD_getElem?, Array.getElem?_replicate]
    split <;> rfl
  refine Walk.step rfl (fun d => G (b.at a (.inRegion ops (Region.linearise .any ops ((w e0).tape d (.order b.fn id))) :: k)) (cs e0)) (fun d => (w e0).at (d + 1)) (fun _ => #[]) (fun d => ?_) (fun d => drawsR _) (fun d => Walk.back ?_ (d + 1))
  · rw [stepG_region_draw]
    simp only [Region.schedule, hm, Bool.true_or, if_true]
    rfl
  · refine anyE (Good := fun rest a e => Walk P main (DR (V e)) (Stop e) (G (b.at a (.inRegion ops rest :: k)) (cs e)) (w e)) hlow hop hend ops.size _ _ a e0 (by simp) (by rw [hu]; exact h0) (by rw [hu]; intro _ _ _ h; cases h) ?_
    unfold leftOf
    exact Nat.le_trans List.countP_le_length (by simp)
end
end Go.Relay
