/- Part 6. -/
import Derived.Test.YtcdcnmphjhfbpaaJ2
import Derived.Test.YtcdcnmphjhfbpaaJ3
import Derived.Test.YtcdcnmphjhfbpaaJ4
import Derived.Test.YtcdcnmphjhfbpaaJ5
import Derived.Deep.Heap
import Derived.Test.YtcdcnmphjhfbpaaProg
import Derived.KernelRfl
import Derived.Handy
import Derived.Deep.AppendLies
set_option linter.unusedSimpArgs false
set_option linter.unusedVariables false
set_option maxHeartbeats 8000000
set_option maxRecDepth 100000
namespace Go.Proofs.Ytcdcnmphjhfbpaa
open Go.Conc Go.RowKit Go.Relay
open Go.ConcN (upd upd_ne upd_same)
section
variable {V : Nat → Option Wait} {B : Nat} {oa : Option Addr} {on oc n0 : Nat} {xs : List Value} {w : World} {t r g cap : Nat} {w' : World}
noncomputable def ntW (B on g cap : Nat) (w' : World) : World := w'.setCell ⟨B, 0, none⟩ (.slice (some ⟨g, 0, none⟩) (on + 1) cap)
theorem NT7.ne (H : NT V B oa on oc n0 xs w) (h7 : NT7 B oa on oc n0 xs w t r g cap w') : g ≠ B := fun e => by
  rcases h7.hat with h | h
  · exact (H.hap g h).2 e
  · have := cell_lt w H.h0; rw [newW_size] at h; simp only at this; omega
theorem NT7.size (h7 : NT7 B oa on oc n0 xs w t r g cap w') : w.heap.size + 4 ≤ (ntW B on g cap w').heap.size := by
  have h := h7.grown.size
  rw [newW_size] at h
  unfold ntW
  rw [Go.Deep.nblk_setCell]
  exact h
theorem NT.next (H : NT V B oa on oc n0 xs w) (hlt : on < 64) (hA : ∀ b, w.heap.size ≤ b → Apart V b) (h7 : NT7 B oa on oc n0 xs w t r g cap w') :
    NT V B (some ⟨g, 0, none⟩) (on + 1) cap n0 (xs ++ [.pointer (some ⟨w.heap.size + 2, 0, none⟩)]) (ntW B on g cap w') := by
  refine ⟨World.cell?_setCell_same w' ⟨B, 0, none⟩ _ h7.h0, (World.frozen?_setCell ..).trans h7.hz, H.hf, h7.own.kept (row := some B) ⟨rfl, rfl, rfl, Nat.le_of_eq (Go.Deep.nblk_setCell ..).symm, fun b _ hb => Go.Deep.blk_setCell_other _ _ _ b (fun e => hb (by rw [e]))⟩ (.inr (by simp [Value.ownBlock, h7.ne H])), ?_, by omega, fun b hb => ?_⟩
  · have := h7.size; have := H.hn0; omega
  · obtain rfl : g = b := by simpa [Value.ownBlock] using hb
    refine ⟨?_, h7.ne H⟩
    rcases h7.hat with h | h
    · exact (H.hap _ h).1
    · exact hA _ (by rw [newW_size] at h; omega)
theorem NT7.block (h7 : NT7 B oa on oc n0 xs w t r g cap w') {b : Nat} (hb : b < w.heap.size) (hbB : b ≠ B) (hbo : some b ≠ (Value.slice oa on oc).ownBlock) : (ntW B on g cap w').heap[b]? = w.heap[b]? := by
  have e4 : (newW w t r).heap[b]? = w.heap[b]? := by
    unfold newW standW
    rw [Below.heap_alloc _ _ _ (by simp; omega), Below.heap_alloc _ _ _ (by simp; omega), Below.heap_alloc _ _ _ (by simp; omega), Below.heap_alloc _ _ _ hb]
  exact (Go.Deep.blk_setCell_other _ _ _ b hbB).trans ((h7.grown.block b (by rw [newW_size]; omega) hbo).trans e4)
theorem NT7.stand (h7 : NT7 B oa on oc n0 xs w t r g cap w') (hB : B < w.heap.size) (hown : ∀ b, (Value.slice oa on oc).ownBlock = some b → b < w.heap.size) {b : Nat} (hb : w.heap.size ≤ b) (hb2 : b < w.heap.size + 3) : (ntW B on g cap w').heap[b]? = (standW w t r).heap[b]? := by
  have e4 : (newW w t r).heap[b]? = (standW w t r).heap[b]? := by
    unfold newW
    exact Below.heap_alloc _ _ _ (by rw [standW_size]; exact hb2)
  exact (Go.Deep.blk_setCell_other _ _ _ b (by simp only; omega)).trans ((h7.grown.block b (by rw [newW_size]; omega) (fun e => by have := hown b e.symm; omega)).trans e4)
end
section
variable {V : Nat → Option Wait} {B : Nat} {oa : Option Addr} {on oc n0 : Nat} {xs : List Value} {w : World} {t r g cap : Nat} {w' : World}
structure StandIs (w : World) (n0 : Nat) (s : Nat × Nat × Nat) : Prop where
  c0 : w.heap[s.1]? = some chan0
  c1 : w.heap[s.1 + 1]? = some chan0
  cells : w.heap[s.1 + 2]? = some (.cells #[.chan (some s.2.1), .chan (some s.2.2), .bool false, .bool false] 264)
  tr : (s.2.1 = s.1 ∧ s.2.2 = s.1 + 1) ∨ (s.2.1 = s.1 + 1 ∧ s.2.2 = s.1)
  lo : n0 ≤ s.1
  hi : s.1 + 3 ≤ w.heap.size
structure Built (w : World) (B n0 : Nat) (v : Value) (sts : List (Nat × Nat × Nat)) : Prop where
  all : ∀ s ∈ sts, StandIs w n0 s
  apart : sts.Pairwise (fun s s' => s.1 + 3 ≤ s'.1)
  list : ∀ b, v.ownBlock = some b → b < w.heap.size ∧ n0 ≤ b ∧ ∀ s ∈ sts, b < s.1 ∨ s.1 + 3 ≤ b
  low : B < n0
theorem standW_blocks (w : World) (t r : Nat) : (standW w t r).heap[w.heap.size]? = some chan0 ∧ (standW w t r).heap[w.heap.size + 1]? = some chan0 ∧ (standW w t r).heap[w.heap.size + 2]? = some (.cells #[.chan (some t), .chan (some r), .bool false, .bool false] 264) := by
  have e1 : (w.alloc chan0).heap.size = w.heap.size + 1 := by simp
  have e2 : ((w.alloc chan0).alloc chan0).heap.size = w.heap.size + 2 := by simp
  unfold standW
  refine ⟨?_, ?_, ?_⟩
  · rw [Below.heap_alloc _ _ _ (by omega), Below.heap_alloc _ _ _ (by omega)]; exact heap_alloc_new w _
  · rw [Below.heap_alloc _ _ _ (by omega), ← e1]; exact heap_alloc_new _ _
  · rw [← e2]; exact heap_alloc_new _ _
theorem Built.next {sts : List (Nat × Nat × Nat)} (H : NT V B oa on oc n0 xs w) (hT : TR w t r) (h7 : NT7 B oa on oc n0 xs w t r g cap w') (hb : Built w B n0 (.slice oa on oc) sts) :
    Built (ntW B on g cap w') B n0 (.slice (some ⟨g, 0, none⟩) (on + 1) cap) (sts ++ [(w.heap.size, t, r)]) := by
  have hn := H.hn0
  have hB := hb.low
  have hs := h7.size
  have hg : (Value.slice oa on oc).ownBlock = some g ∨ g = w.heap.size + 4 := by have h := h7.hat; rwa [newW_size] at h
  have hlt : g < (ntW B on g cap w').heap.size := by unfold ntW; rw [Go.Deep.nblk_setCell]; exact h7.hlt
  have hold : ∀ s ∈ sts, ∀ b, s.1 ≤ b → b < s.1 + 3 → (ntW B on g cap w').heap[b]? = w.heap[b]? := fun s hm b h1 h2 => by
    have hi := hb.all s hm
    have := hi.lo; have := hi.hi
    refine h7.block (by omega) (by omega) fun e => ?_
    rcases (hb.list b e.symm).2.2 s hm with h | h <;> omega
  have hnew : ∀ b, w.heap.size ≤ b → b < w.heap.size + 3 → (ntW B on g cap w').heap[b]? = (standW w t r).heap[b]? := fun b h1 h2 => h7.stand (by omega) (fun b e => (hb.list b e).1) h1 h2
  obtain ⟨q0, q1, q2⟩ := standW_blocks w t r
  refine ⟨fun s hm => ?_, ?_, fun b e => ?_, hB⟩
  · rcases List.mem_append.1 hm with hm | hm
    · have hi := hb.all s hm
      have := hi.lo; have := hi.hi
      exact ⟨(hold s hm _ (by omega) (by omega)).trans hi.c0, (hold s hm _ (by omega) (by omega)).trans hi.c1, (hold s hm _ (by omega) (by omega)).trans hi.cells, hi.tr, hi.lo, by omega⟩
    · obtain rfl : s = (w.heap.size, t, r) := by simpa using hm
      exact ⟨(hnew _ (by simp) (by simp)).trans q0, (hnew _ (by simp) (by simp)).trans q1, (hnew _ (by simp) (by simp)).trans q2, hT, hn, by simp only; omega⟩
  · refine List.pairwise_append.2 ⟨hb.apart, by simp, fun s hm s' hm' => ?_⟩
    obtain rfl : s' = (w.heap.size, t, r) := by simpa using hm'
    exact (hb.all s hm).hi
  · obtain rfl : g = b := by simpa [Value.ownBlock] using e
    refine ⟨hlt, ?_, fun s hm => ?_⟩
    · rcases hg with h | h
      · exact (hb.list _ h).2.1
      · omega
    · rcases List.mem_append.1 hm with hm | hm
      · rcases hg with h | h
        · exact (hb.list _ h).2.2 s hm
        · have := (hb.all s hm).hi; omega
      · obtain rfl : s = (w.heap.size, t, r) := by simpa using hm
        rcases hg with h | h
        · have := (hb.list _ h).1; simp only; omega
        · simp only; omega
end
section
variable {main : Bool} {V : Nat → Option Wait} {B n0 : Nat}
structure Rest53 (B n0 : Nat) (w w0 : World) : Prop where
  low : ∀ b, b < n0 → b ≠ B → w0.heap[b]? = w.heap[b]?
  cell : ∀ i, i ≠ 0 → w0.cell? ⟨B, i, none⟩ = w.cell? ⟨B, i, none⟩ ∧ w0.frozen? ⟨B, i, none⟩ = w.frozen? ⟨B, i, none⟩
  size : w.heap.size ≤ w0.heap.size
theorem Rest53.trans {a b c : World} (h : Rest53 B n0 a b) (k : Rest53 B n0 b c) : Rest53 B n0 a c :=
  ⟨fun x h1 h2 => (k.low x h1 h2).trans (h.low x h1 h2), fun i hi => ⟨(k.cell i hi).1.trans (h.cell i hi).1, (k.cell i hi).2.trans (h.cell i hi).2⟩, Nat.le_trans h.size k.size⟩
end
section
section
variable (B sb : Nat) (sts : List (Nat × Nat × Nat))
def stA (i : Nat) : Nat × Nat × Nat := sts.getD i (0, 0, 0)
structure Far : Prop where
  lo : ∀ i, i < sts.length → B < (stA sts i).1
  tr : ∀ i, i < sts.length → ((stA sts i).2.1 = (stA sts i).1 ∧ (stA sts i).2.2 = (stA sts i).1 + 1) ∨ ((stA sts i).2.1 = (stA sts i).1 + 1 ∧ (stA sts i).2.2 = (stA sts i).1)
  ap : ∀ i j, i < j → j < sts.length → (stA sts i).1 + 3 ≤ (stA sts j).1
  sB : B < sb
  sl : ∀ i, i < sts.length → sb < (stA sts i).1 ∨ (stA sts i).1 + 3 ≤ sb
variable {B sb sts}
theorem Far.inj (H : Far B sb sts) {i j : Nat} (hi : i < sts.length) (hj : j < sts.length) {a b : Nat} (ha : a < 3) (hb : b < 3) (h : (stA sts i).1 + a = (stA sts j).1 + b) : i = j := by
  rcases Nat.lt_trichotomy i j with h' | h' | h'
  · have := H.ap i j h' hj; omega
  · exact h'
  · have := H.ap j i h' hi; omega
theorem Far.t (H : Far B sb sts) {i : Nat} (hi : i < sts.length) : (stA sts i).1 ≤ (stA sts i).2.1 ∧ (stA sts i).2.1 < (stA sts i).1 + 2 ∧ (stA sts i).1 ≤ (stA sts i).2.2 ∧ (stA sts i).2.2 < (stA sts i).1 + 2 ∧ (stA sts i).2.1 ≠ (stA sts i).2.2 := by
  rcases H.tr i hi with h | h <;> omega
end
structure Given where
  g0 : Nat
  n : Nat
  tb : Nat
  tcap : Nat
  most : Int
  F : Nat → Value
  sa : Option Addr
  sc : Nat
  sl : List Int
end
def Runs (Post : Goroutine → World → Prop) (g : Goroutine) (w : World) : Prop := ∀ nG m T, 1 ≤ nG → At Try.prog (fun _ => none) 0 nG g w m T →
  Relay.Comes Try.prog (fun m' T' => ∃ nG' g' w', 1 ≤ nG' ∧ Post g' w' ∧ At Try.prog (fun _ => none) 0 nG' g' w' m' T') m T
theorem Runs.now {Post : Goroutine → World → Prop} {g : Goroutine} {w : World} (h : Post g w) : Runs Post g w := fun nG _ _ h1 A => .now ⟨nG, g, w, h1, h, A⟩
theorem Runs.walk {Stop Post : Goroutine → World → Prop} {g : Goroutine} {w : World} (h : Walk Try.prog true (DR (fun _ => none)) Stop g w) (k : ∀ g w, Stop g w → Runs Post g w) : Runs Post g w := fun nG _ _ h1 A =>
  (At.walk (h := 0) h A).bind fun m' T' ⟨a', w', hs, A'⟩ => k a' w' hs nG m' T' h1 A'
theorem Runs.then {Post Post' : Goroutine → World → Prop} {g : Goroutine} {w : World} (h : Runs Post g w) (k : ∀ g w, Post g w → Runs Post' g w) : Runs Post' g w := fun nG m T h1 A =>
  (h nG m T h1 A).bind fun m' T' ⟨nG', g', w', h1', hp, A'⟩ => k g' w' hp nG' m' T' h1' A'
def Given.at (Q : Given) (g : Nat) : Given := { Q with g0 := g }
section
variable {main : Bool} {V : Nat → Option Wait}
noncomputable def row161B : Bool := match Try.prog.info? 259 with
  | some ti => (match ti.methods.find? (·.name == "Step") with
    | some m => m.path.isEmpty && (m.func == some (229, true))
    | none => false)
  | none => false
theorem row161 : ∃ ti m, Try.prog.info? 259 = some ti ∧ ti.methods.find? (·.name == "Step") = some m ∧ m.path = #[] ∧ m.func = some (229, true) := by
  have h : row161B = true := by kernel_rfl
  unfold row161B at h
  revert h
  cases h1 : Try.prog.info? 259 with
  | none => simp
  | some ti =>
    simp only []
    cases h2 : ti.methods.find? (·.name == "Step") with
    | none => simp
    | some m =>
      simp only [Bool.and_eq_true, Array.isEmpty_iff, beq_iff_eq]
      exact fun h => ⟨ti, m, rfl, h2, h.1, h.2⟩
theorem method_step (p : Nat) (w : World) (es : Array Event) : (method (Try.prog.types.size + Made.depth) 259 (.pointer (some ⟨p, 0, none⟩)) "Step").run Try.prog w = .ok (229, .pointer (some ⟨p, 0, none⟩)) w ∧ (method (Try.prog.types.size + Made.depth) 259 (.pointer (some ⟨p, 0, none⟩)) "Step").events Try.prog w es = es := by
  obtain ⟨ti, m, h1, h2, h3, h4⟩ := row161
  obtain ⟨k, hk⟩ : ∃ k, Try.prog.types.size + Made.depth = k + 1 := ⟨Try.prog.types.size + (Made.depth - 1), by have : 1 ≤ Made.depth := by decide
                                                                                                                omega⟩
  rw [hk]
  unfold method
  refine ⟨?_, ?_⟩
  · simp [typeInfo, h1, h2, h3, h4, follow, receiverAt, run_underlying und161, Place.get]
  · simp [typeInfo, h1, h2, h3, h4, follow, receiverAt, run_underlying und161, Place.get]
section
variable {Stop : Goroutine → World → Prop} {w : World} {b : Frame} {a : Act} {k : List Item} {cs : List Frame} {ops : Array Oper} {i : Nat} {rest : List Nat} {o : Oper}
theorem stepG_invokeStep {x : Operand} {ats : Array TypeId} (p : Nat) (ho : ops[i]? = some o) (hw : Region.wanted o (yielded ops a.tmps) = true) (hk : b.kind ≠ .early) (hop : o.op = .call { callee := .invoke x "Step", args := #[], argTypes := ats }) (hx : a.eval x = .iface 259 (.pointer (some ⟨p, 0, none⟩))) :
    stepG Try.prog main (G (b.at a (.inRegion ops (i :: rest) :: k)) cs) w = .go (G (Frame.enter Try.prog 229 #[.pointer (some ⟨p, 0, none⟩)] .normal) (b.at a (.inRegion ops (i :: rest) :: k) :: cs)) w := by
  have h1 : ¬ Try.f229.name = "runtime.NumGoroutine" := by decide
  have h2 : ¬ Try.f229.body = none := by simp [Try.f229]
  have hm := method_step p w #[]
  rw [show Try.prog.types.size = 310 from by kernel_rfl] at hm
  have hr : (execOp a.eval o).run Try.prog w = .ok (.enter 229 #[.pointer (some ⟨p, 0, none⟩)]) w := by
    unfold execOp
    simp [hop, resolve, invoke, callMethod, callFunc, hm.1, Try.func229, h1, h2, hx]
  have he : (execOp a.eval o).events Try.prog w #[] = #[] := by
    unfold execOp
    simp [hop, resolve, invoke, callMethod, callFunc, hm.1, hm.2, Try.func229, h1, h2, hx]
  rw [stepG_enter ho hw hk hr]
  have : listed Try.prog b.fn a o w = #[] := by unfold listed; rw [he]; exact seen_none Try.prog _
  rw [this]
theorem Walk.invokeStep {x : Operand} {ats : Array TypeId} (p : Nat) (ho : ops[i]? = some o) (hw : Region.wanted o (yielded ops a.tmps) = true) (hk : b.kind ≠ .early) (hop : o.op = .call { callee := .invoke x "Step", args := #[], argTypes := ats }) (hx : a.eval x = .iface 259 (.pointer (some ⟨p, 0, none⟩)))
    (h : Walk Try.prog main (DR V) Stop (G (Frame.enter Try.prog 229 #[.pointer (some ⟨p, 0, none⟩)] .normal) (b.at a (.inRegion ops (i :: rest) :: k) :: cs)) w) : Walk Try.prog main (DR V) Stop (G (b.at a (.inRegion ops (i :: rest) :: k)) cs) w :=
  Walk.ctl rfl (fun _ => stepG_invokeStep p ho hw hk hop hx) h
end
end
end Go.Proofs.Ytcdcnmphjhfbpaa
namespace Go.Relay
section
open Go.Conc Go.RowKit
open Go.ConcN (upd upd_ne upd_same)
def lowW (ops : Array Oper) : Bool := (List.range ops.size).all fun i => (ops[i]?).any fun o => o.after.all fun e => !Region.binds .any e || decide (e.on < i)
theorem all_upW {ops : Array Oper} (hlow : lowW ops = true) {L : Array Bool} (hL : L.size = ops.size) (hr : Region.ready .any ops L = []) : ∀ i, i < ops.size → upTo L i = true := by
  intro i
  induction i using Nat.strongRecOn with
  | _ i ih =>
    intro hi
    refine Classical.byContradiction fun hne => ?_
    have hf : upTo L i = false := by simpa using hne
    have key : ∀ e ∈ ops[i].after, Region.binds .any e = true → e.on < i := fun e he hb => by
      have := List.all_eq_true.1 hlow i (List.mem_range.2 hi)
      rw [Array.getElem?_eq_getElem hi] at this
      simp only [Option.any_some] at this
      have := (Array.all_eq_true_iff_forall_mem.1 this) e he
      simpa [hb] using this
    have hm : i ∈ Region.ready .any ops L := mem_ready.2 ⟨by rw [upTo_in (by omega)]; exact hf, ops[i], Array.getElem?_eq_getElem hi, fun e he hb => ih e.on (key e he hb) (Nat.lt_trans (key e he hb) hi)⟩
    rw [hr] at hm; cases hm
section
variable {ops : Array Oper} {E : Type} {Good : List Nat → Act → E → Prop}
theorem anyE {Inv : (Nat → Bool) → Act → E → Prop} (hlow : lowW ops = true)
    (hop : ∀ f i o a e, Inv f a e → Closed ops f → f i = false → ops[i]? = some o → (∀ x ∈ o.after, Region.binds .any x = true → f x.on = true) → ∀ rest, (∀ a' e', Inv (upd f i true) a' e' → Good rest a' e') → Good (i :: rest) a e)
    (hend : ∀ f a e, Inv f a e → (∀ i, i < ops.size → f i = true) → Good [] a e) :
    ∀ (fuel t : Nat) (L : Array Bool) (a : Act) (e : E), L.size = ops.size → Inv (upTo L) a e → Closed ops (upTo L) → leftOf ops.size (upTo L) ≤ fuel → Good (Region.linearise.go .any ops fuel t L []) a e := by
  intro fuel
  induction fuel with
  | zero =>
    intro t L a e hL hI _ hf
    have hall : ∀ i, i < ops.size → upTo L i = true := fun i hi => by
      refine Classical.byContradiction fun hne => ?_
      have := leftOf_pos hi (f := upTo L) (by simpa using hne)
      omega
    exact hend _ a e hI hall
  | succ fuel ih =>
    intro t L a e hL hI hC hf
    simp only [Region.linearise.go]
    change Good (match (Region.ready .any ops L)[t % (Region.ready .any ops L).length]? with
      | some i => Region.linearise.go .any ops fuel (t / (Region.ready .any ops L).length) (L.setIfInBounds i true) [i]
      | none => [].reverse) a e
    cases hi : (Region.ready .any ops L)[t % (Region.ready .any ops L).length]? with
    | none =>
      have hnil : Region.ready .any ops L = [] := by
        cases hr : Region.ready .any ops L with
        | nil => rfl
        | cons x xs =>
          rw [hr] at hi
          have hlt : t % (x :: xs).length < (x :: xs).length := Nat.mod_lt _ (by simp)
          simp at hi
          simp at hlt
          omega
      exact hend _ a e hI (all_upW hlow hL hnil)
    | some i =>
      simp only []
      rw [linearise_go_acc, List.reverse_singleton, List.singleton_append]
      obtain ⟨h0, o, ho, hd⟩ := mem_ready.1 (List.mem_of_getElem? hi)
      have hil : i < ops.size := (Array.getElem?_eq_some_iff.1 ho).1
      rw [upTo_in (by omega)] at h0
      refine hop (upTo L) i o a e hI hC h0 ho hd _ fun a' e' hI' => ?_
      refine ih _ _ a' e' (by simp [hL]) (by rw [upTo_set (by omega)]; exact hI') ?_ ?_
      · rw [upTo_set (by omega)]
        intro j o' ho' hj x hx hb
        have hup : ∀ x, upTo L x = true → upd (upTo L) i true x = true := fun x hx => by
          by_cases ex : x = i
          · subst ex; exact upd_same _ _ _
          · rw [upd_ne _ _ ex]; exact hx
        by_cases ej : j = i
        · subst ej
          rw [ho] at ho'; cases ho'
          exact hup _ (hd x hx hb)
        · rw [upd_ne _ _ ej] at hj
          exact hup _ (hC j o' ho' hj x hx hb)
      · rw [upTo_set (by omega), leftOf_set hil h0]
        omega
end
theorem Walk.drawnE {P : Program} {main : Bool} {b : Frame} {k : List Item} {ops : Array Oper} {id : Nat} {a : Act} {E : Type} {V : E → Nat → Option Wait} {Stop : E → Goroutine → World → Prop} {cs : E → List Frame} {w : E → World}
    {Inv : (Nat → Bool) → Act → E → Prop} (e0 : E) (hm : P.follows .mixedOrders = true) (hlow : lowW ops = true) (h0 : Inv (fun _ => false) a e0)
    (hop : ∀ f i o a e, Inv f a e → Closed ops f → f i = false → ops[i]? = some o → (∀ x ∈ o.after, Region.binds .any x = true → f x.on = true) → ∀ rest, (∀ a' e', Inv (upd f i true) a' e' → Walk P main (DR (V e')) (Stop e') (G (b.at a' (.inRegion ops rest :: k)) (cs e')) (w e')) → Walk P main (DR (V e)) (Stop e) (G (b.at a (.inRegion ops (i :: rest) :: k)) (cs e)) (w e))
    (hend : ∀ f a e, Inv f a e → (∀ i, i < ops.size → f i = true) → Walk P main (DR (V e)) (Stop e) (G (b.at a (.inRegion ops [] :: k)) (cs e)) (w e)) :
    Walk P main (DR (V e0)) (Stop e0) (G (b.at a (.code (.region id ops true) :: k)) (cs e0)) (w e0) := by
  have hu : upTo (Array.replicate ops.size false) = fun _ => false := by
    funext j
    unfold upTo
    rw [Array.getD_eq_getD_getElem?, Array.getElem?_replicate]
    split <;> rfl
  refine Walk.step rfl (fun d => G (b.at a (.inRegion ops (Region.linearise .any ops ((w e0).tape d (.order b.fn id))) :: k)) (cs e0)) (fun d => (w e0).at (d + 1)) (fun _ => #[]) (fun d => ?_) (fun d => drawsR _) (fun d => Walk.back ?_ (d + 1))
  · rw [stepG_region_draw]
    simp only [Region.schedule, hm, Bool.true_or, if_true]
    rfl
  · refine anyE (Good := fun rest a e => Walk P main (DR (V e)) (Stop e) (G (b.at a (.inRegion ops rest :: k)) (cs e)) (w e)) hlow hop hend ops.size _ _ a e0 (by simp) (by rw [hu]; exact h0) (by rw [hu]; intro _ _ _ h; cases h) ?_
    unfold leftOf
    exact Nat.le_trans List.countP_le_length (by simp)
section
variable {P : Program} {main : Bool} {V : Nat → Option Wait} {Stop : Goroutine → World → Prop} {b : Frame} {k : List Item} {cs : List Frame} {ops : Array Oper} {w : World} {a : Act}
theorem Walk.drawnCW {id m : Nat} (hm : P.follows .mixedOrders = true) (hsz : ops.size = m) (hlow : lowW ops = true) (hc : calmB ops m = true) (hk : b.kind ≠ .early)
    (h : Cm P main V ops (· = w) (fun a => Walk P main (DR V) Stop (G (b.at a (.inRegion ops [] :: k)) cs) w) (List.range m) a) : Walk P main (DR V) Stop (G (b.at a (.code (.region id ops true) :: k)) cs) w := by
  rw [List.range_eq_range'] at h
  have h0 : Cm P main V ops (· = w) (fun a => Walk P main (DR V) Stop (G (b.at a (.inRegion ops [] :: k)) cs) w) (List.range' 0 m) (puts ops (fun _ => undef) (fun j => decide (j < 0)) a) := by
    have : puts ops (fun _ => undef) (fun j => decide (j < 0)) a = a := putsL_none _ a fun j _ => decide_eq_false (Nat.not_lt_zero j)
    rw [this]; exact h
  obtain ⟨vals, _, hcond, hend⟩ := cm_vals (Z := (· = w)) (w := w) rfl (Nat.le_of_eq hsz.symm) m 0 (fun _ => undef) a (by omega) h0
  refine Walk.drawnE (E := World) (V := fun _ => V) (Stop := fun _ => Stop) (cs := fun _ => cs) (w := fun w => w) (Inv := fun f x w' => x = puts ops vals f a ∧ ∃ d, w' = w.at d) w hm hlow ⟨(puts_zero vals a).symm, w.drawn, rfl⟩ ?_ ?_
  · rintro f i o _ _ ⟨rfl, d, rfl⟩ _ hf ho hd rest hr
    have hi : i < m := by have := (Array.getElem?_eq_some_iff.1 ho).1; omega
    refine Walk.back ?_ d
    refine Walk.calmOp (Z := (· = w)) rfl hc hk hi ho hd (hcond i o (Nat.zero_le _) hi ho) ?_
    rw [← puts_upd hc hi vals hf ho a]
    exact hr _ (w.at w.drawn) ⟨rfl, w.drawn, rfl⟩
  · rintro f _ _ ⟨rfl, d, rfl⟩ hall
    refine Walk.back ?_ d
    have : puts ops vals f a = puts ops vals (fun j => decide (j < m)) a := puts_congr (fun j hj => ⟨(hall j hj).trans (decide_eq_true (hsz ▸ hj)).symm, fun _ => rfl⟩) a
    rw [this]
    exact hend
end
end
end Go.Relay
namespace Go.Proofs.Ytcdcnmphjhfbpaa
open Go.Conc Go.RowKit Go.Relay
open Go.ConcN (upd upd_ne upd_same)
section
structure OpV where
  k : Int
  a : Int
  b : Int
  c : Int
structure Ans where
  ok : Bool
  n : Int
  l : List Int
deriving DecidableEq
def ansV (a : Ans) (sl : Value) : Value := .agg #[.bool a.ok, .int .i64 a.n, sl]
def ansRow (z : List (Ans × Value)) : List Value := z.flatMap fun a => [.bool a.1.ok, .int .i64 a.1.n, a.2]
theorem ansRow_snoc (z : List (Ans × Value)) (a : Ans × Value) : ansRow (z ++ [a]) = ansRow z ++ [.bool a.1.ok, .int .i64 a.1.n, a.2] := by simp [ansRow]
def LsAt (base : Nat) (P : Nat → Prop) (sl : Value) (l : List Int) (w : World) : Prop := ∃ a c, sl = .slice a l.length c ∧ l.length ≤ 1048576 ∧ (∀ {p : Prop}, p → w.ownsRow base 2 1 sl l.length (l.map fun z => .int .i64 z) ∧ ∀ b, sl.ownBlock = some b → P b)
theorem LsAt.same {base : Nat} {P : Nat → Prop} {sl : Value} {l : List Int} {w w' : World} (h : LsAt base P sl l w) (hb : ∀ b, P b → w'.heap[b]? = w.heap[b]?) : LsAt base P sl l w' := by
  obtain ⟨a, c, e, hn, hr⟩ := h
  exact ⟨a, c, e, hn, fun hl => ⟨row_same (hr hl).1 fun b e => hb b ((hr hl).2 b e), (hr hl).2⟩⟩
theorem LsAt.imp {base : Nat} {P P' : Nat → Prop} {sl : Value} {l : List Int} {w : World} (h : LsAt base P sl l w) (hP : ∀ b, P b → P' b) : LsAt base P' sl l w := by
  obtain ⟨a, c, e, hn, hr⟩ := h
  exact ⟨a, c, e, hn, fun hl => ⟨(hr hl).1, fun b e => hP b ((hr hl).2 b e)⟩⟩
theorem LsAt.low {base base' : Nat} {P : Nat → Prop} {sl : Value} {l : List Int} {w : World} (h : LsAt base P sl l w) (hb : base' ≤ base) : LsAt base' P sl l w := by
  obtain ⟨a, c, e, hn, hr⟩ := h
  exact ⟨a, c, e, hn, fun hl => ⟨⟨(hr hl).1.1, (hr hl).1.2.imp id fun ⟨g, cap, cur, h1, h2, h3⟩ => ⟨g, cap, cur, h1, Nat.le_trans hb h2, h3⟩⟩, (hr hl).2⟩⟩
def LsR (sl : Value) (l : List Int) (w : World) : Prop := ∃ a c, sl = .slice a l.length c ∧ l.length ≤ c ∧ (a = none → c = 0) ∧ ∀ (j : Nat) (z : Int), l[j]? = some z → ∃ b off, a = some ⟨b, off, none⟩ ∧ w.cell? ⟨b, off + j, none⟩ = some (.int .i64 z)
theorem LsR.same {sl : Value} {l : List Int} {w w' : World} (h : LsR sl l w) (hb : ∀ b, b < w.heap.size → w'.heap[b]? = w.heap[b]?) : LsR sl l w' := by
  obtain ⟨a, c, h1, h2, h3, h4⟩ := h
  refine ⟨a, c, h1, h2, h3, fun j z hj => ?_⟩
  obtain ⟨b, off, e, hc⟩ := h4 j z hj
  have hlt : b < w.heap.size := by
    unfold World.cell? at hc
    split at hc
    · rename_i h'; exact (Array.getElem?_eq_some_iff.1 h').1
    · cases hc
  exact ⟨b, off, e, (World.cell?_of_block (a := ⟨b, off + j, none⟩) (hb b hlt)).trans hc⟩
theorem LsR.nil (w : World) : LsR (.slice none 0 0) [] w := ⟨none, 0, rfl, Nat.le_refl _, fun _ => rfl, fun j z hj => (by simp at hj)⟩
theorem LsAt.nil (base : Nat) (P : Nat → Prop) (w : World) : LsAt base P (.slice none 0 0) [] w := ⟨none, 0, rfl, Nat.zero_le _, fun _ => ⟨⟨rfl, .inl ⟨rfl, rfl⟩⟩, fun b h => by simp [Value.ownBlock] at h⟩⟩
def RowA (base : Nat) (P : Nat → Prop) (hd : Value) (ans : List Ans) (w : World) : Prop := ∃ (ta : Option Addr) (tc : Nat) (z : List (Ans × Value)), z.map Prod.fst = ans ∧ hd = .slice ta ans.length tc ∧ w.ownsRow base 46 3 hd ans.length (ansRow z) ∧ (∀ b, hd.ownBlock = some b → P b) ∧ ∀ p ∈ z, LsAt base P p.2 p.1.l w
theorem RowA.same {base : Nat} {P : Nat → Prop} {hd : Value} {ans : List Ans} {w w' : World} (h : RowA base P hd ans w) (hb : ∀ b, P b → w'.heap[b]? = w.heap[b]?) : RowA base P hd ans w' := by
  obtain ⟨ta, tc, z, h1, h2, h3, h4, h5⟩ := h
  exact ⟨ta, tc, z, h1, h2, row_same h3 fun b e => hb b (h4 b e), h4, fun p hp => (h5 p hp).same hb⟩
theorem RowA.imp {base : Nat} {P P' : Nat → Prop} {hd : Value} {ans : List Ans} {w : World} (h : RowA base P hd ans w) (hP : ∀ b, P b → P' b) : RowA base P' hd ans w := by
  obtain ⟨ta, tc, z, h1, h2, h3, h4, h5⟩ := h
  exact ⟨ta, tc, z, h1, h2, h3, fun b e => hP b (h4 b e), fun p hp => (h5 p hp).imp hP⟩
theorem RowA.hdo {base : Nat} {P : Nat → Prop} {hd : Value} {ans : List Ans} {w : World} (h : RowA base P hd ans w) : ∀ b, hd.ownBlock = some b → P b := by
  obtain ⟨ta, tc, z, h1, h2, h3, h4, h5⟩ := h
  exact h4
theorem RowA.low {base base' : Nat} {P : Nat → Prop} {hd : Value} {ans : List Ans} {w : World} (h : RowA base P hd ans w) (hb : base' ≤ base) : RowA base' P hd ans w := by
  obtain ⟨ta, tc, z, h1, h2, h3, h4, h5⟩ := h
  exact ⟨ta, tc, z, h1, h2, ⟨h3.1, h3.2.imp id fun ⟨g, cap, cur, e1, e2, e3⟩ => ⟨g, cap, cur, e1, Nat.le_trans hb e2, e3⟩⟩, h4, fun p hp => (h5 p hp).low hb⟩
theorem RowA.nil (base : Nat) (P : Nat → Prop) (w : World) : RowA base P (.slice none 0 0) [] w :=
  ⟨none, 0, [], rfl, rfl, ⟨rfl, .inl ⟨rfl, rfl⟩⟩, fun b h => (by simp [Value.ownBlock] at h), fun p hp => (by cases hp)⟩
structure La where
  Sg : Type
  D : Type
  Gh : Type
  le : Gh → Gh → Prop
  refl : ∀ y, le y y
  trans : ∀ {x y z : Gh}, le x y → le y z → le x z
  enter : Sg → Int → OpV → Sg × (Ans ⊕ D)
  act : Sg → D → Sg × (Ans ⊕ D)
  sh : Gh → Nat → Prop
  mono : ∀ {y y' : Gh} {b : Nat}, le y y' → sh y b → sh y' b
  I : Gh → Sg → World → Prop
  stable : ∀ {y : Gh} {s : Sg} {w w' : World}, I y s w → (∀ b, sh y b → w'.heap[b]? = w.heap[b]?) → I y s w'
  lt : ∀ {y : Gh} {s : Sg} {w : World} {b : Nat}, I y s w → sh y b → b < w.heap.size
structure Tst (L : La) where
  left : List OpV
  d : Option L.D
  ans : List Ans
def settleO (L : La) (th : Int) : L.Sg → List OpV → List Ans → L.Sg × Tst L
  | s, [], az => (s, ⟨[], none, az⟩)
  | s, o :: l, az => match L.enter s th o with
    | (s', .inl a) => settleO L th s' l (az ++ [a])
    | (s', .inr d) => (s', ⟨l, some d, az⟩)
def landO (L : La) (th : Int) (r : L.Sg × (Ans ⊕ L.D)) (left : List OpV) (az : List Ans) : L.Sg × Tst L := match r with
  | (s', .inl a) => settleO L th s' left (az ++ [a])
  | (s', .inr d) => (s', ⟨left, some d, az⟩)
structure OX (L : La) where
  s : L.Sg
  th : Nat → Tst L
  out : Nat → Option Bool
  cnt : Nat
structure OG where
  n : Nat
  w0 : World
  A : Nat
  ops : Nat → List OpV
  sh : Nat → Prop
def AnT (g : OG) (i : Nat) (w w' : World) (hd : Value) : Prop := ∃ arr arr' : Array Value, w.heap[g.A]? = some (.cells arr 44) ∧ w'.heap[g.A]? = some (.cells arr' 44) ∧ arr'.size = arr.size ∧ arr'[i]? = some hd ∧ ∀ j, j ≠ i → arr'[j]? = arr[j]?
structure Tn (L : La) where
  V : Nat → Option Wait
  f : Frame
  fs : List Frame
  w : World
  y : L.Gh
  M : Nat → Prop
  goal : L.Sg × Tst L
def ownT {L : La} (τ : Tn L) (y : L.Gh) (w : World) (b : Nat) : Prop := (τ.M b ∨ (τ.w.heap.size ≤ b ∧ b < w.heap.size)) ∧ ¬ L.sh y b
def StopT (L : La) (g : OG) (S : Stile) (i : Nat) (C : Tst L → List Frame → L.Gh → Value → (Nat → Prop) → World → Prop) (τ : Tn L) (g' : Goroutine) (w' : World) : Prop :=
  ∃ y', L.le τ.y y' ∧ τ.w.heap.size ≤ w'.heap.size ∧ (∀ b, b < τ.w.heap.size → ¬ τ.M b → ¬ L.sh τ.y b → b ≠ g.A → w'.heap[b]? = τ.w.heap[b]?) ∧ L.I y' τ.goal.1 w' ∧ (∀ b, L.sh y' b → L.sh τ.y b ∨ τ.M b ∨ τ.w.heap.size ≤ b) ∧
  ∃ hd, AnT g i τ.w w' hd ∧ RowA g.w0.heap.size (ownT τ y' w') hd τ.goal.2.ans w' ∧
    ((τ.goal.2.d = none ∧ g' = G (τ.f.finish (.tuple #[])) τ.fs) ∨
     ∃ l, τ.goal.2.d.isSome = true ∧ l ≠ [] ∧ (∀ f ∈ l, Plain f) ∧ C τ.goal.2 l y' hd (ownT τ y' w') w' ∧ g' = G (Frame.enter Try.prog 229 #[.pointer (some ⟨S.p i, 0, none⟩)] .normal) (l ++ τ.f :: τ.fs))
theorem StopT.mono {L : La} {g : OG} {S : Stile} {i : Nat} {C C' : Tst L → List Frame → L.Gh → Value → (Nat → Prop) → World → Prop} {τ : Tn L} {g' : Goroutine} {w' : World} (h : StopT L g S i C τ g' w') (hC : ∀ t l y hd M w, C t l y hd M w → C' t l y hd M w) : StopT L g S i C' τ g' w' := by
  obtain ⟨y', h0, h1, h2, h3, hp, hd, h4, h5, h7⟩ := h
  refine ⟨y', h0, h1, h2, h3, hp, hd, h4, h5, ?_⟩
  rcases h7 with h | ⟨l, a1, a2, a3, a4, a5⟩
  · exact .inl h
  · exact .inr ⟨l, a1, a2, a3, hC _ _ _ _ _ _ a4, a5⟩
structure Rely (L : La) (g : OG) (i : Nat) (V : Nat → Option Wait) (y : L.Gh) (w : World) (hd : Value) (M : Nat → Prop) : Prop where
  size : g.w0.heap.size ≤ w.heap.size
  old : ∀ b, b < g.w0.heap.size → ¬ g.sh b → b ≠ g.A → w.heap[b]? = g.w0.heap[b]?
  an : ∃ arr : Array Value, w.heap[g.A]? = some (.cells arr 44) ∧ arr[i]? = some hd
  lo : ∀ b, M b → g.w0.heap.size ≤ b ∧ b < w.heap.size ∧ ¬ L.sh y b
  apart : ∀ b, (b < g.w0.heap.size ∨ M b ∨ w.heap.size ≤ b ∨ L.sh y b) → Apart V b
  shlo : ∀ b, L.sh y b → b ≠ g.A ∧ b < w.heap.size ∧ (b < g.w0.heap.size → g.sh b)
  alo : g.A < g.w0.heap.size
  hdo : ∀ b, hd.ownBlock = some b → M b
def Cont (L : La) (g : OG) (S : Stile) (i : Nat) : Nat → Tst L → List Frame → L.Gh → Value → (Nat → Prop) → World → Prop
  | 0 => fun _ _ _ _ _ _ => True
  | N + 1 => fun t cs y hd M w => ∀ (V : Nat → Option Wait) (f : Frame) (fs : List Frame) (y' : L.Gh) (w' : World) (s : L.Sg) (c : Frame) (l : List Frame) (d : L.D), L.le y y' → w.heap.size ≤ w'.heap.size → (∀ b, M b → w'.heap[b]? = w.heap[b]?) → Rely L g i V y' w' hd M → L.I y' s w' → t.d = some d → cs = c :: l →
    Walk Try.prog false (DR V) (StopT L g S i (Cont L g S i N) ⟨V, f, fs, w', y', M, landO L (i : Nat) (L.act s d) t.left t.ans⟩) (G (c.finish (.tuple #[])) (l ++ f :: fs)) w'
section
variable {L : La} {g : OG} {S : Stile} {i : Nat}
theorem Cont.keep {N : Nat} {t : Tst L} {cs : List Frame} {y y1 : L.Gh} {hd : Value} {M : Nat → Prop} {w w1 : World} (h : Cont L g S i N t cs y hd M w) (hy : L.le y y1) (hs : w.heap.size ≤ w1.heap.size) (hb : ∀ b, M b → w1.heap[b]? = w.heap[b]?) : Cont L g S i N t cs y1 hd M w1 := by
  cases N with
  | zero => trivial
  | succ N => exact fun V f fs y' w' s c l d h0 h1 h2 h3 h4 h5 h6 => h V f fs y' w' s c l d (L.trans hy h0) (Nat.le_trans hs h1) (fun b hM => (h2 b hM).trans (hb b hM)) h3 h4 h5 h6
theorem Cont.less : ∀ {N : Nat} {t : Tst L} {cs : List Frame} {y : L.Gh} {hd : Value} {M : Nat → Prop} {w : World}, Cont L g S i (N + 1) t cs y hd M w → Cont L g S i N t cs y hd M w
  | 0, _, _, _, _, _, _, _ => trivial
  | _ + 1, _, _, _, _, _, _, h => fun V f fs y' w' s c l d h0 h1 h2 h3 h4 h5 h6 => (h V f fs y' w' s c l d h0 h1 h2 h3 h4 h5 h6).mono fun _ _ hS => hS.mono fun _ _ _ _ _ _ => Cont.less
theorem Cont.le {N N' : Nat} (hN : N' ≤ N) {t : Tst L} {cs : List Frame} {y : L.Gh} {hd : Value} {M : Nat → Prop} {w : World} (h : Cont L g S i N t cs y hd M w) : Cont L g S i N' t cs y hd M w := by
  induction N with
  | zero => rwa [Nat.le_zero.1 hN]
  | succ N ih =>
    by_cases e : N' = N + 1
    · rw [e]; exact h
    · exact ih (by omega) h.less
end
end
end Go.Proofs.Ytcdcnmphjhfbpaa
