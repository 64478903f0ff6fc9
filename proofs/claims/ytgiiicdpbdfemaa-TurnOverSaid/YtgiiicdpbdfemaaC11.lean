/- Part 11. -/
import Derived.Test.YtgiiicdpbdfemaaC10
import Derived.Deep.Heap
set_option linter.unusedSimpArgs false
/- Package turn's newTurnstile, in company: what one more stand leaves of the turnstile. -/
section
namespace Go.Proofs.Ytgiiicdpbdfemaa
open Go.Conc Go.RowKit Go.Relay

variable {V : Nat → Option Wait} {B : Nat} {oa : Option Addr} {on oc n0 : Nat} {xs : List Value} {w : World} {t r g cap : Nat} {w' : World}

/-- The world behind one more stand. -/
noncomputable def ntW (B on g cap : Nat) (w' : World) : World := w'.setCell ⟨B, 0, none⟩ (.slice (some ⟨g, 0, none⟩) (on + 1) cap)
theorem NT7.ne (H : NT V B oa on oc n0 xs w) (h7 : NT7 B oa on oc n0 xs w t r g cap w') : g ≠ B := fun e => by
  rcases h7.hat with h | h
  · exact (H.hap g h).2 e
  · have := cell_lt w H.h0; rw [newW_size] at h; simp only at this; omega
theorem NT7.size (h7 : NT7 B oa on oc n0 xs w t r g cap w') : w.heap.size + 4 ≤ (ntW B on g cap w').heap.size := by
  have h := h7.grown.size
  rw [newW_size] at h
  unfold ntW
  rw [Go.Deep.nblk_setCell]
  exact h
theorem NT.next (H : NT V B oa on oc n0 xs w) (hlt : on < 64) (hA : ∀ b, w.heap.size ≤ b → Apart V b) (h7 : NT7 B oa on oc n0 xs w t r g cap w') :
    NT V B (some ⟨g, 0, none⟩) (on + 1) cap n0 (xs ++ [.pointer (some ⟨w.heap.size + 2, 0, none⟩)]) (ntW B on g cap w') := by
  refine ⟨World.cell?_setCell_same w' ⟨B, 0, none⟩ _ h7.h0, (World.frozen?_setCell ..).trans h7.hz, H.hf, h7.own.kept (row := some B) ⟨rfl, rfl, rfl, Nat.le_of_eq (Go.Deep.nblk_setCell ..).symm, fun b _ hb => Go.Deep.blk_setCell_other _ _ _ b (fun e => hb (by rw [e]))⟩ (.inr (by simp [Value.ownBlock, h7.ne H])), ?_, by omega, fun b hb => ?_⟩
  · have := h7.size; have := H.hn0; omega
  · obtain rfl : g = b := by simpa [Value.ownBlock] using hb
    refine ⟨?_, h7.ne H⟩
    rcases h7.hat with h | h
    · exact (H.hap _ h).1
    · exact hA _ (by rw [newW_size] at h; omega)
/-- A block that was there, the turnstile's and the list's own aside, is as it was. -/
theorem NT7.block (h7 : NT7 B oa on oc n0 xs w t r g cap w') {b : Nat} (hb : b < w.heap.size) (hbB : b ≠ B) (hbo : some b ≠ (Value.slice oa on oc).ownBlock) : (ntW B on g cap w').heap[b]? = w.heap[b]? := by
  have e4 : (newW w t r).heap[b]? = w.heap[b]? := by
    unfold newW standW
    rw [Below.heap_alloc _ _ _ (by simp; omega), Below.heap_alloc _ _ _ (by simp; omega), Below.heap_alloc _ _ _ (by simp; omega), Below.heap_alloc _ _ _ hb]
  exact (Go.Deep.blk_setCell_other _ _ _ b hbB).trans ((h7.grown.block b (by rw [newW_size]; omega) hbo).trans e4)
/-- The new stand's own blocks. -/
theorem NT7.stand (h7 : NT7 B oa on oc n0 xs w t r g cap w') (hB : B < w.heap.size) (hown : ∀ b, (Value.slice oa on oc).ownBlock = some b → b < w.heap.size) {b : Nat} (hb : w.heap.size ≤ b) (hb2 : b < w.heap.size + 3) : (ntW B on g cap w').heap[b]? = (standW w t r).heap[b]? := by
  have e4 : (newW w t r).heap[b]? = (standW w t r).heap[b]? := by
    unfold newW
    exact Below.heap_alloc _ _ _ (by rw [standW_size]; exact hb2)
  exact (Go.Deep.blk_setCell_other _ _ _ b (by simp only; omega)).trans ((h7.grown.block b (by rw [newW_size]; omega) (fun e => by have := hown b e.symm; omega)).trans e4)
end Go.Proofs.Ytgiiicdpbdfemaa
end

/- Package turn's newTurnstile, in company: the stands that it has made. -/
section
namespace Go.Proofs.Ytgiiicdpbdfemaa
open Go.Conc Go.RowKit Go.Relay

variable {V : Nat → Option Wait} {B : Nat} {oa : Option Addr} {on oc n0 : Nat} {xs : List Value} {w : World} {t r g cap : Nat} {w' : World}

/-- A stand that was made when the heap had a blocks. -/
structure StandIs (w : World) (n0 : Nat) (s : Nat × Nat × Nat) : Prop where
  c0 : w.heap[s.1]? = some chan0
  c1 : w.heap[s.1 + 1]? = some chan0
  cells : w.heap[s.1 + 2]? = some (.cells #[.chan (some s.2.1), .chan (some s.2.2), .bool false, .bool false] 166)
  tr : (s.2.1 = s.1 ∧ s.2.2 = s.1 + 1) ∨ (s.2.1 = s.1 + 1 ∧ s.2.2 = s.1)
  lo : n0 ≤ s.1
  hi : s.1 + 3 ≤ w.heap.size
structure Built (w : World) (B n0 : Nat) (v : Value) (sts : List (Nat × Nat × Nat)) : Prop where
  all : ∀ s ∈ sts, StandIs w n0 s
  apart : sts.Pairwise (fun s s' => s.1 + 3 ≤ s'.1)
  list : ∀ b, v.ownBlock = some b → b < w.heap.size ∧ n0 ≤ b ∧ ∀ s ∈ sts, b < s.1 ∨ s.1 + 3 ≤ b
  low : B < n0

theorem standW_blocks (w : World) (t r : Nat) : (standW w t r).heap[w.heap.size]? = some chan0 ∧ (standW w t r).heap[w.heap.size + 1]? = some chan0 ∧ (standW w t r).heap[w.heap.size + 2]? = some (.cells #[.chan (some t), .chan (some r), .bool false, .bool false] 166) := by
  have e1 : (w.alloc chan0).heap.size = w.heap.size + 1 := by simp
  have e2 : ((w.alloc chan0).alloc chan0).heap.size = w.heap.size + 2 := by simp
  unfold standW
  refine ⟨?_, ?_, ?_⟩
  · rw [Below.heap_alloc _ _ _ (by omega), Below.heap_alloc _ _ _ (by omega)]; exact heap_alloc_new w _
  · rw [Below.heap_alloc _ _ _ (by omega), ← e1]; exact heap_alloc_new _ _
  · rw [← e2]; exact heap_alloc_new _ _

theorem Built.next {sts : List (Nat × Nat × Nat)} (H : NT V B oa on oc n0 xs w) (hT : TR w t r) (h7 : NT7 B oa on oc n0 xs w t r g cap w') (hb : Built w B n0 (.slice oa on oc) sts) :
    Built (ntW B on g cap w') B n0 (.slice (some ⟨g, 0, none⟩) (on + 1) cap) (sts ++ [(w.heap.size, t, r)]) := by
  have hn := H.hn0
  have hB := hb.low
  have hs := h7.size
  have hg : (Value.slice oa on oc).ownBlock = some g ∨ g = w.heap.size + 4 := by have h := h7.hat; rwa [newW_size] at h
  have hlt : g < (ntW B on g cap w').heap.size := by unfold ntW; rw [Go.Deep.nblk_setCell]; exact h7.hlt
  have hold : ∀ s ∈ sts, ∀ b, s.1 ≤ b → b < s.1 + 3 → (ntW B on g cap w').heap[b]? = w.heap[b]? := fun s hm b h1 h2 => by
    have hi := hb.all s hm
    have := hi.lo; have := hi.hi
    refine h7.block (by omega) (by omega) fun e => ?_
    rcases (hb.list b e.symm).2.2 s hm with h | h <;> omega
  have hnew : ∀ b, w.heap.size ≤ b → b < w.heap.size + 3 → (ntW B on g cap w').heap[b]? = (standW w t r).heap[b]? := fun b h1 h2 => h7.stand (by omega) (fun b e => (hb.list b e).1) h1 h2
  obtain ⟨q0, q1, q2⟩ := standW_blocks w t r
  refine ⟨fun s hm => ?_, ?_, fun b e => ?_, hB⟩
  · rcases List.mem_append.1 hm with hm | hm
    · have hi := hb.all s hm
      have := hi.lo; have := hi.hi
      exact ⟨(hold s hm _ (by omega) (by omega)).trans hi.c0, (hold s hm _ (by omega) (by omega)).trans hi.c1, (hold s hm _ (by omega) (by omega)).trans hi.cells, hi.tr, hi.lo, by omega⟩
    · obtain rfl : s = (w.heap.size, t, r) := by simpa using hm
      exact ⟨(hnew _ (by simp) (by simp)).trans q0, (hnew _ (by simp) (by simp)).trans q1, (hnew _ (by simp) (by simp)).trans q2, hT, hn, by simp only; omega⟩
  · refine List.pairwise_append.2 ⟨hb.apart, by simp, fun s hm s' hm' => ?_⟩
    obtain rfl : s' = (w.heap.size, t, r) := by simpa using hm'
    exact (hb.all s hm).hi
  · obtain rfl : g = b := by simpa [Value.ownBlock] using e
    refine ⟨hlt, ?_, fun s hm => ?_⟩
    · rcases hg with h | h
      · exact (hb.list _ h).2.1
      · omega
    · rcases List.mem_append.1 hm with hm | hm
      · rcases hg with h | h
        · exact (hb.list _ h).2.2 s hm
        · have := (hb.all s hm).hi; omega
      · obtain rfl : s = (w.heap.size, t, r) := by simpa using hm
        rcases hg with h | h
        · have := (hb.list _ h).1; simp only; omega
        · simp only; omega
end Go.Proofs.Ytgiiicdpbdfemaa
end

/- Package turn's newTurnstile, in company: its whole loop. -/
section
namespace Go.Proofs.Ytgiiicdpbdfemaa
open Go.Conc Go.RowKit Go.Relay

variable {main : Bool} {V : Nat → Option Wait} {B n0 : Nat}

/-- A stand's pointer. -/
def sp (s : Nat × Nat × Nat) : Value := .pointer (some ⟨s.1 + 2, 0, none⟩)
/-- What newTurnstile leaves alone. -/
structure Rest53 (B n0 : Nat) (w w0 : World) : Prop where
  low : ∀ b, b < n0 → b ≠ B → w0.heap[b]? = w.heap[b]?
  cell : ∀ i, i ≠ 0 → w0.cell? ⟨B, i, none⟩ = w.cell? ⟨B, i, none⟩ ∧ w0.frozen? ⟨B, i, none⟩ = w.frozen? ⟨B, i, none⟩
  size : w.heap.size ≤ w0.heap.size

theorem rest_one {oa : Option Addr} {on oc t r g cap : Nat} {xs : List Value} {w w' : World} {sts : List (Nat × Nat × Nat)} (H : NT V B oa on oc n0 xs w) (h7 : NT7 B oa on oc n0 xs w t r g cap w') (hb : Built w B n0 (.slice oa on oc) sts) : Rest53 B n0 w (ntW B on g cap w') := by
  have hn := H.hn0
  have hB := hb.low
  have hs := h7.size
  refine ⟨fun b hlt hne => h7.block (by omega) hne fun e => ?_, fun i hi => ?_, by omega⟩
  · have := (hb.list b e.symm).2.1; omega
  · have hBo : some B ≠ (Value.slice oa on oc).ownBlock := fun e => (H.hap B e.symm).2 rfl
    have e4 : (newW w t r).heap[B]? = w.heap[B]? := by
      unfold newW standW
      rw [Below.heap_alloc _ _ _ (by simp; omega), Below.heap_alloc _ _ _ (by simp; omega), Below.heap_alloc _ _ _ (by simp; omega), Below.heap_alloc _ _ _ (by omega)]
    have e5 : w'.heap[B]? = w.heap[B]? := (h7.grown.block B (by rw [newW_size]; omega) hBo).trans e4
    exact ⟨(World.cell?_setCell_other w' ⟨B, 0, none⟩ ⟨B, i, none⟩ _ (by simp [Ne.symm hi])).trans (World.cell?_of_block e5), (World.frozen?_setCell ..).trans (World.frozen?_of_block e5)⟩
theorem Rest53.trans {a b c : World} (h : Rest53 B n0 a b) (k : Rest53 B n0 b c) : Rest53 B n0 a c :=
  ⟨fun x h1 h2 => (k.low x h1 h2).trans (h.low x h1 h2), fun i hi => ⟨(k.cell i hi).1.trans (h.cell i hi).1, (k.cell i hi).2.trans (h.cell i hi).2⟩, Nat.le_trans h.size k.size⟩

theorem nt_loop (n tcap : Nat) (ta : Option Addr) (most : Int) (hn : n ≤ 64) (hA : ∀ b, n0 ≤ b → Apart V b) (cs : List Frame) : ∀ (k j : Nat), j + k = n → ∀ (oa : Option Addr) (oc : Nat) (sts : List (Nat × Nat × Nat)) (u : Nat → Value) (w : World),
    NT V B oa j oc n0 (sts.map sp) w → Built w B n0 (.slice oa j oc) sts → sts.length = j →
    Walk Try.prog main (DR V) (fun g w' => ∃ oa' oc' sts' u' w0 d, w' = w0.at d ∧ g = G (hd53 B n n tcap ta most u') cs ∧ NT V B oa' n oc' n0 (sts'.map sp) w0 ∧ Built w0 B n0 (.slice oa' n oc') sts' ∧ sts'.length = n ∧ Rest53 B n0 w w0) (G (hd53 B j n tcap ta most u) cs) w := by
  intro k
  induction k with
  | zero =>
    intro j hj oa oc sts u w H hb hl
    obtain rfl : j = n := by omega
    exact .stop fun d => ⟨oa, oc, sts, u, w, d, rfl, rfl, H, hb, hl, ⟨fun _ _ _ => rfl, fun _ _ => ⟨rfl, rfl⟩, Nat.le_refl _⟩⟩
  | succ k ih =>
    intro j hj oa oc sts u w H hb hl
    refine (nt_go B j n tcap ta most oa j oc n0 (sts.map sp) u cs w (by omega) hn H).then ?_
    rintro _ _ ⟨t, r, g', cap, w', u', ht, h7, rfl, d, rfl⟩
    refine Walk.back ?_ d
    have H' := NT.next H (by omega) (fun b hb' => hA b (Nat.le_trans H.hn0 hb')) h7
    have hb' := Built.next H ht h7 hb
    have hr := rest_one H h7 hb
    have hm : sts.map sp ++ [.pointer (some ⟨w.heap.size + 2, 0, none⟩)] = (sts ++ [(w.heap.size, t, r)]).map sp := by simp [sp]
    rw [hm] at H'
    refine (ih (j + 1) (by omega) _ _ _ u' _ H' hb' (by simp [hl])).mono ?_
    rintro g w1 ⟨oa', oc', sts', u'', w0, d', e, eg, h1, h2, h3, h4⟩
    exact ⟨oa', oc', sts', u'', w0, d', e, eg, h1, h2, h3, hr.trans h4⟩
end Go.Proofs.Ytgiiicdpbdfemaa
end

/- Package turn's newTurnstile, in company: its contract. -/
section
namespace Go.Proofs.Ytgiiicdpbdfemaa
open Go.Conc Go.RowKit Go.Relay

variable {main : Bool} {V : Nat → Option Wait}

theorem nt_all (n tcap : Nat) (ta : Option Addr) (most : Int) (hn : n ≤ 64) (w : World) (hA : ∀ b, w.heap.size ≤ b → Apart V b) (c : Frame) (cs : List Frame) :
    Walk Try.prog main (DR V) (fun g w' => ∃ oa oc sts w0 d, w' = w0.at d ∧ g = G (c.finish (.pointer (some ⟨w.heap.size, 0, none⟩))) cs ∧ NT V w.heap.size oa n oc (w.heap.size + 1) (sts.map sp) w0 ∧ Built w0 w.heap.size (w.heap.size + 1) (.slice oa n oc) sts ∧ sts.length = n ∧ Rest53 w.heap.size (w.heap.size + 1) (turnW w n most) w0)
      (G (Frame.enter Try.prog 53 #[.slice ta n tcap, .int .i64 most] .normal) (c :: cs)) w := by
  refine (nt_in n tcap ta most (c :: cs) w).then ?_
  rintro _ _ ⟨rfl, d, rfl⟩
  refine Walk.back ?_ d
  have hs : (turnW w n most).heap.size = w.heap.size + 1 := by simp [turnW]
  have H : NT V w.heap.size none 0 0 (w.heap.size + 1) (([] : List (Nat × Nat × Nat)).map sp) (turnW w n most) := by
    refine ⟨?_, ?_, (hA _ (Nat.le_refl _)).1 _ rfl, World.ownsRow_nil .., by omega, by omega, fun g hg => by simp [Value.ownBlock] at hg⟩
    · exact World.cell?_alloc_at (w := w) #[.slice none 0 0, .int .i64 n, .int .i64 (min (max most 0) 1048576), .slice none 0 0] 123 w.heap.size 0 rfl
    · exact World.frozen?_alloc_at (w := w) #[.slice none 0 0, .int .i64 n, .int .i64 (min (max most 0) 1048576), .slice none 0 0] 123 w.heap.size 0 rfl
  have hb : Built (turnW w n most) w.heap.size (w.heap.size + 1) (.slice none 0 0) [] := ⟨by simp, by simp, fun b e => by simp [Value.ownBlock] at e, by omega⟩
  refine (nt_loop n tcap ta most hn (fun b hb => hA b (by omega)) (c :: cs) n 0 (by omega) none 0 [] (fun _ => undef) _ H hb rfl).then ?_
  rintro _ _ ⟨oa, oc, sts, u, w0, d', rfl, rfl, h1, h2, h3, h4⟩
  refine Walk.back ?_ d'
  refine (nt_out w.heap.size n tcap ta most u c cs w0).mono ?_
  rintro g w1 ⟨rfl, d2, rfl⟩
  exact ⟨oa, oc, sts, w0, d2, rfl, rfl, h1, h2, h3, h4⟩
end Go.Proofs.Ytgiiicdpbdfemaa
end

/- A run by a schedule, from newTurnstile's return on: what stands there then. -/
section
namespace Go.Proofs.Ytgiiicdpbdfemaa
open Go.Conc Go.RowKit Go.Relay
open Go.ConcN (upd upd_ne upd_same)

theorem cell_inv {w : World} {b i : Nat} {v : Value} (h : w.cell? ⟨b, i, none⟩ = some v) : ∃ arr ty fr, w.heap[b]? = some (.cells arr ty fr) ∧ arr[i]? = some v := by
  unfold World.cell? at h
  revert h
  cases e : w.heap[b]? with
  | none => simp
  | some o =>
    cases o with
    | cells arr ty fr => exact fun h => ⟨arr, ty, fr, rfl, by simpa using h⟩
    | _ => simp

section
variable (B sb : Nat) (sts : List (Nat × Nat × Nat))
def stA (i : Nat) : Nat × Nat × Nat := sts.getD i (0, 0, 0)

theorem stA_get {sts : List (Nat × Nat × Nat)} {i : Nat} (hi : i < sts.length) : stA sts i = sts[i] := by
  unfold stA
  rw [List.getD_eq_getElem?_getD, List.getElem?_eq_getElem hi, Option.getD_some]

open Classical in
noncomputable def own0 : Nat → Option Role := fun b =>
  if b = B then some .tB else if b = sb then some .ss else
  if h : ∃ i, i < sts.length ∧ b = (stA sts i).1 + 2 then some (.p h.choose) else
  if h : ∃ i, i < sts.length ∧ b = (stA sts i).2.1 then some (.t h.choose) else
  if h : ∃ i, i < sts.length ∧ b = (stA sts i).2.2 then some (.r h.choose) else none

/-- The stands lie apart, above B, and beside their list. -/
structure Far : Prop where
  lo : ∀ i, i < sts.length → B < (stA sts i).1
  tr : ∀ i, i < sts.length → ((stA sts i).2.1 = (stA sts i).1 ∧ (stA sts i).2.2 = (stA sts i).1 + 1) ∨ ((stA sts i).2.1 = (stA sts i).1 + 1 ∧ (stA sts i).2.2 = (stA sts i).1)
  ap : ∀ i j, i < j → j < sts.length → (stA sts i).1 + 3 ≤ (stA sts j).1
  sB : B < sb
  sl : ∀ i, i < sts.length → sb < (stA sts i).1 ∨ (stA sts i).1 + 3 ≤ sb

variable {B sb sts}
theorem Far.inj (H : Far B sb sts) {i j : Nat} (hi : i < sts.length) (hj : j < sts.length) {a b : Nat} (ha : a < 3) (hb : b < 3) (h : (stA sts i).1 + a = (stA sts j).1 + b) : i = j := by
  rcases Nat.lt_trichotomy i j with h' | h' | h'
  · have := H.ap i j h' hj; omega
  · exact h'
  · have := H.ap j i h' hi; omega
theorem Far.inj' (H : Far B sb sts) {i j : Nat} (hi : i < sts.length) (hj : j < sts.length) {x y : Nat} (hx : (stA sts i).1 ≤ x ∧ x < (stA sts i).1 + 3) (hy : (stA sts j).1 ≤ y ∧ y < (stA sts j).1 + 3) (h : x = y) : i = j :=
  H.inj hi hj (a := x - (stA sts i).1) (b := y - (stA sts j).1) (by omega) (by omega) (by omega)
theorem Far.t (H : Far B sb sts) {i : Nat} (hi : i < sts.length) : (stA sts i).1 ≤ (stA sts i).2.1 ∧ (stA sts i).2.1 < (stA sts i).1 + 2 ∧ (stA sts i).1 ≤ (stA sts i).2.2 ∧ (stA sts i).2.2 < (stA sts i).1 + 2 ∧ (stA sts i).2.1 ≠ (stA sts i).2.2 := by
  rcases H.tr i hi with h | h <;> omega

theorem own0_B : own0 B sb sts B = some .tB := by unfold own0; rw [if_pos rfl]
theorem own0_s (H : Far B sb sts) : own0 B sb sts sb = some .ss := by
  have := H.sB
  unfold own0
  rw [if_neg (by omega), if_pos rfl]
theorem own0_p (H : Far B sb sts) {i : Nat} (hi : i < sts.length) : own0 B sb sts ((stA sts i).1 + 2) = some (.p i) := by
  have h1 := H.lo i hi
  have h2 := H.sl i hi
  unfold own0
  have h : ∃ j, j < sts.length ∧ (stA sts i).1 + 2 = (stA sts j).1 + 2 := ⟨i, hi, rfl⟩
  rw [if_neg (by omega), if_neg (by omega), dif_pos h]
  rw [← H.inj hi h.choose_spec.1 (by omega) (by omega) h.choose_spec.2]
theorem own0_t (H : Far B sb sts) {i : Nat} (hi : i < sts.length) : own0 B sb sts (stA sts i).2.1 = some (.t i) := by
  have h1 := H.lo i hi
  have h2 := H.sl i hi
  have ht := H.t hi
  unfold own0
  have h : ∃ j, j < sts.length ∧ (stA sts i).2.1 = (stA sts j).2.1 := ⟨i, hi, rfl⟩
  rw [if_neg (by omega), if_neg (by omega), dif_neg ?_, dif_pos h]
  · have htj := H.t h.choose_spec.1
    rw [← H.inj' hi h.choose_spec.1 ⟨ht.1, by omega⟩ ⟨htj.1, by omega⟩ h.choose_spec.2]
  · rintro ⟨j, hj, e⟩
    have := H.inj' hi hj (x := (stA sts i).2.1) (y := (stA sts j).1 + 2) ⟨ht.1, by omega⟩ ⟨by omega, by omega⟩ e
    subst this
    omega
theorem own0_r (H : Far B sb sts) {i : Nat} (hi : i < sts.length) : own0 B sb sts (stA sts i).2.2 = some (.r i) := by
  have h1 := H.lo i hi
  have h2 := H.sl i hi
  have ht := H.t hi
  unfold own0
  have h : ∃ j, j < sts.length ∧ (stA sts i).2.2 = (stA sts j).2.2 := ⟨i, hi, rfl⟩
  rw [if_neg (by omega), if_neg (by omega), dif_neg ?_, dif_neg ?_, dif_pos h]
  · have htj := H.t h.choose_spec.1
    rw [← H.inj' hi h.choose_spec.1 ⟨ht.2.2.1, by omega⟩ ⟨htj.2.2.1, by omega⟩ h.choose_spec.2]
  · rintro ⟨j, hj, e⟩
    have htj := H.t hj
    have := H.inj' hi hj (x := (stA sts i).2.2) (y := (stA sts j).2.1) ⟨ht.2.2.1, by omega⟩ ⟨htj.1, by omega⟩ e
    subst this
    omega
  · rintro ⟨j, hj, e⟩
    have := H.inj' hi hj (x := (stA sts i).2.2) (y := (stA sts j).1 + 2) ⟨ht.2.2.1, by omega⟩ ⟨by omega, by omega⟩ e
    subst this
    omega
theorem own0_some {b : Nat} {x : Role} (h : own0 B sb sts b = some x) : (x = .tB ∧ b = B) ∨ (x = .ss ∧ b = sb) ∨ ∃ i, i < sts.length ∧ ((x = .p i ∧ b = (stA sts i).1 + 2) ∨ (x = .t i ∧ b = (stA sts i).2.1) ∨ (x = .r i ∧ b = (stA sts i).2.2)) := by
  unfold own0 at h
  by_cases h1 : b = B
  · rw [if_pos h1] at h; cases h; exact .inl ⟨rfl, h1⟩
  rw [if_neg h1] at h
  by_cases h2 : b = sb
  · rw [if_pos h2] at h; cases h; exact .inr (.inl ⟨rfl, h2⟩)
  rw [if_neg h2] at h
  by_cases h3 : ∃ i, i < sts.length ∧ b = (stA sts i).1 + 2
  · rw [dif_pos h3] at h; cases h; exact .inr (.inr ⟨_, h3.choose_spec.1, .inl ⟨rfl, h3.choose_spec.2⟩⟩)
  rw [dif_neg h3] at h
  by_cases h4 : ∃ i, i < sts.length ∧ b = (stA sts i).2.1
  · rw [dif_pos h4] at h; cases h; exact .inr (.inr ⟨_, h4.choose_spec.1, .inr (.inl ⟨rfl, h4.choose_spec.2⟩)⟩)
  rw [dif_neg h4] at h
  by_cases h5 : ∃ i, i < sts.length ∧ b = (stA sts i).2.2
  · rw [dif_pos h5] at h; cases h; exact .inr (.inr ⟨_, h5.choose_spec.1, .inr (.inr ⟨rfl, h5.choose_spec.2⟩)⟩)
  rw [dif_neg h5] at h; cases h
end

theorem going_all (n : Nat) : going n (fun _ => false) = n := by
  unfold going
  rw [List.countP_eq_length.2 (by simp), List.length_range]

/-- What is given to a run. -/
structure Given where
  g0 : Nat
  n : Nat
  tb : Nat
  tcap : Nat
  most : Int
  F : Nat → Value
  sa : Option Addr
  sc : Nat
  sl : List Int

def stile (Q : Given) (B sb scap : Nat) (sts : List (Nat × Nat × Nat)) : Stile where
  g0 := Q.g0
  n := Q.n
  B := B
  sb := sb
  scap := scap
  tb := Q.tb
  tcap := Q.tcap
  most := min (max Q.most 0) 1048576
  p := fun i => (stA sts i).1 + 2
  t := fun i => (stA sts i).2.1
  r := fun i => (stA sts i).2.2
  F := Q.F
  sa := Q.sa
  sc := Q.sc
  sl := Q.sl

noncomputable def dyn0 (n B sb : Nat) (sts : List (Nat × Nat × Nat)) : Dyn where
  k := 0
  e := fun _ => false
  f := fun _ => false
  b := fun _ => false
  N := fun _ => 0
  cs := fun _ => []
  own := own0 B sb sts
  ord := []
  oa := none
  oc := 0
  gg := n

section
variable {Q : Given} {w w0 : World} {sb scap : Nat} {sts : List (Nat × Nat × Nat)}

theorem far_of (hb : Built w0 w.heap.size (w.heap.size + 1) (.slice (some ⟨sb, 0, none⟩) Q.n scap) sts) : Far w.heap.size sb sts := by
  have hmem : ∀ i, i < sts.length → stA sts i ∈ sts := fun i hi => by
    rw [stA_get hi]
    exact List.getElem_mem hi
  obtain ⟨h1, h2, h3⟩ := hb.list sb rfl
  refine ⟨fun i hi => ?_, fun i hi => (hb.all _ (hmem i hi)).tr, fun i j hij hj => ?_, by omega, fun i hi => h3 _ (hmem i hi)⟩
  · have := (hb.all _ (hmem i hi)).lo; omega
  · have hi : i < sts.length := by omega
    rw [stA_get hi, stA_get hj]
    exact List.pairwise_iff_getElem.1 hb.apart i j hi hj hij

theorem sys0 {V : Nat → Option Wait} (hn : Q.n ≤ 64) (hg0 : 1 ≤ Q.g0) (hN : NT V w.heap.size (some ⟨sb, 0, none⟩) Q.n scap (w.heap.size + 1) (sts.map sp) w0) (hb : Built w0 w.heap.size (w.heap.size + 1) (.slice (some ⟨sb, 0, none⟩) Q.n scap) sts) (hl : sts.length = Q.n)
    (hR : Rest53 w.heap.size (w.heap.size + 1) (turnW w Q.n Q.most) w0) :
    Sys (stile Q w.heap.size sb scap sts) w.heap.size (dyn0 Q.n w.heap.size sb sts) w0 ∧ Keeps (fun _ => none) (own0 w.heap.size sb sts) w w0 := by
  have hF := far_of hb
  have hmem : ∀ i, i < sts.length → stA sts i ∈ sts := fun i hi => by
    rw [stA_get hi]
    exact List.getElem_mem hi
  have hts : (turnW w Q.n Q.most).heap.size = w.heap.size + 1 := by simp [turnW]
  have hlist := hb.list sb rfl
  have hB : w.heap.size < w0.heap.size := by omega
  have hge : ∀ b x, own0 w.heap.size sb sts b = some x → w.heap.size ≤ b ∧ b < w0.heap.size := fun b x h => by
    rcases own0_some h with ⟨_, e⟩ | ⟨_, e⟩ | ⟨i, hi, z⟩
    · omega
    · omega
    · have h1 := hF.lo i hi
      have h2 := (hb.all _ (hmem i hi)).hi
      have h3 := hF.t hi
      rcases z with ⟨_, e⟩ | ⟨_, e⟩ | ⟨_, e⟩ <;> omega
  refine ⟨⟨fun b x hx => ?_, hge, fun b x hx => ?_, own0_B, own0_s hF, fun i hi => own0_p hF (hl ▸ hi), fun i hi => own0_t hF (hl ▸ hi), fun i hi => own0_r hF (hl ▸ hi), fun i hi => absurd hi (Nat.not_lt_zero _), fun b e => by simp [dyn0, Value.ownBlock] at e, World.ownsRow_nil .., hn, Nat.zero_le _, hg0⟩, by omega, fun b hb' _ => ?_⟩
  · rcases own0_some hx with ⟨rfl, rfl⟩ | ⟨rfl, rfl⟩ | ⟨i, hi, z⟩
    · obtain ⟨arr, ty, fr, h, h0⟩ := cell_inv hN.h0
      have hc : ∀ i, i ≠ 0 → arr[i]? = (turnW w Q.n Q.most).cell? ⟨w.heap.size, i, none⟩ := fun i hi => (cell_of h i).symm.trans (hR.cell i hi).1
      have ht : ∀ i, (turnW w Q.n Q.most).cell? ⟨w.heap.size, i, none⟩ = (#[.slice none 0 0, .int .i64 Q.n, .int .i64 (min (max Q.most 0) 1048576), .slice none 0 0] : Array Value)[i]? := fun i => cell_of (heap_alloc_new w _) i
      refine ⟨arr, ty, fr, h, h0, (hc 1 (by omega)).trans (ht 1), (hc 2 (by omega)).trans (ht 2), (hc 3 (by omega)).trans (ht 3), fun i hi => ?_⟩
      have hz := (hR.cell i (by omega)).2
      have hz0 : (turnW w Q.n Q.most).frozen? ⟨w.heap.size, i, none⟩ = false := frozen_of (heap_alloc_new w _) i
      rw [hz0] at hz
      simpa only [World.frozen?, h] using hz
    · rcases hN.own with ⟨_, ⟨e, _⟩ | ⟨g, cap, cur, e, _, h, _, _, _, ht⟩⟩
      · cases e
      · cases e
        refine ⟨_, _, _, h, fun i hi => ?_⟩
        have hi : i < Q.n := hi
        have h1 : (cur.toList.take (Q.n * 1))[i]? = cur[i]? := by rw [List.getElem?_take, if_pos (by omega)]; simp
        rw [← h1, ht, List.getElem?_map, List.getElem?_eq_getElem (by omega)]
        simp only [Option.map_some, sp, stile]
        rw [stA_get (by omega)]
    · have hs := hb.all _ (hmem i hi)
      rcases z with ⟨rfl, rfl⟩ | ⟨rfl, rfl⟩ | ⟨rfl, rfl⟩
      · exact hs.cells
      · intro _
        rcases hs.tr with ⟨h1, _⟩ | ⟨h1, _⟩
        · exact ⟨0, h1 ▸ hs.c0⟩
        · exact ⟨0, h1 ▸ hs.c1⟩
      · intro _
        rcases hs.tr with ⟨_, h1⟩ | ⟨_, h1⟩
        · exact ⟨0, h1 ▸ hs.c1⟩
        · exact ⟨0, h1 ▸ hs.c0⟩
  · rcases own0_some hx with ⟨rfl, rfl⟩ | ⟨rfl, rfl⟩ | ⟨i, hi, z⟩
    · rfl
    · rfl
    · rcases z with ⟨rfl, rfl⟩ | ⟨rfl, rfl⟩ | ⟨rfl, rfl⟩ <;> exact ⟨(by show i < Q.n; omega), rfl⟩
  · refine ⟨?_, ?_⟩
    · cases h : own0 w.heap.size sb sts b with
      | none => rfl
      | some x => have := (hge b x h).1; omega
    · rw [hR.low b (by omega) (by omega)]
      exact heap_new_lt w _ hb'
end
end Go.Proofs.Ytgiiicdpbdfemaa
end

/- Over's contract: whatever the tape, a run by a schedule does what its threads' own relation says, one turn at a time. -/
section
namespace Go.Proofs.Ytgiiicdpbdfemaa
open Go.Conc Go.RowKit Go.Relay
open Go.ConcN (upd upd_ne upd_same)

/-- Goroutine 0 works and all others only leave: on whatever tape it comes to Post. -/
def Runs (Post : Goroutine → World → Prop) (g : Goroutine) (w : World) : Prop := ∀ nG m T, 1 ≤ nG → At Try.prog (fun _ => none) 0 nG g w m T →
  Relay.Comes Try.prog (fun m' T' => ∃ nG' g' w', 1 ≤ nG' ∧ Post g' w' ∧ At Try.prog (fun _ => none) 0 nG' g' w' m' T') m T

theorem Runs.now {Post : Goroutine → World → Prop} {g : Goroutine} {w : World} (h : Post g w) : Runs Post g w := fun nG _ _ h1 A => .now ⟨nG, g, w, h1, h, A⟩
theorem Runs.walk {Stop Post : Goroutine → World → Prop} {g : Goroutine} {w : World} (h : Walk Try.prog true (DR (fun _ => none)) Stop g w) (k : ∀ g w, Stop g w → Runs Post g w) : Runs Post g w := fun nG _ _ h1 A =>
  (At.walk (h := 0) h A).bind fun m' T' ⟨a', w', hs, A'⟩ => k a' w' hs nG m' T' h1 A'
theorem Runs.then {Post Post' : Goroutine → World → Prop} {g : Goroutine} {w : World} (h : Runs Post g w) (k : ∀ g w, Post g w → Runs Post' g w) : Runs Post' g w := fun nG m T h1 A =>
  (h nG m T h1 A).bind fun m' T' ⟨nG', g', w', h1', hp, A'⟩ => k g' w' hp nG' m' T' h1' A'

def Given.at (Q : Given) (g : Nat) : Given := { Q with g0 := g }

/-- What a run has come to. -/
structure Ran {X : Type} (C : ∀ S : Stile, Crew S X) (x0 : X) (Q : Given) (w : World) (v : Value) (w' : World) : Prop where
  all : ∃ (g0 sb scap : Nat) (sts : List (Nat × Nat × Nat)) (x : X) (ord : List Nat) (oa : Option Addr) (oc q k : Nat) (own : Nat → Option Role) (cs : Nat → List Frame),
    (x, ord) = followX (C (stile (Q.at g0) w.heap.size sb scap sts)) (bornAll (C (stile (Q.at g0) w.heap.size sb scap sts)) Q.n 0 x0, []) Q.sl ∧
    overX (C (stile (Q.at g0) w.heap.size sb scap sts)) (x, ord) = true ∧
    v = .tuple #[.slice oa ord.length oc, .bool (decide (0 < goingX (C (stile (Q.at g0) w.heap.size sb scap sts)) x)), .slice (some ⟨q, 0, none⟩) Q.n Q.n] ∧
    (C (stile (Q.at g0) w.heap.size sb scap sts)).inv k own x cs w' ∧
    w'.ownsRow w.heap.size 3 1 (.slice oa ord.length oc) ord.length (ord.map fun i => .int .i64 (i : Nat)) ∧ (∀ b, (Value.slice oa ord.length oc).ownBlock = some b → own b = some .ord ∧ b ≠ q) ∧
    own q = some .ord ∧ w.heap.size ≤ q ∧ w.heap.size ≤ w'.heap.size ∧
    ∃ arr, w'.heap[q]? = some (.cells arr 4 (0, 0)) ∧ ∀ i, i < Q.n → arr[i]? = some (.bool ((C (stile (Q.at g0) w.heap.size sb scap sts)).out x i == some true))

theorem over_run {X : Type} (C : ∀ S : Stile, Crew S X) (x0 : X) (Q : Given) (og : Value) (w : World) (hn1 : 1 ≤ Q.n) (hn : Q.n ≤ 64) (hm : Q.sl.length ≤ 17592186044416) (hcnt : ∀ S, (C S).cnt x0 = 0)
    (hog : CallV Try.prog true (fun _ => none) 52 #[og] w (.slice (some ⟨Q.tb, 0, none⟩) Q.n Q.tcap) w)
    (hinit : ∀ g0 sb scap sts, ∃ cs, (C (stile (Q.at g0) w.heap.size sb scap sts)).inv 0 (fun _ => none) x0 cs w) (c : Frame) (cs0 : List Frame) :
    Runs (fun g w' => ∃ v, Ran C x0 Q w v w' ∧ g = G (c.finish v) cs0) (G (Frame.enter Try.prog 23 #[og, .slice Q.sa Q.sl.length Q.sc, .int .i64 Q.most] .normal) (c :: cs0)) w := by
  intro nG m T hG A
  refine (At.walk (h := 0) (over_in Q.n Q.tcap Q.sl.length Q.sc (some ⟨Q.tb, 0, none⟩) Q.sa og Q.most (c :: cs0) w hog (nt_all Q.n Q.tcap (some ⟨Q.tb, 0, none⟩) Q.most hn w (fun b _ => ⟨fun _ _ _ _ h => by (cases h), fun _ _ h => by (cases h)⟩) _ (c :: cs0))) A).bind ?_
  rintro m1 T1 ⟨_, _, ⟨oa, oc, sts, w0, d0, rfl, rfl, hN, hb, hl, hR⟩, A1⟩
  obtain ⟨sb, rfl⟩ : ∃ sb, oa = some ⟨sb, 0, none⟩ := by
    rcases hN.own.2 with ⟨_, e⟩ | ⟨g, cap, cur, e, _⟩
    · omega
    · cases e; exact ⟨g, rfl⟩
  obtain ⟨hS, hK⟩ := sys0 (Q := Q.at nG) hn hG hN hb hl hR
  obtain ⟨csI, hI⟩ := hinit nG sb oc sts
  generalize hSt : stile (Q.at nG) w.heap.size sb oc sts = S at *
  have eB : S.B = w.heap.size := by rw [← hSt]; rfl
  have en : S.n = Q.n := by rw [← hSt]; rfl
  have eg : S.g0 = nG := by rw [← hSt]; rfl
  have esb : S.sb = sb := by rw [← hSt]; rfl
  have esc : S.scap = oc := by rw [← hSt]; rfl
  have etb : S.tb = Q.tb := by rw [← hSt]; rfl
  have etc : S.tcap = Q.tcap := by rw [← hSt]; rfl
  have esa : S.sa = Q.sa := by rw [← hSt]; rfl
  have essc : S.sc = Q.sc := by rw [← hSt]; rfl
  have esl : S.sl = Q.sl := by rw [← hSt]; rfl
  have emo : S.most ≤ 1048576 := by rw [← hSt]; simp only [stile]; omega
  have hD0 : Drv (C S) w.heap.size { dyn0 Q.n w.heap.size sb sts with cs := csI } x0 (w0.at d0) := by
    refine ⟨(hS.cs csI).at d0, (C S).keep hI (hK.at d0), fun _ => rfl, fun i hi => absurd hi (Nat.not_lt_zero _), fun _ _ => ⟨rfl, rfl⟩, ?_, emo, hcnt S⟩
    rw [en]
    exact (going_all Q.n).symm
  have hV0 : (fun _ => none : Nat → Option Wait) = VV S { dyn0 Q.n w.heap.size sb sts with cs := csI } none none := by
    funext g
    unfold VV
    by_cases h0 : g = 0
    · rw [if_pos h0]
    · rw [if_neg h0, if_neg]
      rintro ⟨h1, h2, _⟩
      have h2 : g < S.g0 + 0 := h2
      omega
  have hk0 : ({ dyn0 Q.n w.heap.size sb sts with cs := csI } : Dyn).k = 0 := rfl
  have hr0 : ({ dyn0 Q.n w.heap.size sb sts with cs := csI } : Dyn).ord = [] := rfl
  generalize ({ dyn0 Q.n w.heap.size sb sts with cs := csI } : Dyn) = D0 at hD0 hV0 hk0 hr0
  have hV0A : (fun x : Nat => if x = 0 then none else none : Nat → Option Wait) = fun _ => none := by funext x; simp
  rw [hV0] at A1
  have t0 := hD0.sys.tB.1
  rw [← eB] at A1
  rw [en] at t0
  refine (At.walk (h := 0) (Stop := fun g w' => g = G (hd54 S.B S.sb S.n S.scap S.tb S.tcap 0 (fun _ => undef)) (fr23a S.B Q.n Q.tcap Q.sl.length Q.sc (some ⟨Q.tb, 0, none⟩) Q.sa og Q.most :: c :: cs0) ∧ ∃ d, w' = (w0.at d0).at d) (over_begin S.B Q.n Q.tcap Q.sl.length Q.sc (some ⟨Q.tb, 0, none⟩) Q.sa og Q.most (c :: cs0) _ (by
    have := begin_in (main := (0 == 0)) (V := VV S D0 none none) S.B S.sb Q.n S.scap Q.tb Q.tcap (fr23a S.B Q.n Q.tcap Q.sl.length Q.sc (some ⟨Q.tb, 0, none⟩) Q.sa og Q.most :: c :: cs0) (w0.at d0) t0
    rw [en, etb, etc]
    exact this)) A1).bind ?_
  rintro m2 T2 ⟨_, _, ⟨rfl, d2, rfl⟩, A2⟩
  have hD2 : Drv (C S) w.heap.size D0 x0 ((w0.at d0).at d2) := ⟨hD0.sys.at d2, (C S).keep hD0.inv ((Keeps.refl _ _).at d2), hD0.fe, hD0.out, hD0.fresh, hD0.gg, hD0.most, hD0.cnt⟩
  rw [← eg] at A2
  have A2' : At Try.prog (VV S D0 none none) 0 (S.g0 + D0.k) (G (hd54 S.B S.sb S.n S.scap S.tb S.tcap D0.k (fun _ => undef)) (fr23a S.B Q.n Q.tcap Q.sl.length Q.sc (some ⟨Q.tb, 0, none⟩) Q.sa og Q.most :: c :: cs0)) ((w0.at d0).at d2) m2 T2 := by
    rw [hk0]; exact A2
  refine (begin_all S.n (by omega) hr0 hD2 A2').bind ?_
  rintro m3 T3 ⟨D3, w3, u3, A3, hD3, ho3, hk3⟩
  rw [hk0] at hD3
  refine (At.walk (h := 0) (begin_out S.B S.sb S.n S.scap S.tb S.tcap u3 (fr23a S.B Q.n Q.tcap Q.sl.length Q.sc (some ⟨Q.tb, 0, none⟩) Q.sa og Q.most) (c :: cs0) w3) A3).bind ?_
  rintro m4 T4 ⟨_, _, ⟨rfl, d4, rfl⟩, A4⟩
  refine (At.walk (h := 0) (Stop := fun g w' => (∃ u, g = G (hd55 S.B S.sa S.sl.length S.sc 0 u) (fr23b S.B Q.n Q.tcap Q.sl.length Q.sc (some ⟨Q.tb, 0, none⟩) Q.sa og Q.most :: c :: cs0)) ∧ ∃ d, w' = (w3.at d4).at d) (over_follow S.B Q.n Q.tcap Q.sl.length Q.sc (some ⟨Q.tb, 0, none⟩) Q.sa og Q.most (c :: cs0) _ (by
    rw [esa, esl, essc]
    exact follow_in S.B Q.sa Q.sl.length Q.sc _ _)) A4).bind ?_
  rintro m5 T5 ⟨_, _, ⟨⟨u5, rfl⟩, d5, rfl⟩, A5⟩
  have hD5 : Drv (C S) w.heap.size D3 (bornAll (C S) S.n 0 x0) ((w3.at d4).at d5) := ⟨(hD3.sys.at d4).at d5, (C S).keep hD3.inv (((Keeps.refl _ _).at d4).at d5), hD3.fe, hD3.out, hD3.fresh, hD3.gg, hD3.most, hD3.cnt⟩
  refine (follow_all S.sl 0 rfl (Nat.zero_le _) (esl ▸ hm) hD5 hk3 A5).bind ?_
  rintro m6 T6 ⟨D6, w6, x6, A6, hD6, hx6, hk6, hov6⟩
  have t6 := hD6.sys.tB
  refine (At.walk (h := 0) (Stop := fun g w' => g = G (hd56 S.B S.sb S.n S.scap w6.heap.size 0 (fun _ => undef)) (fr23c S.B Q.n Q.tcap Q.sl.length Q.sc (some ⟨Q.tb, 0, none⟩) Q.sa og Q.most D6.gg :: c :: cs0) ∧ ∃ d, w' = (w6.alloc (.cells (madeCells #[.bool false] S.n) 4)).at d)
    (over_end S.B Q.n Q.tcap Q.sl.length Q.sc (some ⟨Q.tb, 0, none⟩) Q.sa og Q.most D6.gg (c :: cs0) w6 t6.2.1 (end_in S.B S.sb S.n S.scap _ w6 hD6.sys.n64 t6.1)) A6).bind ?_
  rintro m7 T7 ⟨_, _, ⟨rfl, d7, rfl⟩, A7⟩
  have hq : D6.own w6.heap.size = none := by
    cases h : D6.own w6.heap.size with
    | none => rfl
    | some x => have := (hD6.sys.lt _ _ h).2; omega
  have hF7 : Fini (C S) w.heap.size D6 x6 ((w6.alloc (.cells (madeCells #[.bool false] S.n) 4)).at d7) w6.heap.size 0 := by
    refine ⟨(hD6.sys.alloc _).at d7, (C S).keep hD6.inv ⟨by simp [World.at], fun b hb ho => ⟨by rw [upd_ne _ _ (by omega)]; exact ho, heap_new_lt w6 _ hb⟩⟩, hq, ⟨_, heap_alloc_new w6 _, fun i hi => ?_⟩, fun i _ hi => ⟨hD6.fe i, (hD6.out i (by omega)).1⟩, fun i hi => absurd hi (Nat.not_lt_zero _), fun i hi => (hD6.out i (by omega)).2, hk6⟩
    have : (madeCells #[.bool false] S.n)[i]? = (madeCells #[.bool false] S.n).toList[i]? := by simp
    rw [this, toList_madeCells_one, List.getElem?_replicate, if_pos hi]
    simp
  refine (end_all S.n 0 (by omega) hF7 A7).bind ?_
  rintro m8 T8 ⟨D8, w8, u8, A8, hF8, ho8, ha8, hc8⟩
  refine (At.walk (h := 0) (end_out S.B S.sb S.n S.scap w6.heap.size u8 _ (c :: cs0) w8) A8).bind ?_
  rintro m9 T9 ⟨_, _, ⟨rfl, d9, rfl⟩, A9⟩
  rw [en] at A9
  refine (At.walk (h := 0) (over_out S.B w6.heap.size Q.n Q.tcap Q.sl.length Q.sc (some ⟨Q.tb, 0, none⟩) Q.sa og Q.most D6.gg D8.oa D8.ord.length D8.oc c cs0 (w8.at d9) hF8.sys.tB.2.2.2.1) A9).mono ?_
  rintro m10 T10 ⟨_, _, ⟨rfl, d10, rfl⟩, A10⟩
  have hVe : VV S D8 none none = fun _ => none := by
    funext g
    unfold VV
    by_cases h0 : g = 0
    · rw [if_pos h0]
    · rw [if_neg h0, if_neg]
      rintro ⟨h1, h2, h3, _⟩
      rw [hF8.lo _ (by have := hF8.k; omega)] at h3
      cases h3
  rw [hVe] at A10
  have hs8 := hF8.sys
  refine ⟨_, _, _, (by omega), ⟨_, ⟨nG, sb, oc, sts, x6, D6.ord, D8.oa, D8.oc, w6.heap.size, D8.k, upd D8.own w6.heap.size (some .ord), D8.cs, ?_⟩, rfl⟩, A10⟩
  rw [hSt]
  rw [en] at hx6
  rw [esl, ho3, hr0] at hx6
  have hgg : D6.gg = goingX (C S) x6 := hD6.going hk6
  have hbr : decide ((0 : Int) < (D6.gg : Int)) = decide (0 < goingX (C S) x6) := decide_eq_decide.2 (by omega)
  obtain ⟨arr, hq8, hqa⟩ := hF8.qh
  refine ⟨hx6, hov6, by rw [hbr, ho8], (C S).keep hF8.inv (((Keeps.refl _ _).at d9).at d10), ?_, fun b hb => ?_, upd_same _ _ _, ?_, ?_, arr, hq8, fun i hi => ?_⟩
  · rw [← ho8]; exact ((hs8.at d9).at d10).row
  · have hb := hs8.oo b (by rw [ho8]; exact hb)
    have hne : b ≠ w6.heap.size := fun e => by rw [e, hF8.qo] at hb; cases hb
    exact ⟨by rw [upd_ne _ _ hne]; exact hb, hne⟩
  · have := hD6.sys.lt _ _ hD6.sys.oB; omega
  · have := hs8.lt _ _ hs8.oB
    have h2 : w.heap.size ≤ w8.heap.size := by omega
    exact h2
  · have := hqa i (by omega)
    rw [this]
    have : decide (i < S.n) = true := decide_eq_true (by omega)
    rw [this, Bool.true_and]
end Go.Proofs.Ytgiiicdpbdfemaa
end

/- Package turn's programs as the crew of a run by a schedule. -/
section
namespace Go.Proofs.Ytgiiicdpbdfemaa
open Go.Conc Go.RowKit Go.Relay
open Go.ConcN (upd upd_ne upd_same)

theorem reachX_told (c : Cd) (words : Nat → Int) (t : Th) : (reachX c words t).2.told = t.told := by
  unfold reachX
  repeat' split
  all_goals rfl

section
variable {g : PG} {S : Stile} {k : Nat} {o o' : Nat → Option Role} {x : PX} {cs : Nat → List Frame} {w w' : World}

theorem invP_keep (h : invP g S k o x cs w) (K : Keeps o o' w w') : invP g S k o' x cs w' := by
  obtain ⟨κ, tas, tcs, Xs, os, us, P⟩ := h
  have hb : ∀ b r, κ b = some r → w'.heap[b]? = w.heap[b]? := fun b r h => (K.same b (P.lt b r h).2 (P.lt b r h).1).2
  refine ⟨κ, tas, tcs, Xs, os, us, ⟨fun b r h => ⟨(K.same b (P.lt b r h).2 (P.lt b r h).1).1, Nat.lt_of_lt_of_le (P.lt b r h).2 K.size⟩, P.n, fun i hi => ?_, ?_, P.rW, P.rS, P.rT, P.rC, fun i hi => (P.codes i hi).same fun cb e => hb cb _ (P.rC i hi cb e), P.rB, fun i hi => ?_, P.rN, fun j z hz => ?_, P.F, P.told, P.len, fun i hi hin hout => ?_, P.fresh, P.kn, fun b ob e => ⟨(P.rr b ob e).1, (hb b _ (P.rr b ob e).1).trans (P.rr b ob e).2⟩⟩⟩
  · have h := P.wk i hi
    exact ⟨(hb _ _ (P.rW i hi)).trans h.blk, row_same h.row fun b e => hb b _ (P.rT i hi b e), h.own⟩
  · obtain ⟨arr, ha, hr⟩ := P.ws
    exact ⟨arr, (hb _ _ P.rS).trans ha, hr⟩
  · exact (World.cell?_of_block (a := ⟨S.tb, i, none⟩) (hb _ _ P.rB)).trans (P.tb i hi)
  · obtain ⟨s, e, hc⟩ := P.sch j z hz
    exact ⟨s, e, (World.cell?_of_block (a := ⟨s, j, none⟩) (hb _ _ (P.rN s e))).trans hc⟩
  · obtain ⟨cd, m, e1, e2, e3, e4, e5, e6⟩ := P.stands i hi hin hout
    exact ⟨cd, m, e1, e2, e3, e4, (hb _ _ e4).trans e5, e6⟩

theorem plain41 (W X : Nat) (v : Value) (own : Nat) (next : Int) (u : Nat → Value) : Plain (fr41s W X v own next u) := ⟨rfl, rfl, Try.f41, Try.func41⟩

/-- A thread starts. -/
theorem startP {V : Nat → Option Wait} (f : Frame) (fs : List Frame) (h : invP g S k o x cs w) (hk : k < S.n) (hc : x.cnt < 1048576) (hA : ∀ b, o b = none → Apart V b) (hlt : ∀ b r, o b = some r → b < w.heap.size) :
    ∃ fi fn first cap, S.F k = .func (.func fi) first cap ∧ Try.prog.funcs[fi]? = some fn ∧ (fn.name == "runtime.NumGoroutine") = false ∧ fn.body.isNone = false ∧
      Walk Try.prog false (DR V) (Fin (invP g S) PX.out S (k + 1) o (bornP g x k) cs k f fs w) (G (Frame.enter Try.prog fi (first ++ #[.iface 161 (.pointer (some ⟨S.p k, 0, none⟩))] ++ cap) .normal) (f :: fs)) w := by
  obtain ⟨κ, tas, tcs, Xs, os, us, P⟩ := h
  have hi : k < g.n := P.n ▸ hk
  refine ⟨41, Try.f41, #[.pointer (some ⟨g.W k, 0, none⟩)], #[], P.F k hi, Try.func41, by decide, by rfl, ?_⟩
  have hth := P.fresh k (Nat.le_refl _) hi
  have harr : (#[.pointer (some ⟨g.W k, 0, none⟩)] ++ #[.iface 161 (.pointer (some ⟨S.p k, 0, none⟩))] ++ #[] : Array Value) = #[.pointer (some ⟨g.W k, 0, none⟩), .iface 161 (.pointer (some ⟨S.p k, 0, none⟩))] := rfl
  rw [harr]
  refine (walk_enters (g.W k) _ (f :: fs) w).then ?_
  rintro g1 w1 ⟨rfl, d, rfl⟩
  refine Walk.back ?_ d
  have hs := settle_walk (V := V) (k' := k + 1) (i := k) (cnt' := x.cnt) (words' := x.words) (t := x.th k) (w1 := w) P hi (Nat.lt_succ_self _) (fun j h1 h2 => by omega) (Nat.le_succ _) hi (Nat.le_refl _) (fun b _ _ _ => rfl) (P.wk k hi) P.ws rfl (Nat.le_refl _) (by omega) (by rw [hth]; simp [th0]; omega) hA hlt f fs (fun _ => undef)
  have hpc : (x.th k).pc = 0 := by rw [hth]; rfl
  rw [hpc] at hs
  exact hs

/-- A thread has its turn. -/
theorem goP {V : Nat → Option Wait} {i : Nat} {c : Frame} {l : List Frame} (f : Frame) (fs : List Frame) (h : invP g S k o x cs w) (hik : i < k) (hout : x.out i = none) (hcs : cs i = c :: l) (hc : x.cnt < 1048576) (hA : ∀ b, o b = none → Apart V b) (hlt : ∀ b r, o b = some r → b < w.heap.size) :
    Walk Try.prog false (DR V) (Fin (invP g S) PX.out S k o (nextP g x i) cs i f fs w) (G (c.finish (.tuple #[])) (l ++ f :: fs)) w := by
  obtain ⟨κ, tas, tcs, Xs, os, us, P⟩ := h
  have hi : i < g.n := Nat.lt_of_lt_of_le hik P.kn
  obtain ⟨cd, m, e1, e2, e3, e4, e5, e6⟩ := P.stands i hik hi hout
  rw [e6] at hcs
  cases hcs
  have hml : m < (g.progs i).length := (List.getElem?_eq_some_iff.1 e2).1
  have hca : codeAt (g.progs i) (x.th i).pc = some cd := by
    unfold codeAt
    rw [e1, if_neg (by omega)]
    simpa using e2
  have hB : Both (g.W i) g.sw g.nw g.sv (g.cv i) x.words (x.th i) (tas i) (tcs i) w := ⟨P.wk i hi, P.ws, P.two P.rS (P.rW i hi) (by simp), fun e => P.two P.rS (P.rT i hi _ e) (by simp) rfl⟩
  have hWo := (P.lt _ _ (P.rW i hi)).1
  have hSo := (P.lt _ _ P.rS).1
  obtain ⟨w1, hcall, hB1, hO⟩ := reach_any (main := false) (V := V) cd g.wcap rfl hB e3 (fun j => (hA _ hWo).1 _ rfl) (fun j => (hA _ hSo).1 _ rfl)
  rw [List.nil_append]
  refine (walk_did (g.W i) (Xs i) _ (os i) m cd.d cd.r cd.a cd.b cd.v (us i) (f :: fs) w w1 (by have := P.len i hi; omega) e5.cells hcall).then ?_
  rintro g1 w2 ⟨⟨u', rfl⟩, d, rfl⟩
  refine Walk.back ?_ d
  have htold := reachX_told cd x.words (x.th i)
  have hs := settle_walk (V := V) (k' := k) (i := i) (cnt' := x.cnt + 1) (words' := (reachX cd x.words (x.th i)).1) (t := { (reachX cd x.words (x.th i)).2 with pc := (x.th i).pc + 1 }) (w1 := w1) P hi hik (fun j h1 _ => h1) (Nat.le_refl _) P.kn hO.size (fun b hb h1 h2 => hO.same b hb h1 h2)
    ⟨hB1.wk.blk, hB1.wk.row, hB1.wk.own⟩ hB1.ws htold (Nat.le_succ _) (by omega) (by
      have := P.told i hi
      show (reachX cd x.words (x.th i)).2.told.length + 4096 ≤ _
      rw [htold]; omega) hA hlt f fs u'
  have hpc : (({ (reachX cd x.words (x.th i)).2 with pc := (x.th i).pc + 1 } : Th)).pc = ((m + 1 : Nat) : Int) := by
    show (x.th i).pc + 1 = _
    rw [e1]; omega
  rw [hpc] at hs
  have hn : nextP g x i = settle g { x with words := (reachX cd x.words (x.th i)).1, cnt := x.cnt + 1 } i { (reachX cd x.words (x.th i)).2 with pc := (x.th i).pc + 1 } := by
    unfold nextP
    rw [hca]
  rw [hn]
  exact hs
end

/-- The crew of programs. -/
noncomputable def crewP (g : PG) (S : Stile) : Crew S PX where
  inv := invP g S
  born := bornP g
  next := nextP g
  out := PX.out
  cnt := PX.cnt
  cntBorn := fun _ _ => rfl
  cntNext := fun x i => by unfold nextP; cases codeAt (g.progs i) (x.th i).pc <;> rfl
  keep := invP_keep
  bornOut := fun x i j h => upd_ne _ _ h
  nextOut := fun x i j h => by
    unfold nextP
    cases codeAt (g.progs i) (x.th i).pc with
    | none => rfl
    | some c => exact upd_ne _ _ h
  shape := fun {k o x cs w i} h hik hout => by
    obtain ⟨κ, tas, tcs, Xs, os, us, P⟩ := h
    obtain ⟨cd, m, e1, e2, e3, e4, e5, e6⟩ := P.stands i hik (Nat.lt_of_lt_of_le hik P.kn) hout
    refine ⟨⟨_, [], e6⟩, fun f hf => ?_⟩
    rw [e6] at hf
    rw [List.mem_singleton.1 hf]
    exact plain41 _ _ _ _ _ _
  thr := fun {k o x cs w i} h _ hi => by
    obtain ⟨κ, tas, tcs, Xs, os, us, P⟩ := h
    exact P.tb i (P.n ▸ hi)
  sch := fun {k o x cs w j z} h hz => by
    obtain ⟨κ, tas, tcs, Xs, os, us, P⟩ := h
    obtain ⟨s, e, hc⟩ := P.sch j z hz
    exact ⟨s, 0, e, by rw [Nat.zero_add]; exact hc⟩
  start := fun f fs h hk hc hA hlt => .inl (startP f fs h hk hc hA hlt)
  go := fun f fs h hik hout hcs hc hA hlt => goP f fs h hik hout hcs hc hA hlt
end Go.Proofs.Ytgiiicdpbdfemaa
end

/- Package turn's Play: what is known of the programs where Over is called. -/
section
namespace Go.Proofs.Ytgiiicdpbdfemaa
open Go.Conc Go.RowKit Go.Relay
open Go.ConcN (upd upd_ne upd_same)

/-- The run that Play asks Over for. -/
def givenP (l : List (Option Addr × Nat × Nat)) (Ws : List Nat) (tb : Nat) (most : Int) (sa : Option Addr) (sc : Nat) (sl : List Int) : Given where
  g0 := 0
  n := l.length
  tb := tb
  tcap := l.length
  most := most
  F := thF fun i => Ws.getD i 0
  sa := sa
  sc := sc
  sl := sl
def pgP (l : List (Option Addr × Nat × Nat)) (progs : List (List Cd)) (Ws : List Nat) (sw nw : Nat) (ro : Nat → Option Obj) : PG where
  n := l.length
  nw := nw
  sw := sw
  wcap := nw
  W := fun i => Ws.getD i 0
  ca := fun i => (l.getD i (none, 0, 0)).1
  ccap := fun i => (l.getD i (none, 0, 0)).2.2
  progs := fun i => progs.getD i []
  ro := ro
def px0 (ws : List Int) : PX := ⟨fun j => ws.getD j 0, fun _ => th0, fun _ => none, 0⟩

theorem getD_of {α : Type} {l : List α} {i : Nat} {x d : α} (h : l[i]? = some x) : l.getD i d = x := by rw [List.getD_eq_getElem?_getD, h, Option.getD_some]

open Classical in
theorem init_inv (l : List (Option Addr × Nat × Nat)) (progs : List (List Cd)) (ws : List Int) (most : Int) (sa : Option Addr) (sc : Nat) (sl : List Int) {w w1 w2 w3 : World} {sw wb wc : Nat} {Ws : List Nat} (h1 : w.heap.size < sw) (ho : Old w w1) (h2 : sw < w1.heap.size) (hws : WsIs sw ws.length (fun j => ws.getD j 0) w1)
    (M : Made sw ws.length l w1 w2 (some ⟨wb, 0, none⟩) wc l.length Ws) (L : Laid w2 w3 67 l.length l.length (thF fun i => Ws.getD i 0)) (hpl : ∀ (i : Nat) (p : Option Addr × Nat × Nat) (c : List Cd), l[i]? = some p → progs[i]? = some c → p.2.1 = c.length ∧ CodesAt p.1 c w ∧ c.length < 4611686018427387904 ∧ ∀ b, p.1 = some ⟨b, 0, none⟩ → b < w.heap.size)
    (hlen : progs.length = l.length) (hsc : IntsAt sa sl w) (hsb : ∀ s, sa = some ⟨s, 0, none⟩ → s < w.heap.size) (ro : Nat → Option Obj) (hro : ∀ b ob, ro b = some ob → (b ≤ w.heap.size ∨ b = wb) ∧ w3.heap[b]? = some ob) (g0 sb scap : Nat) (B : Nat) (sts : List (Nat × Nat × Nat)) :
    invP (pgP l progs Ws sw ws.length ro) (stile ((givenP l Ws w2.heap.size most sa sc sl).at g0) B sb scap sts) 0 (fun _ => none) (px0 ws) (fun _ => []) w3 := by
  have hW : ∀ i, i < l.length → ∃ W, Ws[i]? = some W ∧ Ws.getD i 0 = W ∧ w1.heap.size ≤ W ∧ W < w2.heap.size ∧ ∀ p, l[i]? = some p → w2.heap[W]? = some (.cells (wkCells sw ws.length p.1 p.2.1 p.2.2) 156) := fun i hi => by
    have hil : i < Ws.length := by have := M.len; omega
    obtain ⟨W, hx⟩ : ∃ W, Ws[i]? = some W := ⟨_, List.getElem?_eq_getElem hil⟩
    have hm := M.lo W (List.mem_of_getElem? hx)
    exact ⟨W, hx, getD_of hx, hm.1, hm.2, fun p hp => M.at_ i W p hx hp⟩
  have hwb : w1.heap.size ≤ wb ∧ wb < w2.heap.size := M.row.lt wb rfl
  have hwbW : ∀ i, i < l.length → wb ≠ Ws.getD i 0 := fun i hi e => by
    obtain ⟨W, e1, e2, _, _, h⟩ := hW i hi
    have hc := h _ (List.getElem?_eq_getElem hi)
    rcases M.row.2 with ⟨hv, _⟩ | ⟨gg, cc, cur, hv, _, hh, _⟩
    · cases hv
    · cases hv
      rw [e, e2, hc] at hh
      cases hh
  have hinj : ∀ i j, i < l.length → j < l.length → Ws.getD i 0 = Ws.getD j 0 → i = j := fun i j hi hj e => by
    obtain ⟨W, e1, e2, _⟩ := hW i hi
    obtain ⟨W', e1', e2', _⟩ := hW j hj
    rw [e2, e2'] at e
    subst e
    obtain ⟨a1, a2⟩ := List.getElem?_eq_some_iff.1 e1
    obtain ⟨b1, b2⟩ := List.getElem?_eq_some_iff.1 e1'
    exact (List.getElem_inj M.nodup).1 (a2.trans b2.symm)
  let κ : Nat → Option CR := fun b => if h : ∃ i, i < l.length ∧ b = Ws.getD i 0 then some (.wk h.choose) else if b = sw then some .ws else if b ≤ w.heap.size ∨ b = wb ∨ b = w2.heap.size then some .ro else none
  have kW : ∀ i, i < l.length → κ (Ws.getD i 0) = some (.wk i) := fun i hi => by
    have h : ∃ j, j < l.length ∧ Ws.getD i 0 = Ws.getD j 0 := ⟨i, hi, rfl⟩
    show (if h : ∃ j, j < l.length ∧ Ws.getD i 0 = Ws.getD j 0 then some (CR.wk h.choose) else _) = _
    rw [dif_pos h, ← hinj i _ hi h.choose_spec.1 h.choose_spec.2]
  have kn : ∀ b, (b < w1.heap.size ∨ b = wb ∨ b = w2.heap.size) → ¬ ∃ i, i < l.length ∧ b = Ws.getD i 0 := fun b hb ⟨i, hi, e⟩ => by
    obtain ⟨W, e1, e2, h3, h4, _⟩ := hW i hi
    rcases hb with hb | hb | hb
    · omega
    · exact hwbW i hi (hb ▸ e)
    · omega
  have kS : κ sw = some .ws := by
    show (if h : ∃ i, i < l.length ∧ sw = Ws.getD i 0 then some (CR.wk h.choose) else if sw = sw then some .ws else _) = _
    rw [dif_neg (kn sw (.inl h2)), if_pos rfl]
  have hs12 : w1.heap.size ≤ w2.heap.size := M.old.size
  have kR : ∀ b, (b ≤ w.heap.size ∨ b = wb ∨ b = w2.heap.size) → κ b = some .ro := fun b hb => by
    show (if h : ∃ i, i < l.length ∧ b = Ws.getD i 0 then some (CR.wk h.choose) else if b = sw then some .ws else if b ≤ w.heap.size ∨ b = wb ∨ b = w2.heap.size then some .ro else none) = _
    rw [dif_neg (kn b (by rcases hb with h | h | h; exact .inl (by omega); exact .inr (.inl h); exact .inr (.inr h))), if_neg (by omega), if_pos hb]
  have old3 : ∀ b, b < w.heap.size → w3.heap[b]? = w.heap[b]? := fun b hb => (L.old.same b (by have := ho.size; omega)).trans ((M.old.same b (by have := ho.size; omega)).trans (ho.same b hb))
  have hcell : ∀ i, i < l.length → ∃ p c, l[i]? = some p ∧ progs[i]? = some c := fun i hi => ⟨_, _, List.getElem?_eq_getElem hi, List.getElem?_eq_getElem (by omega)⟩
  refine ⟨κ, fun _ => none, fun _ => 0, fun _ => 0, fun _ => 0, fun _ _ => undef, ⟨fun b r h => ?_, rfl, fun i hi => ?_, ?_, kW, kS, fun i hi b h => by simp [Value.ownBlock, px0, th0] at h, fun i hi b e => ?_, fun i hi => ?_, kR _ (.inr (.inr rfl)), fun i hi => ?_, fun s e => kR s (.inl (Nat.le_of_lt (hsb s e))), fun j z hz => ?_, fun i hi => rfl, fun i hi => Nat.zero_le _, fun i hi => ?_, fun i hi => absurd hi (Nat.not_lt_zero _), fun _ _ _ => rfl, Nat.zero_le _, fun b ob e => ?_⟩⟩
  · refine ⟨rfl, ?_⟩
    have hl3 := L.lt
    have h : (if h : ∃ i, i < l.length ∧ b = Ws.getD i 0 then some (CR.wk h.choose) else if b = sw then some .ws else if b ≤ w.heap.size ∨ b = wb ∨ b = w2.heap.size then some .ro else none) = some r := h
    by_cases c1 : ∃ i, i < l.length ∧ b = Ws.getD i 0
    · obtain ⟨i, hi, e⟩ := c1
      obtain ⟨W, e1, e2, h3, h4, _⟩ := hW i hi
      omega
    · rw [dif_neg c1] at h
      by_cases c2 : b = sw
      · omega
      · rw [if_neg c2] at h
        by_cases c3 : b ≤ w.heap.size ∨ b = wb ∨ b = w2.heap.size
        · rcases c3 with c | c | c <;> omega
        · rw [if_neg c3] at h; cases h
  · obtain ⟨p, c, e1, e2⟩ := hcell i hi
    obtain ⟨W, f1, f2, f3, f4, f5⟩ := hW i hi
    have h5 := f5 p e1
    obtain ⟨q1, q2, q3, q4⟩ := hpl i p c e1 e2
    refine ⟨?_, World.ownsRow_nil .., by simp [Value.ownBlock, px0, th0]⟩
    show w3.heap[Ws.getD i 0]? = _
    rw [f2, L.old.same W f4, h5]
    simp only [pgP, PG.sv, PG.cv, px0, th0, wkArr, wkCells, getD_of e1, getD_of e2, q1, List.length_nil]
  · obtain ⟨arr, ha, hb⟩ := hws
    exact ⟨arr, (L.old.same sw (by omega)).trans ((M.old.same sw h2).trans ha), hb⟩
  · obtain ⟨p, c, e1, e2⟩ := hcell i hi
    have e : (l.getD i (none, 0, 0)).1 = some ⟨b, 0, none⟩ := e
    rw [getD_of e1] at e
    exact kR b (.inl (Nat.le_of_lt ((hpl i p c e1 e2).2.2.2 b e)))
  · obtain ⟨p, c, e1, e2⟩ := hcell i hi
    obtain ⟨q1, q2, q3, q4⟩ := hpl i p c e1 e2
    show CodesAt (l.getD i (none, 0, 0)).1 (progs.getD i []) w3
    rw [getD_of e1, getD_of e2]
    exact q2.same fun cb e => old3 cb (q4 cb e)
  · obtain ⟨arr, ha, _, hb⟩ := L.row
    exact (cell_of ha i).trans (hb i hi)
  · obtain ⟨s, e, hc⟩ := hsc j z hz
    exact ⟨s, e, (World.cell?_of_block (a := ⟨s, j, none⟩) (old3 s (hsb s e))).trans hc⟩
  · obtain ⟨p, c, e1, e2⟩ := hcell i hi
    show (progs.getD i []).length < _
    rw [getD_of e2]
    exact (hpl i p c e1 e2).2.2.1
  · obtain ⟨h, hh⟩ := hro b ob e
    exact ⟨kR b (by rcases h with h | h; exact .inl h; exact .inr (.inl h)), hh⟩
end Go.Proofs.Ytgiiicdpbdfemaa
end

/- Package turn's Play: its contract. -/
section
namespace Go.Proofs.Ytgiiicdpbdfemaa
open Go.Conc Go.RowKit Go.Relay
open Go.ConcN (upd upd_ne upd_same)

/-- What Play has come to. -/
structure Played (l : List (Option Addr × Nat × Nat)) (progs : List (List Cd)) (ws : List Int) (most : Int) (sl : List Int) (w : World) (cells : Array Value) (w' : World) : Prop where
  all : ∃ (S : Stile) (g : PG) (x : PX) (ord : List Nat) (oa : Option Addr) (oc a s : Nat) (tas : Nat → Option Addr) (tcs : Nat → Nat),
    S.n = l.length ∧ S.most = min (max most 0) 1048576 ∧ g.n = l.length ∧ g.nw = ws.length ∧ (∀ i, g.progs i = progs.getD i []) ∧
    (x, ord) = followX (crewP g S) (bornAll (crewP g S) l.length 0 (px0 ws), []) sl ∧
    cells = #[.slice (some ⟨a, 0, none⟩) l.length l.length, .slice oa ord.length oc, .slice (some ⟨s, 0, none⟩) ws.length ws.length, .bool (decide (0 < goingX (crewP g S) x))] ∧
    w'.ownsRow 0 3 1 (.slice oa ord.length oc) ord.length (ord.map fun i => .int .i64 (i : Nat)) ∧
    (∀ j, j < ws.length → w'.cell? ⟨s, j, none⟩ = some (.int .i64 (x.words j))) ∧
    (∀ i, i < l.length → w'.cell? ⟨a, i, none⟩ = some (.slice (tas i) (x.th i).told.length (tcs i)) ∧ w'.ownsRow 0 38 3 (.slice (tas i) (x.th i).told.length (tcs i)) (x.th i).told.length (ansCells (x.th i).told))
  old : Old w w'

theorem setRow_other (w : World) (g k : Nat) (cs : Array Value) (h : k ≠ g) : (w.setRow g cs).heap[k]? = w.heap[k]? := by
  simp only [World.setRow]
  rw [Array.getElem?_modify, if_neg (Ne.symm h)]
theorem setRow_self (w : World) (g : Nat) (cs old : Array Value) {t : TypeId} (h : w.heap[g]? = some (.cells old t (0, 0))) : (w.setRow g cs).heap[g]? = some (.cells cs t (0, 0)) := by
  simp only [World.setRow]
  rw [Array.getElem?_modify, if_pos rfl, h]
  rfl
theorem row_zero {w : World} {base : Nat} {e : TypeId} {size : Nat} {v : Value} {n : Nat} {xs : List Value} (h : w.ownsRow base e size v n xs) : w.ownsRow 0 e size v n xs := by
  refine ⟨h.1, ?_⟩
  rcases h.2 with z | ⟨g, cap, cur, h1, _, h3⟩
  · exact .inl z
  · exact .inr ⟨g, cap, cur, h1, Nat.zero_le _, h3⟩
end Go.Proofs.Ytgiiicdpbdfemaa
end

/- Package turn's Play: its contract, proved. -/
section
namespace Go.Proofs.Ytgiiicdpbdfemaa
open Go.Conc Go.RowKit Go.Relay
open Go.ConcN (upd upd_ne upd_same)

open Classical in
theorem play_run (wa : Option Addr) (cap fb fc np : Nat) (sa : Option Addr) (sc : Nat) (most : Int) (ws : List Int) (l : List (Option Addr × Nat × Nat)) (progs : List (List Cd)) (sl : List Int) (w : World) (hws : ws.length ≤ 1048576) (hsl : sl.length ≤ 1048576) (hl1 : 1 ≤ l.length) (hl64 : l.length ≤ 64) (hw : IntsAt wa ws w) (hsc : IntsAt sa sl w) (hsb : ∀ s, sa = some ⟨s, 0, none⟩ → s < w.heap.size)
    (hp : ∀ w', Old w w' → CallV Try.prog true (fun _ => none) 70 #[.slice (some ⟨fb, 0, none⟩) np fc] w' (.slice (some ⟨fb, 0, none⟩) l.length fc) w') (hl : ∀ j p, l[j]? = some p → w.cell? ⟨fb, j, none⟩ = some (.slice p.1 p.2.1 p.2.2)) (hlen : progs.length = l.length)
    (hpl : ∀ (i : Nat) (p : Option Addr × Nat × Nat) (c : List Cd), l[i]? = some p → progs[i]? = some c → p.2.1 = c.length ∧ CodesAt p.1 c w ∧ c.length < 4611686018427387904 ∧ ∀ b, p.1 = some ⟨b, 0, none⟩ → b < w.heap.size) (c : Frame) (cs : List Frame) :
    Runs (fun g w' => ∃ cells, Played l progs ws most sl w cells w' ∧ g = G (c.finish (.agg cells)) cs) (G (Frame.enter Try.prog 14 #[.slice wa ws.length cap, .slice (some ⟨fb, 0, none⟩) np fc, .slice sa sl.length sc, .int .i64 most] .normal) (c :: cs)) w := by
  have hA : ∀ b, Apart (fun _ => none) b := fun b => ⟨fun _ _ _ _ h => (by cases h), fun _ _ h => (by cases h)⟩
  refine Runs.walk (Stop := fun g w3 => ∃ sw w1 wb wc Ws w2 u, w.heap.size < sw ∧ Old w w1 ∧ sw < w1.heap.size ∧ WsIs sw ws.length (fun j => ws.getD j 0) w1 ∧ Made sw ws.length l w1 w2 (some ⟨wb, 0, none⟩) wc l.length Ws ∧ Laid w2 w3 67 l.length l.length (thF fun i => Ws.getD i 0) ∧
      w1.heap[w.heap.size]? = some (.cells #[.slice none 0 0, .slice none 0 0, .slice none 0 0, .bool false] 28) ∧
      g = G (Frame.enter Try.prog 23 #[.slice (some ⟨w2.heap.size, 0, none⟩) l.length l.length, .slice sa sl.length sc, .int .i64 most] .normal) (fr14 (.slice wa ws.length cap) (.slice (some ⟨fb, 0, none⟩) np fc) (.slice sa sl.length sc) most w.heap.size sw ws.length wb wc w2.heap.size l.length u :: c :: cs))
    (play_top wa cap fb fc _ _ most ws l hws hl64 (c :: cs) w hw hp hl (fun b _ => hA b) (fun sw w1 wb wc Ws w2 u w3 h1 h2 h3 h4 h5 h6 h7 => .stop fun d => ⟨sw, w1, wb, wc, Ws, w2, u, h1, h2, h3, h4, h5, ⟨⟨h6.old.size, h6.old.same⟩, h6.lt, h6.row⟩, h7, rfl⟩) hl1) ?_
  rintro _ w3 ⟨sw, w1, wb, wc, Ws, w2, u, h1, h2, h3, h4, M, L, hT, rfl⟩
  have h12 := h2.size
  have h23 := M.old.size
  have hwb := M.row.lt wb rfl
  let ro : Nat → Option Obj := fun b => if b ≤ w.heap.size ∨ b = wb then w3.heap[b]? else none
  have hro : ∀ b ob, ro b = some ob → (b ≤ w.heap.size ∨ b = wb) ∧ w3.heap[b]? = some ob := fun b ob h => by
    have h : (if b ≤ w.heap.size ∨ b = wb then w3.heap[b]? else none) = some ob := h
    by_cases hb : b ≤ w.heap.size ∨ b = wb
    · rw [if_pos hb] at h; exact ⟨hb, h⟩
    · rw [if_neg hb] at h; cases h
  have hkeep : ∀ b, b ≤ w.heap.size ∨ b = wb → ro b = w3.heap[b]? := fun b hb => if_pos hb
  refine Runs.then (over_run (fun S => crewP (pgP l progs Ws sw ws.length ro) S) (px0 ws) (givenP l Ws w2.heap.size most sa sc sl) (.slice (some ⟨w2.heap.size, 0, none⟩) l.length l.length) w3 hl1 hl64 (Nat.le_trans hsl (by decide)) (fun _ => rfl) (by
      have := first_some (main := true) (V := fun _ => none) w2.heap.size l.length l.length w3 (Nat.le_refl _)
      rw [Nat.min_eq_left hl64] at this
      exact this) (fun g0 sb scap sts => ⟨_, init_inv l progs ws most sa sc sl h1 h2 h3 h4 M L hpl hlen hsc hsb ro hro g0 sb scap w3.heap.size sts⟩) _ (c :: cs)) ?_
  rintro _ w4 ⟨_, ⟨g0, sb, scap, sts, x, ord, oa, oc, q, k, own, csx, hx, hov, rfl, hinv, hrow, _, _, _, hsz, _⟩, rfl⟩
  obtain ⟨κ, tas, tcs, Xs, os, us, P⟩ := hinv
  have hfix : ∀ b, b ≤ w.heap.size ∨ b = wb → b < w3.heap.size → w4.heap[b]? = w3.heap[b]? := fun b hb hlt => by
    have h := P.rr b (w3.heap[b]) (by rw [show (pgP l progs Ws sw ws.length ro).ro = ro from rfl, hkeep b hb]; exact Array.getElem?_eq_getElem hlt)
    rw [h.2]; exact (Array.getElem?_eq_getElem hlt).symm
  have h3s : w2.heap.size ≤ w3.heap.size := L.old.size
  have hlt3 : ∀ b, b < w2.heap.size → b < w3.heap.size := fun b hb => Nat.lt_of_lt_of_le hb h3s
  have hT4 : w4.heap[w.heap.size]? = some (.cells #[.slice none 0 0, .slice none 0 0, .slice none 0 0, .bool false] 28) := (hfix _ (.inl (Nat.le_refl _)) (by omega)).trans ((L.old.same _ (by omega)).trans ((M.old.same _ (by omega)).trans hT))
  have hold4 : ∀ b, b < w.heap.size → w4.heap[b]? = w.heap[b]? := fun b hb => (hfix b (.inl (by omega)) (by omega)).trans ((L.old.same b (by omega)).trans ((M.old.same b (by omega)).trans (h2.same b hb)))
  have hTlt : w.heap.size < w4.heap.size := (Array.getElem?_eq_some_iff.1 hT4).1
  have hTro : κ w.heap.size = some .ro := (P.rr w.heap.size _ (by rw [show (pgP l progs Ws sw ws.length ro).ro = ro from rfl, hkeep _ (.inl (Nat.le_refl _)), ← hfix _ (.inl (Nat.le_refl _)) (by omega)]; exact hT4)).1
  have hwb4 : ∀ j, j < l.length → w4.cell? ⟨wb, j, none⟩ = some (.pointer (some ⟨Ws.getD j 0, 0, none⟩)) := fun j hj => by
    rcases M.row with ⟨_, ⟨_, e⟩ | ⟨gg, cc, cur, e, _, hh, hcap, _, hszc, ht⟩⟩
    · omega
    · cases e
      have hjw : j < Ws.length := by have := M.len; omega
      have e1 : (cur.toList.take (l.length * 1))[j]? = cur[j]? := by rw [List.getElem?_take, if_pos (by omega)]; simp
      rw [cell_of ((hfix wb (.inr rfl) (hlt3 _ hwb.2)).trans ((L.old.same wb hwb.2).trans hh)) j, ← e1, ht, List.getElem?_map, List.getElem?_eq_getElem hjw]
      simp only [Option.map_some]
      rw [List.getD_eq_getElem?_getD, List.getElem?_eq_getElem hjw, Option.getD_some]
  refine Runs.walk (Stop := fun g w' => ∃ cells, Played l progs ws most sl w cells w' ∧ g = G (c.finish (.agg cells)) cs) (play_back _ _ _ most w.heap.size sw ws.length wb wc w2.heap.size l.length u oa ord.length oc w4.heap.size _ _ (fun w5 => Laid w4 w5 36 l.length l.length (fun i => .slice (tas i) (x.th i).told.length (tcs i)))
    (fun s w6 => ∃ w5, Laid w4 w5 36 l.length l.length (fun i => .slice (tas i) (x.th i).told.length (tcs i)) ∧ s = w5.heap.size ∧ Laid w5 w6 2 ws.length ws.length (fun i => .int .i64 (x.words i))) (c :: cs) w4 ?_ ?_ ?_ (hA _) ?_) (fun g w h => Runs.now h)
  · exact told_w wb wc l.length (fun i => Ws.getD i 0) (fun i => (tas i, (x.th i).told.length, tcs i)) (by omega) w4 hwb4 (fun j hj => (P.wk j hj).told) (hA _)
  · intro w5 L5 fr cs'
    obtain ⟨arr, ha, hb⟩ := P.ws
    have hws5 : WsIs sw ws.length x.words w5 := ⟨arr, (L5.old.same sw (Array.getElem?_eq_some_iff.1 ha).1).trans ha, hb⟩
    refine ((values_w (main := true) (V := fun _ => none) sw ws.length x.words hws w5 hws5 (hA _)) fr cs').mono ?_
    rintro g w' ⟨v, ⟨hv, h6⟩, hg⟩
    exact ⟨v, ⟨w5.heap.size, hv, w5, L5, rfl, h6⟩, hg⟩
  · rintro s w6 ⟨w5, L5, rfl, L6⟩
    exact (L6.old.same _ (by have := L5.old.size; omega)).trans ((L5.old.same _ hTlt).trans hT4)
  · rintro fr s w6 ⟨w5, L5, rfl, L6⟩ hf hm hn hd h8
    have hT6 := (L6.old.same _ (by have := L5.old.size; omega)).trans ((L5.old.same _ hTlt).trans hT4)
    have hs5 := L5.old.size
    have hs6 := L6.old.size
    have h6to : ∀ b, b < w4.heap.size → b ≠ w.heap.size → (w6.setRow w.heap.size #[.slice (some ⟨w4.heap.size, 0, none⟩) l.length l.length, .slice oa ord.length oc, .slice (some ⟨w5.heap.size, 0, none⟩) ws.length ws.length, .bool (decide (0 < goingX (crewP (pgP l progs Ws sw ws.length ro) (stile ((givenP l Ws w2.heap.size most sa sc sl).at g0) w3.heap.size sb scap sts)) x))]).heap[b]? = w4.heap[b]? := fun b hb hne =>
      (setRow_other _ _ _ _ hne).trans ((L6.old.same b (by omega)).trans (L5.old.same b hb))
    refine (play_leave hf hm hn hd h8 (setRow_self _ _ _ _ hT6) rfl).mono ?_
    rintro g w7 ⟨rfl, d, rfl⟩
    refine ⟨_, ⟨⟨_, pgP l progs Ws sw ws.length ro, x, ord, oa, oc, w4.heap.size, w5.heap.size, tas, tcs, rfl, rfl, rfl, rfl, fun _ => rfl, hx, rfl, ?_, fun j hj => ?_, fun i hi => ⟨?_, ?_⟩⟩, ?_, fun b hb => ?_⟩, rfl⟩
    · exact row_same (row_zero hrow) fun g hg => h6to g (hrow.lt g hg).2 (by have := (hrow.lt g hg).1; omega)
    · obtain ⟨arr, ha, _, hb⟩ := L6.row
      exact (cell_of ((setRow_other _ _ _ _ (by omega)).trans ha) j).trans (hb j hj)
    · obtain ⟨arr, ha, _, hb⟩ := L5.row
      exact (cell_of ((setRow_other _ _ _ _ (by omega)).trans ((L6.old.same _ L5.lt).trans ha)) i).trans (hb i hi)
    · exact row_same (P.wk i hi).row fun g hg => h6to g ((P.wk i hi).row.lt g hg).2 (P.two (P.rT i hi g hg) hTro (by simp))
    · show w.heap.size ≤ (w6.setRow _ _).heap.size
      simp [World.setRow]
      omega
    · exact (h6to b (by omega) (by omega)).trans (hold4 b hb)
end Go.Proofs.Ytgiiicdpbdfemaa
end

/- The statement's side: a run by a schedule as a function of what is handed in; the document's example, reckoned. -/
section
namespace Go.Proofs.Ytgiiicdpbdfemaa
open Go.Conc Go.RowKit Go.Relay
open Go.ConcN (upd upd_ne upd_same)

/-- Threads, told apart from all memory: how many, the most, how each begins and goes on, who has ended. -/
structure Abs (X : Type) where
  n : Nat
  most : Int
  born : X → Nat → X
  next : X → Nat → X
  out : X → Nat → Option Bool

section
variable {X : Type}
def goingA (C : Abs X) (x : X) : Nat := (List.range C.n).countP (fun i => (C.out x i).isNone)
def overA (C : Abs X) (st : X × List Nat) : Bool := decide (goingA C st.1 = 0) || decide (C.most ≤ st.2.length)
def stepA (C : Abs X) (st : X × List Nat) (z : Int) : X × List Nat :=
  if overA C st = false ∧ 0 ≤ z ∧ z < C.n ∧ C.out st.1 z.toNat = none then (C.next st.1 z.toNat, st.2 ++ [z.toNat]) else st
def roundA (C : Abs X) (st : X × List Nat) : X × List Nat := (List.range C.n).foldl (fun st i => stepA C st (i : Nat)) st
def restA (C : Abs X) : Nat → X × List Nat → X × List Nat
  | 0, st => st
  | f + 1, st => if overA C st then st else restA C f (roundA C st)
def followA (C : Abs X) (st : X × List Nat) (l : List Int) : X × List Nat := restA C C.most.toNat (l.foldl (stepA C) st)
def bornsA (C : Abs X) : Nat → Nat → X → X
  | 0, _, x => x
  | n + 1, k, x => bornsA C n (k + 1) (C.born x k)
def runA (C : Abs X) (x0 : X) (l : List Int) : X × List Nat := followA C (bornsA C C.n 0 x0, []) l

def absOf {S : Stile} (C : Crew S X) : Abs X := ⟨S.n, S.most, C.born, C.next, C.out⟩
theorem rest_abs {S : Stile} (C : Crew S X) : ∀ (f : Nat) (st : X × List Nat), restX C f st = restA (absOf C) f st
  | 0, _ => rfl
  | f + 1, st => by
    unfold restX restA
    rw [rest_abs C f]
    rfl
theorem born_abs {S : Stile} (C : Crew S X) : ∀ (n k : Nat) (x : X), bornAll C n k x = bornsA (absOf C) n k x
  | 0, _, _ => rfl
  | n + 1, k, x => by
    unfold bornAll bornsA
    exact born_abs C n (k + 1) _
theorem follow_abs {S : Stile} (C : Crew S X) (st : X × List Nat) (l : List Int) : followX C st l = followA (absOf C) st l := by
  unfold followX followA
  rw [rest_abs]
  rfl
end

/-- Programs by a schedule. -/
def absP (n : Nat) (most : Int) (nw : Nat) (progs : Nat → List Cd) : Abs PX :=
  ⟨n, most, bornP ⟨0, nw, 0, 0, fun _ => 0, fun _ => none, fun _ => 0, progs, fun _ => none⟩, nextP ⟨0, nw, 0, 0, fun _ => 0, fun _ => none, fun _ => 0, progs, fun _ => none⟩, PX.out⟩
theorem abs_crewP (g : PG) (S : Stile) : absOf (crewP g S) = absP S.n S.most g.nw g.progs := rfl

/-- What Play's run comes to. -/
def playA (progs : List (List Cd)) (ws : List Int) (most : Int) (sl : List Int) : PX × List Nat := runA (absP progs.length (min (max most 0) 1048576) ws.length (fun i => progs.getD i [])) (px0 ws) sl
def stuckA (progs : List (List Cd)) (x : PX) : Bool := decide (0 < (List.range progs.length).countP (fun i => (x.out i).isNone))

theorem Played.abs {l : List (Option Addr × Nat × Nat)} {progs : List (List Cd)} {ws : List Int} {most : Int} {sl : List Int} {w w' : World} {cells : Array Value} (H : Played l progs ws most sl w cells w') (hl : progs.length = l.length) :
    ∃ (oa : Option Addr) (oc a s : Nat) (tas : Nat → Option Addr) (tcs : Nat → Nat),
    cells = #[.slice (some ⟨a, 0, none⟩) progs.length progs.length, .slice oa (playA progs ws most sl).2.length oc, .slice (some ⟨s, 0, none⟩) ws.length ws.length, .bool (stuckA progs (playA progs ws most sl).1)] ∧
    w'.ownsRow 0 3 1 (.slice oa (playA progs ws most sl).2.length oc) (playA progs ws most sl).2.length ((playA progs ws most sl).2.map fun i => .int .i64 (i : Nat)) ∧
    (∀ j, j < ws.length → w'.cell? ⟨s, j, none⟩ = some (.int .i64 ((playA progs ws most sl).1.words j))) ∧
    (∀ i, i < progs.length → w'.cell? ⟨a, i, none⟩ = some (.slice (tas i) ((playA progs ws most sl).1.th i).told.length (tcs i)) ∧ w'.ownsRow 0 38 3 (.slice (tas i) ((playA progs ws most sl).1.th i).told.length (tcs i)) ((playA progs ws most sl).1.th i).told.length (ansCells ((playA progs ws most sl).1.th i).told)) := by
  obtain ⟨S, g, x, ord, oa, oc, a, s, tas, tcs, h1, h2, h3, h4, h5, h6, h7, h8, h9, h10⟩ := H.all
  have he : absOf (crewP g S) = absP progs.length (min (max most 0) 1048576) ws.length (fun i => progs.getD i []) := by
    rw [abs_crewP, h1, h2, h4, hl]
    have : g.progs = fun i => progs.getD i [] := funext h5
    rw [this]
  have hp : (x, ord) = playA progs ws most sl := by
    rw [h6, follow_abs, born_abs, he]
    unfold playA runA
    rw [← hl]
    rfl
  have hg : goingX (crewP g S) x = (List.range progs.length).countP (fun i => (x.out i).isNone) := by
    unfold goingX
    rw [h1, hl]
    rfl
  rw [← hp]
  rw [← hl] at h7 h10
  refine ⟨oa, oc, a, s, tas, tcs, ?_, h8, h9, h10⟩
  rw [h7, hg]
  rfl

/-- The document's example. -/
def adderL : List Cd := [⟨7, 0, 0, 0, 0⟩, ⟨1, 1, 0, 0, 1⟩, ⟨3, 0, 0, 1, 0⟩, ⟨8, 0, 0, 0, 0⟩, ⟨6, 0, 0, 0, 0⟩]
theorem awake_a : (playA [adderL, adderL] [0] 100 [0, 1, 0, 1]).1.words 0 = 1 ∧ stuckA [adderL, adderL] (playA [adderL, adderL] [0] 100 [0, 1, 0, 1]).1 = false ∧ (playA [adderL, adderL] [0] 100 [0, 1, 0, 1]).2.length = 4 := by decide +kernel
theorem awake_b : (playA [adderL, adderL] [0] 100 [0, 0, 1, 1]).1.words 0 = 2 := by decide +kernel
theorem awake_c : stuckA [adderL, adderL] (playA [adderL, adderL] [0] 3 []).1 = true ∧ (playA [adderL, adderL] [0] 3 []).2.length = 3 := by decide +kernel
end Go.Proofs.Ytgiiicdpbdfemaa
end

/- The statement's side: Play of programs that codes has made. -/
section
namespace Go.Proofs.Ytgiiicdpbdfemaa
open Go.Conc Go.RowKit Go.Relay
open Go.ConcN (upd upd_ne upd_same)

theorem row_cell {w : World} {base : Nat} {e : TypeId} {size : Nat} {v : Value} {n : Nat} {xs : List Value} (h : w.ownsRow base e size v n xs) {j : Nat} {x : Value} (hx : xs[j]? = some x) : ∃ g cap, v = .slice (some ⟨g, 0, none⟩) n cap ∧ n ≤ cap ∧ base ≤ g ∧ g < w.heap.size ∧ w.cell? ⟨g, j, none⟩ = some x := by
  obtain ⟨hl, h⟩ := h
  have hj := (List.getElem?_eq_some_iff.1 hx).1
  rcases h with ⟨_, rfl⟩ | ⟨g, cap, cur, rfl, h1, h2, h3, _, h5, h6⟩
  · omega
  · refine ⟨g, cap, rfl, h3, h1, (Array.getElem?_eq_some_iff.1 h2).1, (cell_of h2 j).trans ?_⟩
    rw [← h6, List.getElem?_take, if_pos (by omega)] at hx
    simpa using hx
theorem row_codes {w : World} {base : Nat} {p : Sl} {c : List Cd} (h : w.ownsRow base 99 5 (slc p) c.length (flatC c)) : CodesAt p.1 c w := by
  intro j d hd
  have hget := fun m (hm : m < 5) => flat_get c j m d hd hm
  obtain ⟨g, cap, e, _, _, _, _⟩ := row_cell h (hget 0 (by omega))
  have e1 : p.1 = some ⟨g, 0, none⟩ := by
    unfold slc at e
    injection e
  refine ⟨g, e1, fun m v hv => ?_⟩
  have hm : m < 5 := (List.getElem?_eq_some_iff.1 hv).1
  obtain ⟨g', cap', e', _, _, _, hc⟩ := row_cell h ((hget m hm).trans hv)
  rw [e] at e'
  injection e' with e' _ _
  injection e' with e'
  injection e' with e'
  subst e'
  exact hc

/-- What a run has left behind. -/
def PlayOut (progs : List (List Cd)) (ws : List Int) (most : Int) (sl : List Int) (cells : Array Value) (w' : World) : Prop :=
  ∃ (oa : Option Addr) (oc a s : Nat) (tas : Nat → Option Addr) (tcs : Nat → Nat),
    cells = #[.slice (some ⟨a, 0, none⟩) progs.length progs.length, .slice oa (playA progs ws most sl).2.length oc, .slice (some ⟨s, 0, none⟩) ws.length ws.length, .bool (stuckA progs (playA progs ws most sl).1)] ∧
    w'.ownsRow 0 3 1 (.slice oa (playA progs ws most sl).2.length oc) (playA progs ws most sl).2.length ((playA progs ws most sl).2.map fun i => .int .i64 (i : Nat)) ∧
    (∀ j, j < ws.length → w'.cell? ⟨s, j, none⟩ = some (.int .i64 ((playA progs ws most sl).1.words j))) ∧
    (∀ i, i < progs.length → w'.cell? ⟨a, i, none⟩ = some (.slice (tas i) ((playA progs ws most sl).1.th i).told.length (tcs i)) ∧ w'.ownsRow 0 38 3 (.slice (tas i) ((playA progs ws most sl).1.th i).told.length (tcs i)) ((playA progs ws most sl).1.th i).told.length (ansCells ((playA progs ws most sl).1.th i).told))

theorem row_old {w w' : World} {base : Nat} {e : TypeId} {size : Nat} {v : Value} {n : Nat} {xs : List Value} (h : w.ownsRow base e size v n xs) (O : Old w w') : w'.ownsRow base e size v n xs := row_same h fun g hg => O.same g (row_at h hg).2.1

/-- Play of one or more programs. -/
theorem play_coded {w0 wc : World} {Ps : List (List Cd)} {fa : Option Addr} {fc : Nat} {ls : List Sl} (M : Coded w0 wc Ps fa fc Ps.length ls) (hn : 1 ≤ Ps.length) (hm : ∀ c ∈ Ps, c.length ≤ 1099511627776) (wa : Option Addr) (cap : Nat) (sa : Option Addr) (sc : Nat) (most : Int) (ws sl : List Int) (w : World) (O : Old wc w) (hws : ws.length ≤ 1048576) (hsl : sl.length ≤ 1048576)
    (hw : IntsAt wa ws w) (hsc : IntsAt sa sl w) (hsb : ∀ s, sa = some ⟨s, 0, none⟩ → s < w.heap.size) (c : Frame) (cs : List Frame) :
    Runs (fun g w' => ∃ cells, PlayOut (Ps.take 64) ws most sl cells w' ∧ Old w w' ∧ g = G (c.finish (.agg cells)) cs) (G (Frame.enter Try.prog 14 #[.slice wa ws.length cap, .slice fa Ps.length fc, .slice sa sl.length sc, .int .i64 most] .normal) (c :: cs)) w := by
  obtain ⟨p0, hp0⟩ : ∃ p0, ls[0]? = some p0 := ⟨_, List.getElem?_eq_getElem (by rw [M.len]; omega)⟩
  obtain ⟨fb, fc', e, hcap, _, hlt, _⟩ := row_cell M.row (x := slc p0) (j := 0) (by rw [List.getElem?_map, hp0]; rfl)
  injection e with e1 _ e3
  subst e1 e3
  have hll : (ls.take 64).length = (Ps.take 64).length := by rw [List.length_take, List.length_take, M.len]
  have hl64 : (ls.take 64).length ≤ 64 := by rw [List.length_take]; omega
  have htk : ∀ {α : Type} (l : List α) (i : Nat) (x : α), (l.take 64)[i]? = some x → l[i]? = some x := fun l i x h => by
    rw [List.getElem?_take] at h
    split at h
    · exact h
    · cases h
  have hmin : min Ps.length 64 = (ls.take 64).length := by rw [List.length_take, M.len, Nat.min_comm]
  refine (play_run wa cap fb fc Ps.length sa sc most ws (ls.take 64) (Ps.take 64) sl w hws hsl (by rw [List.length_take, M.len]; omega) hl64 hw hsc hsb (fun w' _ => ?_) (fun j p hj => ?_) hll.symm (fun i p c' hi hc => ?_) c cs).then ?_
  · have := first70_some (main := true) (V := fun _ => none) fb Ps.length fc w' hcap
    rw [hmin] at this
    exact this
  · obtain ⟨g, cap', e, _, _, _, hc⟩ := row_cell M.row (j := j) (x := slc p) (by rw [List.getElem?_map, htk ls j p hj]; rfl)
    injection e with e _ _
    injection e with e
    injection e with e
    subst e
    exact old_cell O hc
  · have hc2 := htk Ps i c' hc
    obtain ⟨h1, h2⟩ := M.rows i p c' (htk ls i p hi) hc2
    have h2' := row_old h2 O
    refine ⟨h1, row_codes h2', by have := hm c' (List.mem_of_getElem? hc2); omega, fun b hb => ?_⟩
    exact (row_at h2' (g := b) (by unfold slc; rw [hb]; rfl)).2.1
  · rintro g w' ⟨cells, H, rfl⟩
    exact .now ⟨cells, H.abs hll.symm, H.old, rfl⟩
end Go.Proofs.Ytgiiicdpbdfemaa
end

/- The statement's side: awake's last part. -/
section
namespace Go.Proofs.Ytgiiicdpbdfemaa
open Go.Conc Go.RowKit Go.Relay
open Go.ConcN (upd upd_ne upd_same)

theorem apart0 (b : Nat) : Apart (fun _ => none) b := ⟨fun _ _ _ _ h => (by cases h), fun _ _ h => (by cases h)⟩
theorem Runs.go {Post : Goroutine → World → Prop} {g : Goroutine} {w : World} (h : Walk Try.prog true (DR (fun _ => none)) (fun g w => Runs Post g w) g w) : Runs Post g w := Runs.walk h fun _ _ h => h
theorem old_alloc (w : World) (o : Obj) : Old w (w.alloc o) := ⟨by simp, fun _ hb => heap_new_lt w o hb⟩
theorem Old.at {w w' : World} (h : Old w w') (d : Nat) : Old w (w'.at d) := ⟨h.size, h.same⟩
theorem Old.un {w w' : World} (d : Nat) (h : Old (w.at d) w') : Old w w' := ⟨h.size, h.same⟩

theorem Walk.slots {P : Program} {main : Bool} {D : World → World → Array Event → Prop} {Stop : Goroutine → World → Prop} {b : Frame} {A : Array Value} {todo : List Item} {cs : List Frame} {w : World} {F : (Nat → Value) → Goroutine} (h : ∀ u, Walk P main D Stop (F u) w) (e : G (b.at ⟨A, []⟩ todo) cs = F (fun k => A.getD k undef)) : Walk P main D Stop (G (b.at ⟨A, []⟩ todo) cs) w := e ▸ h _

noncomputable def tail13 : Code := match Try.f13.body with | some (.seq _ (.seq _ (.seq _ (.seq _ (.seq _ c))))) => c | _ => .skip
noncomputable def opsA13 : Array Oper := match tail13 with | .seq (.seq (.region _ ops _) _) _ => ops | _ => #[]
noncomputable def no13 : Code := match tail13 with | .seq (.seq _ (.cond _ c _)) _ => c | _ => .skip
noncomputable def opsB13 : Array Oper := match tail13 with | .seq _ (.seq (.region _ ops _) _) => ops | _ => #[]
theorem tail13_is : tail13 = .seq (.seq (.region 5 opsA13 false) (.cond (.tmp 41) no13 .skip)) (.seq (.region 7 opsB13 false) .ret) := by kernel_rfl
theorem sizeA13 : opsA13.size = 22 := by kernel_rfl
theorem sizeB13 : opsB13.size = 34 := by kernel_rfl
noncomputable def hd13 (pv : Value) (TA TB TC : Nat) (u : Nat → Value) : Frame :=
  (base 13).at { tmps := #[.bool false, pv, .pointer (some ⟨TA, 0, none⟩), .pointer (some ⟨TB, 0, none⟩), .pointer (some ⟨TC, 0, none⟩), u 5, u 6, u 7, u 8, u 9, u 10, u 11, u 12, u 13, u 14, u 15, u 16, u 17, u 18, u 19, u 20, u 21, u 22, u 23, u 24, u 25, u 26, u 27, u 28, u 29, u 30, u 31, u 32, u 33, u 34, u 35, u 36, u 37, u 38, u 39, u 40, u 41, u 42, u 43, u 44, u 45, u 46, u 47, u 48, u 49, u 50, u 51, u 52, u 53, u 54, u 55, u 56, u 57, u 58, u 59, u 60, u 61, u 62, u 63, u 64, u 65, u 66, u 67, u 68, u 69, u 70, u 71, u 72, u 73, u 74], defers := [] } [.code tail13]

set_option maxHeartbeats 8000000 in
set_option maxRecDepth 100000 in
theorem awake_tail (pv : Value) (TA TB TC a1 a2 s1 s2 oc1 oc3 : Nat) (oa1 oa3 : Option Addr) (u : Nat → Value) (c : Frame) (cs : List Frame) (w : World)
    (u10 : w.cell? ⟨TA, 0, none⟩ = some (.slice (some ⟨a1, 0, none⟩) 2 2)) (u11 : w.cell? ⟨TA, 1, none⟩ = some (.slice oa1 4 oc1)) (u12 : w.cell? ⟨TA, 2, none⟩ = some (.slice (some ⟨s1, 0, none⟩) 1 1)) (u13 : w.cell? ⟨TA, 3, none⟩ = some (.bool false))
    (u20 : w.cell? ⟨TB, 0, none⟩ = some (.slice (some ⟨a2, 0, none⟩) 2 2)) (u22 : w.cell? ⟨TB, 2, none⟩ = some (.slice (some ⟨s2, 0, none⟩) 1 1))
    (u31 : w.cell? ⟨TC, 1, none⟩ = some (.slice oa3 3 oc3)) (u33 : w.cell? ⟨TC, 3, none⟩ = some (.bool true)) (hs1 : w.cell? ⟨s1, 0, none⟩ = some (.int .i64 1)) (hs2 : w.cell? ⟨s2, 0, none⟩ = some (.int .i64 2)) :
    Walk Try.prog true (DR (fun _ => none)) (fun g w' => g = G (c.finish (.bool true)) cs ∧ ∃ d, w' = w.at d) (G (hd13 pv TA TB TC u) (c :: cs)) w := by
  unfold hd13
  rw [tail13_is]
  refine Walk.ctl rfl (fun w => stepG_seq) ?_
  refine Walk.ctl rfl (fun w => stepG_seq) ?_
  refine Walk.ctl rfl (fun w => stepG_region) ?_
  rw [sizeA13]
  simp only [List.range, List.range.loop]
  repeat (first | (refine Walk.opq (ho_of (by conv => lhs; whnf) (by kernel_rfl)) (by rfl) (by decide) (fun dd e he => ?_) (fun dd K hK => ?_); (· (simp [go_sem, *] at he; try (subst he; exact evR_read _ _))); go_simp; refine hK _ ?_; clear hK K; try walk_nrm) | (refine Walk.ctl rfl (fun w => stepG_unwanted (ho_of (by conv => lhs; whnf) (by kernel_rfl)) (by rfl)) ?_; walk_nrm))
  refine Walk.ctl rfl (fun w => stepG_region_end) ?_
  refine Walk.ctl rfl (fun w => stepG_cond (t := false) rfl) ?_
  simp only [Bool.false_eq_true, if_false]
  refine Walk.ctl rfl (fun w => stepG_skip) ?_
  refine Walk.ctl rfl (fun w => stepG_seq) ?_
  refine Walk.ctl rfl (fun w => stepG_region) ?_
  rw [sizeB13]
  simp only [List.range, List.range.loop]
  repeat (first | (refine Walk.opq (ho_of (by conv => lhs; whnf) (by kernel_rfl)) (by rfl) (by decide) (fun dd e he => ?_) (fun dd K hK => ?_); (· (simp [go_sem, *] at he; try (subst he; exact evR_read _ _))); go_simp; refine hK _ ?_; clear hK K; try walk_nrm) | (refine Walk.ctl rfl (fun w => stepG_unwanted (ho_of (by conv => lhs; whnf) (by kernel_rfl)) (by rfl)) ?_; walk_nrm))
  repeat (first | (refine Walk.c rfl ?_) | (refine Walk.cReg ?_; simp only [List.size_toArray, List.length_cons, List.length_nil, Nat.reduceAdd, Nat.zero_add, List.range, List.range.loop]) | (refine Walk.cRet ?_) | (refine Walk.cEnd ?_) | (refine Walk.opq (ho_of (by conv => lhs; whnf) (by kernel_rfl)) (by rfl) (by decide) (fun dd e he => ?_) (fun dd K hK => ?_); (· (simp [go_sem, *] at he; try (subst he; exact evR_read _ _))); go_simp; refine hK _ ?_; clear hK K; try walk_nrm) | (refine Walk.ctl rfl (fun w => stepG_unwanted (ho_of (by conv => lhs; whnf) (by kernel_rfl)) (by rfl)) ?_; walk_nrm))
  exact (Walk.ret1 (Post := fun v w' => v = .bool true ∧ ∃ d, w' = w.at d) rfl rfl Try.func13 rfl fun d => ⟨rfl, d, rfl⟩).mono fun g w' ⟨v, ⟨hv, hd⟩, hg⟩ => ⟨by rw [hg, hv], hd⟩
end Go.Proofs.Ytgiiicdpbdfemaa
end

/- The statement's side: awake: the document's example, run three times. -/
section
namespace Go.Proofs.Ytgiiicdpbdfemaa
open Go.Conc Go.RowKit Go.Relay
open Go.ConcN (upd upd_ne upd_same)

theorem two_src (w : World) : Src (some ⟨w.heap.size + 2, 0, none⟩) [(some ⟨w.heap.size, 0, none⟩, 5, 5), (some ⟨w.heap.size + 1, 0, none⟩, 5, 5)] [adderL, adderL]
    (((w.alloc (.cells adderCells 96)).alloc (.cells adderCells 96)).alloc (.cells #[.slice (some ⟨w.heap.size, 0, none⟩) 5 5, .slice (some ⟨w.heap.size + 1, 0, none⟩) 5 5] 85)) := by
  have h1 : (w.alloc (.cells adderCells 96)).heap.size = w.heap.size + 1 := by simp
  have h2 : ((w.alloc (.cells adderCells 96)).alloc (.cells adderCells 96)).heap.size = w.heap.size + 2 := by simp
  have b0 : (((w.alloc (.cells adderCells 96)).alloc (.cells adderCells 96)).alloc (.cells #[.slice (some ⟨w.heap.size, 0, none⟩) 5 5, .slice (some ⟨w.heap.size + 1, 0, none⟩) 5 5] 85)).heap[w.heap.size]? = some (.cells adderCells 96) :=
    (heap_new_lt _ _ (by omega)).trans ((heap_new_lt _ _ (by omega)).trans (heap_alloc_new w _))
  have b1 : (((w.alloc (.cells adderCells 96)).alloc (.cells adderCells 96)).alloc (.cells #[.slice (some ⟨w.heap.size, 0, none⟩) 5 5, .slice (some ⟨w.heap.size + 1, 0, none⟩) 5 5] 85)).heap[w.heap.size + 1]? = some (.cells adderCells 96) :=
    (heap_new_lt _ _ (by omega)).trans (by rw [← h1]; exact heap_alloc_new _ _)
  have b2 : (((w.alloc (.cells adderCells 96)).alloc (.cells adderCells 96)).alloc (.cells #[.slice (some ⟨w.heap.size, 0, none⟩) 5 5, .slice (some ⟨w.heap.size + 1, 0, none⟩) 5 5] 85)).heap[w.heap.size + 2]? = some (.cells #[.slice (some ⟨w.heap.size, 0, none⟩) 5 5, .slice (some ⟨w.heap.size + 1, 0, none⟩) 5 5] 85) := by
    rw [← h2]; exact heap_alloc_new _ _
  generalize ((w.alloc (.cells adderCells 96)).alloc (.cells adderCells 96)).alloc (.cells #[.slice (some ⟨w.heap.size, 0, none⟩) 5 5, .slice (some ⟨w.heap.size + 1, 0, none⟩) 5 5] 85) = w3 at b0 b1 b2 ⊢
  have hcs : ∀ (b : Nat), w3.heap[b]? = some (.cells adderCells 96) → ∀ (k : Nat) (d : Cd), adderL[k]? = some d → ∀ m v, (cdCells d)[m]? = some v → w3.cell? ⟨b, 0 + k * 5 + m, none⟩ = some v := fun b hb k d hd m v hv => by
    have hm : m < 5 := (List.getElem?_eq_some_iff.1 hv).1
    have := flat_get adderL k m d hd hm
    rw [hv] at this
    rw [Nat.zero_add]
    refine (cell_of hb _).trans ?_
    have e : adderCells = (flatC adderL).toArray := rfl
    rw [e, List.getElem?_toArray]
    exact this
  refine ⟨rfl, fun i p hp => ⟨w.heap.size + 2, 0, rfl, (cell_of b2 _).trans ?_⟩, fun i p c hp hc => ?_⟩
  · rw [Nat.zero_add]
    match i, hp with
    | 0, hp => cases hp; rfl
    | 1, hp => cases hp; rfl
    | i + 2, hp => cases hp
  · match i, hp, hc with
    | 0, hp, hc => cases hp; cases hc; exact ⟨rfl, fun k d hd => ⟨_, 0, rfl, hcs _ b0 k d hd⟩⟩
    | 1, hp, hc => cases hp; cases hc; exact ⟨rfl, fun k d hd => ⟨_, 0, rfl, hcs _ b1 k d hd⟩⟩
    | i + 2, hp, hc => cases hp

theorem ints_new (w : World) (l : List Int) (ty : TypeId) : IntsAt (some ⟨w.heap.size, 0, none⟩) l (w.alloc (.cells (l.map (Value.int .i64 ·)).toArray ty)) := fun j x hx => ⟨_, rfl, (cell_of (heap_alloc_new w _) j).trans (by simp [hx])⟩

theorem out_a {cells : Array Value} {w' : World} (H : PlayOut ([adderL, adderL].take 64) [0] 100 [0, 1, 0, 1] cells w') : ∃ a oa oc s, cells = #[.slice (some ⟨a, 0, none⟩) 2 2, .slice oa 4 oc, .slice (some ⟨s, 0, none⟩) 1 1, .bool false] ∧ w'.cell? ⟨s, 0, none⟩ = some (.int .i64 1) := by
  obtain ⟨oa, oc, a, s, tas, tcs, h1, _, h3, _⟩ := H
  have e : ([adderL, adderL] : List (List Cd)).take 64 = [adderL, adderL] := rfl
  rw [e] at h1 h3
  obtain ⟨e1, e2, e3⟩ := awake_a
  rw [e2, e3] at h1
  refine ⟨a, oa, oc, s, h1, ?_⟩
  have := h3 0 (by simp)
  rw [e1] at this
  exact this
theorem out_b {cells : Array Value} {w' : World} (H : PlayOut ([adderL, adderL].take 64) [0] 100 [0, 0, 1, 1] cells w') : ∃ a oa on oc s st, cells = #[.slice (some ⟨a, 0, none⟩) 2 2, .slice oa on oc, .slice (some ⟨s, 0, none⟩) 1 1, .bool st] ∧ w'.cell? ⟨s, 0, none⟩ = some (.int .i64 2) := by
  obtain ⟨oa, oc, a, s, tas, tcs, h1, _, h3, _⟩ := H
  have e : ([adderL, adderL] : List (List Cd)).take 64 = [adderL, adderL] := rfl
  rw [e] at h1 h3
  refine ⟨a, oa, _, oc, s, _, h1, ?_⟩
  have := h3 0 (by simp)
  rw [awake_b] at this
  exact this
theorem out_c {cells : Array Value} {w' : World} (H : PlayOut ([adderL, adderL].take 64) [0] 3 [] cells w') : ∃ a oa oc s, cells = #[.slice (some ⟨a, 0, none⟩) 2 2, .slice oa 3 oc, .slice (some ⟨s, 0, none⟩) 1 1, .bool true] := by
  obtain ⟨oa, oc, a, s, tas, tcs, h1, _, _, _⟩ := H
  have e : ([adderL, adderL] : List (List Cd)).take 64 = [adderL, adderL] := rfl
  rw [e] at h1
  obtain ⟨e2, e3⟩ := awake_c
  rw [e2, e3] at h1
  exact ⟨a, oa, oc, s, h1⟩

/-- A Trace's block. -/
def TrIs (T : Nat) (x0 x1 x2 x3 : Value) (w : World) : Prop := w.cell? ⟨T, 0, none⟩ = some x0 ∧ w.cell? ⟨T, 1, none⟩ = some x1 ∧ w.cell? ⟨T, 2, none⟩ = some x2 ∧ w.cell? ⟨T, 3, none⟩ = some x3
theorem tr_new (w : World) (x0 x1 x2 x3 : Value) : TrIs w.heap.size x0 x1 x2 x3 (w.alloc (.cells #[x0, x1, x2, x3] 28)) := by
  have h := heap_alloc_new w (.cells #[x0, x1, x2, x3] 28)
  exact ⟨(cell_of h 0).trans rfl, (cell_of h 1).trans rfl, (cell_of h 2).trans rfl, (cell_of h 3).trans rfl⟩
theorem TrIs.old {T : Nat} {x0 x1 x2 x3 : Value} {w w' : World} (h : TrIs T x0 x1 x2 x3 w) (O : Old w w') : TrIs T x0 x1 x2 x3 w' := ⟨old_cell O h.1, old_cell O h.2.1, old_cell O h.2.2.1, old_cell O h.2.2.2⟩

set_option maxHeartbeats 8000000 in
set_option maxRecDepth 100000 in
theorem awake_run (c : Frame) (cs : List Frame) (w : World) : Runs (fun g w' => Old w w' ∧ g = G (c.finish (.bool true)) cs) (G (Frame.enter Try.prog 13 #[] .normal) (c :: cs)) w := by
  refine Runs.go ?_
  rw [enter_at _ Try.func13 rfl]
  simp only [Try.f13, List.size_toArray, List.length_cons, List.length_nil, Nat.reduceAdd, Nat.reduceSub, Array.replicate_succ, Array.replicate_zero, List.push_toArray, List.append_toArray, List.nil_append, List.cons_append]
  repeat (first | (refine Walk.c rfl ?_) | (refine Walk.cReg ?_; simp only [List.size_toArray, List.length_cons, List.length_nil, Nat.reduceAdd, Nat.zero_add, List.range, List.range.loop]) | (refine Walk.cRet ?_) | (refine Walk.cEnd ?_) | (refine Walk.opq (ho_of (by conv => lhs; whnf) (by kernel_rfl)) (by rfl) (by decide) (fun dd e he => ?_) (fun dd K hK => ?_); (· (simp [go_sem, *] at he; try (subst he; exact evR_read _ _))); go_simp; refine hK _ ?_; clear hK K; try walk_nrm) | (refine Walk.ctl rfl (fun w => stepG_unwanted (ho_of (by conv => lhs; whnf) (by kernel_rfl)) (by rfl)) ?_; walk_nrm))
  refine Walk.callV (x := .slice (some ⟨w.heap.size, 0, none⟩) 5 5) (W := w.alloc (.cells adderCells 96)) ?_ rfl (by rfl) (by decide) rfl Try.func38 (by kernel_rfl) (by rfl) ?_
  · walk_nrm
    exact adder_w w
  walk_nrm
  refine Walk.callV (x := .slice (some ⟨w.heap.size + 1, 0, none⟩) 5 5) (W := (w.alloc (.cells adderCells 96)).alloc (.cells adderCells 96)) ?_ rfl (by rfl) (by decide) rfl Try.func38 (by kernel_rfl) (by rfl) ?_
  · have := adder_w (main := true) (V := fun _ => none) (w.alloc (.cells adderCells 96))
    have h1 : (w.alloc (.cells adderCells 96)).heap.size = w.heap.size + 1 := by simp
    rw [h1] at this
    walk_nrm
    exact this
  walk_nrm
  have hS := two_src w
  have O1 := (old_alloc w (.cells adderCells 96)).trans ((old_alloc _ (.cells adderCells 96)).trans (old_alloc _ (.cells #[.slice (some ⟨w.heap.size, 0, none⟩) 5 5, .slice (some ⟨w.heap.size + 1, 0, none⟩) 5 5] 85)))
  have hsz : ((w.alloc (.cells adderCells 96)).alloc (.cells adderCells 96)).heap.size = w.heap.size + 2 := by simp
  (co_applyP Walk.opw (ho_of (by conv => lhs; whnf) (by kernel_rfl)) (by rfl) (by decide) ?wev1 ?wdr1 ?wrun1; (case' wrun1 => (intro dd K hK; go_simp; simp only [alloc_at', setCell_at']; refine hK _ ?wmore1; clear hK K)); (case wdr1 => exact fun dd es hes => DR.alloc' dd es hes); (case wev1 => (intro dd e he; simp [go_sem, *] at he)); try walk_nrm)
  generalize ((w.alloc (.cells adderCells 96)).alloc (.cells adderCells 96)).alloc (.cells #[.slice (some ⟨w.heap.size, 0, none⟩) 5 5, .slice (some ⟨w.heap.size + 1, 0, none⟩) 5 5] 85) = w3 at hS O1 ⊢
  refine Walk.callW (Post := fun v w' => ∃ fa fc ls, v = .slice fa 2 fc ∧ Coded w3 w' [adderL, adderL] fa fc 2 ls) ?_ rfl (by rfl) (by decide) rfl Try.func15 (by kernel_rfl) (by rfl) ?_
  · walk_nrm
    exact codes_w (some ⟨w.heap.size + 2, 0, none⟩) 2 _ [adderL, adderL] w3 hS (by simp) (by simp [adderL]) (fun b _ => apart0 b)
  rintro v w4 ⟨fa, fc, ls, rfl, M⟩
  have O4 := O1.trans M.old
  walk_nrm
  repeat (first | (refine Walk.c rfl ?_) | (refine Walk.cReg ?_; simp only [List.size_toArray, List.length_cons, List.length_nil, Nat.reduceAdd, Nat.zero_add, List.range, List.range.loop]) | (refine Walk.cRet ?_) | (refine Walk.cEnd ?_) | (refine Walk.opq (ho_of (by conv => lhs; whnf) (by kernel_rfl)) (by rfl) (by decide) (fun dd e he => ?_) (fun dd K hK => ?_); (· (simp [go_sem, *] at he; try (subst he; exact evR_read _ _))); go_simp; refine hK _ ?_; clear hK K; try walk_nrm) | (refine Walk.ctl rfl (fun w => stepG_unwanted (ho_of (by conv => lhs; whnf) (by kernel_rfl)) (by rfl)) ?_; walk_nrm))
  (co_applyP Walk.opw (ho_of (by conv => lhs; whnf) (by kernel_rfl)) (by rfl) (by decide) ?wev2 ?wdr2 ?wrun2; (case' wrun2 => (intro dd K hK; go_simp; simp only [alloc_at', setCell_at']; refine hK _ ?wmore2; clear hK K)); (case wdr2 => exact fun dd es hes => DR.alloc' dd es hes); (case wev2 => (intro dd e he; simp [go_sem, *] at he)); try walk_nrm)
  repeat (first | (refine Walk.c rfl ?_) | (refine Walk.cReg ?_; simp only [List.size_toArray, List.length_cons, List.length_nil, Nat.reduceAdd, Nat.zero_add, List.range, List.range.loop]) | (refine Walk.cRet ?_) | (refine Walk.cEnd ?_) | (refine Walk.opq (ho_of (by conv => lhs; whnf) (by kernel_rfl)) (by rfl) (by decide) (fun dd e he => ?_) (fun dd K hK => ?_); (· (simp [go_sem, *] at he; try (subst he; exact evR_read _ _))); go_simp; refine hK _ ?_; clear hK K; try walk_nrm) | (refine Walk.ctl rfl (fun w => stepG_unwanted (ho_of (by conv => lhs; whnf) (by kernel_rfl)) (by rfl)) ?_; walk_nrm))
  (co_applyP Walk.opw (ho_of (by conv => lhs; whnf) (by kernel_rfl)) (by rfl) (by decide) ?wev3 ?wdr3 ?wrun3; (case' wrun3 => (intro dd K hK; go_simp; simp only [alloc_at', setCell_at']; refine hK _ ?wmore3; clear hK K)); (case wdr3 => exact fun dd es hes => DR.alloc' dd es hes); (case wev3 => (intro dd e he; simp [go_sem, *] at he)); try walk_nrm)
  have hsz4 : (w4.alloc (.cells #[.int .i64 0] 2)).heap.size = w4.heap.size + 1 := by simp
  have O6 := (old_alloc w4 (.cells #[.int .i64 0] 2)).trans (old_alloc _ (.cells #[.int .i64 0, .int .i64 1, .int .i64 0, .int .i64 1] 3))
  have I1 : IntsAt (some ⟨w4.heap.size, 0, none⟩) [0] ((w4.alloc (.cells #[.int .i64 0] 2)).alloc (.cells #[.int .i64 0, .int .i64 1, .int .i64 0, .int .i64 1] 3)) := (ints_new w4 [0] 2).old (old_alloc _ _).same
  have I2 : IntsAt (some ⟨w4.heap.size + 1, 0, none⟩) [0, 1, 0, 1] ((w4.alloc (.cells #[.int .i64 0] 2)).alloc (.cells #[.int .i64 0, .int .i64 1, .int .i64 0, .int .i64 1] 3)) := by
    have := ints_new (w4.alloc (.cells #[.int .i64 0] 2)) [0, 1, 0, 1] 3
    rw [hsz4] at this
    exact this
  have L2 : w4.heap.size + 1 < ((w4.alloc (.cells #[.int .i64 0] 2)).alloc (.cells #[.int .i64 0, .int .i64 1, .int .i64 0, .int .i64 1] 3)).heap.size := by simp
  generalize (w4.alloc (.cells #[.int .i64 0] 2)).alloc (.cells #[.int .i64 0, .int .i64 1, .int .i64 0, .int .i64 1] 3) = w6 at O6 I1 I2 L2 ⊢
  refine Walk.callE rfl (by rfl) (by decide) rfl Try.func14 (by kernel_rfl) (by rfl) ?_
  refine .stop fun d => ?_
  walk_nrm
  refine Runs.then (play_coded M (by simp) (by simp [adderL]) (some ⟨w4.heap.size, 0, none⟩) 1 (some ⟨w4.heap.size + 1, 0, none⟩) 4 100 [0] [0, 1, 0, 1] (w6.at d) (O6.at d) (by simp) (by simp) I1 I2 (fun s e => by cases e; exact L2) _ _) ?_
  rintro _ w7 ⟨cells, hP, O7, rfl⟩
  obtain ⟨a1, oa1, oc1, s1, rfl, hs1⟩ := out_a hP
  have O7' := O6.trans (Old.un d O7)
  clear O6 I1 I2 L2 hP O7
  refine Runs.go ?_
  rw [Frame.finish_at]
  walk_nrm
  (co_applyP Walk.opw (ho_of (by conv => lhs; whnf) (by kernel_rfl)) (by rfl) (by decide) ?wev4 ?wdr4 ?wrun4; (case' wrun4 => (intro dd K hK; go_simp; simp only [alloc_at', setCell_at']; refine hK _ ?wmore4; clear hK K)); (case wdr4 => exact fun dd es hes => DR.alloc' dd es hes); (case wev4 => (intro dd e he; simp [go_sem, *] at he)); try walk_nrm)
  refine Walk.storeS 28 (.tmp 2) (.tmp 12) rfl (by rfl) (by decide) rfl w7.heap.size #[.slice (some ⟨a1, 0, none⟩) 2 2, .slice oa1 4 oc1, .slice (some ⟨s1, 0, none⟩) 1 1, .bool false] _ 28 rfl rfl (heap_alloc_new w7 _) (by kernel_rfl) (by rfl) (by simp [Value.oneCell']) (apart0 _) ?_
  rw [setRow_alloc]
  have T1 := tr_new w7 (.slice (some ⟨a1, 0, none⟩) 2 2) (.slice oa1 4 oc1) (.slice (some ⟨s1, 0, none⟩) 1 1) (.bool false)
  have hs1 := old_cell (old_alloc w7 (.cells #[.slice (some ⟨a1, 0, none⟩) 2 2, .slice oa1 4 oc1, .slice (some ⟨s1, 0, none⟩) 1 1, .bool false] 28)) hs1
  have O8 := O7'.trans (old_alloc w7 (.cells #[.slice (some ⟨a1, 0, none⟩) 2 2, .slice oa1 4 oc1, .slice (some ⟨s1, 0, none⟩) 1 1, .bool false] 28))
  clear O7'
  generalize w7.heap.size = TA at *
  generalize w7.alloc (.cells #[.slice (some ⟨a1, 0, none⟩) 2 2, .slice oa1 4 oc1, .slice (some ⟨s1, 0, none⟩) 1 1, .bool false] 28) = w8 at *
  walk_nrm
  repeat (first | (refine Walk.c rfl ?_) | (refine Walk.cReg ?_; simp only [List.size_toArray, List.length_cons, List.length_nil, Nat.reduceAdd, Nat.zero_add, List.range, List.range.loop]) | (refine Walk.cRet ?_) | (refine Walk.cEnd ?_) | (refine Walk.opq (ho_of (by conv => lhs; whnf) (by kernel_rfl)) (by rfl) (by decide) (fun dd e he => ?_) (fun dd K hK => ?_); (· (simp [go_sem, *] at he; try (subst he; exact evR_read _ _))); go_simp; refine hK _ ?_; clear hK K; try walk_nrm) | (refine Walk.ctl rfl (fun w => stepG_unwanted (ho_of (by conv => lhs; whnf) (by kernel_rfl)) (by rfl)) ?_; walk_nrm))
  (co_applyP Walk.opw (ho_of (by conv => lhs; whnf) (by kernel_rfl)) (by rfl) (by decide) ?wev5 ?wdr5 ?wrun5; (case' wrun5 => (intro dd K hK; go_simp; simp only [alloc_at', setCell_at']; refine hK _ ?wmore5; clear hK K)); (case wdr5 => exact fun dd es hes => DR.alloc' dd es hes); (case wev5 => (intro dd e he; simp [go_sem, *] at he)); try walk_nrm)
  repeat (first | (refine Walk.c rfl ?_) | (refine Walk.cReg ?_; simp only [List.size_toArray, List.length_cons, List.length_nil, Nat.reduceAdd, Nat.zero_add, List.range, List.range.loop]) | (refine Walk.cRet ?_) | (refine Walk.cEnd ?_) | (refine Walk.opq (ho_of (by conv => lhs; whnf) (by kernel_rfl)) (by rfl) (by decide) (fun dd e he => ?_) (fun dd K hK => ?_); (· (simp [go_sem, *] at he; try (subst he; exact evR_read _ _))); go_simp; refine hK _ ?_; clear hK K; try walk_nrm) | (refine Walk.ctl rfl (fun w => stepG_unwanted (ho_of (by conv => lhs; whnf) (by kernel_rfl)) (by rfl)) ?_; walk_nrm))
  (co_applyP Walk.opw (ho_of (by conv => lhs; whnf) (by kernel_rfl)) (by rfl) (by decide) ?wev6 ?wdr6 ?wrun6; (case' wrun6 => (intro dd K hK; go_simp; simp only [alloc_at', setCell_at']; refine hK _ ?wmore6; clear hK K)); (case wdr6 => exact fun dd es hes => DR.alloc' dd es hes); (case wev6 => (intro dd e he; simp [go_sem, *] at he)); try walk_nrm)
  have hsz8 : (w8.alloc (.cells #[.int .i64 0] 2)).heap.size = w8.heap.size + 1 := by simp
  have P6 := (old_alloc w8 (.cells #[.int .i64 0] 2)).trans (old_alloc _ (.cells #[.int .i64 0, .int .i64 0, .int .i64 1, .int .i64 1] 3))
  have I1 : IntsAt (some ⟨w8.heap.size, 0, none⟩) [0] ((w8.alloc (.cells #[.int .i64 0] 2)).alloc (.cells #[.int .i64 0, .int .i64 0, .int .i64 1, .int .i64 1] 3)) := (ints_new w8 [0] 2).old (old_alloc _ _).same
  have I2 : IntsAt (some ⟨w8.heap.size + 1, 0, none⟩) [0, 0, 1, 1] ((w8.alloc (.cells #[.int .i64 0] 2)).alloc (.cells #[.int .i64 0, .int .i64 0, .int .i64 1, .int .i64 1] 3)) := by
    have := ints_new (w8.alloc (.cells #[.int .i64 0] 2)) [0, 0, 1, 1] 3
    rw [hsz8] at this
    exact this
  have L2 : w8.heap.size + 1 < ((w8.alloc (.cells #[.int .i64 0] 2)).alloc (.cells #[.int .i64 0, .int .i64 0, .int .i64 1, .int .i64 1] 3)).heap.size := by simp
  generalize (w8.alloc (.cells #[.int .i64 0] 2)).alloc (.cells #[.int .i64 0, .int .i64 0, .int .i64 1, .int .i64 1] 3) = w9 at P6 I1 I2 L2 ⊢
  refine Walk.callE rfl (by rfl) (by decide) rfl Try.func14 (by kernel_rfl) (by rfl) ?_
  refine .stop fun d9 => ?_
  walk_nrm
  refine Runs.then (play_coded M (by simp) (by simp [adderL]) (some ⟨w8.heap.size, 0, none⟩) 1 (some ⟨w8.heap.size + 1, 0, none⟩) 4 100 [0] [0, 0, 1, 1] (w9.at d9) ((O8.trans P6).at d9) (by simp) (by simp) I1 I2 (fun s e => by cases e; exact L2) _ _) ?_
  rintro _ w10 ⟨cells, hP, O10, rfl⟩
  obtain ⟨a2, oa2, on2, oc2, s2, st2, rfl, hs2⟩ := out_b hP
  have Q8 := P6.trans (Old.un d9 O10)
  have O11 := O8.trans Q8
  have T1 := T1.old Q8
  have hs1 := old_cell Q8 hs1
  clear P6 I1 I2 L2 hP O10 Q8 O8
  refine Runs.go ?_
  rw [Frame.finish_at]
  walk_nrm
  (co_applyP Walk.opw (ho_of (by conv => lhs; whnf) (by kernel_rfl)) (by rfl) (by decide) ?wev7 ?wdr7 ?wrun7; (case' wrun7 => (intro dd K hK; go_simp; simp only [alloc_at', setCell_at']; refine hK _ ?wmore7; clear hK K)); (case wdr7 => exact fun dd es hes => DR.alloc' dd es hes); (case wev7 => (intro dd e he; simp [go_sem, *] at he)); try walk_nrm)
  refine Walk.storeS 28 (.tmp 3) (.tmp 16) rfl (by rfl) (by decide) rfl w10.heap.size #[.slice (some ⟨a2, 0, none⟩) 2 2, .slice oa2 on2 oc2, .slice (some ⟨s2, 0, none⟩) 1 1, .bool st2] _ 28 rfl rfl (heap_alloc_new w10 _) (by kernel_rfl) (by rfl) (by simp [Value.oneCell']) (apart0 _) ?_
  rw [setRow_alloc]
  have T2 := tr_new w10 (.slice (some ⟨a2, 0, none⟩) 2 2) (.slice oa2 on2 oc2) (.slice (some ⟨s2, 0, none⟩) 1 1) (.bool st2)
  have R8 := old_alloc w10 (.cells #[.slice (some ⟨a2, 0, none⟩) 2 2, .slice oa2 on2 oc2, .slice (some ⟨s2, 0, none⟩) 1 1, .bool st2] 28)
  have hs2 := old_cell R8 hs2
  have hs1 := old_cell R8 hs1
  have T1 := T1.old R8
  have O12 := O11.trans R8
  clear O11 R8
  generalize w10.heap.size = TB at *
  generalize w10.alloc (.cells #[.slice (some ⟨a2, 0, none⟩) 2 2, .slice oa2 on2 oc2, .slice (some ⟨s2, 0, none⟩) 1 1, .bool st2] 28) = w12 at *
  walk_nrm
  repeat (first | (refine Walk.c rfl ?_) | (refine Walk.cReg ?_; simp only [List.size_toArray, List.length_cons, List.length_nil, Nat.reduceAdd, Nat.zero_add, List.range, List.range.loop]) | (refine Walk.cRet ?_) | (refine Walk.cEnd ?_) | (refine Walk.opq (ho_of (by conv => lhs; whnf) (by kernel_rfl)) (by rfl) (by decide) (fun dd e he => ?_) (fun dd K hK => ?_); (· (simp [go_sem, *] at he; try (subst he; exact evR_read _ _))); go_simp; refine hK _ ?_; clear hK K; try walk_nrm) | (refine Walk.ctl rfl (fun w => stepG_unwanted (ho_of (by conv => lhs; whnf) (by kernel_rfl)) (by rfl)) ?_; walk_nrm))
  (co_applyP Walk.opw (ho_of (by conv => lhs; whnf) (by kernel_rfl)) (by rfl) (by decide) ?wev8 ?wdr8 ?wrun8; (case' wrun8 => (intro dd K hK; go_simp; simp only [alloc_at', setCell_at']; refine hK _ ?wmore8; clear hK K)); (case wdr8 => exact fun dd es hes => DR.alloc' dd es hes); (case wev8 => (intro dd e he; simp [go_sem, *] at he)); try walk_nrm)
  repeat (first | (refine Walk.c rfl ?_) | (refine Walk.cReg ?_; simp only [List.size_toArray, List.length_cons, List.length_nil, Nat.reduceAdd, Nat.zero_add, List.range, List.range.loop]) | (refine Walk.cRet ?_) | (refine Walk.cEnd ?_) | (refine Walk.opq (ho_of (by conv => lhs; whnf) (by kernel_rfl)) (by rfl) (by decide) (fun dd e he => ?_) (fun dd K hK => ?_); (· (simp [go_sem, *] at he; try (subst he; exact evR_read _ _))); go_simp; refine hK _ ?_; clear hK K; try walk_nrm) | (refine Walk.ctl rfl (fun w => stepG_unwanted (ho_of (by conv => lhs; whnf) (by kernel_rfl)) (by rfl)) ?_; walk_nrm))
  have P6 := old_alloc w12 (.cells #[.int .i64 0] 2)
  have I1 : IntsAt (some ⟨w12.heap.size, 0, none⟩) [0] (w12.alloc (.cells #[.int .i64 0] 2)) := ints_new w12 [0] 2
  have I2 : IntsAt none [] (w12.alloc (.cells #[.int .i64 0] 2)) := fun j x h => by simp at h
  generalize w12.alloc (.cells #[.int .i64 0] 2) = w13 at P6 I1 I2 ⊢
  refine Walk.callE rfl (by rfl) (by decide) rfl Try.func14 (by kernel_rfl) (by rfl) ?_
  refine .stop fun d13 => ?_
  walk_nrm
  refine Runs.then (play_coded M (by simp) (by simp [adderL]) (some ⟨w12.heap.size, 0, none⟩) 1 none 0 3 [0] [] (w13.at d13) ((O12.trans P6).at d13) (by simp) (by simp) I1 I2 (fun s e => by cases e) _ _) ?_
  rintro _ w14 ⟨cells, hP, O14, rfl⟩
  obtain ⟨a3, oa3, oc3, s3, rfl⟩ := out_c hP
  have Q8 := P6.trans (Old.un d13 O14)
  have O15 := O12.trans Q8
  have T1 := T1.old Q8
  have T2 := T2.old Q8
  have hs1 := old_cell Q8 hs1
  have hs2 := old_cell Q8 hs2
  clear P6 I1 I2 hP O14 Q8 O12
  refine Runs.go ?_
  rw [Frame.finish_at]
  walk_nrm
  (co_applyP Walk.opw (ho_of (by conv => lhs; whnf) (by kernel_rfl)) (by rfl) (by decide) ?wev9 ?wdr9 ?wrun9; (case' wrun9 => (intro dd K hK; go_simp; simp only [alloc_at', setCell_at']; refine hK _ ?wmore9; clear hK K)); (case wdr9 => exact fun dd es hes => DR.alloc' dd es hes); (case wev9 => (intro dd e he; simp [go_sem, *] at he)); try walk_nrm)
  refine Walk.storeS 28 (.tmp 4) (.tmp 19) rfl (by rfl) (by decide) rfl w14.heap.size #[.slice (some ⟨a3, 0, none⟩) 2 2, .slice oa3 3 oc3, .slice (some ⟨s3, 0, none⟩) 1 1, .bool true] _ 28 rfl rfl (heap_alloc_new w14 _) (by kernel_rfl) (by rfl) (by simp [Value.oneCell']) (apart0 _) ?_
  rw [setRow_alloc]
  have T3 := tr_new w14 (.slice (some ⟨a3, 0, none⟩) 2 2) (.slice oa3 3 oc3) (.slice (some ⟨s3, 0, none⟩) 1 1) (.bool true)
  have R8 := old_alloc w14 (.cells #[.slice (some ⟨a3, 0, none⟩) 2 2, .slice oa3 3 oc3, .slice (some ⟨s3, 0, none⟩) 1 1, .bool true] 28)
  have hs2 := old_cell R8 hs2
  have hs1 := old_cell R8 hs1
  have T1 := T1.old R8
  have T2 := T2.old R8
  have O16 := O4.trans (O15.trans R8)
  clear R8 O15 O4 O1 M hS
  generalize w14.heap.size = TC at *
  generalize w14.alloc (.cells #[.slice (some ⟨a3, 0, none⟩) 2 2, .slice oa3 3 oc3, .slice (some ⟨s3, 0, none⟩) 1 1, .bool true] 28) = w16 at *
  obtain ⟨u10, u11, u12, u13⟩ := T1
  obtain ⟨u20, u21, u22, u23⟩ := T2
  obtain ⟨u30, u31, u32, u33⟩ := T3
  walk_nrm
  refine Walk.ctl rfl (fun w => stepG_region_end) ?_
  refine Walk.slots (F := fun u => G (hd13 (.slice fa 2 fc) TA TB TC u) (c :: cs)) (fun u => (awake_tail (.slice fa 2 fc) TA TB TC a1 a2 s1 s2 oc1 oc3 oa1 oa3 u c cs w16 u10 u11 u12 u13 u20 u22 u31 u33 hs1 hs2).mono ?_) ?_
  · rintro g w' ⟨rfl, d, rfl⟩
    exact .now ⟨O16.at d, rfl⟩
  · simp only [hd13, tail13, Try.f13]
    rfl
end Go.Proofs.Ytgiiicdpbdfemaa
end
