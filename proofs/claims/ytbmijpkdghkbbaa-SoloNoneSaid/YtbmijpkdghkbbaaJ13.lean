/- Part 13. -/
import Derived.Test.YtbmijpkdghkbbaaJ4
import Derived.Test.YtbmijpkdghkbbaaJ9
import Derived.Test.YtbmijpkdghkbbaaJ10
import Derived.Test.YtbmijpkdghkbbaaJ11
import Derived.Test.YtbmijpkdghkbbaaJ12
set_option linter.unusedSimpArgs false
set_option linter.unusedVariables false
set_option linter.unusedVariables false
set_option maxHeartbeats 8000000
set_option maxRecDepth 100000
namespace Go.Proofs.Ytbmijpkdghkbbaa
open Go.Conc Go.RowKit Go.Relay
open Go.ConcN (upd upd_ne upd_same)
section
variable {main : Bool} {V : Nat → Option Wait} {B n0 : Nat}
def sp (s : Nat × Nat × Nat) : Value := .pointer (some ⟨s.1 + 2, 0, none⟩)
structure Rest53 (B n0 : Nat) (w w0 : World) : Prop where
  low : ∀ b, b < n0 → b ≠ B → w0.heap[b]? = w.heap[b]?
  cell : ∀ i, i ≠ 0 → w0.cell? ⟨B, i, none⟩ = w.cell? ⟨B, i, none⟩ ∧ w0.frozen? ⟨B, i, none⟩ = w.frozen? ⟨B, i, none⟩
  size : w.heap.size ≤ w0.heap.size
theorem rest_one {oa : Option Addr} {on oc t r g cap : Nat} {xs : List Value} {w w' : World} {sts : List (Nat × Nat × Nat)} (H : NT V B oa on oc n0 xs w) (h7 : NT7 B oa on oc n0 xs w t r g cap w') (hb : Built w B n0 (.slice oa on oc) sts) : Rest53 B n0 w (ntW B on g cap w') := by
  have hn := H.hn0
  have hB := hb.low
  have hs := h7.size
  refine ⟨fun b hlt hne => h7.block (by omega) hne fun e => ?_, fun i hi => ?_, by omega⟩
  · have := (hb.list b e.symm).2.1; omega
  · have hBo : some B ≠ (Value.slice oa on oc).ownBlock := fun e => (H.hap B e.symm).2 rfl
    have e4 : (newW w t r).heap[B]? = w.heap[B]? := by
      unfold newW standW
      rw [Below.heap_alloc _ _ _ (by simp; omega), Below.heap_alloc _ _ _ (by simp; omega), Below.heap_alloc _ _ _ (by simp; omega), Below.heap_alloc _ _ _ (by omega)]
    have e5 : w'.heap[B]? = w.heap[B]? := (h7.grown.block B (by rw [newW_size]; omega) hBo).trans e4
    exact ⟨(World.cell?_setCell_other w' ⟨B, 0, none⟩ ⟨B, i, none⟩ _ (by simp [Ne.symm hi])).trans (World.cell?_of_block e5), (World.frozen?_setCell ..).trans (World.frozen?_of_block e5)⟩
theorem Rest53.trans {a b c : World} (h : Rest53 B n0 a b) (k : Rest53 B n0 b c) : Rest53 B n0 a c :=
  ⟨fun x h1 h2 => (k.low x h1 h2).trans (h.low x h1 h2), fun i hi => ⟨(k.cell i hi).1.trans (h.cell i hi).1, (k.cell i hi).2.trans (h.cell i hi).2⟩, Nat.le_trans h.size k.size⟩
theorem nt_loop (n : Nat) (hn : n ≤ 64) (hA : ∀ b, n0 ≤ b → Apart V b) (cs : List Frame) : ∀ (k j : Nat), j + k = n → ∀ (oa : Option Addr) (oc : Nat) (sts : List (Nat × Nat × Nat)) (u : Nat → Value) (w : World),
    NT V B oa j oc n0 (sts.map sp) w → Built w B n0 (.slice oa j oc) sts → sts.length = j →
    Walk Try.prog main (DR V) (fun g w' => ∃ oa' oc' sts' u' w0 d, w' = w0.at d ∧ g = G (hd53 B n n u') cs ∧ NT V B oa' n oc' n0 (sts'.map sp) w0 ∧ Built w0 B n0 (.slice oa' n oc') sts' ∧ sts'.length = n ∧ Rest53 B n0 w w0) (G (hd53 B j n u) cs) w := by
  intro k
  induction k with
  | zero =>
    intro j hj oa oc sts u w H hb hl
    obtain rfl : j = n := by omega
    exact .stop fun d => ⟨oa, oc, sts, u, w, d, rfl, rfl, H, hb, hl, ⟨fun _ _ _ => rfl, fun _ _ => ⟨rfl, rfl⟩, Nat.le_refl _⟩⟩
  | succ k ih =>
    intro j hj oa oc sts u w H hb hl
    refine (nt_go B j n oa j oc n0 (sts.map sp) u cs w (by omega) hn H).then ?_
    rintro _ _ ⟨t, r, g', cap, w', ht, h7, ⟨u', rfl⟩, d, rfl⟩
    refine Walk.back ?_ d
    have H' := NT.next H (by omega) (fun b hb' => hA b (Nat.le_trans H.hn0 hb')) h7
    have hb' := Built.next H ht h7 hb
    have hr := rest_one H h7 hb
    have hm : sts.map sp ++ [.pointer (some ⟨w.heap.size + 2, 0, none⟩)] = (sts ++ [(w.heap.size, t, r)]).map sp := by simp [sp]
    rw [hm] at H'
    refine (ih (j + 1) (by omega) _ _ _ u' _ H' hb' (by simp [hl])).mono ?_
    rintro g w1 ⟨oa', oc', sts', u'', w0, d', e, eg, h1, h2, h3, h4⟩
    exact ⟨oa', oc', sts', u'', w0, d', e, eg, h1, h2, h3, hr.trans h4⟩
end
section
variable {main : Bool} {V : Nat → Option Wait}
theorem nt_all (n tcap : Nat) (ta : Option Addr) (most : Int) (hn : n ≤ 64) (w : World) (hA : ∀ b, w.heap.size ≤ b → Apart V b) (c : Frame) (cs : List Frame) :
    Walk Try.prog main (DR V) (fun g w' => ∃ oa oc sts w0 d, w' = w0.at d ∧ g = G (c.finish (.pointer (some ⟨w.heap.size, 0, none⟩))) cs ∧ NT V w.heap.size oa n oc (w.heap.size + 1) (sts.map sp) w0 ∧ Built w0 w.heap.size (w.heap.size + 1) (.slice oa n oc) sts ∧ sts.length = n ∧ Rest53 w.heap.size (w.heap.size + 1) (turnW w n most) w0)
      (G (Frame.enter Try.prog 117 #[.slice ta n tcap, .int .i64 most] .normal) (c :: cs)) w := by
  refine (nt_in n tcap ta most (c :: cs) w).then ?_
  rintro _ _ ⟨⟨u0, rfl⟩, d, rfl⟩
  refine Walk.back ?_ d
  have hs : (turnW w n most).heap.size = w.heap.size + 1 := by simp [turnW]
  have H : NT V w.heap.size none 0 0 (w.heap.size + 1) (([] : List (Nat × Nat × Nat)).map sp) (turnW w n most) := by
    refine ⟨?_, ?_, (hA _ (Nat.le_refl _)).1 _ rfl, World.ownsRow_nil .., by omega, by omega, fun g hg => by simp [Value.ownBlock] at hg⟩
    · exact World.cell?_alloc_at (w := w) #[.slice none 0 0, .int .i64 n, .int .i64 (min (max most 0) 1048576), .slice none 0 0] 200 w.heap.size 0 rfl
    · exact World.frozen?_alloc_at (w := w) #[.slice none 0 0, .int .i64 n, .int .i64 (min (max most 0) 1048576), .slice none 0 0] 200 w.heap.size 0 rfl
  have hb : Built (turnW w n most) w.heap.size (w.heap.size + 1) (.slice none 0 0) [] := ⟨by simp, by simp, fun b e => by simp [Value.ownBlock] at e, by omega⟩
  refine (nt_loop n hn (fun b hb => hA b (by omega)) (c :: cs) n 0 (by omega) none 0 [] u0 _ H hb rfl).then ?_
  rintro _ _ ⟨oa, oc, sts, u, w0, d', rfl, rfl, h1, h2, h3, h4⟩
  refine Walk.back ?_ d'
  refine (nt_out w.heap.size n u c cs w0).mono ?_
  rintro g w1 ⟨rfl, d2, rfl⟩
  exact ⟨oa, oc, sts, w0, d2, rfl, rfl, h1, h2, h3, h4⟩
end
section
theorem cell_inv {w : World} {b i : Nat} {v : Value} (h : w.cell? ⟨b, i, none⟩ = some v) : ∃ arr ty fr, w.heap[b]? = some (.cells arr ty fr) ∧ arr[i]? = some v := by
  unfold World.cell? at h
  revert h
  cases e : w.heap[b]? with
  | none => simp
  | some o =>
    cases o with
    | cells arr ty fr => exact fun h => ⟨arr, ty, fr, rfl, by simpa using h⟩
    | _ => simp
section
variable (B sb : Nat) (sts : List (Nat × Nat × Nat))
def stA (i : Nat) : Nat × Nat × Nat := sts.getD i (0, 0, 0)
theorem stA_get {sts : List (Nat × Nat × Nat)} {i : Nat} (hi : i < sts.length) : stA sts i = sts[i] := by
  unfold stA
  rw [List.getD_eq_getElem?_getD, List.getElem?_eq_getElem hi, Option.getD_some]
open Classical in
noncomputable def own0 : Nat → Option Role := fun b =>
  if b = B then some .tB else if b = sb then some .ss else
  if h : ∃ i, i < sts.length ∧ b = (stA sts i).1 + 2 then some (.p h.choose) else
  if h : ∃ i, i < sts.length ∧ b = (stA sts i).2.1 then some (.t h.choose) else
  if h : ∃ i, i < sts.length ∧ b = (stA sts i).2.2 then some (.r h.choose) else none
structure Far : Prop where
  lo : ∀ i, i < sts.length → B < (stA sts i).1
  tr : ∀ i, i < sts.length → ((stA sts i).2.1 = (stA sts i).1 ∧ (stA sts i).2.2 = (stA sts i).1 + 1) ∨ ((stA sts i).2.1 = (stA sts i).1 + 1 ∧ (stA sts i).2.2 = (stA sts i).1)
  ap : ∀ i j, i < j → j < sts.length → (stA sts i).1 + 3 ≤ (stA sts j).1
  sB : B < sb
  sl : ∀ i, i < sts.length → sb < (stA sts i).1 ∨ (stA sts i).1 + 3 ≤ sb
variable {B sb sts}
theorem Far.inj (H : Far B sb sts) {i j : Nat} (hi : i < sts.length) (hj : j < sts.length) {a b : Nat} (ha : a < 3) (hb : b < 3) (h : (stA sts i).1 + a = (stA sts j).1 + b) : i = j := by
  rcases Nat.lt_trichotomy i j with h' | h' | h'
  · have := H.ap i j h' hj; omega
  · exact h'
  · have := H.ap j i h' hi; omega
theorem Far.inj' (H : Far B sb sts) {i j : Nat} (hi : i < sts.length) (hj : j < sts.length) {x y : Nat} (hx : (stA sts i).1 ≤ x ∧ x < (stA sts i).1 + 3) (hy : (stA sts j).1 ≤ y ∧ y < (stA sts j).1 + 3) (h : x = y) : i = j :=
  H.inj hi hj (a := x - (stA sts i).1) (b := y - (stA sts j).1) (by omega) (by omega) (by omega)
theorem Far.t (H : Far B sb sts) {i : Nat} (hi : i < sts.length) : (stA sts i).1 ≤ (stA sts i).2.1 ∧ (stA sts i).2.1 < (stA sts i).1 + 2 ∧ (stA sts i).1 ≤ (stA sts i).2.2 ∧ (stA sts i).2.2 < (stA sts i).1 + 2 ∧ (stA sts i).2.1 ≠ (stA sts i).2.2 := by
  rcases H.tr i hi with h | h <;> omega
theorem own0_B : own0 B sb sts B = some .tB := by unfold own0; rw [if_pos rfl]
theorem own0_s (H : Far B sb sts) : own0 B sb sts sb = some .ss := by
  have := H.sB
  unfold own0
  rw [if_neg (by omega), if_pos rfl]
theorem own0_p (H : Far B sb sts) {i : Nat} (hi : i < sts.length) : own0 B sb sts ((stA sts i).1 + 2) = some (.p i) := by
  have h1 := H.lo i hi
  have h2 := H.sl i hi
  unfold own0
  have h : ∃ j, j < sts.length ∧ (stA sts i).1 + 2 = (stA sts j).1 + 2 := ⟨i, hi, rfl⟩
  rw [if_neg (by omega), if_neg (by omega), dif_pos h]
  rw [← H.inj hi h.choose_spec.1 (by omega) (by omega) h.choose_spec.2]
theorem own0_t (H : Far B sb sts) {i : Nat} (hi : i < sts.length) : own0 B sb sts (stA sts i).2.1 = some (.t i) := by
  have h1 := H.lo i hi
  have h2 := H.sl i hi
  have ht := H.t hi
  unfold own0
  have h : ∃ j, j < sts.length ∧ (stA sts i).2.1 = (stA sts j).2.1 := ⟨i, hi, rfl⟩
  rw [if_neg (by omega), if_neg (by omega), dif_neg ?_, dif_pos h]
  · have htj := H.t h.choose_spec.1
    rw [← H.inj' hi h.choose_spec.1 ⟨ht.1, by omega⟩ ⟨htj.1, by omega⟩ h.choose_spec.2]
  · rintro ⟨j, hj, e⟩
    have := H.inj' hi hj (x := (stA sts i).2.1) (y := (stA sts j).1 + 2) ⟨ht.1, by omega⟩ ⟨by omega, by omega⟩ e
    subst this
    omega
theorem own0_r (H : Far B sb sts) {i : Nat} (hi : i < sts.length) : own0 B sb sts (stA sts i).2.2 = some (.r i) := by
  have h1 := H.lo i hi
  have h2 := H.sl i hi
  have ht := H.t hi
  unfold own0
  have h : ∃ j, j < sts.length ∧ (stA sts i).2.2 = (stA sts j).2.2 := ⟨i, hi, rfl⟩
  rw [if_neg (by omega), if_neg (by omega), dif_neg ?_, dif_neg ?_, dif_pos h]
  · have htj := H.t h.choose_spec.1
    rw [← H.inj' hi h.choose_spec.1 ⟨ht.2.2.1, by omega⟩ ⟨htj.2.2.1, by omega⟩ h.choose_spec.2]
  · rintro ⟨j, hj, e⟩
    have htj := H.t hj
    have := H.inj' hi hj (x := (stA sts i).2.2) (y := (stA sts j).2.1) ⟨ht.2.2.1, by omega⟩ ⟨htj.1, by omega⟩ e
    subst this
    omega
  · rintro ⟨j, hj, e⟩
    have := H.inj' hi hj (x := (stA sts i).2.2) (y := (stA sts j).1 + 2) ⟨ht.2.2.1, by omega⟩ ⟨by omega, by omega⟩ e
    subst this
    omega
theorem own0_some {b : Nat} {x : Role} (h : own0 B sb sts b = some x) : (x = .tB ∧ b = B) ∨ (x = .ss ∧ b = sb) ∨ ∃ i, i < sts.length ∧ ((x = .p i ∧ b = (stA sts i).1 + 2) ∨ (x = .t i ∧ b = (stA sts i).2.1) ∨ (x = .r i ∧ b = (stA sts i).2.2)) := by
  unfold own0 at h
  by_cases h1 : b = B
  · rw [if_pos h1] at h; cases h; exact .inl ⟨rfl, h1⟩
  rw [if_neg h1] at h
  by_cases h2 : b = sb
  · rw [if_pos h2] at h; cases h; exact .inr (.inl ⟨rfl, h2⟩)
  rw [if_neg h2] at h
  by_cases h3 : ∃ i, i < sts.length ∧ b = (stA sts i).1 + 2
  · rw [dif_pos h3] at h; cases h; exact .inr (.inr ⟨_, h3.choose_spec.1, .inl ⟨rfl, h3.choose_spec.2⟩⟩)
  rw [dif_neg h3] at h
  by_cases h4 : ∃ i, i < sts.length ∧ b = (stA sts i).2.1
  · rw [dif_pos h4] at h; cases h; exact .inr (.inr ⟨_, h4.choose_spec.1, .inr (.inl ⟨rfl, h4.choose_spec.2⟩)⟩)
  rw [dif_neg h4] at h
  by_cases h5 : ∃ i, i < sts.length ∧ b = (stA sts i).2.2
  · rw [dif_pos h5] at h; cases h; exact .inr (.inr ⟨_, h5.choose_spec.1, .inr (.inr ⟨rfl, h5.choose_spec.2⟩)⟩)
  rw [dif_neg h5] at h; cases h
end
theorem going_all (n : Nat) : going n (fun _ => false) = n := by
  unfold going
  rw [List.countP_eq_length.2 (by simp), List.length_range]
structure Given where
  g0 : Nat
  n : Nat
  tb : Nat
  tcap : Nat
  most : Int
  F : Nat → Value
  sa : Option Addr
  sc : Nat
  sl : List Int
def stile (Q : Given) (B sb scap : Nat) (sts : List (Nat × Nat × Nat)) : Stile where
  g0 := Q.g0
  n := Q.n
  B := B
  sb := sb
  scap := scap
  tb := Q.tb
  tcap := Q.tcap
  most := min (max Q.most 0) 1048576
  p := fun i => (stA sts i).1 + 2
  t := fun i => (stA sts i).2.1
  r := fun i => (stA sts i).2.2
  F := Q.F
  sa := Q.sa
  sc := Q.sc
  sl := Q.sl
noncomputable def dyn0 (n B sb : Nat) (sts : List (Nat × Nat × Nat)) : Dyn where
  k := 0
  e := fun _ => false
  f := fun _ => false
  b := fun _ => false
  N := fun _ => 0
  cs := fun _ => []
  own := own0 B sb sts
  ord := []
  oa := none
  oc := 0
  gg := n
section
variable {Q : Given} {w w0 : World} {sb scap : Nat} {sts : List (Nat × Nat × Nat)}
theorem far_of (hb : Built w0 w.heap.size (w.heap.size + 1) (.slice (some ⟨sb, 0, none⟩) Q.n scap) sts) : Far w.heap.size sb sts := by
  have hmem : ∀ i, i < sts.length → stA sts i ∈ sts := fun i hi => by
    rw [stA_get hi]
    exact List.getElem_mem hi
  obtain ⟨h1, h2, h3⟩ := hb.list sb rfl
  refine ⟨fun i hi => ?_, fun i hi => (hb.all _ (hmem i hi)).tr, fun i j hij hj => ?_, by omega, fun i hi => h3 _ (hmem i hi)⟩
  · have := (hb.all _ (hmem i hi)).lo; omega
  · have hi : i < sts.length := by omega
    rw [stA_get hi, stA_get hj]
    exact List.pairwise_iff_getElem.1 hb.apart i j hi hj hij
theorem sys0 {V : Nat → Option Wait} (hn : Q.n ≤ 64) (hg0 : 1 ≤ Q.g0) (hN : NT V w.heap.size (some ⟨sb, 0, none⟩) Q.n scap (w.heap.size + 1) (sts.map sp) w0) (hb : Built w0 w.heap.size (w.heap.size + 1) (.slice (some ⟨sb, 0, none⟩) Q.n scap) sts) (hl : sts.length = Q.n)
    (hR : Rest53 w.heap.size (w.heap.size + 1) (turnW w Q.n Q.most) w0) :
    Sys (stile Q w.heap.size sb scap sts) w.heap.size (dyn0 Q.n w.heap.size sb sts) w0 ∧ Keeps (fun _ => none) (own0 w.heap.size sb sts) w w0 := by
  have hF := far_of hb
  have hmem : ∀ i, i < sts.length → stA sts i ∈ sts := fun i hi => by
    rw [stA_get hi]
    exact List.getElem_mem hi
  have hts : (turnW w Q.n Q.most).heap.size = w.heap.size + 1 := by simp [turnW]
  have hlist := hb.list sb rfl
  have hB : w.heap.size < w0.heap.size := by omega
  have hge : ∀ b x, own0 w.heap.size sb sts b = some x → w.heap.size ≤ b ∧ b < w0.heap.size := fun b x h => by
    rcases own0_some h with ⟨_, e⟩ | ⟨_, e⟩ | ⟨i, hi, z⟩
    · omega
    · omega
    · have h1 := hF.lo i hi
      have h2 := (hb.all _ (hmem i hi)).hi
      have h3 := hF.t hi
      rcases z with ⟨_, e⟩ | ⟨_, e⟩ | ⟨_, e⟩ <;> omega
  refine ⟨⟨fun b x hx => ?_, hge, fun b x hx => ?_, own0_B, own0_s hF, fun i hi => own0_p hF (hl ▸ hi), fun i hi => own0_t hF (hl ▸ hi), fun i hi => own0_r hF (hl ▸ hi), fun i hi => absurd hi (Nat.not_lt_zero _), fun b e => by simp [dyn0, Value.ownBlock] at e, World.ownsRow_nil .., hn, Nat.zero_le _, hg0⟩, by omega, fun b hb' _ => ?_⟩
  · rcases own0_some hx with ⟨rfl, rfl⟩ | ⟨rfl, rfl⟩ | ⟨i, hi, z⟩
    · obtain ⟨arr, ty, fr, h, h0⟩ := cell_inv hN.h0
      have hc : ∀ i, i ≠ 0 → arr[i]? = (turnW w Q.n Q.most).cell? ⟨w.heap.size, i, none⟩ := fun i hi => (cell_of h i).symm.trans (hR.cell i hi).1
      have ht : ∀ i, (turnW w Q.n Q.most).cell? ⟨w.heap.size, i, none⟩ = (#[.slice none 0 0, .int .i64 Q.n, .int .i64 (min (max Q.most 0) 1048576), .slice none 0 0] : Array Value)[i]? := fun i => cell_of (heap_alloc_new w _) i
      refine ⟨arr, ty, fr, h, h0, (hc 1 (by omega)).trans (ht 1), (hc 2 (by omega)).trans (ht 2), (hc 3 (by omega)).trans (ht 3), fun i hi => ?_⟩
      have hz := (hR.cell i (by omega)).2
      have hz0 : (turnW w Q.n Q.most).frozen? ⟨w.heap.size, i, none⟩ = false := frozen_of (heap_alloc_new w _) i
      rw [hz0] at hz
      simpa only [World.frozen?, h] using hz
    · rcases hN.own with ⟨_, ⟨e, _⟩ | ⟨g, cap, cur, e, _, h, _, _, _, ht⟩⟩
      · cases e
      · cases e
        refine ⟨_, _, _, h, fun i hi => ?_⟩
        have hi : i < Q.n := hi
        have h1 : (cur.toList.take (Q.n * 1))[i]? = cur[i]? := by rw [List.getElem?_take, if_pos (by omega)]; simp
        rw [← h1, ht, List.getElem?_map, List.getElem?_eq_getElem (by omega)]
        simp only [Option.map_some, sp, stile]
        rw [stA_get (by omega)]
    · have hs := hb.all _ (hmem i hi)
      rcases z with ⟨rfl, rfl⟩ | ⟨rfl, rfl⟩ | ⟨rfl, rfl⟩
      · exact hs.cells
      · intro _
        rcases hs.tr with ⟨h1, _⟩ | ⟨h1, _⟩
        · exact ⟨0, h1 ▸ hs.c0⟩
        · exact ⟨0, h1 ▸ hs.c1⟩
      · intro _
        rcases hs.tr with ⟨_, h1⟩ | ⟨_, h1⟩
        · exact ⟨0, h1 ▸ hs.c1⟩
        · exact ⟨0, h1 ▸ hs.c0⟩
  · rcases own0_some hx with ⟨rfl, rfl⟩ | ⟨rfl, rfl⟩ | ⟨i, hi, z⟩
    · rfl
    · rfl
    · rcases z with ⟨rfl, rfl⟩ | ⟨rfl, rfl⟩ | ⟨rfl, rfl⟩ <;> exact ⟨(by show i < Q.n; omega), rfl⟩
  · refine ⟨?_, ?_⟩
    · cases h : own0 w.heap.size sb sts b with
      | none => rfl
      | some x => have := (hge b x h).1; omega
    · rw [hR.low b (by omega) (by omega)]
      exact heap_new_lt w _ hb'
end
end
def Runs (Post : Goroutine → World → Prop) (g : Goroutine) (w : World) : Prop := ∀ nG m T, 1 ≤ nG → At Try.prog (fun _ => none) 0 nG g w m T →
  Relay.Comes Try.prog (fun m' T' => ∃ nG' g' w', 1 ≤ nG' ∧ Post g' w' ∧ At Try.prog (fun _ => none) 0 nG' g' w' m' T') m T
theorem Runs.now {Post : Goroutine → World → Prop} {g : Goroutine} {w : World} (h : Post g w) : Runs Post g w := fun nG _ _ h1 A => .now ⟨nG, g, w, h1, h, A⟩
theorem Runs.walk {Stop Post : Goroutine → World → Prop} {g : Goroutine} {w : World} (h : Walk Try.prog true (DR (fun _ => none)) Stop g w) (k : ∀ g w, Stop g w → Runs Post g w) : Runs Post g w := fun nG _ _ h1 A =>
  (At.walk (h := 0) h A).bind fun m' T' ⟨a', w', hs, A'⟩ => k a' w' hs nG m' T' h1 A'
theorem Runs.then {Post Post' : Goroutine → World → Prop} {g : Goroutine} {w : World} (h : Runs Post g w) (k : ∀ g w, Post g w → Runs Post' g w) : Runs Post' g w := fun nG m T h1 A =>
  (h nG m T h1 A).bind fun m' T' ⟨nG', g', w', h1', hp, A'⟩ => k g' w' hp nG' m' T' h1' A'
def Given.at (Q : Given) (g : Nat) : Given := { Q with g0 := g }
structure Ran {X : Type} (C : ∀ S : Stile, Crew S X) (x0 : X) (Q : Given) (w : World) (v : Value) (w' : World) : Prop where
  all : ∃ (g0 sb scap : Nat) (sts : List (Nat × Nat × Nat)) (x : X) (ord : List Nat) (oa : Option Addr) (oc q k : Nat) (own : Nat → Option Role) (cs : Nat → List Frame),
    (x, ord) = followX (C (stile (Q.at g0) w.heap.size sb scap sts)) (bornAll (C (stile (Q.at g0) w.heap.size sb scap sts)) Q.n 0 x0, []) Q.sl ∧
    overX (C (stile (Q.at g0) w.heap.size sb scap sts)) (x, ord) = true ∧
    v = .tuple #[.slice oa ord.length oc, .bool (decide (0 < goingX (C (stile (Q.at g0) w.heap.size sb scap sts)) x)), .slice (some ⟨q, 0, none⟩) Q.n Q.n] ∧
    (C (stile (Q.at g0) w.heap.size sb scap sts)).inv k own x cs w' ∧
    w'.ownsRow w.heap.size 3 1 (.slice oa ord.length oc) ord.length (ord.map fun i => .int .i64 (i : Nat)) ∧ (∀ b, (Value.slice oa ord.length oc).ownBlock = some b → own b = some .ord ∧ b ≠ q) ∧
    own q = some .ord ∧ w.heap.size ≤ q ∧ w.heap.size ≤ w'.heap.size ∧
    ∃ arr, w'.heap[q]? = some (.cells arr 4 (0, 0)) ∧ ∀ i, i < Q.n → arr[i]? = some (.bool ((C (stile (Q.at g0) w.heap.size sb scap sts)).out x i == some true))
theorem over_run {X : Type} (C : ∀ S : Stile, Crew S X) (x0 : X) (Q : Given) (og : Value) (w : World) (hn1 : 1 ≤ Q.n) (hn : Q.n ≤ 64) (hm : Q.sl.length ≤ 17592186044416) (hcnt : ∀ S, (C S).cnt x0 = 0)
    (hog : CallV Try.prog true (fun _ => none) 116 #[og] w (.slice (some ⟨Q.tb, 0, none⟩) Q.n Q.tcap) w)
    (hinit : ∀ g0 sb scap sts, ∃ cs, (C (stile (Q.at g0) w.heap.size sb scap sts)).inv 0 (fun _ => none) x0 cs w) (c : Frame) (cs0 : List Frame) :
    Runs (fun g w' => ∃ v, Ran C x0 Q w v w' ∧ g = G (c.finish v) cs0) (G (Frame.enter Try.prog 93 #[og, .slice Q.sa Q.sl.length Q.sc, .int .i64 Q.most] .normal) (c :: cs0)) w := by
  intro nG m T hG A
  refine (At.walk (h := 0) (over_in Q.n Q.tcap Q.sl.length Q.sc (some ⟨Q.tb, 0, none⟩) Q.sa og Q.most (c :: cs0) w hog (nt_all Q.n Q.tcap (some ⟨Q.tb, 0, none⟩) Q.most hn w (fun b _ => ⟨fun _ _ _ _ h => by (cases h), fun _ _ h => by (cases h)⟩) _ (c :: cs0))) A).bind ?_
  rintro m1 T1 ⟨_, _, ⟨oa, oc, sts, w0, d0, rfl, rfl, hN, hb, hl, hR⟩, A1⟩
  obtain ⟨sb, rfl⟩ : ∃ sb, oa = some ⟨sb, 0, none⟩ := by
    rcases hN.own.2 with ⟨_, e⟩ | ⟨g, cap, cur, e, _⟩
    · omega
    · cases e; exact ⟨g, rfl⟩
  obtain ⟨hS, hK⟩ := sys0 (Q := Q.at nG) hn hG hN hb hl hR
  obtain ⟨csI, hI⟩ := hinit nG sb oc sts
  generalize hSt : stile (Q.at nG) w.heap.size sb oc sts = S at *
  have eB : S.B = w.heap.size := by rw [← hSt]; rfl
  have en : S.n = Q.n := by rw [← hSt]; rfl
  have eg : S.g0 = nG := by rw [← hSt]; rfl
  have esb : S.sb = sb := by rw [← hSt]; rfl
  have esc : S.scap = oc := by rw [← hSt]; rfl
  have etb : S.tb = Q.tb := by rw [← hSt]; rfl
  have etc : S.tcap = Q.tcap := by rw [← hSt]; rfl
  have esa : S.sa = Q.sa := by rw [← hSt]; rfl
  have essc : S.sc = Q.sc := by rw [← hSt]; rfl
  have esl : S.sl = Q.sl := by rw [← hSt]; rfl
  have emo : S.most ≤ 1048576 := by rw [← hSt]; simp only [stile]; omega
  have hD0 : Drv (C S) w.heap.size { dyn0 Q.n w.heap.size sb sts with cs := csI } x0 (w0.at d0) := by
    refine ⟨(hS.cs csI).at d0, (C S).keep hI (hK.at d0), fun _ => rfl, fun i hi => absurd hi (Nat.not_lt_zero _), fun _ _ => ⟨rfl, rfl⟩, ?_, emo, hcnt S⟩
    rw [en]
    exact (going_all Q.n).symm
  have hV0 : (fun _ => none : Nat → Option Wait) = VV S { dyn0 Q.n w.heap.size sb sts with cs := csI } none none := by
    funext g
    unfold VV
    by_cases h0 : g = 0
    · rw [if_pos h0]
    · rw [if_neg h0, if_neg]
      rintro ⟨h1, h2, _⟩
      have h2 : g < S.g0 + 0 := h2
      omega
  have hk0 : ({ dyn0 Q.n w.heap.size sb sts with cs := csI } : Dyn).k = 0 := rfl
  have hr0 : ({ dyn0 Q.n w.heap.size sb sts with cs := csI } : Dyn).ord = [] := rfl
  generalize ({ dyn0 Q.n w.heap.size sb sts with cs := csI } : Dyn) = D0 at hD0 hV0 hk0 hr0
  have hV0A : (fun x : Nat => if x = 0 then none else none : Nat → Option Wait) = fun _ => none := by funext x; simp
  rw [hV0] at A1
  have t0 := hD0.sys.tB.1
  rw [← eB] at A1
  rw [en] at t0
  refine (At.walk (h := 0) (Stop := fun g w' => g = G (hd54 S.B S.sb S.n S.scap S.tb S.tcap 0 (fun _ => undef)) (fr23a S.B Q.n Q.tcap Q.sl.length Q.sc (some ⟨Q.tb, 0, none⟩) Q.sa og Q.most :: c :: cs0) ∧ ∃ d, w' = (w0.at d0).at d) (over_begin S.B Q.n Q.tcap Q.sl.length Q.sc (some ⟨Q.tb, 0, none⟩) Q.sa og Q.most (c :: cs0) _ (by
    have := begin_in (main := (0 == 0)) (V := VV S D0 none none) S.B S.sb Q.n S.scap Q.tb Q.tcap (fr23a S.B Q.n Q.tcap Q.sl.length Q.sc (some ⟨Q.tb, 0, none⟩) Q.sa og Q.most :: c :: cs0) (w0.at d0) t0
    rw [en, etb, etc]
    exact this)) A1).bind ?_
  rintro m2 T2 ⟨_, _, ⟨rfl, d2, rfl⟩, A2⟩
  have hD2 : Drv (C S) w.heap.size D0 x0 ((w0.at d0).at d2) := ⟨hD0.sys.at d2, (C S).keep hD0.inv ((Keeps.refl _ _).at d2), hD0.fe, hD0.out, hD0.fresh, hD0.gg, hD0.most, hD0.cnt⟩
  rw [← eg] at A2
  have A2' : At Try.prog (VV S D0 none none) 0 (S.g0 + D0.k) (G (hd54 S.B S.sb S.n S.scap S.tb S.tcap D0.k (fun _ => undef)) (fr23a S.B Q.n Q.tcap Q.sl.length Q.sc (some ⟨Q.tb, 0, none⟩) Q.sa og Q.most :: c :: cs0)) ((w0.at d0).at d2) m2 T2 := by
    rw [hk0]; exact A2
  refine (begin_all S.n (by omega) hr0 hD2 A2').bind ?_
  rintro m3 T3 ⟨D3, w3, u3, A3, hD3, ho3, hk3⟩
  rw [hk0] at hD3
  refine (At.walk (h := 0) (begin_out S.B S.sb S.n S.scap S.tb S.tcap u3 (fr23a S.B Q.n Q.tcap Q.sl.length Q.sc (some ⟨Q.tb, 0, none⟩) Q.sa og Q.most) (c :: cs0) w3) A3).bind ?_
  rintro m4 T4 ⟨_, _, ⟨rfl, d4, rfl⟩, A4⟩
  refine (At.walk (h := 0) (Stop := fun g w' => (∃ u, g = G (hd55 S.B S.sa S.sl.length S.sc 0 u) (fr23b S.B Q.n Q.tcap Q.sl.length Q.sc (some ⟨Q.tb, 0, none⟩) Q.sa og Q.most :: c :: cs0)) ∧ ∃ d, w' = (w3.at d4).at d) (over_follow S.B Q.n Q.tcap Q.sl.length Q.sc (some ⟨Q.tb, 0, none⟩) Q.sa og Q.most (c :: cs0) _ (by
    rw [esa, esl, essc]
    exact follow_in S.B Q.sa Q.sl.length Q.sc _ _)) A4).bind ?_
  rintro m5 T5 ⟨_, _, ⟨⟨u5, rfl⟩, d5, rfl⟩, A5⟩
  have hD5 : Drv (C S) w.heap.size D3 (bornAll (C S) S.n 0 x0) ((w3.at d4).at d5) := ⟨(hD3.sys.at d4).at d5, (C S).keep hD3.inv (((Keeps.refl _ _).at d4).at d5), hD3.fe, hD3.out, hD3.fresh, hD3.gg, hD3.most, hD3.cnt⟩
  refine (follow_all S.sl 0 rfl (Nat.zero_le _) (esl ▸ hm) hD5 hk3 A5).bind ?_
  rintro m6 T6 ⟨D6, w6, x6, A6, hD6, hx6, hk6, hov6⟩
  have t6 := hD6.sys.tB
  refine (At.walk (h := 0) (Stop := fun g w' => g = G (hd56 S.B S.sb S.n S.scap w6.heap.size 0 (fun _ => undef)) (fr23c S.B Q.n Q.tcap Q.sl.length Q.sc (some ⟨Q.tb, 0, none⟩) Q.sa og Q.most D6.gg :: c :: cs0) ∧ ∃ d, w' = (w6.alloc (.cells (madeCells #[.bool false] S.n) 4)).at d)
    (over_end S.B Q.n Q.tcap Q.sl.length Q.sc (some ⟨Q.tb, 0, none⟩) Q.sa og Q.most D6.gg (c :: cs0) w6 t6.2.1 (end_in S.B S.sb S.n S.scap _ w6 hD6.sys.n64 t6.1)) A6).bind ?_
  rintro m7 T7 ⟨_, _, ⟨rfl, d7, rfl⟩, A7⟩
  have hq : D6.own w6.heap.size = none := by
    cases h : D6.own w6.heap.size with
    | none => rfl
    | some x => have := (hD6.sys.lt _ _ h).2; omega
  have hF7 : Fini (C S) w.heap.size D6 x6 ((w6.alloc (.cells (madeCells #[.bool false] S.n) 4)).at d7) w6.heap.size 0 := by
    refine ⟨(hD6.sys.alloc _).at d7, (C S).keep hD6.inv ⟨by simp [World.at], fun b hb ho => ⟨by rw [upd_ne _ _ (by omega)]; exact ho, heap_new_lt w6 _ hb⟩⟩, hq, ⟨_, heap_alloc_new w6 _, fun i hi => ?_⟩, fun i _ hi => ⟨hD6.fe i, (hD6.out i (by omega)).1⟩, fun i hi => absurd hi (Nat.not_lt_zero _), fun i hi => (hD6.out i (by omega)).2, hk6⟩
    have : (madeCells #[.bool false] S.n)[i]? = (madeCells #[.bool false] S.n).toList[i]? := by simp
    rw [this, toList_madeCells_one, List.getElem?_replicate, if_pos hi]
    simp
  refine (end_all S.n 0 (by omega) hF7 A7).bind ?_
  rintro m8 T8 ⟨D8, w8, u8, A8, hF8, ho8, ha8, hc8⟩
  refine (At.walk (h := 0) (end_out S.B S.sb S.n S.scap w6.heap.size u8 _ (c :: cs0) w8) A8).bind ?_
  rintro m9 T9 ⟨_, _, ⟨rfl, d9, rfl⟩, A9⟩
  rw [en] at A9
  refine (At.walk (h := 0) (over_out S.B w6.heap.size Q.n Q.tcap Q.sl.length Q.sc (some ⟨Q.tb, 0, none⟩) Q.sa og Q.most D6.gg D8.oa D8.ord.length D8.oc c cs0 (w8.at d9) hF8.sys.tB.2.2.2.1) A9).mono ?_
  rintro m10 T10 ⟨_, _, ⟨rfl, d10, rfl⟩, A10⟩
  have hVe : VV S D8 none none = fun _ => none := by
    funext g
    unfold VV
    by_cases h0 : g = 0
    · rw [if_pos h0]
    · rw [if_neg h0, if_neg]
      rintro ⟨h1, h2, h3, _⟩
      rw [hF8.lo _ (by have := hF8.k; omega)] at h3
      cases h3
  rw [hVe] at A10
  have hs8 := hF8.sys
  refine ⟨_, _, _, (by omega), ⟨_, ⟨nG, sb, oc, sts, x6, D6.ord, D8.oa, D8.oc, w6.heap.size, D8.k, upd D8.own w6.heap.size (some .ord), D8.cs, ?_⟩, rfl⟩, A10⟩
  rw [hSt]
  rw [en] at hx6
  rw [esl, ho3, hr0] at hx6
  have hgg : D6.gg = goingX (C S) x6 := hD6.going hk6
  have hbr : decide ((0 : Int) < (D6.gg : Int)) = decide (0 < goingX (C S) x6) := decide_eq_decide.2 (by omega)
  obtain ⟨arr, hq8, hqa⟩ := hF8.qh
  refine ⟨hx6, hov6, by rw [hbr, ho8], (C S).keep hF8.inv (((Keeps.refl _ _).at d9).at d10), ?_, fun b hb => ?_, upd_same _ _ _, ?_, ?_, arr, hq8, fun i hi => ?_⟩
  · rw [← ho8]; exact ((hs8.at d9).at d10).row
  · have hb := hs8.oo b (by rw [ho8]; exact hb)
    have hne : b ≠ w6.heap.size := fun e => by rw [e, hF8.qo] at hb; cases hb
    exact ⟨by rw [upd_ne _ _ hne]; exact hb, hne⟩
  · have := hD6.sys.lt _ _ hD6.sys.oB; omega
  · have := hs8.lt _ _ hs8.oB
    have h2 : w.heap.size ≤ w8.heap.size := by omega
    exact h2
  · have := hqa i (by omega)
    rw [this]
    have : decide (i < S.n) = true := decide_eq_true (by omega)
    rw [this, Bool.true_and]
section
variable {main : Bool} {V : Nat → Option Wait}
noncomputable def row161B : Bool := match Try.prog.info? 224 with
  | some ti => (match ti.methods.find? (·.name == "Step") with
    | some m => m.path.isEmpty && (m.func == some (195, true))
    | none => false)
  | none => false
theorem row161 : ∃ ti m, Try.prog.info? 224 = some ti ∧ ti.methods.find? (·.name == "Step") = some m ∧ m.path = #[] ∧ m.func = some (195, true) := by
  have h : row161B = true := by kernel_rfl
  unfold row161B at h
  revert h
  cases h1 : Try.prog.info? 224 with
  | none => simp
  | some ti =>
    simp only []
    cases h2 : ti.methods.find? (·.name == "Step") with
    | none => simp
    | some m =>
      simp only [Bool.and_eq_true, Array.isEmpty_iff, beq_iff_eq]
      exact fun h => ⟨ti, m, rfl, h2, h.1, h.2⟩
theorem method_step (p : Nat) (w : World) (es : Array Event) : (method (Try.prog.types.size + Made.depth) 224 (.pointer (some ⟨p, 0, none⟩)) "Step").run Try.prog w = .ok (195, .pointer (some ⟨p, 0, none⟩)) w ∧ (method (Try.prog.types.size + Made.depth) 224 (.pointer (some ⟨p, 0, none⟩)) "Step").events Try.prog w es = es := by
  obtain ⟨ti, m, h1, h2, h3, h4⟩ := row161
  obtain ⟨k, hk⟩ : ∃ k, Try.prog.types.size + Made.depth = k + 1 := ⟨Try.prog.types.size + (Made.depth - 1), by have : 1 ≤ Made.depth := by decide
                                                                                                                omega⟩
  rw [hk]
  unfold method
  refine ⟨?_, ?_⟩
  · simp [typeInfo, h1, h2, h3, h4, follow, receiverAt, run_underlying und161, Place.get]
  · simp [typeInfo, h1, h2, h3, h4, follow, receiverAt, run_underlying und161, Place.get]
section
variable {Stop : Goroutine → World → Prop} {w : World} {b : Frame} {a : Act} {k : List Item} {cs : List Frame} {ops : Array Oper} {i : Nat} {rest : List Nat} {o : Oper}
theorem stepG_invokeStep {x : Operand} {ats : Array TypeId} (p : Nat) (ho : ops[i]? = some o) (hw : Region.wanted o (yielded ops a.tmps) = true) (hk : b.kind ≠ .early) (hop : o.op = .call { callee := .invoke x "Step", args := #[], argTypes := ats }) (hx : a.eval x = .iface 224 (.pointer (some ⟨p, 0, none⟩))) :
    stepG Try.prog main (G (b.at a (.inRegion ops (i :: rest) :: k)) cs) w = .go (G (Frame.enter Try.prog 195 #[.pointer (some ⟨p, 0, none⟩)] .normal) (b.at a (.inRegion ops (i :: rest) :: k) :: cs)) w := by
  have h1 : ¬ Try.f195.name = "runtime.NumGoroutine" := by decide
  have h2 : ¬ Try.f195.body = none := by simp [Try.f195]
  have hm := method_step p w #[]
  rw [show Try.prog.types.size = 271 from by kernel_rfl] at hm
  have hr : (execOp a.eval o).run Try.prog w = .ok (.enter 195 #[.pointer (some ⟨p, 0, none⟩)]) w := by
    unfold execOp
    simp [hop, resolve, invoke, callMethod, callFunc, hm.1, Try.func195, h1, h2, hx]
  have he : (execOp a.eval o).events Try.prog w #[] = #[] := by
    unfold execOp
    simp [hop, resolve, invoke, callMethod, callFunc, hm.1, hm.2, Try.func195, h1, h2, hx]
  rw [stepG_enter ho hw hk hr]
  have : listed Try.prog b.fn a o w = #[] := by unfold listed; rw [he]; exact seen_none Try.prog _
  rw [this]
theorem Walk.invokeStep {x : Operand} {ats : Array TypeId} (p : Nat) (ho : ops[i]? = some o) (hw : Region.wanted o (yielded ops a.tmps) = true) (hk : b.kind ≠ .early) (hop : o.op = .call { callee := .invoke x "Step", args := #[], argTypes := ats }) (hx : a.eval x = .iface 224 (.pointer (some ⟨p, 0, none⟩)))
    (h : Walk Try.prog main (DR V) Stop (G (Frame.enter Try.prog 195 #[.pointer (some ⟨p, 0, none⟩)] .normal) (b.at a (.inRegion ops (i :: rest) :: k) :: cs)) w) : Walk Try.prog main (DR V) Stop (G (b.at a (.inRegion ops (i :: rest) :: k)) cs) w :=
  Walk.ctl rfl (fun _ => stepG_invokeStep p ho hw hk hop hx) h
end
end
end Go.Proofs.Ytbmijpkdghkbbaa
