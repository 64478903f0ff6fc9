/-
For every list of walks (how many steps a thread does, behind how many it panics, whether it is nil), every schedule and every most: TurnMost returns true on every schedule of the goroutines, without a data race, and what was there stands. Conditions: none beyond the statement's own.
-/
import Derived.Test.YtgiiicdpbdfemaaC13
import Derived.Test.YtgiiicdpbdfemaaRows
import Derived.Conc.LeavingOf
import Derived.Lib.SmallJoins
import Derived.Handy
import Derived.SizedLaws
import Derived.Carry
import Derived.Deep.Slices
set_option linter.unusedSimpArgs false
/- The statement's side: walkers: its contract. -/
section
namespace Go.Proofs.Ytgiiicdpbdfemaa
open Go.Conc Go.RowKit Go.Relay
open Go.ConcN (upd upd_ne upd_same)

/-- Walks in a slice, wherever it begins. -/
def WalksAt (a : Option Addr) (n : Nat) (st af : Nat → Int) (nl : Nat → Bool) (w : World) : Prop := ∀ i, i < n → ∃ b o, a = some ⟨b, o, none⟩ ∧ w.cell? ⟨b, o + i * 3, none⟩ = some (.int .i64 (st i)) ∧ w.cell? ⟨b, o + i * 3 + 1, none⟩ = some (.int .i64 (af i)) ∧ w.cell? ⟨b, o + i * 3 + 2, none⟩ = some (.bool (nl i))
theorem WalksAt.old {a : Option Addr} {n : Nat} {st af : Nat → Int} {nl : Nat → Bool} {w w' : World} (h : WalksAt a n st af nl w) (O : Old w w') : WalksAt a n st af nl w' := fun i hi => by
  obtain ⟨b, o, e, h1, h2, h3⟩ := h i hi
  exact ⟨b, o, e, old_cell O h1, old_cell O h2, old_cell O h3⟩
def thrOf (nl : Nat → Bool) (W : Nat → Nat) (i : Nat) : Value := if nl i then .nilFunc else thrV (W i)

/-- What walkers has made so far. -/
structure Mde (B : Nat) (st af : Nat → Int) (nl : Nat → Bool) (w0 w : World) (oa : Option Addr) (oc i : Nat) (W : Nat → Nat) : Prop where
  old : Old w0 w
  row : w.ownsRow w0.heap.size 67 1 (.slice oa i oc) i ((List.range i).map (thrOf nl W))
  wk : ∀ j, j < i → nl j = false → w.heap[W j]? = some (.cells (wkr B j (st j) (af j)) 127) ∧ w0.heap.size ≤ W j
  inj : ∀ j k, j < i → k < i → nl j = false → nl k = false → W j = W k → j = k
  z : i = 0 → oa = none ∧ oc = 0

theorem Mde.ne {B : Nat} {st af : Nat → Int} {nl : Nat → Bool} {w0 w : World} {oa : Option Addr} {oc i : Nat} {W : Nat → Nat} (M : Mde B st af nl w0 w oa oc i W) {j b : Nat} (hj : j < i) (hn : nl j = false) (hb : (Value.slice oa i oc).ownBlock = some b) : W j ≠ b := by
  rintro rfl
  obtain ⟨_, _, cur, h⟩ := row_at M.row hb
  rw [(M.wk j hj hn).1] at h
  injection h with h
  injection h with _ h _
  cases h

theorem map_range_upd (nl : Nat → Bool) (W : Nat → Nat) (i x : Nat) : (List.range i).map (thrOf nl (upd W i x)) = (List.range i).map (thrOf nl W) := by
  refine List.map_congr_left fun j hj => ?_
  have := List.mem_range.1 hj
  unfold thrOf
  rw [upd_ne _ _ (by omega)]

section
variable {main : Bool} {V : Nat → Option Wait} {B : Nat} {st af : Nat → Int} {nl : Nat → Bool}

theorem walkers24_loop (la : Option Addr) (cap n : Nat) (hn : n ≤ 8796093022208) (w0 : World) (hl : WalksAt la n st af nl w0) (hA : ∀ b, w0.heap.size ≤ b → Apart V b) (fr : Frame) (cs : List Frame) :
    ∀ (r i : Nat) (oa : Option Addr) (oc : Nat) (W : Nat → Nat) (u : Nat → Value) (w : World), i + r = n → Mde B st af nl w0 w oa oc i W →
      Walk Try.prog main (DR V) (fun g' w' => ∃ oa' oc' W', g' = G (fr.finish (.slice oa' n oc')) cs ∧ Mde B st af nl w0 w' oa' oc' n W') (G (hd24 B (.slice la n cap) oa oc i u) (fr :: cs)) w := by
  intro r
  induction r with
  | zero =>
    intro i oa oc W u w hi M
    have hi : i = n := hi
    subst hi
    refine (walkers24_out B la i cap oa oc u fr cs w).mono ?_
    rintro g w' ⟨rfl, d, rfl⟩
    exact ⟨oa, oc, W, rfl, ⟨⟨M.old.size, M.old.same⟩, M.row, M.wk, M.inj, M.z⟩⟩
  | succ r ih =>
    intro i oa oc W u w hi M
    have hin : i < n := by omega
    obtain ⟨L, lo, rfl, h0, h1, h2⟩ := hl i hin
    have h0 := old_cell M.old h0
    have h1 := old_cell M.old h1
    have h2 := old_cell M.old h2
    have hos := M.old.size
    have hown : ∀ b, b < w0.heap.size → (Value.slice oa i oc).ownBlock ≠ some b := fun b hb e => by have := (row_at M.row e).1; omega
    cases hnl : nl i with
    | true =>
      rw [hnl] at h2
      refine (walkers24_nil (main := main) (V := V) B L lo n cap i oa oc w0.heap.size ((List.range i).map (thrOf nl W)) u (fr :: cs) w hin hn h2 M.row hos (fun g hg => hA g (row_at M.row hg).1)).then ?_
      rintro g' w2 ⟨g, cap', w3, ⟨u', rfl⟩, ⟨d, rfl⟩, hrow, hg, hat, hlt⟩
      refine Walk.back ?_ d
      have hs1 : (w.alloc (.cells #[.nilFunc] 67)).heap.size = w.heap.size + 1 := by simp
      have hsz := hg.size
      have hkeep : ∀ b, b < w.heap.size → (Value.slice oa i oc).ownBlock ≠ some b → w3.heap[b]? = w.heap[b]? := fun b hb hne => (hg.block b (by omega) (fun e => hne e.symm)).trans (heap_new_lt w _ hb)
      refine ih (i + 1) _ cap' W u' w3 (by omega) ⟨⟨by omega, fun b hb => (hkeep b (by omega) (hown b hb)).trans (M.old.same b hb)⟩, ?_, fun j hj hj2 => ?_, fun j k hj hk h1 h2 e => ?_, fun h => by omega⟩
      · rw [List.range_succ, List.map_append]
        have : (List.map (thrOf nl W) [i]) = [.nilFunc] := by simp [thrOf, hnl]
        rw [this]; exact hrow
      · have hji : j < i := by
          have : j ≠ i := fun e => by rw [e, hnl] at hj2; cases hj2
          omega
        obtain ⟨k1, k2⟩ := M.wk j hji hj2
        exact ⟨(hkeep _ (Array.getElem?_eq_some_iff.1 k1).1 (fun e => M.ne hji hj2 e rfl)).trans k1, k2⟩
      · have : j ≠ i := fun e => by rw [e, hnl] at h1; cases h1
        have : k ≠ i := fun e => by rw [e, hnl] at h2; cases h2
        exact M.inj j k (by omega) (by omega) h1 h2 e
    | false =>
      rw [hnl] at h2
      refine (walkers24_go (main := main) (V := V) B L lo n cap i oa oc w0.heap.size ((List.range i).map (thrOf nl W)) (st i) (af i) u (fr :: cs) w hin hn h0 h1 h2 M.row hos (fun g hg => hA g (row_at M.row hg).1)).then ?_
      rintro g' w2 ⟨g, cap', w3, ⟨u', rfl⟩, ⟨d, rfl⟩, hrow, hg, hat, hlt⟩
      refine Walk.back ?_ d
      have hs2 : (wkrW w B i (st i) (af i)).heap.size = w.heap.size + 2 := by simp [wkrW]
      have hsz := hg.size
      have hkeep2 : ∀ b, b < w.heap.size + 2 → (Value.slice oa i oc).ownBlock ≠ some b → w3.heap[b]? = (wkrW w B i (st i) (af i)).heap[b]? := fun b hb hne => hg.block b (by omega) (fun e => hne e.symm)
      have hkeep : ∀ b, b < w.heap.size → (Value.slice oa i oc).ownBlock ≠ some b → w3.heap[b]? = w.heap[b]? := fun b hb hne => (hkeep2 b (by omega) hne).trans ((heap_new_lt _ _ (by simp; omega)).trans (heap_new_lt w _ hb))
      have hWn : w3.heap[w.heap.size]? = some (.cells (wkr B i (st i) (af i)) 127) := (hkeep2 _ (by omega) fun e => by have := (row_at M.row e).2.1; omega).trans ((heap_new_lt _ _ (by simp)).trans (heap_alloc_new w _))
      refine ih (i + 1) _ cap' (upd W i w.heap.size) u' w3 (by omega) ⟨⟨by omega, fun b hb => (hkeep b (by omega) (hown b hb)).trans (M.old.same b hb)⟩, ?_, fun j hj hj2 => ?_, fun j k hj hk h1 h2 e => ?_, fun h => by omega⟩
      · rw [List.range_succ, List.map_append, map_range_upd]
        have : (List.map (thrOf nl (upd W i w.heap.size)) [i]) = [thrV w.heap.size] := by simp [thrOf, hnl, upd_same]
        rw [this]; exact hrow
      · by_cases e : j = i
        · subst e
          rw [upd_same]
          exact ⟨hWn, hos⟩
        · have hji : j < i := by omega
          rw [upd_ne _ _ e]
          obtain ⟨k1, k2⟩ := M.wk j hji hj2
          exact ⟨(hkeep _ (Array.getElem?_eq_some_iff.1 k1).1 (fun e => M.ne hji hj2 e rfl)).trans k1, k2⟩
      · have hlt' : ∀ x, x < i → nl x = false → W x < w.heap.size := fun x hx hx2 => (Array.getElem?_eq_some_iff.1 (M.wk x hx hx2).1).1
        by_cases ej : j = i
        · by_cases ek : k = i
          · omega
          · rw [ej, upd_same, upd_ne _ _ ek] at e
            have := hlt' k (by omega) h2
            omega
        · by_cases ek : k = i
          · rw [ek, upd_same, upd_ne _ _ ej] at e
            have := hlt' j (by omega) h1
            omega
          · rw [upd_ne _ _ ej, upd_ne _ _ ek] at e
            exact M.inj j k (by omega) (by omega) h1 h2 e

/-- walkers: for each walk its walker, or nil. -/
theorem walkers24_w (la : Option Addr) (cap n : Nat) (hn : n ≤ 8796093022208) (w : World) (hl : WalksAt la n st af nl w) (hA : ∀ b, w.heap.size ≤ b → Apart V b) :
    CallW Try.prog main V 24 #[.pointer (some ⟨B, 0, none⟩), .slice la n cap] w (fun v w' => ∃ oa oc W, v = .slice oa n oc ∧ Mde B st af nl w w' oa oc n W) := by
  intro fr cs
  refine (walkers24_in B _ (fr :: cs) w).then ?_
  rintro g w1 ⟨⟨u, rfl⟩, d, rfl⟩
  refine Walk.back ?_ d
  refine (walkers24_loop la cap n hn w hl hA fr cs n 0 none 0 (fun _ => 0) u w (by omega) ⟨Old.refl w, row_nil w _ _ _, fun j hj => absurd hj (Nat.not_lt_zero _), fun j k hj => absurd hj (Nat.not_lt_zero _), fun _ => ⟨rfl, rfl⟩⟩).mono ?_
  rintro g w' ⟨oa, oc, W, rfl, M⟩
  exact ⟨_, ⟨oa, oc, W, rfl, M⟩, rfl⟩
end
end Go.Proofs.Ytgiiicdpbdfemaa
end

/- Package turn's Over, of walkers: what it answers, and what stands upon the board. -/
section
namespace Go.Proofs.Ytgiiicdpbdfemaa
open Go.Conc Go.RowKit Go.Relay
open Go.ConcN (upd upd_ne upd_same)

def numbs (l : List Nat) : List Value := l.map fun i => .int .i64 (i : Nat)

/-- What Over of walkers has come to. -/
structure Ovd (s : Wlk) (n B : Nat) (m : Int) (sl : List Int) (w : World) (v : Value) (w' : World) : Prop where
  all : ∃ (oa : Option Addr) (oc q : Nat) (la : Option Addr) (cap : Nat) (arr : Array Value),
    v = .tuple #[.slice oa (overW s n m sl).2.length oc, .bool (decide (0 < goingW n (overW s n m sl).1)), .slice (some ⟨q, 0, none⟩) n n] ∧
    w'.ownsRow w.heap.size 3 1 (.slice oa (overW s n m sl).2.length oc) (overW s n m sl).2.length (numbs (overW s n m sl).2) ∧
    w'.heap[B]? = some (.cells #[.slice la (overW s n m sl).2.length cap] 49) ∧ w'.ownsRow 0 3 1 (.slice la (overW s n m sl).2.length cap) (overW s n m sl).2.length (numbs (overW s n m sl).2) ∧
    w'.heap[q]? = some (.cells arr 4 (0, 0)) ∧ (∀ i, i < n → arr[i]? = some (.bool ((overW s n m sl).1.out i == some true))) ∧ w.heap.size ≤ q
  size : w.heap.size ≤ w'.heap.size
  same : ∀ b, b < w.heap.size → b ≠ B → w'.heap[b]? = w.heap[b]?

theorem followA_off {X : Type} (C : Abs X) {st : X × List Nat} (h : overA C st = true) (l : List Int) : followA C st l = st := by
  have h1 : ∀ l : List Int, l.foldl (stepA C) st = st := fun l => by
    induction l with
    | nil => rfl
    | cons z l ih =>
      rw [List.foldl_cons]
      have : stepA C st z = st := by
        unfold stepA
        rw [if_neg]
        rintro ⟨h', _⟩
        rw [h] at h'; cases h'
      rw [this]; exact ih
  unfold followA
  rw [h1]
  cases C.most.toNat with
  | zero => rfl
  | succ f => exact rest_off C h
theorem overW_zero (s : Wlk) (m : Int) (sl : List Int) : overW s 0 m sl = (wx0, []) := followA_off (absW s 0 m) (st := (wx0, [])) rfl sl

/-- The walkers of a run, by number: as a crew. -/
noncomputable def wgOf (n B : Nat) (W : Nat → Nat) (s : Wlk) (ro : Nat → Option Obj) : WG := ⟨n, B, W, s, ro⟩
def givenW (nl : Nat → Bool) (W : Nat → Nat) (n tb tcap : Nat) (most : Int) (sa : Option Addr) (sc : Nat) (sl : List Int) : Given where
  g0 := 0
  n := n
  tb := tb
  tcap := tcap
  most := most
  F := thrOf nl W
  sa := sa
  sc := sc
  sl := sl

section
variable {B : Nat} {st af : Nat → Int} {nl : Nat → Bool}

open Classical in
theorem over_walkers {w0 w : World} {oa : Option Addr} {oc N : Nat} {W : Nat → Nat} (M : Mde B st af nl w0 w oa oc N W) (hB : w.heap[B]? = some (.cells #[.slice none 0 0] 49)) (sa : Option Addr) (sc : Nat) (sl : List Int) (most : Int) (hsl : sl.length ≤ 17592186044416)
    (hsch : ∀ (j : Nat) (z : Int), sl[j]? = some z → ∃ s so, sa = some ⟨s, so, none⟩ ∧ s ≠ B ∧ w0.cell? ⟨s, so + j, none⟩ = some (.int .i64 z)) (c : Frame) (cs : List Frame) :
    Runs (fun g w' => ∃ v, Ovd ⟨nl, fun i => st i % 32, af⟩ (min N 64) B (min (max most 0) 1048576) sl w v w' ∧ g = G (c.finish v) cs) (G (Frame.enter Try.prog 23 #[.slice oa N oc, .slice sa sl.length sc, .int .i64 most] .normal) (c :: cs)) w := by
  have hBlt : B < w.heap.size := (Array.getElem?_eq_some_iff.1 hB).1
  rcases Nat.eq_zero_or_pos N with hN | hN
  · subst hN
    obtain ⟨rfl, rfl⟩ := M.z rfl
    refine Runs.walk (over_zero sa sl.length sc most (.slice none 0 0) c cs w (first_none w) fun hm => ?_) ?_
    · obtain ⟨s, so, e, _, hc⟩ := hsch 0 sl[0] (List.getElem?_eq_getElem hm)
      exact ⟨s, so, _, e, old_cell M.old hc⟩
    · rintro _ w' ⟨rfl, d, rfl⟩
      have hs1 : (turnW w 0 most).heap.size = w.heap.size + 1 := by simp [turnW]
      have hk : ∀ b, b < w.heap.size → (((turnW w 0 most).alloc (.cells (madeCells #[.bool false] 0) 4)).at d).heap[b]? = w.heap[b]? := fun b hb => (heap_new_lt _ _ (by rw [hs1]; omega)).trans (heap_new_lt w _ hb)
      refine .now ⟨_, ⟨⟨none, 0, w.heap.size + 1, none, 0, madeCells #[.bool false] 0, ?_, ?_, ?_, ?_, ?_, fun i hi => ?_, Nat.le_succ _⟩, ?_, fun b hb _ => hk b hb⟩, rfl⟩
      · rw [show min 0 64 = 0 from rfl, overW_zero]; rfl
      · rw [show min 0 64 = 0 from rfl, overW_zero]; exact row_nil _ _ _ _
      · rw [show min 0 64 = 0 from rfl, overW_zero]; exact (hk B hBlt).trans hB
      · rw [show min 0 64 = 0 from rfl, overW_zero]; exact row_nil _ _ _ _
      · rw [← hs1]; exact heap_alloc_new _ _
      · exact absurd hi (Nat.not_lt_zero _)
      · show w.heap.size ≤ ((turnW w 0 most).alloc _).heap.size
        simp [turnW]; omega
  obtain ⟨tb, tcap, e, hcap, _, _, _⟩ := row_cell M.row (j := 0) (x := thrOf nl W 0) (by rw [List.getElem?_map, List.getElem?_range hN]; rfl)
  injection e with e1 _ e3
  subst e1 e3
  have hnN : min N 64 ≤ N := Nat.min_le_left _ _
  have hn64 : min N 64 ≤ 64 := Nat.min_le_right _ _
  have hn1 : 1 ≤ min N 64 := by omega
  have htb : ∀ i, i < N → w.cell? ⟨tb, i, none⟩ = some (thrOf nl W i) := fun i hi => by
    obtain ⟨g, cap, e, _, _, _, h⟩ := row_cell M.row (j := i) (x := thrOf nl W i) (by rw [List.getElem?_map, List.getElem?_range hi]; rfl)
    injection e with e _ _
    injection e with e
    injection e with e
    rw [e]; exact h
  have htbo := row_at M.row (g := tb) rfl
  have htB : tb ≠ B := fun e => by
    obtain ⟨_, _, cur, h⟩ := htbo
    rw [e, hB] at h
    injection h with h
    injection h with _ h _
    cases h
  have hWB : ∀ i, i < N → nl i = false → W i ≠ B := fun i hi hn e => by
    have := (M.wk i hi hn).1
    rw [e, hB] at this
    injection this with h
    injection h with _ h _
    cases h
  generalize hn : min N 64 = n at *
  let ro : Nat → Option Obj := fun b => if b < w.heap.size ∧ b ≠ B ∧ ¬ ∃ i, i < n ∧ nl i = false ∧ b = W i then w.heap[b]? else none
  let κ : Nat → Option WR := fun b => if h : ∃ i, i < n ∧ nl i = false ∧ b = W i then some (.wk h.choose) else if b = B then some .bd else if b < w.heap.size then some .ro else none
  have kW : ∀ i, i < n → nl i = false → κ (W i) = some (.wk i) := fun i hi hni => by
    have h : ∃ j, j < n ∧ nl j = false ∧ W i = W j := ⟨i, hi, hni, rfl⟩
    show (if h : ∃ j, j < n ∧ nl j = false ∧ W i = W j then some (WR.wk h.choose) else _) = _
    rw [dif_pos h]
    obtain ⟨h1, h2, h3⟩ := h.choose_spec
    have := M.inj i h.choose (by omega) (by omega) hni h2 h3
    rw [← this]
  have kO : ∀ b, (¬ ∃ i, i < n ∧ nl i = false ∧ b = W i) → κ b = if b = B then some .bd else if b < w.heap.size then some .ro else none := fun b hb => dif_neg hb
  have kB : κ B = some .bd := by
    rw [kO B (fun ⟨i, hi, hni, e⟩ => hWB i (by omega) hni e.symm), if_pos rfl]
  have kR : ∀ b, b < w.heap.size → b ≠ B → (¬ ∃ i, i < n ∧ nl i = false ∧ b = W i) → κ b = some .ro := fun b h1 h2 h3 => by
    rw [kO b h3, if_neg h2, if_pos h1]
  have kS : ∀ s, s < w0.heap.size → s ≠ B → κ s = some .ro := fun s hs hsB => kR s (Nat.lt_of_lt_of_le hs M.old.size) hsB fun ⟨i, hi, hni, e⟩ => by
    have := (M.wk i (by omega) hni).2; omega
  have kL : ∀ b r, κ b = some r → b < w.heap.size := fun b r h => by
    by_cases hb : ∃ i, i < n ∧ nl i = false ∧ b = W i
    · obtain ⟨i, hi, hni, rfl⟩ := hb
      exact (Array.getElem?_eq_some_iff.1 (M.wk i (by omega) hni).1).1
    · rw [kO b hb] at h
      by_cases e : b = B
      · rw [e]; exact hBlt
      · rw [if_neg e] at h
        by_cases hlt : b < w.heap.size
        · exact hlt
        · rw [if_neg hlt] at h; cases h
  refine Runs.then (over_run (fun S => crewW (wgOf n B W ⟨nl, fun i => st i % 32, af⟩ ro) S) wx0 (givenW nl W n tb oc most sa sc sl) (.slice (some ⟨tb, 0, none⟩) N oc) w hn1 hn64 hsl (fun _ => rfl) (by
      have := first_some (main := true) (V := fun _ => none) tb N oc w hcap
      rw [hn] at this
      exact this) (fun g0 sb scap sts => ⟨fun _ => [], κ, none, 0, fun _ _ => undef, ?_⟩) c cs) ?_
  · refine ⟨fun b r h => ⟨rfl, kL b r h⟩, rfl, fun i hi hni => (M.wk i (Nat.lt_of_lt_of_le hi hnN) hni).1, hB, row_nil _ _ _ _, kW, kB, (fun b h => by cases h), kR tb htbo.2.1 htB fun ⟨i, hi, hni, e⟩ => M.ne (Nat.lt_of_lt_of_le hi hnN) hni rfl e.symm, fun i hi => htb i (Nat.lt_of_lt_of_le hi hnN), fun j z hz => ?_, fun i hi => rfl, fun i => ⟨Int.emod_nonneg _ (by decide), Int.emod_lt_of_pos _ (by decide)⟩, rfl, fun i _ h => absurd h (Nat.not_lt_zero _), fun _ _ _ => rfl, Nat.zero_le _, fun b ob h => ?_⟩
    · obtain ⟨s, so, e, hsB, hc⟩ := hsch j z hz
      exact ⟨s, so, e, kS s (cell_lt w0 hc) hsB, old_cell M.old hc⟩
    · have h : (if b < w.heap.size ∧ b ≠ B ∧ ¬ ∃ i, i < n ∧ nl i = false ∧ b = W i then w.heap[b]? else none) = some ob := h
      by_cases hb : b < w.heap.size ∧ b ≠ B ∧ ¬ ∃ i, i < n ∧ nl i = false ∧ b = W i
      · rw [if_pos hb] at h
        exact ⟨kR b hb.1 hb.2.1 hb.2.2, h⟩
      · rw [if_neg hb] at h; cases h
  rintro _ w' ⟨_, ⟨g0, sb, scap, sts, x, ord, oa', oc', q, k, own, csx, hx, hov, rfl, hinv, hrow, _, _, hq, hsz, arr, hqa, hqi⟩, rfl⟩
  obtain ⟨κ', la, cap, us, P⟩ := hinv
  have hX : (x, ord) = overW ⟨nl, fun i => st i % 32, af⟩ n (min (max most 0) 1048576) sl := by
    rw [hx, follow_abs, born_abs]
    rfl
  have hlist : x.list = ord := by
    have := (pw_run (s := ⟨nl, fun i => st i % 32, af⟩) (n := n) (fun i => Int.emod_lt_of_pos _ (by decide)) (min (max most 0) 1048576) sl).list
    rw [← hX] at this
    exact this
  have hbd := P.bd
  have hbr := P.row
  rw [hlist] at hbd hbr
  refine .now ⟨_, ⟨⟨oa', oc', q, la, cap, arr, ?_, ?_, ?_, ?_, hqa, fun i hi => ?_, hq⟩, hsz, fun b hb hbB => ?_⟩, rfl⟩
  · rw [← hX]; rfl
  · rw [← hX]; exact hrow
  · rw [← hX]; exact hbd
  · rw [← hX]; exact hbr
  · rw [← hX]; exact hqi i hi
  · by_cases hw : ∃ i, i < n ∧ nl i = false ∧ b = W i
    · obtain ⟨i, hi, hni, rfl⟩ := hw
      exact (P.wk i hi hni).trans (M.wk i (by omega) hni).1.symm
    · have hro : ro b = w.heap[b]? := if_pos ⟨hb, hbB, hw⟩
      have h := (P.rr b (w.heap[b]) (by rw [show (wgOf n B W ⟨nl, fun i => st i % 32, af⟩ ro).ro b = ro b from rfl, hro]; exact Array.getElem?_eq_getElem hb)).2
      rw [h]; exact (Array.getElem?_eq_getElem hb).symm
end
end Go.Proofs.Ytgiiicdpbdfemaa
end

/- The statement's side: TurnMost, up to its second run. -/
section
namespace Go.Proofs.Ytgiiicdpbdfemaa
open Go.Conc Go.RowKit Go.Relay
open Go.ConcN (upd upd_ne upd_same)

noncomputable def reg7_0 : Array Oper := match Try.f7.body with | some (.seq (.region _ ops _) _) => ops | _ => #[]
theorem size7_0 : reg7_0.size = 1 := by kernel_rfl
noncomputable def reg7_1 : Array Oper := match Try.f7.body with | some (.seq _ (.seq (.seq (.region _ ops _) _) _)) => ops | _ => #[]
theorem size7_1 : reg7_1.size = 2 := by kernel_rfl
noncomputable def reg7_2 : Array Oper := match Try.f7.body with | some (.seq _ (.seq (.seq _ (.cond _ (.seq (.region _ ops _) _) _)) _)) => ops | _ => #[]
theorem size7_2 : reg7_2.size = 1 := by kernel_rfl
noncomputable def reg7_3 : Array Oper := match Try.f7.body with | some (.seq _ (.seq _ (.seq (.region _ ops _) _))) => ops | _ => #[]
theorem size7_3 : reg7_3.size = 3 := by kernel_rfl
noncomputable def reg7_4 : Array Oper := match Try.f7.body with | some (.seq _ (.seq _ (.seq _ (.seq (.region _ ops _) _)))) => ops | _ => #[]
theorem size7_4 : reg7_4.size = 3 := by kernel_rfl
noncomputable def reg7_5 : Array Oper := match Try.f7.body with | some (.seq _ (.seq _ (.seq _ (.seq _ (.seq (.region _ ops _) _))))) => ops | _ => #[]
theorem size7_5 : reg7_5.size = 12 := by kernel_rfl
noncomputable def reg7_6 : Array Oper := match Try.f7.body with | some (.seq _ (.seq _ (.seq _ (.seq _ (.seq _ (.seq (.region _ ops _) _)))))) => ops | _ => #[]
theorem size7_6 : reg7_6.size = 13 := by kernel_rfl
noncomputable def reg7_7 : Array Oper := match Try.f7.body with | some (.seq _ (.seq _ (.seq _ (.seq _ (.seq _ (.seq _ (.seq (.region _ ops _) _))))))) => ops | _ => #[]
theorem size7_7 : reg7_7.size = 6 := by kernel_rfl
noncomputable def reg7_8 : Array Oper := match Try.f7.body with | some (.seq _ (.seq _ (.seq _ (.seq _ (.seq _ (.seq _ (.seq _ (.seq (.seq (.region _ ops _) _) _)))))))) => ops | _ => #[]
theorem size7_8 : reg7_8.size = 30 := by kernel_rfl
noncomputable def reg7_9 : Array Oper := match Try.f7.body with | some (.seq _ (.seq _ (.seq _ (.seq _ (.seq _ (.seq _ (.seq _ (.seq (.seq _ (.cond _ (.seq (.region _ ops _) _) _)) _)))))))) => ops | _ => #[]
theorem size7_9 : reg7_9.size = 1 := by kernel_rfl
noncomputable def reg7_10 : Array Oper := match Try.f7.body with | some (.seq _ (.seq _ (.seq _ (.seq _ (.seq _ (.seq _ (.seq _ (.seq _ (.seq (.seq (.region _ ops _) _) _))))))))) => ops | _ => #[]
theorem size7_10 : reg7_10.size = 1 := by kernel_rfl
noncomputable def reg7_11 : Array Oper := match Try.f7.body with | some (.seq _ (.seq _ (.seq _ (.seq _ (.seq _ (.seq _ (.seq _ (.seq _ (.seq (.seq _ (.block _ (.loop (.seq (.seq (.region _ ops _) _) _)))) _))))))))) => ops | _ => #[]
theorem size7_11 : reg7_11.size = 4 := by kernel_rfl
noncomputable def reg7_13 : Array Oper := match Try.f7.body with | some (.seq _ (.seq _ (.seq _ (.seq _ (.seq _ (.seq _ (.seq _ (.seq _ (.seq (.seq _ (.block _ (.loop (.seq _ (.seq (.block _ (.seq (.region _ ops _) _)) _))))) _))))))))) => ops | _ => #[]
theorem size7_13 : reg7_13.size = 26 := by kernel_rfl
noncomputable def reg7_14 : Array Oper := match Try.f7.body with | some (.seq _ (.seq _ (.seq _ (.seq _ (.seq _ (.seq _ (.seq _ (.seq _ (.seq (.seq _ (.block _ (.loop (.seq _ (.seq (.block _ (.seq _ (.cond _ (.seq (.region _ ops _) _) _))) _))))) _))))))))) => ops | _ => #[]
theorem size7_14 : reg7_14.size = 1 := by kernel_rfl
noncomputable def reg7_12 : Array Oper := match Try.f7.body with | some (.seq _ (.seq _ (.seq _ (.seq _ (.seq _ (.seq _ (.seq _ (.seq _ (.seq (.seq _ (.block _ (.loop (.seq _ (.seq _ (.region _ ops _)))))) _))))))))) => ops | _ => #[]
theorem size7_12 : reg7_12.size = 3 := by kernel_rfl
noncomputable def reg7_15 : Array Oper := match Try.f7.body with | some (.seq _ (.seq _ (.seq _ (.seq _ (.seq _ (.seq _ (.seq _ (.seq _ (.seq _ (.seq (.region _ ops _) _)))))))))) => ops | _ => #[]
theorem size7_15 : reg7_15.size = 1 := by kernel_rfl
theorem code7_is : Try.f7.body = some (.seq (.region 0 reg7_0 false) (.seq (.seq (.region 1 reg7_1 false) (.cond (.tmp 18 ) (.seq (.region 2 reg7_2 false) (.ret)) (.skip))) (.seq (.region 3 reg7_3 false) (.seq (.region 4 reg7_4 false) (.seq (.region 5 reg7_5 false) (.seq (.region 6 reg7_6 false) (.seq (.region 7 reg7_7 false) (.seq (.seq (.region 8 reg7_8 false) (.cond (.tmp 76 ) (.seq (.region 9 reg7_9 false) (.ret)) (.skip))) (.seq (.seq (.region 10 reg7_10 false) (.block 0 (.loop (.seq (.seq (.region 11 reg7_11 false) (.cond (.tmp 80 ) (.skip) (.exit 0))) (.seq (.block 1 (.seq (.region 13 reg7_13 true) (.cond (.tmp 108 ) (.seq (.region 14 reg7_14 false) (.ret)) (.skip)))) (.region 12 reg7_12 false)))))) (.seq (.region 15 reg7_15 false) (.ret))))))))))) := by kernel_rfl

noncomputable def at7 (lv sv v1 v2 v3 v4 v5 v6 v7 v8 v9 : Value) (u : Nat → Value) : Frame :=
  (base 7).at { tmps := #[lv, sv, v1, u 3, u 4, u 5, .bool false, v2, v3, v4, u 10, v5, v6, v7, v8, v9, u 16, u 17, u 18, u 19, u 20, u 21, u 22, u 23, u 24, u 25, u 26, u 27, u 28, u 29, u 30, u 31, u 32, u 33, u 34, u 35, u 36, u 37, u 38, u 39, u 40, u 41, u 42, u 43, u 44, u 45, u 46, u 47, u 48, u 49, u 50, u 51, u 52, u 53, u 54, u 55, u 56, u 57, u 58, u 59, u 60, u 61, u 62, u 63, u 64, u 65, u 66, u 67, u 68, u 69, u 70, u 71, u 72, u 73, u 74, u 75, u 76, u 77, u 78, u 79, u 80, u 81, u 82, u 83, u 84, u 85, u 86, u 87, u 88, u 89, u 90, u 91, u 92, u 93, u 94, u 95, u 96, u 97, u 98, u 99, u 100, u 101, u 102, u 103, u 104, u 105, u 106, u 107, u 108], defers := [] } [.code (.seq (.region 7 reg7_7 false) (.seq (.seq (.region 8 reg7_8 false) (.cond (.tmp 76 ) (.seq (.region 9 reg7_9 false) (.ret)) (.skip))) (.seq (.seq (.region 10 reg7_10 false) (.block 0 (.loop (.seq (.seq (.region 11 reg7_11 false) (.cond (.tmp 80 ) (.skip) (.exit 0))) (.seq (.block 1 (.seq (.region 13 reg7_13 true) (.cond (.tmp 108 ) (.seq (.region 14 reg7_14 false) (.ret)) (.skip)))) (.region 12 reg7_12 false)))))) (.seq (.region 15 reg7_15 false) (.ret)))))]

/-- Two runs of the same walks: with the greatest most, and with another; what they have left. -/
structure Two (s : Wlk) (n : Nat) (m : Int) (sl : List Int) (Bb : Nat) (oa1 : Option Addr) (oc1 q1 : Nat) (arr1 : Array Value) (oa2 : Option Addr) (oc2 q2 : Nat) (arr2 : Array Value) (la : Option Addr) (cap : Nat) (W w : World) : Prop where
  o1 : w.ownsRow W.heap.size 3 1 (.slice oa1 (overW s n 1048576 sl).2.length oc1) (overW s n 1048576 sl).2.length (numbs (overW s n 1048576 sl).2)
  o2 : w.ownsRow W.heap.size 3 1 (.slice oa2 (overW s n m sl).2.length oc2) (overW s n m sl).2.length (numbs (overW s n m sl).2)
  q1 : w.heap[q1]? = some (.cells arr1 4 (0, 0))
  a1 : ∀ i, i < n → arr1[i]? = some (.bool ((overW s n 1048576 sl).1.out i == some true))
  q2 : w.heap[q2]? = some (.cells arr2 4 (0, 0))
  a2 : ∀ i, i < n → arr2[i]? = some (.bool ((overW s n m sl).1.out i == some true))
  bd : w.heap[Bb]? = some (.cells #[.slice la (overW s n m sl).2.length cap] 49)
  br : w.ownsRow 0 3 1 (.slice la (overW s n m sl).2.length cap) (overW s n m sl).2.length (numbs (overW s n m sl).2)
  old : Old W w

theorem max_min_big : min (max (1048576 : Int) 0) 1048576 = 1048576 := by decide

theorem Mde.at {B : Nat} {st af : Nat → Int} {nl : Nat → Bool} {w0 w : World} {oa : Option Addr} {oc i : Nat} {W : Nat → Nat} (M : Mde B st af nl w0 w oa oc i W) (d : Nat) : Mde B st af nl w0 (w.at d) oa oc i W := ⟨⟨M.old.size, M.old.same⟩, M.row, M.wk, M.inj, M.z⟩

set_option maxHeartbeats 8000000 in
set_option maxRecDepth 100000 in
theorem most_first (la : Option Addr) (N cap : Nat) (st af : Nat → Int) (nl : Nat → Bool) (sa : Option Addr) (sc : Nat) (sl : List Int) (most : Int) (W : World) (hN : N ≤ 8796093022208) (hsl : sl.length ≤ 17592186044416) (hl : WalksAt la N st af nl W)
    (hs : ∀ (j : Nat) (z : Int), sl[j]? = some z → ∃ s so, sa = some ⟨s, so, none⟩ ∧ W.cell? ⟨s, so + j, none⟩ = some (.int .i64 z)) :
    Runs (fun g w => ∃ Ba Bb oa1 oc1 q1 arr1 oa2 oc2 q2 arr2 la2 cap2, Two ⟨nl, fun i => st i % 32, af⟩ (min N 64) (min (max most 0) 1048576) sl Bb oa1 oc1 q1 arr1 oa2 oc2 q2 arr2 la2 cap2 W w ∧
      ∃ u, g = G (at7 (.slice la N cap) (.slice sa sl.length sc) (.int .i64 most) (.pointer (some ⟨Ba, 0, none⟩)) (.pointer (some ⟨Bb, 0, none⟩)) (.slice oa1 (overW ⟨nl, fun i => st i % 32, af⟩ (min N 64) 1048576 sl).2.length oc1) (.slice (some ⟨q1, 0, none⟩) (min N 64) (min N 64)) (.slice oa2 (overW ⟨nl, fun i => st i % 32, af⟩ (min N 64) (min (max most 0) 1048576) sl).2.length oc2)
        (.bool (decide (0 < goingW (min N 64) (overW ⟨nl, fun i => st i % 32, af⟩ (min N 64) (min (max most 0) 1048576) sl).1))) (.slice (some ⟨q2, 0, none⟩) (min N 64) (min N 64)) undef u) [])
      (G (Frame.enter Try.prog 7 #[.slice la N cap, .slice sa sl.length sc, .int .i64 most] .normal) []) W := by
  refine Runs.go ?_
  rw [enter_at _ Try.func7 code7_is]
  simp only [Try.ntmps7, List.size_toArray, List.length_cons, List.length_nil, Nat.reduceAdd, Nat.reduceSub, Array.replicate_succ, Array.replicate_zero, List.push_toArray, List.append_toArray, List.nil_append, List.cons_append]
  repeat (first | (refine Walk.c rfl ?_) | (refine Walk.cRet ?_) | (refine Walk.cEnd ?_) | (refine Walk.cReg ?_; simp only [size7_0, size7_1, size7_2, size7_3, size7_4, size7_5, size7_6, size7_7, size7_8, size7_9, size7_10, size7_11, size7_13, size7_14, size7_12, size7_15, List.range, List.range.loop]) | (refine Walk.opq (ho_of (by conv => lhs; whnf) (by kernel_rfl)) (by rfl) (by decide) (fun dd e he => ?_) (fun dd K hK => ?_); (· (simp [go_sem, *] at he; try (subst he; exact evR_read _ _))); go_simp; refine hK _ ?_; clear hK K; try walk_nrm) | (refine Walk.ctl rfl (fun w => stepG_unwanted (ho_of (by conv => lhs; whnf) (by kernel_rfl)) (by rfl)) ?_; walk_nrm))
  refine Walk.callE (ho_of (by conv => lhs; whnf) (by kernel_rfl)) (by rfl) (by decide) rfl Try.func13 (by kernel_rfl) (by rfl) ?_
  refine .stop fun d => ?_
  walk_nrm
  refine Runs.then (awake_run _ _ (W.at d)) ?_
  rintro _ w1 ⟨O1, rfl⟩
  have O1 := Old.un d O1
  refine Runs.go ?_
  refine Walk.finish (ho_of (by conv => lhs; whnf) (by kernel_rfl)) ?_
  walk_nrm
  repeat (first | (refine Walk.c rfl ?_) | (refine Walk.cRet ?_) | (refine Walk.cEnd ?_) | (refine Walk.cReg ?_; simp only [size7_0, size7_1, size7_2, size7_3, size7_4, size7_5, size7_6, size7_7, size7_8, size7_9, size7_10, size7_11, size7_13, size7_14, size7_12, size7_15, List.range, List.range.loop]) | (refine Walk.opq (ho_of (by conv => lhs; whnf) (by kernel_rfl)) (by rfl) (by decide) (fun dd e he => ?_) (fun dd K hK => ?_); (· (simp [go_sem, *] at he; try (subst he; exact evR_read _ _))); go_simp; refine hK _ ?_; clear hK K; try walk_nrm) | (refine Walk.ctl rfl (fun w => stepG_unwanted (ho_of (by conv => lhs; whnf) (by kernel_rfl)) (by rfl)) ?_; walk_nrm))
  (co_applyP Walk.opw (ho_of (by conv => lhs; whnf) (by kernel_rfl)) (by rfl) (by decide) ?wev1 ?wdr1 ?wrun1; (case' wrun1 => (intro dd K hK; go_simp; simp only [alloc_at', setCell_at']; refine hK _ ?wmore1; clear hK K)); (case wdr1 => exact fun dd es hes => DR.alloc' dd es hes); (case wev1 => (intro dd e he; simp [go_sem, *] at he)); try walk_nrm)
  have hBa := heap_alloc_new w1 (.cells #[.slice none 0 0] 49)
  have O2 := O1.trans (old_alloc w1 (.cells #[.slice none 0 0] 49))
  have gBa := O1.size
  have lBa : w1.heap.size < (w1.alloc (.cells #[.slice none 0 0] 49)).heap.size := by simp
  clear O1
  generalize w1.heap.size = Ba at *
  generalize w1.alloc (.cells #[.slice none 0 0] 49) = w2 at *
  repeat (first | (refine Walk.c rfl ?_) | (refine Walk.cRet ?_) | (refine Walk.cEnd ?_) | (refine Walk.cReg ?_; simp only [size7_0, size7_1, size7_2, size7_3, size7_4, size7_5, size7_6, size7_7, size7_8, size7_9, size7_10, size7_11, size7_13, size7_14, size7_12, size7_15, List.range, List.range.loop]) | (refine Walk.opq (ho_of (by conv => lhs; whnf) (by kernel_rfl)) (by rfl) (by decide) (fun dd e he => ?_) (fun dd K hK => ?_); (· (simp [go_sem, *] at he; try (subst he; exact evR_read _ _))); go_simp; refine hK _ ?_; clear hK K; try walk_nrm) | (refine Walk.ctl rfl (fun w => stepG_unwanted (ho_of (by conv => lhs; whnf) (by kernel_rfl)) (by rfl)) ?_; walk_nrm))
  (co_applyP Walk.opw (ho_of (by conv => lhs; whnf) (by kernel_rfl)) (by rfl) (by decide) ?wev2 ?wdr2 ?wrun2; (case' wrun2 => (intro dd K hK; go_simp; simp only [alloc_at', setCell_at']; refine hK _ ?wmore2; clear hK K)); (case wdr2 => exact fun dd es hes => DR.alloc' dd es hes); (case wev2 => (intro dd e he; simp [go_sem, *] at he)); try walk_nrm)
  have hBb := heap_alloc_new w2 (.cells #[.slice none 0 0] 49)
  have o3 := old_alloc w2 (.cells #[.slice none 0 0] 49)
  have lBb : w2.heap.size < (w2.alloc (.cells #[.slice none 0 0] 49)).heap.size := by simp
  have hBa3 := (o3.same Ba lBa).trans hBa
  have nab : Ba ≠ w2.heap.size := by omega
  have gBb : W.heap.size ≤ w2.heap.size := O2.size
  have O3 := O2.trans o3
  clear o3 O2 hBa lBa
  generalize w2.heap.size = Bb at *
  generalize w2.alloc (.cells #[.slice none 0 0] 49) = w3 at *
  repeat (first | (refine Walk.c rfl ?_) | (refine Walk.cRet ?_) | (refine Walk.cEnd ?_) | (refine Walk.cReg ?_; simp only [size7_0, size7_1, size7_2, size7_3, size7_4, size7_5, size7_6, size7_7, size7_8, size7_9, size7_10, size7_11, size7_13, size7_14, size7_12, size7_15, List.range, List.range.loop]) | (refine Walk.opq (ho_of (by conv => lhs; whnf) (by kernel_rfl)) (by rfl) (by decide) (fun dd e he => ?_) (fun dd K hK => ?_); (· (simp [go_sem, *] at he; try (subst he; exact evR_read _ _))); go_simp; refine hK _ ?_; clear hK K; try walk_nrm) | (refine Walk.ctl rfl (fun w => stepG_unwanted (ho_of (by conv => lhs; whnf) (by kernel_rfl)) (by rfl)) ?_; walk_nrm))
  have hl3 := hl.old O3
  refine Walk.callW (Post := fun v w' => ∃ oa oc Wf, v = .slice oa N oc ∧ Mde Ba st af nl w3 w' oa oc N Wf) ?_ (ho_of (by conv => lhs; whnf) (by kernel_rfl)) (by rfl) (by decide) rfl Try.func24 (by kernel_rfl) (by rfl) ?_
  · walk_nrm
    exact walkers24_w la cap N hN w3 hl3 fun b _ => apart0 b
  rintro v w4 ⟨oaW, ocW, Wf, rfl, M1⟩
  walk_nrm
  repeat (first | (refine Walk.c rfl ?_) | (refine Walk.cRet ?_) | (refine Walk.cEnd ?_) | (refine Walk.cReg ?_; simp only [size7_0, size7_1, size7_2, size7_3, size7_4, size7_5, size7_6, size7_7, size7_8, size7_9, size7_10, size7_11, size7_13, size7_14, size7_12, size7_15, List.range, List.range.loop]) | (refine Walk.opq (ho_of (by conv => lhs; whnf) (by kernel_rfl)) (by rfl) (by decide) (fun dd e he => ?_) (fun dd K hK => ?_); (· (simp [go_sem, *] at he; try (subst he; exact evR_read _ _))); go_simp; refine hK _ ?_; clear hK K; try walk_nrm) | (refine Walk.ctl rfl (fun w => stepG_unwanted (ho_of (by conv => lhs; whnf) (by kernel_rfl)) (by rfl)) ?_; walk_nrm))
  refine Walk.callE (ho_of (by conv => lhs; whnf) (by kernel_rfl)) (by rfl) (by decide) rfl Try.func23 (by kernel_rfl) (by rfl) ?_
  refine .stop fun d4 => ?_
  walk_nrm
  have hBa4 := (M1.old.same Ba (Array.getElem?_eq_some_iff.1 hBa3).1).trans hBa3
  refine Runs.then (over_walkers (M1.at d4) hBa4 sa sc sl 1048576 hsl (fun j z hz => by
    obtain ⟨s, so, e, hc⟩ := hs j z hz
    exact ⟨s, so, e, by have := cell_lt W hc; simp only at this; omega, old_cell O3 hc⟩) _ []) ?_
  rintro _ w5 ⟨_, ⟨⟨oa1, oc1, q1, _, _, arr1, rfl, r1, _, _, h1, a1, g1⟩, z5, k5⟩, rfl⟩
  rw [max_min_big] at r1 a1
  have o45 : w4.heap.size ≤ w5.heap.size := z5
  have k45 : ∀ b, b < w4.heap.size → b ≠ Ba → w5.heap[b]? = w4.heap[b]? := k5
  have g1 : w4.heap.size ≤ q1 := g1
  have r1 : w5.ownsRow w4.heap.size 3 1 (.slice oa1 (overW ⟨nl, fun i => st i % 32, af⟩ (min N 64) 1048576 sl).2.length oc1) (overW ⟨nl, fun i => st i % 32, af⟩ (min N 64) 1048576 sl).2.length (numbs (overW ⟨nl, fun i => st i % 32, af⟩ (min N 64) 1048576 sl).2) := r1
  clear k5 z5
  have O5 : Old W w5 := ⟨by have := O3.size; have := M1.old.size; omega, fun b hb => by
    have h1 := O3.size
    have h2 := M1.old.size
    exact (k45 b (by omega) (by omega)).trans ((M1.old.same b (by omega)).trans (O3.same b hb))⟩
  have lb3 := (Array.getElem?_eq_some_iff.1 hBb).1
  have hBb5 : w5.heap[Bb]? = some (.cells #[.slice none 0 0] 49) := (k45 Bb (by have := M1.old.size; omega) (Ne.symm nab)).trans ((M1.old.same Bb lb3).trans hBb)
  have m34 := M1.old.size
  have m3 := O3.size
  clear M1 hBa4 hBa3 hBb lb3 O3 hl3 k45
  refine Runs.go ?_
  refine Walk.finish (ho_of (by conv => lhs; whnf) (by kernel_rfl)) ?_
  walk_nrm
  generalize hF : overW ⟨nl, fun i => st i % 32, af⟩ (min N 64) 1048576 sl = F at *
  rw [max_min_big, hF]
  generalize decide (0 < goingW (min N 64) F.1) = stk
  repeat (first | (refine Walk.c rfl ?_) | (refine Walk.cRet ?_) | (refine Walk.cEnd ?_) | (refine Walk.cReg ?_; simp only [size7_0, size7_1, size7_2, size7_3, size7_4, size7_5, size7_6, size7_7, size7_8, size7_9, size7_10, size7_11, size7_13, size7_14, size7_12, size7_15, List.range, List.range.loop]) | (refine Walk.opq (ho_of (by conv => lhs; whnf) (by kernel_rfl)) (by rfl) (by decide) (fun dd e he => ?_) (fun dd K hK => ?_); (· (simp [go_sem, *] at he; try (subst he; exact evR_read _ _))); go_simp; refine hK _ ?_; clear hK K; try walk_nrm) | (refine Walk.ctl rfl (fun w => stepG_unwanted (ho_of (by conv => lhs; whnf) (by kernel_rfl)) (by rfl)) ?_; walk_nrm))
  have hl5 := hl.old O5
  refine Walk.callW (Post := fun v w' => ∃ oa oc Wf, v = .slice oa N oc ∧ Mde Bb st af nl w5 w' oa oc N Wf) ?_ (ho_of (by conv => lhs; whnf) (by kernel_rfl)) (by rfl) (by decide) rfl Try.func24 (by kernel_rfl) (by rfl) ?_
  · walk_nrm
    exact walkers24_w la cap N hN w5 hl5 fun b _ => apart0 b
  rintro v w6 ⟨oaV, ocV, Wg, rfl, M2⟩
  walk_nrm
  repeat (first | (refine Walk.c rfl ?_) | (refine Walk.cRet ?_) | (refine Walk.cEnd ?_) | (refine Walk.cReg ?_; simp only [size7_0, size7_1, size7_2, size7_3, size7_4, size7_5, size7_6, size7_7, size7_8, size7_9, size7_10, size7_11, size7_13, size7_14, size7_12, size7_15, List.range, List.range.loop]) | (refine Walk.opq (ho_of (by conv => lhs; whnf) (by kernel_rfl)) (by rfl) (by decide) (fun dd e he => ?_) (fun dd K hK => ?_); (· (simp [go_sem, *] at he; try (subst he; exact evR_read _ _))); go_simp; refine hK _ ?_; clear hK K; try walk_nrm) | (refine Walk.ctl rfl (fun w => stepG_unwanted (ho_of (by conv => lhs; whnf) (by kernel_rfl)) (by rfl)) ?_; walk_nrm))
  refine Walk.callE (ho_of (by conv => lhs; whnf) (by kernel_rfl)) (by rfl) (by decide) rfl Try.func23 (by kernel_rfl) (by rfl) ?_
  refine .stop fun d6 => ?_
  walk_nrm
  have hBb6 := (M2.old.same Bb (Array.getElem?_eq_some_iff.1 hBb5).1).trans hBb5
  refine Runs.then (over_walkers (M2.at d6) hBb6 sa sc sl most hsl (fun j z hz => by
    obtain ⟨s, so, e, hc⟩ := hs j z hz
    exact ⟨s, so, e, by have := cell_lt W hc; simp only at this; omega, old_cell O5 hc⟩) _ []) ?_
  rintro _ w7 ⟨_, ⟨⟨oa2, oc2, q2, la2, cap2, arr2, rfl, r2, b2, br2, h2, a2, g2⟩, z7, k7⟩, rfl⟩
  have k67 : ∀ b, b < w6.heap.size → b ≠ Bb → w7.heap[b]? = w6.heap[b]? := k7
  have o67 : w6.heap.size ≤ w7.heap.size := z7
  have o56 := M2.old.size
  have hBb5l := (Array.getElem?_eq_some_iff.1 hBb5).1
  have k57 : ∀ b, b < w5.heap.size → b ≠ Bb → w7.heap[b]? = w5.heap[b]? := fun b hb hne => (k67 b (by omega) hne).trans (M2.old.same b hb)
  have nB : ∀ b cur t, w5.heap[b]? = some (.cells cur t (0, 0)) → t ≠ 49 → b ≠ Bb := fun b cur t h ht e => by
    rw [e, hBb5] at h
    injection h with h
    injection h with _ h _
    exact ht h.symm
  have hT : Two ⟨nl, fun i => st i % 32, af⟩ (min N 64) (min (max most 0) 1048576) sl Bb oa1 oc1 q1 arr1 oa2 oc2 q2 arr2 la2 cap2 W w7 := by
    refine ⟨?_, ?_, (k57 q1 (Array.getElem?_eq_some_iff.1 h1).1 (nB _ _ _ h1 (by decide))).trans h1, fun i hi => by rw [hF]; exact a1 i hi, h2, a2, b2, br2, ⟨by have := O5.size; omega, fun b hb => (k57 b (by have := O5.size; omega) (by omega)).trans (O5.same b hb)⟩⟩
    · rw [hF]
      refine row_mono (row_same r1 fun g hg => ?_) (by omega)
      obtain ⟨_, hg2, cur, hg3⟩ := row_at r1 hg
      exact k57 g hg2 (nB _ _ _ hg3 (by decide))
    · refine row_mono r2 ?_
      show W.heap.size ≤ w6.heap.size
      have := O5.size
      omega
  clear k7 z7 k67 k57 nB r1 r2 b2 br2 h2 a2 h1 a1 M2 hBb6 hBb5 O5 hl5
  refine Runs.go ?_
  refine Walk.finish (ho_of (by conv => lhs; whnf) (by kernel_rfl)) ?_
  walk_nrm
  generalize hAA : overW ⟨nl, fun i => st i % 32, af⟩ (min N 64) (min (max most 0) 1048576) sl = A at *
  generalize hstk : decide (0 < goingW (min N 64) A.1) = stk2 at *
  repeat (first | (refine Walk.opq (ho_of (by conv => lhs; whnf) (by kernel_rfl)) (by rfl) (by decide) (fun dd e he => ?_) (fun dd K hK => ?_); (· (simp [go_sem, *] at he; try (subst he; exact evR_read _ _))); go_simp; refine hK _ ?_; clear hK K; try walk_nrm) | (refine Walk.ctl rfl (fun w => stepG_unwanted (ho_of (by conv => lhs; whnf) (by kernel_rfl)) (by rfl)) ?_; walk_nrm))
  refine Walk.ctl rfl (fun w => stepG_region_end) ?_
  refine .stop fun d7 => ?_
  refine Runs.now ⟨Ba, Bb, oa1, oc1, q1, arr1, oa2, oc2, q2, arr2, la2, cap2, ?_, at_slots ?_⟩
  · exact ⟨hT.o1, hT.o2, hT.q1, hT.a1, hT.q2, hT.a2, hT.bd, hT.br, ⟨hT.old.size, hT.old.same⟩⟩
  · simp only [at7]
    rfl
end Go.Proofs.Ytgiiicdpbdfemaa
end

/- The statement's side: bools held against each other. -/
section
namespace Go.Proofs.Ytgiiicdpbdfemaa
open Go.Conc Go.RowKit Go.Relay

section
variable {P : Program}
theorem eqIn_bool (d : Nat) (t : TypeId) (x y : Bool) (w : World) (es : Array Event) (hu : P.underlying t = some .bool) : (Op.equalIn (d + 1) t (.bool x) (.bool y)).run P w = .ok (x == y) w ∧ (Op.equalIn (d + 1) t (.bool x) (.bool y)).events P w es = es := by
  constructor <;> simp [Op.equalIn, run_underlying hu]
theorem run_neq_bool (t : TypeId) (hu : P.underlying t = some .bool) (x y : Bool) (w : World) : (binOp .neq t (.bool x) (.bool y)).run P w = .ok (.bool (x != y)) w := by
  simp only [binOp]
  simp [Op.equal, Op.maxDepth, (eqIn_bool 9999 t x y w #[] hu).1, bne]
theorem ev_neq_bool (t : TypeId) (hu : P.underlying t = some .bool) (x y : Bool) (w : World) (es : Array Event) : (binOp .neq t (.bool x) (.bool y)).events P w es = es := by
  simp only [binOp]
  simp [Op.equal, Op.maxDepth, (eqIn_bool 9999 t x y w #[] hu).1, (eqIn_bool 9999 t x y w es hu).2]
end
theorem und4 : Try.prog.underlying 4 = some .bool := by kernel_rfl

end Go.Proofs.Ytgiiicdpbdfemaa
end

/- The statement's side: TurnMost's loop. -/
section
namespace Go.Proofs.Ytgiiicdpbdfemaa
open Go.Conc Go.RowKit Go.Relay
open Go.ConcN (upd upd_ne upd_same)

variable {main : Bool} {V : Nat → Option Wait}

def tm7 (v0 v1 v2 v7 v8 v9 v12 v15 : Value) (q1 q2 n m : Nat) (z : Bool) (u : Nat → Value) : Array Value := #[v0, v1, v2, u 3, u 4, u 5, .bool false, v7, v8, v9, u 10, .slice (some ⟨q1, 0, none⟩) n n, v12, .bool z, .slice (some ⟨q2, 0, none⟩) n n, v15, .int .i64 m, u 17, u 18, u 19, u 20, u 21, u 22, u 23, u 24, u 25, u 26, u 27, u 28, u 29, u 30, u 31, u 32, u 33, u 34, u 35, u 36, u 37, u 38, u 39, u 40, u 41, u 42, u 43, u 44, u 45, u 46, u 47, u 48, u 49, u 50, u 51, u 52, u 53, u 54, u 55, u 56, u 57, u 58, u 59, u 60, u 61, u 62, u 63, u 64, u 65, u 66, u 67, u 68, u 69, u 70, u 71, u 72, u 73, u 74, u 75, u 76, u 77, u 78, u 79, u 80, u 81, u 82, u 83, u 84, u 85, u 86, u 87, u 88, u 89, u 90, u 91, u 92, u 93, u 94, u 95, u 96, u 97, u 98, u 99, u 100, u 101, u 102, u 103, u 104, u 105, u 106, u 107, u 108]
noncomputable def hd7 (v0 v1 v2 v7 v8 v9 v12 v15 : Value) (q1 q2 n m : Nat) (z : Bool) (u : Nat → Value) : Frame :=
  (base 7).at { tmps := #[v0, v1, v2, u 3, u 4, u 5, .bool false, v7, v8, v9, u 10, .slice (some ⟨q1, 0, none⟩) n n, v12, .bool z, .slice (some ⟨q2, 0, none⟩) n n, v15, .int .i64 m, u 17, u 18, u 19, u 20, u 21, u 22, u 23, u 24, u 25, u 26, u 27, u 28, u 29, u 30, u 31, u 32, u 33, u 34, u 35, u 36, u 37, u 38, u 39, u 40, u 41, u 42, u 43, u 44, u 45, u 46, u 47, u 48, u 49, u 50, u 51, u 52, u 53, u 54, u 55, u 56, u 57, u 58, u 59, u 60, u 61, u 62, u 63, u 64, u 65, u 66, u 67, u 68, u 69, u 70, u 71, u 72, u 73, u 74, u 75, u 76, u 77, u 78, u 79, u 80, u 81, u 82, u 83, u 84, u 85, u 86, u 87, u 88, u 89, u 90, u 91, u 92, u 93, u 94, u 95, u 96, u 97, u 98, u 99, u 100, u 101, u 102, u 103, u 104, u 105, u 106, u 107, u 108], defers := [] } [.code (.seq (.seq (.region 11 reg7_11 false) (.cond (.tmp 80 ) (.skip) (.exit 0))) (.seq (.block 1 (.seq (.region 13 reg7_13 true) (.cond (.tmp 108 ) (.seq (.region 14 reg7_14 false) (.ret)) (.skip)))) (.region 12 reg7_12 false))), .inLoop (.seq (.seq (.region 11 reg7_11 false) (.cond (.tmp 80 ) (.skip) (.exit 0))) (.seq (.block 1 (.seq (.region 13 reg7_13 true) (.cond (.tmp 108 ) (.seq (.region 14 reg7_14 false) (.ret)) (.skip)))) (.region 12 reg7_12 false))), .inBlock 0, .code (.seq (.region 15 reg7_15 false) (.ret))]

set_option maxHeartbeats 8000000 in
set_option maxRecDepth 100000 in
theorem rd7_13 {Stop : Goroutine → World → Prop} (v0 v1 v2 v7 v8 v9 v12 v15 : Value) (q1 q2 n m : Nat) (x y z : Bool) (k : List Item) (cs : List Frame) (u0 : Nat → Value) (w : World) (hm : m < n) (h2 : w.cell? ⟨q2, m, none⟩ = some (.bool x)) (h1 : w.cell? ⟨q1, m, none⟩ = some (.bool y)) (qb : ∀ (a b : Bool) (w : World), (binOp .neq 4 (.bool a) (.bool b)).run Try.prog w = .ok (.bool (a != b)) w) (qe : ∀ (a b : Bool) (w : World) (es : Array Event), (binOp .neq 4 (.bool a) (.bool b)).events Try.prog w es = es) (hcomb : (x = true ∧ y = true ∧ z = true) ∨ (x = true ∧ y = true ∧ z = false) ∨ (x = false ∧ y = true ∧ z = true) ∨ (x = false ∧ y = false ∧ z = true) ∨ (x = false ∧ y = false ∧ z = false))
    (hk : ∀ u : Nat → Value, u 108 = .bool false → Walk Try.prog main (DR V) Stop (G ((base 7).at ⟨tm7 v0 v1 v2 v7 v8 v9 v12 v15 q1 q2 n m z u, []⟩ (.inRegion reg7_13 [] :: k)) cs) w) :
    Walk Try.prog main (DR V) Stop (G ((base 7).at ⟨tm7 v0 v1 v2 v7 v8 v9 v12 v15 q1 q2 n m z u0, []⟩ (.code (.region 13 reg7_13 true) :: k)) cs) w := by
  rcases hcomb with ⟨hx, hy, hz⟩ | ⟨hx, hy, hz⟩ | ⟨hx, hy, hz⟩ | ⟨hx, hy, hz⟩ | ⟨hx, hy, hz⟩
  all_goals (
    refine Walk.drawnI (Inv := fun f a w' => ∃ u, a = ⟨tm7 v0 v1 v2 v7 v8 v9 v12 v15 q1 q2 n m z u, []⟩ ∧ Facts [83, 84, 85, 86, 87, 88, 89, 90, 91, 92, 93, 94, 95, 96, 97, 98, 99, 100, 101, 102, 103, 104, 105, 106, 107, 108] [.slice (some ⟨q2, 0, none⟩) n n, .int .i64 m, .pointer (some ⟨q2, m, none⟩), .bool x, .bool x, bif x then .slice (some ⟨q1, 0, none⟩) n n else undef, bif x then .int .i64 m else undef, bif x then .pointer (some ⟨q1, m, none⟩) else undef, bif x then .bool y else undef, bif x then .bool (!y) else undef, .bool false, .bool false, .bool z, .bool (!z), .bool (!z), bif z then undef else .slice (some ⟨q2, 0, none⟩) n n, bif z then undef else .int .i64 m, bif z then undef else .pointer (some ⟨q2, m, none⟩), bif z then undef else .bool x, bif z then undef else .slice (some ⟨q1, 0, none⟩) n n, bif z then undef else .int .i64 m, bif z then undef else .pointer (some ⟨q1, m, none⟩), bif z then undef else .bool y, bif z then undef else .bool false, .bool false, .bool false] f u ∧ ∃ d, w' = w.at d) (by kernel_rfl) (by kernel_rfl) (fun d => ⟨u0, rfl, Facts.none _ _ _, d, rfl⟩) ?_ ?_
    · rintro f i o a w' ⟨u, rfl, F, d, rfl⟩ hfi ho hdeps rest hr
      refine Walk.back ?_ d
      have hi : i < 26 := by have := (Array.getElem?_eq_some_iff.1 ho).1; rw [size7_13] at this; exact this
      match i, hi with
      | 0, _ =>
        clear hdeps ho hfi
        simp only [tm7] at hr ⊢
        first | ((refine Walk.opq (ho_of (by conv => lhs; whnf) (by kernel_rfl)) (by rfl) (by decide) (fun dd e he => ?_) (fun dd K hK => ?_); (· (simp [go_sem, *] at he; try (subst he; exact evR_read _ _))); go_simp; refine hK _ ?_; clear hK K; try walk_nrm)) | ((refine Walk.ctl rfl (fun w => stepG_unwanted (ho_of (by conv => lhs; whnf) (by kernel_rfl)) (by rfl)) ?_; walk_nrm))
        refine hr _ _ ⟨upd u 83 (.slice (some ⟨q2, 0, none⟩) n n), ?_, F.set (by decide) rfl rfl, w.drawn, rfl⟩
        simp [upd, hx, hy, hz, cond_true, cond_false, Bool.not_true, Bool.not_false]
      | 1, _ =>
        clear hdeps ho hfi
        simp only [tm7] at hr ⊢
        first | ((refine Walk.opq (ho_of (by conv => lhs; whnf) (by kernel_rfl)) (by rfl) (by decide) (fun dd e he => ?_) (fun dd K hK => ?_); (· (simp [go_sem, *] at he; try (subst he; exact evR_read _ _))); go_simp; refine hK _ ?_; clear hK K; try walk_nrm)) | ((refine Walk.ctl rfl (fun w => stepG_unwanted (ho_of (by conv => lhs; whnf) (by kernel_rfl)) (by rfl)) ?_; walk_nrm))
        refine hr _ _ ⟨upd u 84 (.int .i64 m), ?_, F.set (by decide) rfl rfl, w.drawn, rfl⟩
        simp [upd, hx, hy, hz, cond_true, cond_false, Bool.not_true, Bool.not_false]
      | 2, _ =>
        have hd := deps_of (l := [0, 1]) (by kernel_rfl) ho hdeps
        have e83 := F 0 83 _ (hd 0 (by simp)) rfl rfl
        have e84 := F 1 84 _ (hd 1 (by simp)) rfl rfl
        clear hdeps ho hfi
        simp only [tm7] at hr ⊢
        simp only [e83, e84, hx, hy, hz, cond_true, cond_false, Bool.not_true, Bool.not_false]
        first | ((refine Walk.opq (ho_of (by conv => lhs; whnf) (by kernel_rfl)) (by rfl) (by decide) (fun dd e he => ?_) (fun dd K hK => ?_); (· (simp [go_sem, *] at he; try (subst he; exact evR_read _ _))); go_simp; refine hK _ ?_; clear hK K; try walk_nrm)) | ((refine Walk.ctl rfl (fun w => stepG_unwanted (ho_of (by conv => lhs; whnf) (by kernel_rfl)) (by rfl)) ?_; walk_nrm))
        refine hr _ _ ⟨upd u 85 (.pointer (some ⟨q2, m, none⟩)), ?_, F.set (by decide) rfl rfl, w.drawn, rfl⟩
        simp [upd, e83, e84, hx, hy, hz, cond_true, cond_false, Bool.not_true, Bool.not_false]
      | 3, _ =>
        have hd := deps_of (l := [2]) (by kernel_rfl) ho hdeps
        have e85 := F 2 85 _ (hd 2 (by simp)) rfl rfl
        clear hdeps ho hfi
        simp only [tm7] at hr ⊢
        simp only [e85, hx, hy, hz, cond_true, cond_false, Bool.not_true, Bool.not_false]
        first | ((refine Walk.opq (ho_of (by conv => lhs; whnf) (by kernel_rfl)) (by rfl) (by decide) (fun dd e he => ?_) (fun dd K hK => ?_); (· (simp [go_sem, *] at he; try (subst he; exact evR_read _ _))); go_simp; refine hK _ ?_; clear hK K; try walk_nrm)) | ((refine Walk.ctl rfl (fun w => stepG_unwanted (ho_of (by conv => lhs; whnf) (by kernel_rfl)) (by rfl)) ?_; walk_nrm))
        refine hr _ _ ⟨upd u 86 (.bool x), ?_, F.set (by decide) rfl rfl, w.drawn, rfl⟩
        simp [upd, e85, hx, hy, hz, cond_true, cond_false, Bool.not_true, Bool.not_false]
      | 4, _ =>
        have hd := deps_of (l := [3]) (by kernel_rfl) ho hdeps
        have e86 := F 3 86 _ (hd 3 (by simp)) rfl rfl
        clear hdeps ho hfi
        simp only [tm7] at hr ⊢
        simp only [e86, hx, hy, hz, cond_true, cond_false, Bool.not_true, Bool.not_false]
        first | ((refine Walk.opq (ho_of (by conv => lhs; whnf) (by kernel_rfl)) (by rfl) (by decide) (fun dd e he => ?_) (fun dd K hK => ?_); (· (simp [go_sem, *] at he; try (subst he; exact evR_read _ _))); go_simp; refine hK _ ?_; clear hK K; try walk_nrm)) | ((refine Walk.ctl rfl (fun w => stepG_unwanted (ho_of (by conv => lhs; whnf) (by kernel_rfl)) (by rfl)) ?_; walk_nrm))
        refine hr _ _ ⟨upd u 87 (.bool x), ?_, F.set (by decide) rfl rfl, w.drawn, rfl⟩
        simp [upd, e86, hx, hy, hz, cond_true, cond_false, Bool.not_true, Bool.not_false]
      | 5, _ =>
        have hd := deps_of (l := [4]) (by kernel_rfl) ho hdeps
        have e87 := F 4 87 _ (hd 4 (by simp)) rfl rfl
        clear hdeps ho hfi
        simp only [tm7] at hr ⊢
        simp only [e87, hx, hy, hz, cond_true, cond_false, Bool.not_true, Bool.not_false]
        first | ((refine Walk.opq (ho_of (by conv => lhs; whnf) (by kernel_rfl)) (by rfl) (by decide) (fun dd e he => ?_) (fun dd K hK => ?_); (· (simp [go_sem, *] at he; try (subst he; exact evR_read _ _))); go_simp; refine hK _ ?_; clear hK K; try walk_nrm)) | ((refine Walk.ctl rfl (fun w => stepG_unwanted (ho_of (by conv => lhs; whnf) (by kernel_rfl)) (by rfl)) ?_; walk_nrm))
        refine hr _ _ ⟨upd u 88 (bif x then .slice (some ⟨q1, 0, none⟩) n n else undef), ?_, F.set (by decide) rfl rfl, w.drawn, rfl⟩
        simp [upd, e87, hx, hy, hz, cond_true, cond_false, Bool.not_true, Bool.not_false]
      | 6, _ =>
        have hd := deps_of (l := [4]) (by kernel_rfl) ho hdeps
        have e87 := F 4 87 _ (hd 4 (by simp)) rfl rfl
        clear hdeps ho hfi
        simp only [tm7] at hr ⊢
        simp only [e87, hx, hy, hz, cond_true, cond_false, Bool.not_true, Bool.not_false]
        first | ((refine Walk.opq (ho_of (by conv => lhs; whnf) (by kernel_rfl)) (by rfl) (by decide) (fun dd e he => ?_) (fun dd K hK => ?_); (· (simp [go_sem, *] at he; try (subst he; exact evR_read _ _))); go_simp; refine hK _ ?_; clear hK K; try walk_nrm)) | ((refine Walk.ctl rfl (fun w => stepG_unwanted (ho_of (by conv => lhs; whnf) (by kernel_rfl)) (by rfl)) ?_; walk_nrm))
        refine hr _ _ ⟨upd u 89 (bif x then .int .i64 m else undef), ?_, F.set (by decide) rfl rfl, w.drawn, rfl⟩
        simp [upd, e87, hx, hy, hz, cond_true, cond_false, Bool.not_true, Bool.not_false]
      | 7, _ =>
        have hd := deps_of (l := [4, 5, 6]) (by kernel_rfl) ho hdeps
        have e87 := F 4 87 _ (hd 4 (by simp)) rfl rfl
        have e88 := F 5 88 _ (hd 5 (by simp)) rfl rfl
        have e89 := F 6 89 _ (hd 6 (by simp)) rfl rfl
        clear hdeps ho hfi
        simp only [tm7] at hr ⊢
        simp only [e87, e88, e89, hx, hy, hz, cond_true, cond_false, Bool.not_true, Bool.not_false]
        first | ((refine Walk.opq (ho_of (by conv => lhs; whnf) (by kernel_rfl)) (by rfl) (by decide) (fun dd e he => ?_) (fun dd K hK => ?_); (· (simp [go_sem, *] at he; try (subst he; exact evR_read _ _))); go_simp; refine hK _ ?_; clear hK K; try walk_nrm)) | ((refine Walk.ctl rfl (fun w => stepG_unwanted (ho_of (by conv => lhs; whnf) (by kernel_rfl)) (by rfl)) ?_; walk_nrm))
        refine hr _ _ ⟨upd u 90 (bif x then .pointer (some ⟨q1, m, none⟩) else undef), ?_, F.set (by decide) rfl rfl, w.drawn, rfl⟩
        simp [upd, e87, e88, e89, hx, hy, hz, cond_true, cond_false, Bool.not_true, Bool.not_false]
      | 8, _ =>
        have hd := deps_of (l := [4, 7]) (by kernel_rfl) ho hdeps
        have e87 := F 4 87 _ (hd 4 (by simp)) rfl rfl
        have e90 := F 7 90 _ (hd 7 (by simp)) rfl rfl
        clear hdeps ho hfi
        simp only [tm7] at hr ⊢
        simp only [e87, e90, hx, hy, hz, cond_true, cond_false, Bool.not_true, Bool.not_false]
        first | ((refine Walk.opq (ho_of (by conv => lhs; whnf) (by kernel_rfl)) (by rfl) (by decide) (fun dd e he => ?_) (fun dd K hK => ?_); (· (simp [go_sem, *] at he; try (subst he; exact evR_read _ _))); go_simp; refine hK _ ?_; clear hK K; try walk_nrm)) | ((refine Walk.ctl rfl (fun w => stepG_unwanted (ho_of (by conv => lhs; whnf) (by kernel_rfl)) (by rfl)) ?_; walk_nrm))
        refine hr _ _ ⟨upd u 91 (bif x then .bool y else undef), ?_, F.set (by decide) rfl rfl, w.drawn, rfl⟩
        simp [upd, e87, e90, hx, hy, hz, cond_true, cond_false, Bool.not_true, Bool.not_false]
      | 9, _ =>
        have hd := deps_of (l := [4, 8]) (by kernel_rfl) ho hdeps
        have e87 := F 4 87 _ (hd 4 (by simp)) rfl rfl
        have e91 := F 8 91 _ (hd 8 (by simp)) rfl rfl
        clear hdeps ho hfi
        simp only [tm7] at hr ⊢
        simp only [e87, e91, hx, hy, hz, cond_true, cond_false, Bool.not_true, Bool.not_false]
        first | ((refine Walk.opq (ho_of (by conv => lhs; whnf) (by kernel_rfl)) (by rfl) (by decide) (fun dd e he => ?_) (fun dd K hK => ?_); (· (simp [go_sem, *] at he; try (subst he; exact evR_read _ _))); go_simp; refine hK _ ?_; clear hK K; try walk_nrm)) | ((refine Walk.ctl rfl (fun w => stepG_unwanted (ho_of (by conv => lhs; whnf) (by kernel_rfl)) (by rfl)) ?_; walk_nrm))
        refine hr _ _ ⟨upd u 92 (bif x then .bool (!y) else undef), ?_, F.set (by decide) rfl rfl, w.drawn, rfl⟩
        simp [upd, e87, e91, hx, hy, hz, cond_true, cond_false, Bool.not_true, Bool.not_false]
      | 10, _ =>
        have hd := deps_of (l := [4, 9]) (by kernel_rfl) ho hdeps
        have e87 := F 4 87 _ (hd 4 (by simp)) rfl rfl
        have e92 := F 9 92 _ (hd 9 (by simp)) rfl rfl
        clear hdeps ho hfi
        simp only [tm7] at hr ⊢
        simp only [e87, e92, hx, hy, hz, cond_true, cond_false, Bool.not_true, Bool.not_false]
        first | ((refine Walk.opq (ho_of (by conv => lhs; whnf) (by kernel_rfl)) (by rfl) (by decide) (fun dd e he => ?_) (fun dd K hK => ?_); (· (simp [go_sem, *] at he; try (subst he; exact evR_read _ _))); go_simp; refine hK _ ?_; clear hK K; try walk_nrm)) | ((refine Walk.ctl rfl (fun w => stepG_unwanted (ho_of (by conv => lhs; whnf) (by kernel_rfl)) (by rfl)) ?_; walk_nrm))
        refine hr _ _ ⟨upd u 93 (.bool false), ?_, F.set (by decide) rfl rfl, w.drawn, rfl⟩
        simp [upd, e87, e92, hx, hy, hz, cond_true, cond_false, Bool.not_true, Bool.not_false]
      | 11, _ =>
        have hd := deps_of (l := [4, 10]) (by kernel_rfl) ho hdeps
        have e87 := F 4 87 _ (hd 4 (by simp)) rfl rfl
        have e93 := F 10 93 _ (hd 10 (by simp)) rfl rfl
        clear hdeps ho hfi
        simp only [tm7] at hr ⊢
        simp only [e87, e93, hx, hy, hz, cond_true, cond_false, Bool.not_true, Bool.not_false]
        first | ((refine Walk.opq (ho_of (by conv => lhs; whnf) (by kernel_rfl)) (by rfl) (by decide) (fun dd e he => ?_) (fun dd K hK => ?_); (· (simp [go_sem, *] at he; try (subst he; exact evR_read _ _))); go_simp; refine hK _ ?_; clear hK K; try walk_nrm)) | ((refine Walk.ctl rfl (fun w => stepG_unwanted (ho_of (by conv => lhs; whnf) (by kernel_rfl)) (by rfl)) ?_; walk_nrm))
        refine hr _ _ ⟨upd u 94 (.bool false), ?_, F.set (by decide) rfl rfl, w.drawn, rfl⟩
        simp [upd, e87, e93, hx, hy, hz, cond_true, cond_false, Bool.not_true, Bool.not_false]
      | 12, _ =>
        have hd := deps_of (l := [11]) (by kernel_rfl) ho hdeps
        have e94 := F 11 94 _ (hd 11 (by simp)) rfl rfl
        clear hdeps ho hfi
        simp only [tm7] at hr ⊢
        simp only [e94, hx, hy, hz, cond_true, cond_false, Bool.not_true, Bool.not_false]
        first | ((refine Walk.opq (ho_of (by conv => lhs; whnf) (by kernel_rfl)) (by rfl) (by decide) (fun dd e he => ?_) (fun dd K hK => ?_); (· (simp [go_sem, *] at he; try (subst he; exact evR_read _ _))); go_simp; refine hK _ ?_; clear hK K; try walk_nrm)) | ((refine Walk.ctl rfl (fun w => stepG_unwanted (ho_of (by conv => lhs; whnf) (by kernel_rfl)) (by rfl)) ?_; walk_nrm))
        refine hr _ _ ⟨upd u 95 (.bool z), ?_, F.set (by decide) rfl rfl, w.drawn, rfl⟩
        simp [upd, e94, hx, hy, hz, cond_true, cond_false, Bool.not_true, Bool.not_false]
      | 13, _ =>
        have hd := deps_of (l := [11, 12]) (by kernel_rfl) ho hdeps
        have e94 := F 11 94 _ (hd 11 (by simp)) rfl rfl
        have e95 := F 12 95 _ (hd 12 (by simp)) rfl rfl
        clear hdeps ho hfi
        simp only [tm7] at hr ⊢
        simp only [e94, e95, hx, hy, hz, cond_true, cond_false, Bool.not_true, Bool.not_false]
        first | ((refine Walk.opq (ho_of (by conv => lhs; whnf) (by kernel_rfl)) (by rfl) (by decide) (fun dd e he => ?_) (fun dd K hK => ?_); (· (simp [go_sem, *] at he; try (subst he; exact evR_read _ _))); go_simp; refine hK _ ?_; clear hK K; try walk_nrm)) | ((refine Walk.ctl rfl (fun w => stepG_unwanted (ho_of (by conv => lhs; whnf) (by kernel_rfl)) (by rfl)) ?_; walk_nrm))
        refine hr _ _ ⟨upd u 96 (.bool (!z)), ?_, F.set (by decide) rfl rfl, w.drawn, rfl⟩
        simp [upd, e94, e95, hx, hy, hz, cond_true, cond_false, Bool.not_true, Bool.not_false]
      | 14, _ =>
        have hd := deps_of (l := [11, 13]) (by kernel_rfl) ho hdeps
        have e94 := F 11 94 _ (hd 11 (by simp)) rfl rfl
        have e96 := F 13 96 _ (hd 13 (by simp)) rfl rfl
        clear hdeps ho hfi
        simp only [tm7] at hr ⊢
        simp only [e94, e96, hx, hy, hz, cond_true, cond_false, Bool.not_true, Bool.not_false]
        first | ((refine Walk.opq (ho_of (by conv => lhs; whnf) (by kernel_rfl)) (by rfl) (by decide) (fun dd e he => ?_) (fun dd K hK => ?_); (· (simp [go_sem, *] at he; try (subst he; exact evR_read _ _))); go_simp; refine hK _ ?_; clear hK K; try walk_nrm)) | ((refine Walk.ctl rfl (fun w => stepG_unwanted (ho_of (by conv => lhs; whnf) (by kernel_rfl)) (by rfl)) ?_; walk_nrm))
        refine hr _ _ ⟨upd u 97 (.bool (!z)), ?_, F.set (by decide) rfl rfl, w.drawn, rfl⟩
        simp [upd, e94, e96, hx, hy, hz, cond_true, cond_false, Bool.not_true, Bool.not_false]
      | 15, _ =>
        have hd := deps_of (l := [14]) (by kernel_rfl) ho hdeps
        have e97 := F 14 97 _ (hd 14 (by simp)) rfl rfl
        clear hdeps ho hfi
        simp only [tm7] at hr ⊢
        simp only [e97, hx, hy, hz, cond_true, cond_false, Bool.not_true, Bool.not_false]
        first | ((refine Walk.opq (ho_of (by conv => lhs; whnf) (by kernel_rfl)) (by rfl) (by decide) (fun dd e he => ?_) (fun dd K hK => ?_); (· (simp [go_sem, *] at he; try (subst he; exact evR_read _ _))); go_simp; refine hK _ ?_; clear hK K; try walk_nrm)) | ((refine Walk.ctl rfl (fun w => stepG_unwanted (ho_of (by conv => lhs; whnf) (by kernel_rfl)) (by rfl)) ?_; walk_nrm))
        refine hr _ _ ⟨upd u 98 (bif z then undef else .slice (some ⟨q2, 0, none⟩) n n), ?_, F.set (by decide) rfl rfl, w.drawn, rfl⟩
        simp [upd, e97, hx, hy, hz, cond_true, cond_false, Bool.not_true, Bool.not_false]
      | 16, _ =>
        have hd := deps_of (l := [14]) (by kernel_rfl) ho hdeps
        have e97 := F 14 97 _ (hd 14 (by simp)) rfl rfl
        clear hdeps ho hfi
        simp only [tm7] at hr ⊢
        simp only [e97, hx, hy, hz, cond_true, cond_false, Bool.not_true, Bool.not_false]
        first | ((refine Walk.opq (ho_of (by conv => lhs; whnf) (by kernel_rfl)) (by rfl) (by decide) (fun dd e he => ?_) (fun dd K hK => ?_); (· (simp [go_sem, *] at he; try (subst he; exact evR_read _ _))); go_simp; refine hK _ ?_; clear hK K; try walk_nrm)) | ((refine Walk.ctl rfl (fun w => stepG_unwanted (ho_of (by conv => lhs; whnf) (by kernel_rfl)) (by rfl)) ?_; walk_nrm))
        refine hr _ _ ⟨upd u 99 (bif z then undef else .int .i64 m), ?_, F.set (by decide) rfl rfl, w.drawn, rfl⟩
        simp [upd, e97, hx, hy, hz, cond_true, cond_false, Bool.not_true, Bool.not_false]
      | 17, _ =>
        have hd := deps_of (l := [14, 15, 16]) (by kernel_rfl) ho hdeps
        have e97 := F 14 97 _ (hd 14 (by simp)) rfl rfl
        have e98 := F 15 98 _ (hd 15 (by simp)) rfl rfl
        have e99 := F 16 99 _ (hd 16 (by simp)) rfl rfl
        clear hdeps ho hfi
        simp only [tm7] at hr ⊢
        simp only [e97, e98, e99, hx, hy, hz, cond_true, cond_false, Bool.not_true, Bool.not_false]
        first | ((refine Walk.opq (ho_of (by conv => lhs; whnf) (by kernel_rfl)) (by rfl) (by decide) (fun dd e he => ?_) (fun dd K hK => ?_); (· (simp [go_sem, *] at he; try (subst he; exact evR_read _ _))); go_simp; refine hK _ ?_; clear hK K; try walk_nrm)) | ((refine Walk.ctl rfl (fun w => stepG_unwanted (ho_of (by conv => lhs; whnf) (by kernel_rfl)) (by rfl)) ?_; walk_nrm))
        refine hr _ _ ⟨upd u 100 (bif z then undef else .pointer (some ⟨q2, m, none⟩)), ?_, F.set (by decide) rfl rfl, w.drawn, rfl⟩
        simp [upd, e97, e98, e99, hx, hy, hz, cond_true, cond_false, Bool.not_true, Bool.not_false]
      | 18, _ =>
        have hd := deps_of (l := [14, 17]) (by kernel_rfl) ho hdeps
        have e97 := F 14 97 _ (hd 14 (by simp)) rfl rfl
        have e100 := F 17 100 _ (hd 17 (by simp)) rfl rfl
        clear hdeps ho hfi
        simp only [tm7] at hr ⊢
        simp only [e97, e100, hx, hy, hz, cond_true, cond_false, Bool.not_true, Bool.not_false]
        first | ((refine Walk.opq (ho_of (by conv => lhs; whnf) (by kernel_rfl)) (by rfl) (by decide) (fun dd e he => ?_) (fun dd K hK => ?_); (· (simp [go_sem, *] at he; try (subst he; exact evR_read _ _))); go_simp; refine hK _ ?_; clear hK K; try walk_nrm)) | ((refine Walk.ctl rfl (fun w => stepG_unwanted (ho_of (by conv => lhs; whnf) (by kernel_rfl)) (by rfl)) ?_; walk_nrm))
        refine hr _ _ ⟨upd u 101 (bif z then undef else .bool x), ?_, F.set (by decide) rfl rfl, w.drawn, rfl⟩
        simp [upd, e97, e100, hx, hy, hz, cond_true, cond_false, Bool.not_true, Bool.not_false]
      | 19, _ =>
        have hd := deps_of (l := [14]) (by kernel_rfl) ho hdeps
        have e97 := F 14 97 _ (hd 14 (by simp)) rfl rfl
        clear hdeps ho hfi
        simp only [tm7] at hr ⊢
        simp only [e97, hx, hy, hz, cond_true, cond_false, Bool.not_true, Bool.not_false]
        first | ((refine Walk.opq (ho_of (by conv => lhs; whnf) (by kernel_rfl)) (by rfl) (by decide) (fun dd e he => ?_) (fun dd K hK => ?_); (· (simp [go_sem, *] at he; try (subst he; exact evR_read _ _))); go_simp; refine hK _ ?_; clear hK K; try walk_nrm)) | ((refine Walk.ctl rfl (fun w => stepG_unwanted (ho_of (by conv => lhs; whnf) (by kernel_rfl)) (by rfl)) ?_; walk_nrm))
        refine hr _ _ ⟨upd u 102 (bif z then undef else .slice (some ⟨q1, 0, none⟩) n n), ?_, F.set (by decide) rfl rfl, w.drawn, rfl⟩
        simp [upd, e97, hx, hy, hz, cond_true, cond_false, Bool.not_true, Bool.not_false]
      | 20, _ =>
        have hd := deps_of (l := [14]) (by kernel_rfl) ho hdeps
        have e97 := F 14 97 _ (hd 14 (by simp)) rfl rfl
        clear hdeps ho hfi
        simp only [tm7] at hr ⊢
        simp only [e97, hx, hy, hz, cond_true, cond_false, Bool.not_true, Bool.not_false]
        first | ((refine Walk.opq (ho_of (by conv => lhs; whnf) (by kernel_rfl)) (by rfl) (by decide) (fun dd e he => ?_) (fun dd K hK => ?_); (· (simp [go_sem, *] at he; try (subst he; exact evR_read _ _))); go_simp; refine hK _ ?_; clear hK K; try walk_nrm)) | ((refine Walk.ctl rfl (fun w => stepG_unwanted (ho_of (by conv => lhs; whnf) (by kernel_rfl)) (by rfl)) ?_; walk_nrm))
        refine hr _ _ ⟨upd u 103 (bif z then undef else .int .i64 m), ?_, F.set (by decide) rfl rfl, w.drawn, rfl⟩
        simp [upd, e97, hx, hy, hz, cond_true, cond_false, Bool.not_true, Bool.not_false]
      | 21, _ =>
        have hd := deps_of (l := [14, 19, 20]) (by kernel_rfl) ho hdeps
        have e97 := F 14 97 _ (hd 14 (by simp)) rfl rfl
        have e102 := F 19 102 _ (hd 19 (by simp)) rfl rfl
        have e103 := F 20 103 _ (hd 20 (by simp)) rfl rfl
        clear hdeps ho hfi
        simp only [tm7] at hr ⊢
        simp only [e97, e102, e103, hx, hy, hz, cond_true, cond_false, Bool.not_true, Bool.not_false]
        first | ((refine Walk.opq (ho_of (by conv => lhs; whnf) (by kernel_rfl)) (by rfl) (by decide) (fun dd e he => ?_) (fun dd K hK => ?_); (· (simp [go_sem, *] at he; try (subst he; exact evR_read _ _))); go_simp; refine hK _ ?_; clear hK K; try walk_nrm)) | ((refine Walk.ctl rfl (fun w => stepG_unwanted (ho_of (by conv => lhs; whnf) (by kernel_rfl)) (by rfl)) ?_; walk_nrm))
        refine hr _ _ ⟨upd u 104 (bif z then undef else .pointer (some ⟨q1, m, none⟩)), ?_, F.set (by decide) rfl rfl, w.drawn, rfl⟩
        simp [upd, e97, e102, e103, hx, hy, hz, cond_true, cond_false, Bool.not_true, Bool.not_false]
      | 22, _ =>
        have hd := deps_of (l := [14, 21]) (by kernel_rfl) ho hdeps
        have e97 := F 14 97 _ (hd 14 (by simp)) rfl rfl
        have e104 := F 21 104 _ (hd 21 (by simp)) rfl rfl
        clear hdeps ho hfi
        simp only [tm7] at hr ⊢
        simp only [e97, e104, hx, hy, hz, cond_true, cond_false, Bool.not_true, Bool.not_false]
        first | ((refine Walk.opq (ho_of (by conv => lhs; whnf) (by kernel_rfl)) (by rfl) (by decide) (fun dd e he => ?_) (fun dd K hK => ?_); (· (simp [go_sem, *] at he; try (subst he; exact evR_read _ _))); go_simp; refine hK _ ?_; clear hK K; try walk_nrm)) | ((refine Walk.ctl rfl (fun w => stepG_unwanted (ho_of (by conv => lhs; whnf) (by kernel_rfl)) (by rfl)) ?_; walk_nrm))
        refine hr _ _ ⟨upd u 105 (bif z then undef else .bool y), ?_, F.set (by decide) rfl rfl, w.drawn, rfl⟩
        simp [upd, e97, e104, hx, hy, hz, cond_true, cond_false, Bool.not_true, Bool.not_false]
      | 23, _ =>
        have hd := deps_of (l := [14, 18, 22]) (by kernel_rfl) ho hdeps
        have e97 := F 14 97 _ (hd 14 (by simp)) rfl rfl
        have e101 := F 18 101 _ (hd 18 (by simp)) rfl rfl
        have e105 := F 22 105 _ (hd 22 (by simp)) rfl rfl
        clear hdeps ho hfi
        simp only [tm7] at hr ⊢
        simp only [e97, e101, e105, hx, hy, hz, cond_true, cond_false, Bool.not_true, Bool.not_false]
        first | ((refine Walk.opq (ho_of (by conv => lhs; whnf) (by kernel_rfl)) (by rfl) (by decide) (fun dd e he => ?_) (fun dd K hK => ?_); (· (simp [go_sem, *] at he; try (subst he; exact evR_read _ _))); go_simp; refine hK _ ?_; clear hK K; try walk_nrm)) | ((refine Walk.ctl rfl (fun w => stepG_unwanted (ho_of (by conv => lhs; whnf) (by kernel_rfl)) (by rfl)) ?_; walk_nrm))
        refine hr _ _ ⟨upd u 106 (bif z then undef else .bool false), ?_, F.set (by decide) rfl rfl, w.drawn, rfl⟩
        simp [upd, e97, e101, e105, hx, hy, hz, cond_true, cond_false, Bool.not_true, Bool.not_false]
      | 24, _ =>
        have hd := deps_of (l := [11, 14, 23]) (by kernel_rfl) ho hdeps
        have e94 := F 11 94 _ (hd 11 (by simp)) rfl rfl
        have e97 := F 14 97 _ (hd 14 (by simp)) rfl rfl
        have e106 := F 23 106 _ (hd 23 (by simp)) rfl rfl
        clear hdeps ho hfi
        simp only [tm7] at hr ⊢
        simp only [e94, e97, e106, hx, hy, hz, cond_true, cond_false, Bool.not_true, Bool.not_false]
        first | ((refine Walk.opq (ho_of (by conv => lhs; whnf) (by kernel_rfl)) (by rfl) (by decide) (fun dd e he => ?_) (fun dd K hK => ?_); (· (simp [go_sem, *] at he; try (subst he; exact evR_read _ _))); go_simp; refine hK _ ?_; clear hK K; try walk_nrm)) | ((refine Walk.ctl rfl (fun w => stepG_unwanted (ho_of (by conv => lhs; whnf) (by kernel_rfl)) (by rfl)) ?_; walk_nrm))
        refine hr _ _ ⟨upd u 107 (.bool false), ?_, F.set (by decide) rfl rfl, w.drawn, rfl⟩
        simp [upd, e94, e97, e106, hx, hy, hz, cond_true, cond_false, Bool.not_true, Bool.not_false]
      | 25, _ =>
        have hd := deps_of (l := [11, 24]) (by kernel_rfl) ho hdeps
        have e94 := F 11 94 _ (hd 11 (by simp)) rfl rfl
        have e107 := F 24 107 _ (hd 24 (by simp)) rfl rfl
        clear hdeps ho hfi
        simp only [tm7] at hr ⊢
        simp only [e94, e107, hx, hy, hz, cond_true, cond_false, Bool.not_true, Bool.not_false]
        first | ((refine Walk.opq (ho_of (by conv => lhs; whnf) (by kernel_rfl)) (by rfl) (by decide) (fun dd e he => ?_) (fun dd K hK => ?_); (· (simp [go_sem, *] at he; try (subst he; exact evR_read _ _))); go_simp; refine hK _ ?_; clear hK K; try walk_nrm)) | ((refine Walk.ctl rfl (fun w => stepG_unwanted (ho_of (by conv => lhs; whnf) (by kernel_rfl)) (by rfl)) ?_; walk_nrm))
        refine hr _ _ ⟨upd u 108 (.bool false), ?_, F.set (by decide) rfl rfl, w.drawn, rfl⟩
        simp [upd, e94, e107, hx, hy, hz, cond_true, cond_false, Bool.not_true, Bool.not_false]
    · rintro f a w' ⟨u, rfl, F, d, rfl⟩ hall
      exact (hk u (F 25 108 _ (hall 25 (by rw [size7_13]; decide)) rfl rfl)).back d)


set_option maxHeartbeats 8000000 in
set_option maxRecDepth 100000 in
theorem most_go (v0 v1 v2 v7 v8 v9 v12 v15 : Value) (q1 q2 n m : Nat) (x y z : Bool) (u : Nat → Value) (cs : List Frame) (w : World) (hm : m < n) (hn : n ≤ 64) (h2 : w.cell? ⟨q2, m, none⟩ = some (.bool x)) (h1 : w.cell? ⟨q1, m, none⟩ = some (.bool y))
    (hcomb : (x = true ∧ y = true ∧ z = true) ∨ (x = true ∧ y = true ∧ z = false) ∨ (x = false ∧ y = true ∧ z = true) ∨ (x = false ∧ y = false ∧ z = true) ∨ (x = false ∧ y = false ∧ z = false)) :
    Walk Try.prog main (DR V) (fun g w' => (∃ u', g = G (hd7 v0 v1 v2 v7 v8 v9 v12 v15 q1 q2 n (m + 1) z u') cs) ∧ ∃ d, w' = w.at d) (G (hd7 v0 v1 v2 v7 v8 v9 v12 v15 q1 q2 n m z u) cs) w := by
  have hw1 : IntKind.wrap .i64 ((m : Int) + 1) = (m : Int) + 1 := by rw [IntKind.wrap_i64]; omega
  conv => arg 5; unfold hd7
  repeat (first | (refine Walk.c rfl ?_) | (refine Walk.cRet ?_) | (refine Walk.cEnd ?_) | (refine Walk.cReg ?_; simp only [size7_0, size7_1, size7_2, size7_3, size7_4, size7_5, size7_6, size7_7, size7_8, size7_9, size7_10, size7_11, size7_13, size7_14, size7_12, size7_15, List.range, List.range.loop]) | (refine Walk.opq (ho_of (by conv => lhs; whnf) (by kernel_rfl)) (by rfl) (by decide) (fun dd e he => ?_) (fun dd K hK => ?_); (· (simp [go_sem, *] at he; try (subst he; exact evR_read _ _))); go_simp; refine hK _ ?_; clear hK K; try walk_nrm) | (refine Walk.ctl rfl (fun w => stepG_unwanted (ho_of (by conv => lhs; whnf) (by kernel_rfl)) (by rfl)) ?_; walk_nrm))
  refine slots_walk (F := fun u => G ((base 7).at ⟨tm7 v0 v1 v2 v7 v8 v9 v12 v15 q1 q2 n m z u, []⟩ (.code (.region 13 reg7_13 true) :: ([.code (.cond (.tmp 108) (.seq (.region 14 reg7_14 false) .ret) .skip), .inBlock 1, .code (.region 12 reg7_12 false)] ++ ([.code (.seq (.seq (.region 11 reg7_11 false) (.cond (.tmp 80 ) (.skip) (.exit 0))) (.seq (.block 1 (.seq (.region 13 reg7_13 true) (.cond (.tmp 108 ) (.seq (.region 14 reg7_14 false) (.ret)) (.skip)))) (.region 12 reg7_12 false))), .inLoop (.seq (.seq (.region 11 reg7_11 false) (.cond (.tmp 80 ) (.skip) (.exit 0))) (.seq (.block 1 (.seq (.region 13 reg7_13 true) (.cond (.tmp 108 ) (.seq (.region 14 reg7_14 false) (.ret)) (.skip)))) (.region 12 reg7_12 false))), .inBlock 0, .code (.seq (.region 15 reg7_15 false) (.ret))] : List Item).drop 1))) cs) (fun u => rd7_13 v0 v1 v2 v7 v8 v9 v12 v15 q1 q2 n m x y z _ cs u w hm h2 h1 (run_neq_bool 4 und4) (ev_neq_bool 4 und4) hcomb fun u e => ?_) (by simp only [tm7]; rfl)
  simp only [tm7]
  rw [e]
  clear e hcomb
  simp only [List.cons_append, List.nil_append, List.drop_succ_cons, List.drop_zero]
  repeat (first | (refine Walk.c rfl ?_) | (refine Walk.cRet ?_) | (refine Walk.cEnd ?_) | (refine Walk.cReg ?_; simp only [size7_0, size7_1, size7_2, size7_3, size7_4, size7_5, size7_6, size7_7, size7_8, size7_9, size7_10, size7_11, size7_13, size7_14, size7_12, size7_15, List.range, List.range.loop]) | (refine Walk.opq (ho_of (by conv => lhs; whnf) (by kernel_rfl)) (by rfl) (by decide) (fun dd e he => ?_) (fun dd K hK => ?_); (· (simp [go_sem, *] at he; try (subst he; exact evR_read _ _))); go_simp; refine hK _ ?_; clear hK K; try walk_nrm) | (refine Walk.ctl rfl (fun w => stepG_unwanted (ho_of (by conv => lhs; whnf) (by kernel_rfl)) (by rfl)) ?_; walk_nrm))
  refine Walk.ctl rfl (fun w => stepG_inLoop) ?_
  refine .stop fun d' => ⟨at_slots ?_, d', rfl⟩
  have hc : ((m + 1 : Nat) : Int) = (m : Int) + 1 := by simp
  simp only [hd7, hc]
  rfl

set_option maxHeartbeats 8000000 in
set_option maxRecDepth 100000 in
theorem most_out (v0 v1 v2 v7 v8 v9 v12 v15 : Value) (q1 q2 n : Nat) (z : Bool) (u : Nat → Value) (w : World) :
    Walk Try.prog main (DR V) (fun g w' => Closing 7 6 (.bool true) g ∧ ∃ d, w' = w.at d) (G (hd7 v0 v1 v2 v7 v8 v9 v12 v15 q1 q2 n n z u) []) w := by
  unfold hd7
  repeat (first | (refine Walk.c rfl ?_) | (refine Walk.cRet ?_) | (refine Walk.cEnd ?_) | (refine Walk.cReg ?_; simp only [size7_0, size7_1, size7_2, size7_3, size7_4, size7_5, size7_6, size7_7, size7_8, size7_9, size7_10, size7_11, size7_13, size7_14, size7_12, size7_15, List.range, List.range.loop]) | (refine Walk.opq (ho_of (by conv => lhs; whnf) (by kernel_rfl)) (by rfl) (by decide) (fun dd e he => ?_) (fun dd K hK => ?_); (· (simp [go_sem, *] at he; try (subst he; exact evR_read _ _))); go_simp; refine hK _ ?_; clear hK K; try walk_nrm) | (refine Walk.ctl rfl (fun w => stepG_unwanted (ho_of (by conv => lhs; whnf) (by kernel_rfl)) (by rfl)) ?_; walk_nrm))
  exact .stop fun d => ⟨⟨_, rfl, rfl, rfl, rfl, rfl, rfl⟩, d, rfl⟩

theorem most_loop (v0 v1 v2 v7 v8 v9 v12 v15 : Value) (q1 q2 n : Nat) (x y : Nat → Bool) (z : Bool) (w : World) (hn : n ≤ 64) (h2 : ∀ m, m < n → w.cell? ⟨q2, m, none⟩ = some (.bool (x m))) (h1 : ∀ m, m < n → w.cell? ⟨q1, m, none⟩ = some (.bool (y m)))
    (hxy : ∀ m, m < n → x m = true → y m = true) (hz : z = false → ∀ m, m < n → x m = y m) : ∀ (r m : Nat) (u : Nat → Value), m + r = n →
    Walk Try.prog main (DR V) (fun g w' => Closing 7 6 (.bool true) g ∧ ∃ d, w' = w.at d) (G (hd7 v0 v1 v2 v7 v8 v9 v12 v15 q1 q2 n m z u) []) w := by
  intro r
  induction r with
  | zero =>
    intro m u hm
    have hm : m = n := hm
    subst hm
    exact most_out v0 v1 v2 v7 v8 v9 v12 v15 q1 q2 m z u w
  | succ r ih =>
    intro m u hm
    have hmn : m < n := by omega
    refine (most_go v0 v1 v2 v7 v8 v9 v12 v15 q1 q2 n m (x m) (y m) z u [] w hmn hn (h2 m hmn) (h1 m hmn) ?_).then ?_
    · have a := hxy m hmn
      have b := fun h => hz h m hmn
      revert a b
      cases x m <;> cases y m <;> cases z <;> simp
    · rintro g w' ⟨⟨u', rfl⟩, d, rfl⟩
      exact Walk.back (ih (m + 1) u' (by omega)) d
end Go.Proofs.Ytgiiicdpbdfemaa
end

/- The statement's side: TurnMost, between its second run and its loop. -/
section
namespace Go.Proofs.Ytgiiicdpbdfemaa
open Go.Conc Go.RowKit Go.Relay
open Go.ConcN (upd upd_ne upd_same)

theorem hu24 : Try.prog.underlying 24 = some (.slice 3) := by kernel_rfl

set_option maxHeartbeats 8000000 in
set_option maxRecDepth 100000 in
theorem most_mid (lv sv : Value) (most : Int) (Ba Bb : Nat) (oa1 : Option Addr) (L oc1 q1 n : Nat) (oa2 : Option Addr) (X oc2 q2 : Nat) (zz : Bool) (la : Option Addr) (cap2 : Nat) (u : Nat → Value) (w : World)
    (hmin : min (max most 0) (L : Int) = (X : Nat)) (hlt : decide ((X : Int) < L) = zz)
    (hsl : ∀ w, (Instr.sliceAt 24 (.slice oa1 L oc1) none (some (.int .i64 (X : Nat))) none).run Try.prog w = .ok (.slice oa1 X oc1) w) (hse : ∀ w es, (Instr.sliceAt 24 (.slice oa1 L oc1) none (some (.int .i64 (X : Nat))) none).events Try.prog w es = es)
    (s1 : CallV Try.prog true (fun _ => none) 25 #[.slice oa2 X oc2, .slice oa1 X oc1] w (.bool true) w) (s2 : CallV Try.prog true (fun _ => none) 25 #[.slice la X cap2, .slice oa2 X oc2] w (.bool true) w) (hb : w.cell? ⟨Bb, 0, none⟩ = some (.slice la X cap2)) :
    Walk Try.prog true (DR (fun _ => none)) (fun g w' => (∃ u', g = G (hd7 lv sv (.int .i64 most) (.pointer (some ⟨Ba, 0, none⟩)) (.pointer (some ⟨Bb, 0, none⟩)) (.slice oa1 L oc1) (.slice oa2 X oc2) (.int .i64 X) q1 q2 n 0 zz u') []) ∧ ∃ d, w' = w.at d)
      (G (at7 lv sv (.int .i64 most) (.pointer (some ⟨Ba, 0, none⟩)) (.pointer (some ⟨Bb, 0, none⟩)) (.slice oa1 L oc1) (.slice (some ⟨q1, 0, none⟩) n n) (.slice oa2 X oc2) (.bool zz) (.slice (some ⟨q2, 0, none⟩) n n) undef u) []) w := by
  have hmx := @events_max_ints Try.prog
  have hmn := @events_min_ints Try.prog
  have qb := run_neq_bool 4 und4
  have qe := ev_neq_bool 4 und4
  have hlt2 : decide (X < L) = zz := by rw [← hlt]; exact decide_eq_decide.2 (by omega)
  unfold at7
  refine Walk.c rfl ?_
  refine Walk.cReg ?_
  simp only [size7_7, List.range, List.range.loop]
  repeat (first | (refine Walk.opq (ho_of (by conv => lhs; whnf) (by kernel_rfl)) (by rfl) (by decide) (fun dd e he => ?_) (fun dd K hK => ?_); (· (simp [go_sem, *] at he; try (subst he; exact evR_read _ _))); go_simp; refine hK _ ?_; clear hK K; try walk_nrm) | (refine Walk.ctl rfl (fun w => stepG_unwanted (ho_of (by conv => lhs; whnf) (by kernel_rfl)) (by rfl)) ?_; walk_nrm))
  refine Walk.ctl rfl (fun w => stepG_region_end) ?_
  clear hmx hmn hmin
  refine Walk.c rfl ?_
  refine Walk.c rfl ?_
  refine Walk.cReg ?_
  simp only [size7_8, List.range, List.range.loop]
  repeat (first | (refine Walk.opq (ho_of (by conv => lhs; whnf) (by kernel_rfl)) (by rfl) (by decide) (fun dd e he => ?_) (fun dd K hK => ?_); (· (simp [go_sem, *] at he; try (subst he; exact evR_read _ _))); go_simp; refine hK _ ?_; clear hK K; try walk_nrm) | (refine Walk.ctl rfl (fun w => stepG_unwanted (ho_of (by conv => lhs; whnf) (by kernel_rfl)) (by rfl)) ?_; walk_nrm))
  refine Walk.callV (x := .bool true) (W := w) ?_ (ho_of (by conv => lhs; whnf) (by kernel_rfl)) (by rfl) (by decide) rfl Try.func25 (by kernel_rfl) (by rfl) ?_
  · walk_nrm
    exact s1
  walk_nrm
  repeat (first | (refine Walk.opq (ho_of (by conv => lhs; whnf) (by kernel_rfl)) (by rfl) (by decide) (fun dd e he => ?_) (fun dd K hK => ?_); (· (simp [go_sem, *] at he; try (subst he; exact evR_read _ _))); go_simp; refine hK _ ?_; clear hK K; try walk_nrm) | (refine Walk.ctl rfl (fun w => stepG_unwanted (ho_of (by conv => lhs; whnf) (by kernel_rfl)) (by rfl)) ?_; walk_nrm))
  refine Walk.callV (x := .bool true) (W := w) ?_ (ho_of (by conv => lhs; whnf) (by kernel_rfl)) (by rfl) (by decide) rfl Try.func25 (by kernel_rfl) (by rfl) ?_
  · walk_nrm
    exact s2
  walk_nrm
  repeat (first | (refine Walk.opq (ho_of (by conv => lhs; whnf) (by kernel_rfl)) (by rfl) (by decide) (fun dd e he => ?_) (fun dd K hK => ?_); (· (simp [go_sem, *] at he; try (subst he; exact evR_read _ _))); go_simp; refine hK _ ?_; clear hK K; try walk_nrm) | (refine Walk.ctl rfl (fun w => stepG_unwanted (ho_of (by conv => lhs; whnf) (by kernel_rfl)) (by rfl)) ?_; walk_nrm))
  refine Walk.ctl rfl (fun w => stepG_region_end) ?_
  repeat (first | (refine Walk.c rfl ?_) | (refine Walk.cRet ?_) | (refine Walk.cEnd ?_) | (refine Walk.cReg ?_; simp only [size7_0, size7_1, size7_2, size7_3, size7_4, size7_5, size7_6, size7_7, size7_8, size7_9, size7_10, size7_11, size7_13, size7_14, size7_12, size7_15, List.range, List.range.loop]) | (refine Walk.opq (ho_of (by conv => lhs; whnf) (by kernel_rfl)) (by rfl) (by decide) (fun dd e he => ?_) (fun dd K hK => ?_); (· (simp [go_sem, *] at he; try (subst he; exact evR_read _ _))); go_simp; refine hK _ ?_; clear hK K; try walk_nrm) | (refine Walk.ctl rfl (fun w => stepG_unwanted (ho_of (by conv => lhs; whnf) (by kernel_rfl)) (by rfl)) ?_; walk_nrm))
  refine Walk.ctl rfl (fun w => stepG_loop) ?_
  refine .stop fun d => ⟨at_slots ?_, d, rfl⟩
  simp only [hd7]
  rfl
end Go.Proofs.Ytgiiicdpbdfemaa
end

/- The row of TurnAlone out of a run from every start. -/
section
namespace Go.Proofs.Ytgiiicdpbdfemaa
open Go.Conc Go.RowKit Go.ChangeShapes Go.WideShapes Go.ChangeAt Go.Joins Go.Deep

theorem prog_own : ownKnob Try.prog.godebug = none := by kernel_rfl

/-- What a run leaves: true; what was there stands. -/
def Left (W : World) (v : Value) (w' : World) : Prop := v = .bool true ∧ w'.os = W.os ∧ w'.output = W.output ∧ ∀ b, b < W.heap.size → w'.heap[b]? = W.heap[b]?
theorem Left.kept {W w' : World} {v : Value} (h : Left W v w') (may : MemPlace → Prop) : W.keptBut w' may := by
  refine ⟨h.2.1, h.2.2.1, fun i hi => ?_⟩
  rw [h.2.2.2 i hi]
  split <;> simp_all

noncomputable def flds58 : Array Field := match Try.prog.underlying 58 with | some (.struct fs) => fs | _ => #[]
theorem und58_is : Try.prog.underlying 58 = some (.struct flds58) := by kernel_rfl
theorem flds58_three : ∃ f0 f1 f2, flds58 = #[f0, f1, f2] ∧ f0.type = 3 ∧ f1.type = 3 ∧ f2.type = 4 := by
  obtain ⟨f0, f1, f2, e⟩ := Go.Joins.array3 (show flds58.size = 3 by kernel_rfl)
  have h0 : (flds58[0]?).map (·.type) = some 3 := by kernel_rfl
  have h1 : (flds58[1]?).map (·.type) = some 3 := by kernel_rfl
  have h2 : (flds58[2]?).map (·.type) = some 4 := by kernel_rfl
  rw [e] at h0 h1 h2
  exact ⟨f0, f1, f2, e, by simpa using h0, by simpa using h1, by simpa using h2⟩
theorem und3_is : Try.prog.underlying 3 = some (.int .i64) := by kernel_rfl
theorem und4_is : Try.prog.underlying 4 = some .bool := by kernel_rfl

set_option maxRecDepth 100000 in
theorem turnAlone_lifted (run : ∀ (st af most : Int) (nl : Bool) (W : World), ∃ M last o w' t', runNT Try.prog (M + 1) (solo (G (Frame.enter Try.prog 9 #[.agg #[.int .i64 st, .int .i64 af, .bool nl], .int .i64 most] .normal) []) W) #[] = (.ended o w', t') ∧
      runN Try.prog M (solo (G (Frame.enter Try.prog 9 #[.agg #[.int .i64 st, .int .i64 af, .bool nl], .int .i64 most] .normal) []) W) = .next last ∧ step Try.prog last = .ended o w' ∧ Conc.Good Try.prog (Left W) last o w' t') (os : Os) (started : os.Started) (H : Type) (enc : TypeId × Value → H) :
    ReturnsInLeavingWide {} Try.checked os 9 .any (Rows.turnAloneSpec.pre6 enc Try.prog Try.f9 Rows.turnAloneRow.domain false) (Rows.turnAloneSpec.post enc Try.prog Try.f9 false true false false) := by
  refine returnsInLeavingWide_of_change_sized (C := Try.checked) prog_own started Try.func9
    (ChangeSpec.witness6 (enc := enc) (C := Try.checked) false ⟨#[], #[.agg #[.int .i64 0, .int .i64 0, .bool false], .int .i64 0], []⟩ 8 (by kernel_rfl) (by kernel_rfl) (by kernel_rfl) (by kernel_rfl)) ?_
  intro W base args ds gs before hval0 hW _ _ _
  have hval : ∀ (j : Nat) t v, Try.f9.params[j]? = some t → args[j]? = some v → Value.okWide Try.prog W .any base t v := hval0
  have hW' := hW
  obtain ⟨p, q, hA0, hV, rfl, _, _⟩ := hW
  have hA : DataW.TrodAll enc Try.prog W 0 (fun _ => true) true Try.f9.params.toList args.toList ds p := hA0
  rw [Try.params9] at hA hval
  obtain ⟨v0, v1, d0, d1, p0, p1, rfl, rfl, rfl, h0, h1⟩ := trodAll_two hA
  obtain ⟨rfl, rfl⟩ := trodVars_none hV
  obtain ⟨most, rfl, rfl, rfl, wm⟩ := open_int und3_is (hval 1 3 v1 rfl rfl) h1
  obtain ⟨f0, f1, f2, ef, t0, t1, t2⟩ := flds58_three
  have hs : Try.prog.underlying 58 = some (.struct #[f0, f1, f2]) := by rw [und58_is, ef]
  have hone : oneCellFields Try.prog #[f0, f1, f2] = true := by rw [← ef]; kernel_rfl
  have hC : Try.prog.cellsOf 58 = 3 := by kernel_rfl
  obtain ⟨a0, a1, a2, y0, y1, y2, n, rfl, rfl, rfl, g0, g1, g2⟩ := open_agg3 hs hone hC (hval 0 58 v0 rfl rfl) h0
  rw [t0] at g0
  rw [t1] at g1
  rw [t2] at g2
  obtain ⟨st, e0, rfl, w0⟩ := DataW.trod_int und3_is g0
  obtain ⟨af, e1, rfl, w1⟩ := DataW.trod_int und3_is g1
  obtain ⟨nl, e2, rfl⟩ := DataW.trod_bool und4_is g2
  injection e0 with e0 _
  injection e1 with e1 _
  injection e2 with e2 _
  subst e0 e1 e2
  clear hA0 hval0
  simp only [List.append_nil] at hW'
  obtain ⟨M, last, o, w', t', r1, r2, r3, r4⟩ := run st af most nl W
  refine ⟨M, last, o, w', t', r1, r2, r3, r4.mono fun v hF => ?_⟩
  obtain ⟨rfl, hk⟩ : v = .bool true ∧ Left W (.bool true) w' := ⟨hF.1, ⟨rfl, hF.2⟩⟩
  exact ⟨_, _, _, [], _, [], hW', trodAll_mk1 (shut_bool und4_is true), trodAll_mk2 (shut_agg3 (y0 := (.lit (.int .i64 st), [])) (y1 := (.lit (.int .i64 af), [])) (y2 := (.lit (.bool nl), [])) hs hone hC (by rw [t0]; exact field_of_Trod (shut_int und3_is w0) rfl) (by rw [t1]; exact field_of_Trod (shut_int und3_is w1) rfl) (by rw [t2]; exact field_of_Trod (shut_bool und4_is nl) rfl)) (shut_int und3_is wm), rfl, hk.kept _, fun h => by cases h⟩

theorem turnAlone_of (run : ∀ (st af most : Int) (nl : Bool) (W : World), ∃ M last o w' t', runNT Try.prog (M + 1) (solo (G (Frame.enter Try.prog 9 #[.agg #[.int .i64 st, .int .i64 af, .bool nl], .int .i64 most] .normal) []) W) #[] = (.ended o w', t') ∧
      runN Try.prog M (solo (G (Frame.enter Try.prog 9 #[.agg #[.int .i64 st, .int .i64 af, .bool nl], .int .i64 most] .normal) []) W) = .next last ∧ step Try.prog last = .ended o w' ∧ Conc.Good Try.prog (Left W) last o w' t') : Rows.TurnAloneSaid :=
  OpenClaim.holds_of_wide_leaving 9 Try.f9 rfl rfl rfl rfl rfl rfl rfl ⟨rfl, rfl, rfl, rfl, rfl⟩ rfl rfl rfl rfl rfl (by kernel_rfl) Try.func9 (by kernel_rfl)
    (of_decide_eq_true (by kernel_rfl)) (by unfold Func.isWrapper; first | (rw [if_pos (by decide +kernel)]; kernel_rfl) | (rw [if_neg (by decide +kernel)]; exact ⟨rfl, rfl⟩))
    (fun os started H enc _ => turnAlone_lifted run os started H enc)
end Go.Proofs.Ytgiiicdpbdfemaa
end

/- Arguments that came in: slices of numbers, of walks; and that they read behind the run as they did. -/
section
namespace Go.Proofs.Ytgiiicdpbdfemaa
open Go.Conc Go.RowKit Go.Relay Go.ChangeShapes Go.WideShapes Go.ChangeAt Go.Joins Go.Deep

theorem laid_out : laidOutB Try.prog = true := by kernel_rfl

section
variable {H : Type} {enc : TypeId × Value → H} {W w' : World}

/-- What was read reads as it did. -/
theorem Left.stays {r : Value} {t : TypeId} {v : Value} {d : DataW H} {ps : List MemPlace} (K : Left W r w') (hr : Try.prog.readableRec t = true) (hrow : t < Try.prog.types.size) (h : DataW.Trod enc Try.prog W 0 (fun _ => true) true t v d ps) (hlt : ∀ x ∈ ps, x.block < W.heap.size) :
    DataW.Trod enc Try.prog w' 0 (fun b => decide (b < W.heap.size)) true t v d ps :=
  WideElems.Trod_stays laid_out hr hrow h (fun x hx => by
    have hb := K.2.2.2 x.block (hlt x hx)
    cases x with
    | cell b o => exact World.cell?_of_block (w := W) (a := ⟨b, o, none⟩) hb
    | map b => exact hb) (fun x hx => by simpa using hlt x hx)

theorem addr_form {w : World} {a : Addr} {v : Value} (h : w.cell? a = some v) : a = ⟨a.block, a.off, none⟩ := by
  obtain ⟨b, o, s⟩ := a
  cases s with
  | none => rfl
  | some s =>
    unfold World.cell? at h
    split at h
    · simp at h
    · cases h

set_option maxHeartbeats 8000000 in
set_option maxRecDepth 100000 in
theorem open_nums {t : TypeId} {base : Nat} {v : Value} {d : DataW H} {ps : List MemPlace} (hu : Try.prog.underlying t = some (.slice 3)) (hval : Value.okWide Try.prog W .any base t v) (h : DataW.Trod enc Try.prog W 0 (fun _ => true) true t v d ps)
    {ts : List TypeId} {ds : List (DataW H)} {j : Nat} (hsz : (DataW.weightsEach Try.prog ts ds).all (· ≤ reachBytes) = true) (ht : ts[j]? = some t) (hd : ds[j]? = some d) :
    ∃ (a : Option Addr) (cap : Nat) (zs : List Int), v = .slice a zs.length cap ∧ zs.length ≤ 17592186044416 ∧ ∀ (i : Nat) (z : Int), zs[i]? = some z → ∃ s so, a = some ⟨s, so, none⟩ ∧ W.cell? ⟨s, so + i, none⟩ = some (.int .i64 z) := by
  obtain ⟨a, len, cap, rfl⟩ := okWide_slice hu hval
  obtain ⟨fuel, hf⟩ := h
  have hc3 : Try.prog.cellsOf 3 = 1 := by kernel_rfl
  have hb3 : Try.prog.bytesOf 3 = 8 := by kernel_rfl
  rcases open_ints hu und3_is hc3 hf with ⟨e, _⟩ | ⟨a', len', cap', zs, e, _, hl, _, hzl, hx, hcell, _⟩
  · have e : [Value.slice a len cap] = [.slice none 0 0] := e
    injection e with e _
    injection e with e1 e2 e3
    subst e1 e2 e3
    exact ⟨none, 0, [], rfl, Nat.zero_le _, fun i z h => by simp at h⟩
  · have e : [Value.slice a len cap] = [.slice (some a') len' cap'] := e
    injection e with e _
    injection e with e1 e2 e3
    subst e1 e2 e3
    have hzl : zs.length = cap := by simpa using hzl
    injection hx with hx _
    subst hx
    have hs := sized_slice hsz ht hd hu
    rw [hb3] at hs
    have hs2 : ((lits .i64 (zs.take len) : List (DataW H)).length + (lits .i64 (zs.drop len) : List (DataW H)).length) = cap := by simp [lits]; omega
    rw [hs2] at hs
    have hr := reachBytes_lt
    have htl : (zs.take len).length = len := by rw [List.length_take]; omega
    refine ⟨some a', cap, zs.take len, by rw [htl], by omega, fun i z hz => ?_⟩
    have hi : i < len := by have := (List.getElem?_eq_some_iff.1 hz).1; omega
    have h0 := hcell 0 (by omega)
    have ha : a'.add 0 = a' := by simp [Addr.add]
    rw [ha] at h0
    have hform := addr_form h0
    have hci := hcell i (by omega)
    rw [hform] at hci
    refine ⟨_, _, congrArg some hform, ?_⟩
    rw [add_none] at hci
    rw [hci]
    have : zs[i]? = some z := by
      rw [List.getElem?_take, if_pos hi] at hz
      exact hz
    rw [List.getD_eq_getElem?_getD, this]
    rfl

set_option maxHeartbeats 8000000 in
set_option maxRecDepth 100000 in
theorem open_walks {t : TypeId} {base : Nat} {v : Value} {d : DataW H} {ps : List MemPlace} (hu : Try.prog.underlying t = some (.slice 58)) (hval : Value.okWide Try.prog W .any base t v) (h : DataW.Trod enc Try.prog W 0 (fun _ => true) true t v d ps)
    {ts : List TypeId} {ds : List (DataW H)} {j : Nat} (hsz : (DataW.weightsEach Try.prog ts ds).all (· ≤ reachBytes) = true) (ht : ts[j]? = some t) (hd : ds[j]? = some d) :
    ∃ (a : Option Addr) (n cap : Nat) (st af : Nat → Int) (nl : Nat → Bool), v = .slice a n cap ∧ n ≤ 8796093022208 ∧ WalksAt a n st af nl W := by
  obtain ⟨a, len, cap, rfl⟩ := okWide_slice hu hval
  obtain ⟨fuel, hf⟩ := h
  have hC : Try.prog.cellsOf 58 = 3 := by kernel_rfl
  have hB : Try.prog.bytesOf 58 = 24 := by kernel_rfl
  obtain ⟨f0, f1, f2, ef, t0, t1, t2⟩ := flds58_three
  have hst : Try.prog.underlying 58 = some (.struct #[f0, f1, f2]) := by rw [und58_is, ef]
  have hone : oneCellFields Try.prog #[f0, f1, f2] = true := by rw [← ef]; kernel_rfl
  rcases open_slice hu hf with ⟨e, _⟩ | ⟨a', len', cap', m, n, D, Pl, e, _, hl, _, hm, hx, hel⟩
  · have e : [Value.slice a len cap] = [.slice none 0 0] := e
    injection e with e _
    injection e with e1 e2 e3
    subst e1 e2 e3
    exact ⟨none, 0, 0, fun _ => 0, fun _ => 0, fun _ => false, rfl, Nat.zero_le _, fun i h => absurd h (Nat.not_lt_zero _)⟩
  · have e : [Value.slice a len cap] = [.slice (some a') len' cap'] := e
    injection e with e _
    injection e with e1 e2 e3
    subst e1 e2 e3
    have hm : m = cap := by simpa using hm
    injection hx with hx _
    subst hx
    have hs := sized_slice hsz ht hd hu
    rw [hB] at hs
    have hr := reachBytes_lt
    simp only [List.length_map, List.length_range] at hs
    have key : ∀ i, i < len → ∃ x : Int × Int × Bool, W.cell? (a'.add (i * 3)) = some (.int .i64 x.1) ∧ W.cell? ((a'.add (i * 3)).add 1) = some (.int .i64 x.2.1) ∧ W.cell? ((a'.add (i * 3)).add 2) = some (.bool x.2.2) := fun i hi => by
      obtain ⟨cs', h1, h2⟩ := hel i (by omega)
      rw [hC] at h1
      obtain ⟨_, hlen, hcell⟩ := World.cells?_some h1
      obtain ⟨y0, y1, y2, k, _, _, u0, u1, u2⟩ := trod_struct3 hst h2
      obtain ⟨o0, k0⟩ := hone_of hone 0 f0 rfl
      obtain ⟨o1, k1⟩ := hone_of hone 1 f1 rfl
      obtain ⟨o2, k2⟩ := hone_of hone 2 f2 rfl
      match cs', hlen with
      | [c0, c1, c2], _ =>
        rw [o0, k0, t0] at u0
        rw [o1, k1, t1] at u1
        rw [o2, k2, t2] at u2
        obtain ⟨st, e0, _, _⟩ := DataW.trod_int und3_is u0
        obtain ⟨af, e1, _, _⟩ := DataW.trod_int und3_is u1
        obtain ⟨nl, e2, _⟩ := DataW.trod_bool und4_is u2
        simp at e0 e1 e2
        subst e0 e1 e2
        have c0 := hcell 0 (by omega)
        have c1 := hcell 1 (by omega)
        have c2 := hcell 2 (by omega)
        have ha : ∀ b : Addr, b.add 0 = b := fun b => by simp [Addr.add]
        rw [ha] at c0
        exact ⟨(st, af, nl), by simpa using c0, by simpa using c1, by simpa using c2⟩
    obtain ⟨f, hf'⟩ := choose_lt (α := Int × Int × Bool) key
    refine ⟨some a', len, cap, fun i => (f i).1, fun i => (f i).2.1, fun i => (f i).2.2, rfl, by omega, fun i hi => ?_⟩
    obtain ⟨h0, h1, h2⟩ := hf' i hi
    obtain ⟨z0, _, _⟩ := hf' 0 (by omega)
    have ha : a'.add (0 * 3) = a' := by simp [Addr.add]
    rw [ha] at z0
    have hform := addr_form z0
    rw [hform, add_none] at h0 h1 h2
    rw [add_none] at h1 h2
    exact ⟨_, _, congrArg some hform, h0, h1, h2⟩
end
end Go.Proofs.Ytgiiicdpbdfemaa
end


section
namespace Go.Proofs.Ytgiiicdpbdfemaa
open Go.Conc Go.RowKit Go.Relay
open Go.ConcN (upd upd_ne upd_same)

theorem numb_get {l : List Nat} {i x : Nat} (h : l[i]? = some x) : (numbs l)[i]? = some (.int .i64 (x : Nat)) := by
  unfold numbs
  rw [List.getElem?_map, h]; rfl
theorem nums_row {w : World} {base : Nat} {a : Option Addr} {n cap X : Nat} {l : List Nat} (h : w.ownsRow base 3 1 (.slice a n cap) n (numbs l)) (f : Nat → Int) (hX : ∀ i, i < X → ∃ x : Nat, l[i]? = some x ∧ f i = x) : NumsAt a X f w := fun i hi => by
  obtain ⟨x, hx, hf⟩ := hX i hi
  obtain ⟨g, cap', e, _, _, _, hc⟩ := row_cell h (numb_get hx)
  injection e with e _ _
  rw [hf]
  exact ⟨g, 0, e, by rw [Nat.zero_add]; exact hc⟩

/-- A slice cut short. -/
theorem cut_row {w : World} {base : Nat} {a : Option Addr} {L cap X : Nat} {xs : List Value} (h : w.ownsRow base 3 1 (.slice a L cap) L xs) (hX : X ≤ L) : (∀ w, (Instr.sliceAt 24 (.slice a L cap) none (some (.int .i64 (X : Nat))) none).run Try.prog w = .ok (.slice a X cap) w) ∧
    ∀ w es, (Instr.sliceAt 24 (.slice a L cap) none (some (.int .i64 (X : Nat))) none).events Try.prog w es = es := by
  have hi := Option.some_get (show (Try.prog.info? 3).isSome = true by kernel_rfl)
  rcases h.2 with ⟨e, h0⟩ | ⟨g, cap', cur, e, _, _, hc, _⟩
  · injection e with e1 e2 e3
    subst e1 e2 e3
    have : X = 0 := by omega
    subst this
    exact ⟨fun w => (run_sl0_of hu24 hi.symm w #[]).1, fun w es => (run_sl0_of hu24 hi.symm w es).2⟩
  · injection e with e1 e2 e3
    subst e1 e3
    exact ⟨fun w => (run_sl_of hu24 hi.symm g L cap X (by omega) w #[]).1, fun w es => (run_sl_of hu24 hi.symm g L cap X (by omega) w es).2⟩

theorem most_all (la : Option Addr) (N cap : Nat) (st af : Nat → Int) (nl : Nat → Bool) (sa : Option Addr) (sc : Nat) (sl : List Int) (most : Int) (W : World) (hN : N ≤ 8796093022208) (hsl : sl.length ≤ 17592186044416) (hl : WalksAt la N st af nl W)
    (hs : ∀ (j : Nat) (z : Int), sl[j]? = some z → ∃ s so, sa = some ⟨s, so, none⟩ ∧ W.cell? ⟨s, so + j, none⟩ = some (.int .i64 z)) :
    Runs (fun g w' => Closing 7 6 (.bool true) g ∧ (OsSame W w' → ∀ d, Left W (.bool true) (w'.at d))) (G (Frame.enter Try.prog 7 #[.slice la N cap, .slice sa sl.length sc, .int .i64 most] .normal) []) W := by
  refine Runs.then (most_first la N cap st af nl sa sc sl most W hN hsl hl hs) ?_
  rintro g w ⟨Ba, Bb, oa1, oc1, q1, arr1, oa2, oc2, q2, arr2, la2, cap2, hT, u, rfl⟩
  obtain ⟨m1, hm1⟩ : ∃ m1 : Nat, min (max most 0) 1048576 = (m1 : Int) := ⟨(min (max most 0) 1048576).toNat, by omega⟩
  have hm2 : m1 ≤ 1048576 := by omega
  have hn64 : min N 64 ≤ 64 := Nat.min_le_right _ _
  obtain ⟨r1, r2, r3, r4, r5⟩ := most_run (s := ⟨nl, fun i => st i % 32, af⟩) (n := min N 64) (fun i => Int.emod_lt_of_pos _ (by decide)) hn64 m1 hm2 sl
  have hF := (pw_run (s := ⟨nl, fun i => st i % 32, af⟩) (n := min N 64) (fun i => Int.emod_lt_of_pos _ (by decide)) 1048576 sl).short hn64
  rw [hm1] at hT ⊢
  obtain ⟨o1, o2, hq1, a1, hq2, a2, hbd, hbr, hold⟩ := hT
  generalize overW ⟨nl, fun i => st i % 32, af⟩ (min N 64) 1048576 sl = F at *
  generalize overW ⟨nl, fun i => st i % 32, af⟩ (min N 64) m1 sl = A at *
  have hlen : A.2.length = min m1 F.2.length := by rw [r1, List.length_take]; omega
  generalize hXd : min m1 F.2.length = X at *
  have hX : X ≤ F.2.length := by omega
  rw [hlen] at o2 hbd hbr ⊢
  have hget : ∀ i, i < X → ∃ x : Nat, A.2[i]? = some x ∧ ((A.2.getD i 0 : Nat) : Int) = x := fun i hi => by
    have : i < A.2.length := by omega
    exact ⟨A.2[i], List.getElem?_eq_getElem this, by rw [List.getD_eq_getElem?_getD, List.getElem?_eq_getElem this]; rfl⟩
  have hgetF : ∀ i, i < X → ∃ x : Nat, F.2[i]? = some x ∧ ((A.2.getD i 0 : Nat) : Int) = x := fun i hi => by
    obtain ⟨x, h1, h2⟩ := hget i hi
    rw [r1, List.getElem?_take, if_pos hi] at h1
    exact ⟨x, h1, h2⟩
  have nA := nums_row o2 (fun i => ((A.2.getD i 0 : Nat) : Int)) hget
  have nF := nums_row o1 (fun i => ((A.2.getD i 0 : Nat) : Int)) hgetF
  have nB := nums_row hbr (fun i => ((A.2.getD i 0 : Nat) : Int)) hget
  have hXb : X ≤ 17592186044416 := by omega
  obtain ⟨hsl1, hsl2⟩ := cut_row o1 hX
  have hz : decide ((X : Int) < F.2.length) = decide (0 < goingW (min N 64) A.1) := decide_eq_decide.2 (by rw [r2]; omega)
  refine Runs.walk (Stop := fun g w' => Closing 7 6 (.bool true) g ∧ ∃ d, w' = w.at d) ?_ ?_
  · refine (most_mid _ _ most Ba Bb oa1 F.2.length oc1 q1 (min N 64) oa2 X oc2 q2 (decide (0 < goingW (min N 64) A.1)) la2 cap2 u w (by omega) hz hsl1 hsl2 (same25_w oa2 oa1 X oc2 oc1 _ hXb w nA nF) (same25_w la2 oa2 X cap2 oc2 _ hXb w nB nA) ((cell_of hbd 0).trans rfl)).then ?_
    rintro g w1 ⟨⟨u1, rfl⟩, d, rfl⟩
    refine Walk.back ?_ d
    refine most_loop _ _ _ _ _ _ _ _ q1 q2 (min N 64) (fun m => A.1.out m == some true) (fun m => F.1.out m == some true) _ w hn64 (fun m hm => (cell_of hq2 m).trans (a2 m hm)) (fun m hm => (cell_of hq1 m).trans (a1 m hm)) (fun m _ h => ?_) (fun h m _ => ?_) (min N 64) 0 u1 (by omega)
    · have h : (A.1.out m == some true) = true := h
      show (F.1.out m == some true) = true
      rw [r3 m (by simpa using h)]; rfl
    · have : goingW (min N 64) A.1 = 0 := by
        have := of_decide_eq_false h
        omega
      rw [r4 this]
  · rintro g w' ⟨hc, d, rfl⟩
    exact .now ⟨hc, fun ho d' => ⟨rfl, ho.1, ho.2, hold.same⟩⟩

open Go.ChangeShapes Go.WideShapes Go.ChangeAt Go.Joins Go.Deep

set_option maxRecDepth 100000 in
theorem turnMost_lifted (os : Os) (started : os.Started) (H : Type) (enc : TypeId × Value → H) :
    ReturnsInLeavingWide {} Try.checked os 7 .any (Rows.turnMostSpec.pre6 enc Try.prog Try.f7 Rows.turnMostRow.domain false) (Rows.turnMostSpec.post enc Try.prog Try.f7 false true false false) := by
  refine returnsInLeavingWide_of_change_sized (C := Try.checked) prog_own started Try.func7
    (ChangeSpec.witness6 (enc := enc) (C := Try.checked) false ⟨#[], #[.slice none 0 0, .slice none 0 0, .int .i64 0], []⟩ 8 (by kernel_rfl) (by kernel_rfl) (by kernel_rfl) (by kernel_rfl)) ?_
  intro W base args ds gs before hval0 hW _ hsz0 _
  have hval : ∀ (j : Nat) t v, Try.f7.params[j]? = some t → args[j]? = some v → Value.okWide Try.prog W .any base t v := hval0
  have hW' := hW
  obtain ⟨p, q, hA0, hV, rfl, _, _⟩ := hW
  have hA : DataW.TrodAll enc Try.prog W 0 (fun _ => true) true Try.f7.params.toList args.toList ds p := hA0
  rw [Try.params7] at hA hval
  have hsz : (DataW.weightsEach Try.prog (Try.f7.params.toList ++ Rows.turnMostSpec.plain.varTypes Try.prog) (ds ++ gs)).all (· ≤ reachBytes) = true := hsz0
  rw [Try.params7] at hsz
  obtain ⟨v0, v1, v2, d0, d1, d2, p0, p1, p2, rfl, rfl, rfl, h0, h1, h2⟩ := trodAll_three hA
  obtain ⟨rfl, rfl⟩ := trodVars_none hV
  have hlt := hW'.lt
  obtain ⟨most, rfl, rfl, rfl, wm⟩ := open_int und3_is (hval 2 3 v2 rfl rfl) h2
  obtain ⟨la, N, cap, st, af, nl, rfl, hN, hl⟩ := open_walks (t := 46) (by kernel_rfl) (hval 0 46 v0 rfl rfl) h0 (j := 0) hsz rfl rfl
  obtain ⟨sa, sc, sl, rfl, hsl, hs⟩ := open_nums (t := 24) (by kernel_rfl) (hval 1 24 v1 rfl rfl) h1 (j := 1) hsz rfl rfl
  clear hA0 hval0 hsz0 hsz
  simp only [List.append_nil] at hW' hlt
  obtain ⟨M, last, o, w', t', r1, r2, r3, r4⟩ := run_claim (t := 6) Try.func7 rfl (by kernel_rfl) (most_all la N cap st af nl sa sc sl most W hN hsl hl hs)
  refine ⟨M, last, o, w', t', r1, r2, r3, r4.mono fun v hF => ?_⟩
  have hk : Left W (.bool true) w' := ⟨rfl, hF.2⟩
  obtain rfl : v = .bool true := hF.1
  exact ⟨_, _, _, [], _, [], hW', trodAll_mk1 (shut_bool und4_is true), trodAll_mk3 (hk.stays (by kernel_rfl) (of_decide_eq_true (by kernel_rfl)) h0 fun x hx => hlt x (by simp [hx])) (hk.stays (by kernel_rfl) (of_decide_eq_true (by kernel_rfl)) h1 fun x hx => hlt x (by simp [hx])) (shut_int und3_is wm), rfl, hk.kept _, fun h => by cases h⟩

theorem turnMost_holds : Rows.TurnMostSaid :=
  OpenClaim.holds_of_wide_leaving 7 Try.f7 rfl rfl rfl rfl rfl rfl rfl ⟨rfl, rfl, rfl, rfl, rfl⟩ rfl rfl rfl rfl rfl (by kernel_rfl) Try.func7 (by kernel_rfl)
    (of_decide_eq_true (by kernel_rfl)) (by unfold Func.isWrapper; first | (rw [if_pos (by decide +kernel)]; kernel_rfl) | (rw [if_neg (by decide +kernel)]; exact ⟨rfl, rfl⟩))
    (fun os started H enc _ => turnMost_lifted os started H enc)

#print axioms turnMost_holds
end Go.Proofs.Ytgiiicdpbdfemaa
end
