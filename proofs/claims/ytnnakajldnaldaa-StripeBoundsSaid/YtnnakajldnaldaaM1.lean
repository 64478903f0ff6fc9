/- Part 1. -/
import Derived.Test.YtnnakajldnaldaaJ1
import Derived.Test.YtnnakajldnaldaaJ2
import Derived.Test.YtnnakajldnaldaaJ3
import Derived.Test.YtnnakajldnaldaaJ4
import Derived.Test.YtnnakajldnaldaaJ5
import Derived.Test.YtnnakajldnaldaaJ6
import Derived.Test.YtnnakajldnaldaaJ8
import Derived.Test.YtnnakajldnaldaaJ11
import Derived.Test.YtnnakajldnaldaaJ12
import Derived.Test.YtnnakajldnaldaaJ13
import Derived.Test.YtnnakajldnaldaaJ15
import Derived.Test.YtnnakajldnaldaaJ16
import Derived.Test.YtnnakajldnaldaaJ17
import Derived.Test.YtnnakajldnaldaaJ22
import Derived.Test.YtnnakajldnaldaaJ23
import Derived.Test.YtnnakajldnaldaaJ24
import Derived.Test.YtnnakajldnaldaaJ27
import Derived.Test.YtnnakajldnaldaaJ28
import Derived.Test.YtnnakajldnaldaaJ30
set_option linter.unusedSimpArgs false
set_option linter.unusedVariables false
set_option maxHeartbeats 8000000
set_option maxRecDepth 100000
namespace Go.Proofs.Ytnnakajldnaldaa
open Go.Conc Go.RowKit Go.Relay
open Go.ConcN (upd upd_ne upd_same)
section
section
variable {X : Type}
theorem bornsA_inv (C : Abs X) (PB : Nat → X → Prop) (N : Nat) (hb : ∀ k x, k < N → PB k x → PB (k + 1) (C.born x k)) : ∀ (n k : Nat) (x : X), k + n = N → PB k x → PB N (bornsA C n k x)
  | 0, k, x, h, hp => by
    have : k = N := by omega
    exact this ▸ hp
  | n + 1, k, x, h, hp => bornsA_inv C PB N hb n (k + 1) _ (by omega) (hb k x (by omega) hp)
variable {C : Abs X} {P : X → List Nat → Prop}
theorem stepA_inv (hn : ∀ (x : X) (l : List Nat) (i : Nat), P x l → i < C.n → C.out x i = none → (l.length : Int) < C.most → P (C.next x i) (l ++ [i])) {st : X × List Nat} (z : Int) (h : P st.1 st.2) : P (stepA C st z).1 (stepA C st z).2 := by
  unfold stepA
  split
  · rename_i hc
    obtain ⟨h1, h2, h3, h4⟩ := hc
    simp only [overA, Bool.or_eq_false_iff, decide_eq_false_iff_not] at h1
    exact hn _ _ _ h (by omega) h4 (by omega)
  · exact h
theorem foldA_inv (hn : ∀ (x : X) (l : List Nat) (i : Nat), P x l → i < C.n → C.out x i = none → (l.length : Int) < C.most → P (C.next x i) (l ++ [i])) : ∀ (l : List Int) {st : X × List Nat}, P st.1 st.2 → P (l.foldl (stepA C) st).1 (l.foldl (stepA C) st).2
  | [], _, h => h
  | z :: l, st, h => foldA_inv hn l (stepA_inv hn z h)
theorem roundA_inv (hn : ∀ (x : X) (l : List Nat) (i : Nat), P x l → i < C.n → C.out x i = none → (l.length : Int) < C.most → P (C.next x i) (l ++ [i])) {st : X × List Nat} (h : P st.1 st.2) : P (roundA C st).1 (roundA C st).2 := by
  unfold roundA
  generalize List.range C.n = l
  induction l generalizing st with
  | nil => exact h
  | cons i l ih => exact ih (stepA_inv hn _ h)
theorem restA_inv (hn : ∀ (x : X) (l : List Nat) (i : Nat), P x l → i < C.n → C.out x i = none → (l.length : Int) < C.most → P (C.next x i) (l ++ [i])) : ∀ (f : Nat) {st : X × List Nat}, P st.1 st.2 → P (restA C f st).1 (restA C f st).2
  | 0, _, h => h
  | f + 1, st, h => by
    unfold restA
    split
    · exact h
    · exact restA_inv hn f (roundA_inv hn h)
theorem runA_inv (PB : Nat → X → Prop) (x0 : X) (h0 : PB 0 x0) (hb : ∀ k x, k < C.n → PB k x → PB (k + 1) (C.born x k)) (hs : ∀ x, PB C.n x → P x [])
    (hn : ∀ (x : X) (l : List Nat) (i : Nat), P x l → i < C.n → C.out x i = none → (l.length : Int) < C.most → P (C.next x i) (l ++ [i])) (sl : List Int) : P (runA C x0 sl).1 (runA C x0 sl).2 := by
  unfold runA followA
  exact restA_inv hn _ (foldA_inv hn sl (hs _ (bornsA_inv C PB C.n hb C.n 0 x0 (by omega) h0)))
end
theorem playO_inv {L : La} (s0 : L.Sg) (ops : Nat → List OpV) (n : Nat) (most : Int) (sl : List Int) (PB : Nat → OX L → Prop) (P : OX L → List Nat → Prop) (h0 : PB 0 (x0O L s0)) (hb : ∀ k x, k < n → PB k x → PB (k + 1) (bornO ops x k)) (hs : ∀ x, PB n x → P x [])
    (hn : ∀ (x : OX L) (l : List Nat) (i : Nat), P x l → i < n → x.out i = none → (l.length : Int) < min (max most 0) 1048576 → P (nextO x i) (l ++ [i])) : P (playO L s0 ops n most sl).1 (playO L s0 ops n most sl).2 := by
  unfold playO
  exact runA_inv (C := absO L n (min (max most 0) 1048576) ops) (P := P) PB (x0O L s0) h0 hb hs hn sl
end
section
section
variable {X : Type}
theorem restA_over (C : Abs X) : ∀ (f : Nat) (st : X × List Nat), C.most ≤ (st.2.length + f : Nat) → overA C (restA C f st) = true
  | 0, st, h => by
    unfold restA overA
    have : decide (C.most ≤ st.2.length) = true := decide_eq_true (by simpa using h)
    rw [this, Bool.or_true]
  | f + 1, st, h => by
    unfold restA
    cases ho : overA C st with
    | true => rw [if_pos rfl]; exact ho
    | false =>
      rw [if_neg (by simp)]
      have := roundA_one C ho
      exact restA_over C f _ (by omega)
theorem followA_over (C : Abs X) (st : X × List Nat) (l : List Int) : overA C (followA C st l) = true := restA_over C _ _ (by omega)
end
end
def sg (s : Nat → Int) : Nat → Int
  | 0 => 0
  | n + 1 => sg s n + s n
theorem sg_le {s t : Nat → Int} : ∀ {n : Nat}, (∀ j, j < n → s j ≤ t j) → sg s n ≤ sg t n
  | 0, _ => Int.le_refl _
  | n + 1, h => by
    have := sg_le (n := n) fun j hj => h j (by omega)
    have := h n (by omega)
    show sg s n + s n ≤ sg t n + t n
    omega
theorem sg_eq {s t : Nat → Int} : ∀ {n : Nat}, (∀ j, j < n → s j = t j) → sg s n = sg t n
  | 0, _ => rfl
  | n + 1, h => by
    show sg s n + s n = sg t n + t n
    rw [sg_eq (n := n) fun j hj => h j (by omega), h n (by omega)]
theorem sg_nn {s : Nat → Int} : ∀ {n : Nat}, (∀ j, j < n → 0 ≤ s j) → 0 ≤ sg s n
  | 0, _ => Int.le_refl _
  | n + 1, h => by
    have := sg_nn (n := n) fun j hj => h j (by omega)
    have := h n (by omega)
    show 0 ≤ sg s n + s n
    omega
theorem sg_zero {s : Nat → Int} : ∀ {n : Nat}, (∀ j, j < n → s j = 0) → sg s n = 0
  | 0, _ => rfl
  | n + 1, h => by
    show sg s n + s n = 0
    rw [sg_zero (n := n) fun j hj => h j (by omega), h n (by omega)]
    rfl
theorem sg_upd_ge {s : Nat → Int} {j : Nat} {x : Int} : ∀ {n : Nat}, n ≤ j → sg (upd s j x) n = sg s n
  | 0, _ => rfl
  | n + 1, h => by
    show sg (upd s j x) n + upd s j x n = sg s n + s n
    rw [sg_upd_ge (n := n) (by omega), upd_ne _ _ (by omega)]
theorem sg_upd {s : Nat → Int} {j : Nat} {x : Int} : ∀ {n : Nat}, j < n → sg (upd s j x) n = sg s n - s j + x
  | 0, h => by omega
  | n + 1, h => by
    show sg (upd s j x) n + upd s j x n = sg s n + s n - s j + x
    by_cases e : j = n
    · subst e
      rw [sg_upd_ge (Nat.le_refl _), upd_same]
      omega
    · rw [sg_upd (n := n) (by omega), upd_ne _ _ (by omega)]
      omega
theorem sg_one {s : Nat → Int} : ∀ {n j : Nat}, (∀ k, k < n → 0 ≤ s k) → j < n → s j ≤ sg s n
  | 0, _, _, h => by omega
  | n + 1, j, hs, h => by
    show s j ≤ sg s n + s n
    by_cases e : j = n
    · subst e
      have := sg_nn (n := j) fun k hk => hs k (by omega)
      omega
    · have := sg_one (n := n) (j := j) (fun k hk => hs k (by omega)) (by omega)
      have := hs n (by omega)
      omega
theorem sg_const {s : Nat → Int} {c : Int} : ∀ {n : Nat}, (∀ j, j < n → s j ≤ c) → sg s n ≤ n * c
  | 0, _ => by simp [sg]
  | n + 1, h => by
    have h1 := sg_const (n := n) (c := c) fun j hj => h j (by omega)
    have h2 := h n (by omega)
    show sg s n + s n ≤ ((n + 1 : Nat) : Int) * c
    rw [show ((n + 1 : Nat) : Int) * c = n * c + c by rw [Int.natCast_add, Int.add_mul]; simp]
    omega
def sgL (l : List Int) : Int := sg (fun j => l.getD j 0) l.length
theorem getD_snoc_lt {l : List Int} {x : Int} {j : Nat} (h : j < l.length) : (l ++ [x]).getD j 0 = l.getD j 0 := by
  rw [List.getD_eq_getElem?_getD, List.getD_eq_getElem?_getD, List.getElem?_append_left h]
theorem getD_snoc_eq {l : List Int} {x : Int} : (l ++ [x]).getD l.length 0 = x := by
  rw [List.getD_eq_getElem?_getD, List.getElem?_append_right (Nat.le_refl _)]
  simp
theorem sgL_snoc (l : List Int) (x : Int) : sgL (l ++ [x]) = sgL l + x := by
  unfold sgL
  rw [List.length_append]
  show sg (fun j => (l ++ [x]).getD j 0) l.length + (l ++ [x]).getD l.length 0 = _
  rw [getD_snoc_eq, sg_eq (t := fun j => l.getD j 0) fun j hj => getD_snoc_lt hj]
theorem wrap_small {z : Int} (h0 : 0 ≤ z) (h1 : z ≤ 4611686018427387904) : IntKind.i64.wrap z = z := by rw [IntKind.wrap_i64]; omega
theorem sumZ_is : ∀ (n : Nat) (l : List Int), l.length = n → (∀ j, j < n → 0 ≤ l.getD j 0) → sgL l ≤ 4611686018427387904 → sumZ l = sgL l
  | 0, l, h, _, _ => by
    obtain rfl := List.length_eq_zero_iff.1 h
    rfl
  | n + 1, l, h, hp, hb => by
    have hl : l ≠ [] := by intro e; rw [e] at h; cases h
    obtain ⟨l', x, rfl⟩ : ∃ l' x, l = l' ++ [x] := ⟨l.dropLast, l.getLast hl, (List.dropLast_concat_getLast hl).symm⟩
    have hn : l'.length = n := by simpa using h
    have hx : 0 ≤ x := by
      have := hp l'.length (by omega)
      rwa [getD_snoc_eq] at this
    have hp' : ∀ j, j < n → 0 ≤ l'.getD j 0 := fun j hj => by
      have := hp j (by omega)
      rwa [getD_snoc_lt (by omega)] at this
    rw [sgL_snoc] at hb ⊢
    have h0 : 0 ≤ sgL l' := sg_nn fun j hj => hp' j (by omega)
    rw [sumZ_snoc, sumZ_is n l' hn hp' (by omega), wrap_small (by omega) hb]
def addS (l : List OpV) : Int := (l.map (·.b)).sum
theorem addS_take (l : List OpV) (k : Nat) (o : OpV) (h : l[k]? = some o) : addS (l.take (k + 1)) = addS (l.take k) + o.b := by
  obtain ⟨hk, e⟩ := List.getElem?_eq_some_iff.1 h
  unfold addS
  rw [List.take_succ_eq_append_getElem hk, List.map_append, List.sum_append, e]
  simp
theorem addS_nn {l : List OpV} (h : ∀ o ∈ l, 0 ≤ o.b) : 0 ≤ addS l := by
  induction l with
  | nil => exact Int.le_refl _
  | cons o l ih =>
    have h1 := h o (by simp)
    have h2 := ih fun o ho => h o (by simp [ho])
    unfold addS at h2 ⊢
    simp only [List.map_cons, List.sum_cons]
    omega
theorem addS_le {l : List OpV} (h : ∀ o ∈ l, o.b ≤ 999) : addS l ≤ l.length * 999 := by
  induction l with
  | nil => simp [addS]
  | cons o l ih =>
    have h1 := h o (by simp)
    have h2 := ih fun o ho => h o (by simp [ho])
    unfold addS at h2 ⊢
    simp only [List.map_cons, List.sum_cons, List.length_cons]
    omega
def totS (ops : Nat → List OpV) (K : Nat) (l : List Nat) : Int := sg (fun i => addS ((ops i).take (l.count i))) K
theorem count_snoc (l : List Nat) (i j : Nat) : (l ++ [i]).count j = if j = i then l.count j + 1 else l.count j := by
  rw [List.count_append]
  by_cases e : j = i
  · subst e; simp
  · rw [if_neg e, List.count_cons_of_ne (fun h => e h.symm)]; simp
theorem totS_add {ops : Nat → List OpV} {K : Nat} {l : List Nat} {i : Nat} {o : OpV} (hi : i < K) (ho : (ops i)[l.count i]? = some o) : totS ops K (l ++ [i]) = totS ops K l + o.b := by
  unfold totS
  have e : ∀ j, j < K → (fun j => addS ((ops j).take ((l ++ [i]).count j))) j = upd (fun j => addS ((ops j).take (l.count j))) i (addS ((ops i).take (l.count i)) + o.b) j := fun j _ => by
    by_cases e : j = i
    · subst e
      rw [upd_same]
      show addS ((ops j).take ((l ++ [j]).count j)) = _
      rw [count_snoc, if_pos rfl, addS_take _ _ _ ho]
    · rw [upd_ne _ _ e]
      show addS ((ops j).take ((l ++ [i]).count j)) = _
      rw [count_snoc, if_neg e]
  rw [sg_eq e, sg_upd hi]
  omega
theorem totS_far {ops : Nat → List OpV} {K : Nat} {l : List Nat} {i : Nat} (hi : K ≤ i) : totS ops K (l ++ [i]) = totS ops K l := by
  unfold totS
  refine sg_eq fun j hj => ?_
  show addS ((ops j).take ((l ++ [i]).count j)) = addS ((ops j).take (l.count j))
  rw [count_snoc, if_neg (by omega)]
def mineR (K : Nat) (l : List Nat) : List Nat := (List.range l.length).filter fun k => l[k]? == some K
theorem mine_snoc (K : Nat) (l : List Nat) (i : Nat) : mineR K (l ++ [i]) = mineR K l ++ (if i = K then [l.length] else []) := by
  unfold mineR
  rw [List.length_append, List.length_singleton, List.range_succ, List.filter_append]
  congr 1
  · refine List.filter_congr fun k hk => ?_
    rw [List.getElem?_append_left (by simpa using hk)]
  · by_cases e : i = K
    · subst e; simp
    · simp [e]
theorem mine_mem {K : Nat} {l : List Nat} {k : Nat} (h : k ∈ mineR K l) : k < l.length ∧ l[k]? = some K := by
  unfold mineR at h
  rw [List.mem_filter] at h
  simpa using h
def totAt (ops : Nat → List OpV) (K : Nat) (l : List Nat) (k : Nat) : Int := totS ops K (l.take (k + 1))
theorem totAt_snoc {ops : Nat → List OpV} {K : Nat} {l : List Nat} {i k : Nat} (h : k < l.length) : totAt ops K (l ++ [i]) k = totAt ops K l k := by
  unfold totAt
  rw [List.take_append_of_le_length (by omega)]
theorem totAt_last {ops : Nat → List OpV} {K : Nat} {l : List Nat} {i : Nat} : totAt ops K (l ++ [i]) l.length = totS ops K (l ++ [i]) := by
  unfold totAt
  rw [List.take_of_length_le (by simp)]
end Go.Proofs.Ytnnakajldnaldaa
