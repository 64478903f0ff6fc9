/- Part 13. -/
import Derived.Test.YtgiiicdpbdfemaaC12
import Derived.Laws.OwnMore
set_option linter.unusedSimpArgs false
/- Runs by a schedule, told apart from all memory: a run with a most is the beginning of one with a greater most. -/
section
namespace Go.Proofs.Ytgiiicdpbdfemaa
open Go.ConcN (upd upd_ne upd_same)

section
variable {X : Type}
/-- st' comes from st by steps of threads that had one to do. -/
inductive Stps (C : Abs X) : X × List Nat → X × List Nat → Prop
  | refl (st : X × List Nat) : Stps C st st
  | step {st st' : X × List Nat} (i : Nat) (h : Stps C st st') (hi : i < C.n) (ho : C.out st'.1 i = none) : Stps C st (C.next st'.1 i, st'.2 ++ [i])

theorem Stps.trans {C : Abs X} {a b c : X × List Nat} (h : Stps C a b) (k : Stps C b c) : Stps C a c := by
  induction k with
  | refl => exact h
  | step i _ hi ho ih => exact .step i ih hi ho
theorem Stps.pre {C : Abs X} {a b : X × List Nat} (h : Stps C a b) : ∃ l, b.2 = a.2 ++ l ∧ (l = [] → b = a) ∧ (l ≠ [] → ∃ i, i < C.n ∧ C.out a.1 i = none) := by
  induction h with
  | refl => exact ⟨[], by simp, fun _ => rfl, fun h => absurd rfl h⟩
  | @step st' i h hi ho ih =>
    obtain ⟨l, h1, h2, h3⟩ := ih
    refine ⟨l ++ [i], by simp [h1], fun e => by simp at e, fun _ => ?_⟩
    by_cases hl : l = []
    · rw [h2 hl] at ho
      exact ⟨i, hi, ho⟩
    · exact h3 hl
/-- Who has ended has ended for good. -/
theorem Stps.out {C : Abs X} (hn : ∀ x i j, j ≠ i → C.out (C.next x i) j = C.out x j) {a b : X × List Nat} (h : Stps C a b) {j : Nat} {v : Bool} (hv : C.out a.1 j = some v) : C.out b.1 j = some v := by
  induction h with
  | refl => exact hv
  | step i _ hi ho ih =>
    have hne : j ≠ i := fun e => by rw [e, ho] at ih; cases ih
    show C.out (C.next _ i) j = _
    rw [hn _ _ _ hne]; exact ih
/-- What a step keeps. -/
theorem Stps.keep {C : Abs X} {P : X × List Nat → Prop} (hP : ∀ st i, P st → i < C.n → C.out st.1 i = none → P (C.next st.1 i, st.2 ++ [i])) {a b : X × List Nat} (h : Stps C a b) (ha : P a) : P b := by
  induction h with
  | refl => exact ha
  | step i _ hi ho ih => exact hP _ i ih hi ho

theorem step_stps (C : Abs X) (st : X × List Nat) (z : Int) : Stps C st (stepA C st z) := by
  unfold stepA
  split
  · next h => exact .step _ (.refl st) (by omega) h.2.2.2
  · exact .refl st
theorem fold_stps (C : Abs X) : ∀ (l : List Int) (st : X × List Nat), Stps C st (l.foldl (stepA C) st)
  | [], st => .refl st
  | z :: l, st => (step_stps C st z).trans (fold_stps C l _)
theorem foldn_stps (C : Abs X) : ∀ (l : List Nat) (st : X × List Nat), Stps C st (l.foldl (fun st i => stepA C st (i : Nat)) st)
  | [], st => .refl st
  | z :: l, st => (step_stps C st z).trans (foldn_stps C l _)
theorem round_stps (C : Abs X) (st : X × List Nat) : Stps C st (roundA C st) := foldn_stps C _ st
theorem rest_stps (C : Abs X) : ∀ (f : Nat) (st : X × List Nat), Stps C st (restA C f st)
  | 0, st => .refl st
  | f + 1, st => by
    unfold restA
    split
    · exact .refl st
    · exact (round_stps C st).trans (rest_stps C f _)
theorem follow_stps (C : Abs X) (st : X × List Nat) (l : List Int) : Stps C st (followA C st l) := (fold_stps C l st).trans (rest_stps C _ _)

theorem stepA_len (C : Abs X) (st : X × List Nat) (z : Int) : st.2.length ≤ (stepA C st z).2.length := by
  unfold stepA
  split
  · simp
  · exact Nat.le_refl _
theorem roundA_mono (C : Abs X) : ∀ (l : List Nat) (st : X × List Nat), st.2.length ≤ (l.foldl (fun st i => stepA C st (i : Nat)) st).2.length
  | [], _ => Nat.le_refl _
  | _ :: l, _ => Nat.le_trans (stepA_len C _ _) (roundA_mono C l _)
theorem roundA_grow (C : Abs X) {i : Nat} (hi : i < C.n) : ∀ (l : List Nat) (st : X × List Nat), i ∈ l → overA C st = false → C.out st.1 i = none → st.2.length + 1 ≤ (l.foldl (fun st i => stepA C st (i : Nat)) st).2.length
  | [], _, h, _, _ => by cases h
  | a :: l, st, h, ho, hn => by
    rw [List.foldl_cons]
    by_cases hs : overA C st = false ∧ 0 ≤ (a : Int) ∧ (a : Int) < C.n ∧ C.out st.1 (a : Int).toNat = none
    · have : (stepA C st a).2.length = st.2.length + 1 := by unfold stepA; rw [if_pos hs]; simp
      rw [← this]
      exact roundA_mono C l _
    · have : stepA C st a = st := by unfold stepA; rw [if_neg hs]
      rw [this]
      rcases List.mem_cons.1 h with rfl | h
      · exact absurd ⟨ho, by omega, by omega, by simpa using hn⟩ hs
      · exact roundA_grow C hi l st h ho hn
theorem roundA_one (C : Abs X) {st : X × List Nat} (h : overA C st = false) : st.2.length + 1 ≤ (roundA C st).2.length := by
  have hg : goingA C st.1 ≠ 0 := by
    intro e
    unfold overA at h
    rw [e] at h
    simp at h
  obtain ⟨i, hi, hn⟩ := List.countP_pos_iff.1 (Nat.pos_of_ne_zero hg)
  have hi : i < C.n := List.mem_range.1 hi
  exact roundA_grow C hi _ _ (List.mem_range.2 hi) h (by simpa using hn)

theorem rest_on (C : Abs X) {f : Nat} {st : X × List Nat} (h : overA C st = false) : restA C (f + 1) st = restA C f (roundA C st) := by
  show (if overA C st then st else restA C f (roundA C st)) = _
  rw [h]; rfl
theorem rest_off (C : Abs X) {f : Nat} {st : X × List Nat} (h : overA C st = true) : restA C (f + 1) st = st := by
  show (if overA C st then st else restA C f (roundA C st)) = _
  rw [h]; rfl
/-- The run is over, once it has come to its end. -/
theorem restA_over (C : Abs X) : ∀ (f : Nat) (st : X × List Nat), C.most ≤ (st.2.length + f : Nat) → overA C (restA C f st) = true
  | 0, st, h => by
    unfold restA overA
    have : decide (C.most ≤ st.2.length) = true := decide_eq_true (by simpa using h)
    rw [this, Bool.or_true]
  | f + 1, st, h => by
    unfold restA
    cases ho : overA C st with
    | true => rw [if_pos rfl]; exact ho
    | false =>
      rw [if_neg (by simp)]
      have := roundA_one C ho
      exact restA_over C f _ (by omega)
theorem followA_over (C : Abs X) (st : X × List Nat) (l : List Int) : overA C (followA C st l) = true := restA_over C _ _ (by omega)

def Abs.withMost (C : Abs X) (m : Int) : Abs X := { C with most := m }

section
variable {C : Abs X} {m1 m2 : Nat}
/-- Two runs, with mosts m1 and m2: the first is the second, or the second's beginning. -/
def Both2 (C : Abs X) (m1 : Nat) (a b : X × List Nat) : Prop := Stps C a b ∧ a.2.length ≤ m1 ∧ (a = b ∨ a.2.length = m1)

theorem stps_most {m : Int} {a b : X × List Nat} (h : Stps (C.withMost m) a b) : Stps C a b := by
  induction h with
  | refl => exact .refl _
  | step i _ hi ho ih => exact .step i ih hi ho

theorem over_most (m : Nat) (st : X × List Nat) : overA (C.withMost m) st = (decide (goingA C st.1 = 0) || decide (m ≤ st.2.length)) := by
  unfold overA
  have : decide ((C.withMost m).most ≤ (st.2.length : Int)) = decide (m ≤ st.2.length) := decide_eq_decide.2 (by show (m : Int) ≤ _ ↔ _; omega)
  rw [this]
  rfl

theorem Both2.stp (hm : m1 ≤ m2) {a b : X × List Nat} (h : Both2 C m1 a b) (z : Int) : Both2 C m1 (stepA (C.withMost m1) a z) (stepA (C.withMost m2) b z) := by
  obtain ⟨h1, h2, h3⟩ := h
  have sb := stps_most (step_stps (C.withMost m2) b z)
  by_cases hc : overA (C.withMost m1) a = false ∧ 0 ≤ z ∧ z < C.n ∧ C.out a.1 z.toNat = none
  · have ho := hc.1
    rw [over_most] at ho
    simp only [Bool.or_eq_false_iff, decide_eq_false_iff_not] at ho
    have hab : a = b := h3.resolve_right (by omega)
    subst hab
    have ho2 : overA (C.withMost m2) a = false := by
      rw [over_most]
      simp only [Bool.or_eq_false_iff, decide_eq_false_iff_not]
      omega
    have e1 : stepA (C.withMost m1) a z = (C.next a.1 z.toNat, a.2 ++ [z.toNat]) := by unfold stepA; exact if_pos hc
    have e2 : stepA (C.withMost m2) a z = (C.next a.1 z.toNat, a.2 ++ [z.toNat]) := by unfold stepA; exact if_pos ⟨ho2, hc.2⟩
    rw [e1, e2]
    exact ⟨.refl _, by simp; omega, .inl rfl⟩
  · have e1 : stepA (C.withMost m1) a z = a := by unfold stepA; exact if_neg hc
    rw [e1]
    refine ⟨h1.trans sb, h2, ?_⟩
    rcases h3 with rfl | h3
    · by_cases hc2 : overA (C.withMost m2) a = false ∧ 0 ≤ z ∧ z < C.n ∧ C.out a.1 z.toNat = none
      · right
        have ho2 := hc2.1
        rw [over_most] at ho2
        simp only [Bool.or_eq_false_iff, decide_eq_false_iff_not] at ho2
        have ho1 : overA (C.withMost m1) a = true := by
          cases h : overA (C.withMost m1) a with
          | true => rfl
          | false => exact absurd ⟨h, hc2.2⟩ hc
        rw [over_most] at ho1
        simp only [Bool.or_eq_true, decide_eq_true_eq] at ho1
        omega
      · left
        unfold stepA
        exact (if_neg hc2).symm
    · exact .inr h3
theorem Both2.fold (hm : m1 ≤ m2) : ∀ (l : List Int) {a b : X × List Nat}, Both2 C m1 a b → Both2 C m1 (l.foldl (stepA (C.withMost m1)) a) (l.foldl (stepA (C.withMost m2)) b)
  | [], _, _, h => h
  | z :: l, _, _, h => Both2.fold hm l (h.stp hm z)
theorem Both2.foldn (hm : m1 ≤ m2) : ∀ (l : List Nat) {a b : X × List Nat}, Both2 C m1 a b → Both2 C m1 (l.foldl (fun st i => stepA (C.withMost m1) st (i : Nat)) a) (l.foldl (fun st i => stepA (C.withMost m2) st (i : Nat)) b)
  | [], _, _, h => h
  | z :: l, _, _, h => Both2.foldn hm l (h.stp hm z)
theorem Both2.rest (hm : m1 ≤ m2) : ∀ (f1 f2 : Nat) {a b : X × List Nat}, Both2 C m1 a b → m1 ≤ a.2.length + f1 → f1 ≤ f2 → Both2 C m1 (restA (C.withMost m1) f1 a) (restA (C.withMost m2) f2 b)
  | 0, f2, a, b, h, hf, _ => by
    exact ⟨h.1.trans (stps_most (rest_stps (C.withMost m2) f2 b)), h.2.1, .inr (by show a.2.length = m1; have := h.2.1; omega)⟩
  | f1 + 1, 0, _, _, _, _, hf => absurd hf (by omega)
  | f1 + 1, f2 + 1, a, b, h, hf, hff => by
    obtain ⟨h1, h2, h3⟩ := h
    have sb := stps_most (rest_stps (C.withMost m2) (f2 + 1) b)
    cases ho : overA (C.withMost m1) a with
    | true =>
      have e1 : restA (C.withMost m1) (f1 + 1) a = a := rest_off _ ho
      rw [e1]
      by_cases hl : a.2.length = m1
      · exact ⟨h1.trans sb, h2, .inr hl⟩
      · have hab : a = b := h3.resolve_right hl
        subst hab
        rw [over_most] at ho
        simp only [Bool.or_eq_true, decide_eq_true_eq] at ho
        have hg : goingA C a.1 = 0 := by omega
        have ho2 : overA (C.withMost m2) a = true := by
          rw [over_most]
          simp only [Bool.or_eq_true, decide_eq_true_eq]
          exact .inl hg
        have e2 : restA (C.withMost m2) (f2 + 1) a = a := rest_off _ ho2
        rw [e2]
        exact ⟨.refl a, h2, .inl rfl⟩
    | false =>
      have hlen := roundA_one (C.withMost m1) ho
      have e1 : restA (C.withMost m1) (f1 + 1) a = restA (C.withMost m1) f1 (roundA (C.withMost m1) a) := rest_on _ ho
      rw [e1]
      rw [over_most] at ho
      simp only [Bool.or_eq_false_iff, decide_eq_false_iff_not] at ho
      have hab : a = b := h3.resolve_right (by omega)
      subst hab
      have ho2 : overA (C.withMost m2) a = false := by
        rw [over_most]
        simp only [Bool.or_eq_false_iff, decide_eq_false_iff_not]
        omega
      have e2 : restA (C.withMost m2) (f2 + 1) a = restA (C.withMost m2) f2 (roundA (C.withMost m2) a) := rest_on _ ho2
      rw [e2]
      exact Both2.rest hm f1 f2 (Both2.foldn hm _ ⟨.refl a, h2, .inl rfl⟩) (by omega) (by omega)
theorem Both2.follow (hm : m1 ≤ m2) {a : X × List Nat} (ha : a.2.length ≤ m1) (l : List Int) : Both2 C m1 (followA (C.withMost m1) a l) (followA (C.withMost m2) a l) :=
  Both2.rest hm _ _ (Both2.fold hm l ⟨.refl a, ha, .inl rfl⟩) (by show m1 ≤ _ + (m1 : Int).toNat; omega) (by show (m1 : Int).toNat ≤ (m2 : Int).toNat; omega)
end
end
end Go.Proofs.Ytgiiicdpbdfemaa
end

/- Walkers by a schedule, told apart from all memory: what a run comes to, and one with a most. -/
section
namespace Go.Proofs.Ytgiiicdpbdfemaa
open Go.ConcN (sumTo sumTo_le upd sumTo_upd upd_ne upd_same)

def absW (s : Wlk) (n : Nat) (most : Int) : Abs WX := ⟨n, most, setW s, nextW s, WX.out⟩
/-- What Over's run of walkers comes to; its most is clamped. -/
def overW (s : Wlk) (n : Nat) (most : Int) (sl : List Int) : WX × List Nat := runA (absW s n most) wx0 sl
def goingW (n : Nat) (x : WX) : Nat := (List.range n).countP (fun i => (x.out i).isNone)
theorem abs_crewW (g : WG) (S : Stile) : absOf (crewW g S) = absW g.s S.n S.most := rfl

theorem borns_most {X : Type} (C : Abs X) (m : Int) : ∀ (n k : Nat) (x : X), bornsA (C.withMost m) n k x = bornsA C n k x
  | 0, _, _ => rfl
  | n + 1, k, _ => borns_most C m n (k + 1) _

theorem borns_at (s : Wlk) (n : Nat) (m : Int) : ∀ (r k : Nat) (x : WX), (bornsA (absW s n m) r k x).dn = x.dn ∧ (bornsA (absW s n m) r k x).list = x.list ∧
    ∀ i, (k ≤ i ∧ i < k + r → (bornsA (absW s n m) r k x).out i = (setW s x i).out i) ∧ (i < k ∨ k + r ≤ i → (bornsA (absW s n m) r k x).out i = x.out i)
  | 0, k, x => ⟨rfl, rfl, fun i => ⟨fun h => absurd h (by omega), fun _ => rfl⟩⟩
  | r + 1, k, x => by
    obtain ⟨h1, h2, h3⟩ := borns_at s n m r (k + 1) (setW s x k)
    refine ⟨h1, h2, fun i => ⟨fun h => ?_, fun h => ?_⟩⟩
    · show (bornsA (absW s n m) r (k + 1) (setW s x k)).out i = _
      by_cases e : i = k
      · subst e
        rw [(h3 i).2 (by omega)]
      · rw [(h3 i).1 (by omega)]
        show upd (setW s x k).out i _ i = upd x.out i _ i
        rw [upd_same, upd_same]
        rfl
    · show (bornsA (absW s n m) r (k + 1) (setW s x k)).out i = _
      rw [(h3 i).2 (by omega)]
      exact upd_ne _ _ (by omega)

/-- What is known of a run all along. -/
structure PW (s : Wlk) (n : Nat) (st : WX × List Nat) : Prop where
  list : st.1.list = st.2
  run : ∀ i, i < n → st.1.out i = none → s.nl i = false ∧ (st.1.dn i : Int) < numW (s.st i) (s.af i)
  le : ∀ i, i < n → st.1.dn i ≤ 31
  len : st.2.length = sumTo n st.1.dn
  lt : ∀ i, i ∈ st.2 → i < n

theorem sumTo_zero : ∀ n, sumTo n (fun _ => 0) = 0
  | 0 => rfl
  | n + 1 => by rw [sumTo, sumTo_zero n]

theorem out_set {s : Wlk} {x : WX} {i : Nat} (h : (setW s x i).out i = none) : s.nl i = false ∧ (x.dn i : Int) < numW (s.st i) (s.af i) := by
  have h : upd x.out i (if s.nl i then some false else if (x.dn i : Int) < numW (s.st i) (s.af i) then none else some (badW (s.st i) (s.af i))) i = none := h
  rw [upd_same] at h
  cases hn : s.nl i with
  | true => rw [hn] at h; cases h
  | false =>
    rw [hn] at h
    refine ⟨rfl, ?_⟩
    by_cases hl : (x.dn i : Int) < numW (s.st i) (s.af i)
    · exact hl
    · rw [if_neg hl] at h; cases h

theorem pw_born (s : Wlk) (n : Nat) (m : Int) : PW s n (bornsA (absW s n m) n 0 wx0, []) := by
  obtain ⟨h1, h2, h3⟩ := borns_at s n m n 0 wx0
  refine ⟨h2, fun i hi ho => ?_, fun i hi => ?_, ?_, fun i h => by cases h⟩
  · have ho : (bornsA (absW s n m) n 0 wx0).out i = none := ho
    rw [(h3 i).1 (by omega)] at ho
    show _ ∧ ((bornsA (absW s n m) n 0 wx0).dn i : Int) < _
    rw [h1]
    exact out_set ho
  · show (bornsA (absW s n m) n 0 wx0).dn i ≤ 31
    rw [h1]; exact Nat.zero_le _
  · show _ = sumTo n (bornsA (absW s n m) n 0 wx0).dn
    rw [h1]
    exact (sumTo_zero n).symm

theorem pw_step {s : Wlk} {n : Nat} {m : Int} (hst : ∀ i, s.st i < 32) (st : WX × List Nat) (i : Nat) (P : PW s n st) (hi : i < n) (ho : st.1.out i = none) : PW s n ((absW s n m).next st.1 i, st.2 ++ [i]) := by
  obtain ⟨hn, hd⟩ := P.run i hi ho
  have h31 := hst i
  have hle := numW_le (s.st i) (s.af i)
  refine ⟨?_, fun j hj hoj => ?_, fun j hj => ?_, ?_, fun j hj => ?_⟩
  · show st.1.list ++ [i] = st.2 ++ [i]
    rw [P.list]
  · by_cases e : j = i
    · subst e
      exact out_set (x := doneW st.1 j) hoj
    · have hoj : upd st.1.out i _ j = none := hoj
      rw [upd_ne _ _ e] at hoj
      show _ ∧ ((upd st.1.dn i (st.1.dn i + 1) j : Nat) : Int) < _
      rw [upd_ne _ _ e]
      exact P.run j hj hoj
  · show upd st.1.dn i (st.1.dn i + 1) j ≤ 31
    by_cases e : j = i
    · subst e; rw [upd_same]; omega
    · rw [upd_ne _ _ e]; exact P.le j hj
  · show (st.2 ++ [i]).length = sumTo n (fun a => upd st.1.dn i (st.1.dn i + 1) a)
    have := sumTo_upd st.1.dn (st.1.dn i + 1) (fun x => x) hi
    have hl := P.len
    rw [List.length_append, List.length_singleton]
    show st.2.length + 1 = _
    have e1 : sumTo n (fun a => st.1.dn a) = st.2.length := hl.symm
    rw [e1] at this
    have this : sumTo n (fun a => upd st.1.dn i (st.1.dn i + 1) a) + st.1.dn i = st.2.length + (st.1.dn i + 1) := this
    omega
  · rcases List.mem_append.1 hj with h | h
    · exact P.lt j h
    · rw [List.mem_singleton.1 h]; exact hi

section
variable {s : Wlk} {n : Nat}
theorem pw_run (hst : ∀ i, s.st i < 32) (m : Int) (sl : List Int) : PW s n (overW s n m sl) :=
  (follow_stps (absW s n m) _ sl).keep (P := PW s n) (fun st i P hi ho => pw_step hst st i P hi ho) (pw_born s n m)
theorem PW.short {st : WX × List Nat} (P : PW s n st) (hn : n ≤ 64) : st.2.length ≤ 1984 := by
  have := sumTo_le (f := st.1.dn) (c := 31) (j := n) P.le
  have := P.len
  omega

/-- A run with a most, and the one with the greatest. -/
theorem most_run (hst : ∀ i, s.st i < 32) (hn : n ≤ 64) (m1 : Nat) (hm : m1 ≤ 1048576) (sl : List Int) :
    (overW s n m1 sl).2 = (overW s n 1048576 sl).2.take (min m1 (overW s n 1048576 sl).2.length) ∧ (0 < goingW n (overW s n m1 sl).1 ↔ min m1 (overW s n 1048576 sl).2.length < (overW s n 1048576 sl).2.length) ∧
    (∀ i, (overW s n m1 sl).1.out i = some true → (overW s n 1048576 sl).1.out i = some true) ∧ (goingW n (overW s n m1 sl).1 = 0 → (overW s n m1 sl).1 = (overW s n 1048576 sl).1) ∧ goingW n (overW s n 1048576 sl).1 = 0 := by
  have hB := Both2.follow (C := absW s n 0) (m1 := m1) (m2 := 1048576) hm (a := (bornsA (absW s n 0) n 0 wx0, [])) (Nat.zero_le _) sl
  have e1 : followA ((absW s n 0).withMost m1) (bornsA (absW s n 0) n 0 wx0, []) sl = overW s n m1 sl := by
    show _ = followA (absW s n m1) (bornsA ((absW s n 0).withMost m1) n 0 wx0, []) sl
    rw [borns_most]; rfl
  have e2 : followA ((absW s n 0).withMost (1048576 : Nat)) (bornsA (absW s n 0) n 0 wx0, []) sl = overW s n 1048576 sl := by
    show _ = followA (absW s n 1048576) (bornsA ((absW s n 0).withMost 1048576) n 0 wx0, []) sl
    rw [borns_most]; rfl
  rw [e1, e2] at hB
  have oF : overA (absW s n 1048576) (overW s n 1048576 sl) = true := followA_over _ _ _
  have oA : overA (absW s n m1) (overW s n m1 sl) = true := followA_over _ _ _
  have hF := (pw_run (s := s) (n := n) hst 1048576 sl).short hn
  generalize overW s n m1 sl = A at *
  generalize overW s n 1048576 sl = F at *
  have gF : goingW n F.1 = 0 := by
    unfold overA at oF
    simp only [Bool.or_eq_true, decide_eq_true_eq] at oF
    rcases oF with h | h
    · exact h
    · have h : (1048576 : Int) ≤ F.2.length := h
      omega
  obtain ⟨h1, h2, h3⟩ := hB
  obtain ⟨l, p1, p2, p3⟩ := h1.pre
  have hout : ∀ i, A.1.out i = some true → F.1.out i = some true := fun i h => h1.out (C := absW s n 0) (fun x i j h => upd_ne _ _ h) h
  have oA' : goingW n A.1 = 0 ∨ m1 ≤ A.2.length := by
    unfold overA at oA
    simp only [Bool.or_eq_true, decide_eq_true_eq] at oA
    rcases oA with h | h
    · exact .inl h
    · have h : (m1 : Int) ≤ A.2.length := h
      exact .inr (by omega)
  have hlF : F.2.length = A.2.length + l.length := by rw [p1]; simp
  by_cases hl : l = []
  · have e := p2 hl
    subst e
    refine ⟨?_, ?_, hout, fun _ => rfl, gF⟩
    · rw [Nat.min_eq_right h2, List.take_length]
    · rw [Nat.min_eq_right h2, gF]
      omega
  · have hlp : 0 < l.length := List.length_pos_iff.2 hl
    have hlen : A.2.length = m1 := by
      rcases h3 with e | h
      · exfalso
        rw [e] at hlF
        omega
      · exact h
    obtain ⟨i, hi, ho⟩ := p3 hl
    have gA : 0 < goingW n A.1 := List.countP_pos_iff.2 ⟨i, List.mem_range.2 hi, by
      have ho : A.1.out i = none := ho
      rw [ho]; rfl⟩
    have hmin : min m1 F.2.length = A.2.length := by omega
    rw [hmin]
    refine ⟨?_, ?_, hout, fun h => by omega, gF⟩
    · rw [p1, List.take_left]
    · exact ⟨fun _ => by omega, fun _ => gA⟩
end
end Go.Proofs.Ytgiiicdpbdfemaa
end

/- Package turn's Over, of no threads. -/
section
namespace Go.Proofs.Ytgiiicdpbdfemaa
open Go.Conc Go.RowKit Go.Relay

variable {main : Bool} {V : Nat → Option Wait}

set_option maxHeartbeats 8000000 in
set_option maxRecDepth 100000 in
theorem begin_zero (B : Nat) (c : Frame) (cs : List Frame) (w : World) (h0 : w.cell? ⟨B, 0, none⟩ = some (.slice none 0 0)) :
    Walk Try.prog main (DR V) (fun g w' => g = G (c.finish (.tuple #[])) cs ∧ ∃ d, w' = w.at d) (G (Frame.enter Try.prog 54 #[.pointer (some ⟨B, 0, none⟩), .slice none 0 0] .normal) (c :: cs)) w := by
  rw [enter_at _ Try.func54 rfl]
  simp only [Try.f54, List.size_toArray, List.length_cons, List.length_nil, Nat.reduceAdd, Nat.reduceSub, Array.replicate_succ, Array.replicate_zero, List.push_toArray, List.append_toArray, List.nil_append, List.cons_append]
  repeat (first | (refine Walk.c rfl ?_) | (refine Walk.cReg ?_; simp only [List.size_toArray, List.length_cons, List.length_nil, Nat.reduceAdd, Nat.zero_add, List.range, List.range.loop]) | (refine Walk.cRet ?_) | (refine Walk.cEnd ?_) | (refine Walk.opq (ho_of (by conv => lhs; whnf) (by kernel_rfl)) (by rfl) (by decide) (fun dd e he => ?_) (fun dd K hK => ?_); (· (simp [go_sem, *] at he; try (subst he; exact evR_read _ _))); go_simp; refine hK _ ?_; clear hK K; try walk_nrm) | (refine Walk.ctl rfl (fun w => stepG_unwanted (ho_of (by conv => lhs; whnf) (by kernel_rfl)) (by rfl)) ?_; walk_nrm))
  refine Walk.ctl rfl (fun w => stepG_loop) ?_
  repeat (first | (refine Walk.c rfl ?_) | (refine Walk.cReg ?_; simp only [List.size_toArray, List.length_cons, List.length_nil, Nat.reduceAdd, Nat.zero_add, List.range, List.range.loop]) | (refine Walk.cRet ?_) | (refine Walk.cEnd ?_) | (refine Walk.opq (ho_of (by conv => lhs; whnf) (by kernel_rfl)) (by rfl) (by decide) (fun dd e he => ?_) (fun dd K hK => ?_); (· (simp [go_sem, *] at he; try (subst he; exact evR_read _ _))); go_simp; refine hK _ ?_; clear hK K; try walk_nrm) | (refine Walk.ctl rfl (fun w => stepG_unwanted (ho_of (by conv => lhs; whnf) (by kernel_rfl)) (by rfl)) ?_; walk_nrm))
  exact Walk.ctl rfl (fun w => stepG_leave rfl rfl Try.func54 (results_none rfl _ _ w) (events_results_none rfl _ _)) (.stop fun d => ⟨rfl, d, rfl⟩)

set_option maxHeartbeats 8000000 in
set_option maxRecDepth 100000 in
theorem end_zero (B : Nat) (c : Frame) (cs : List Frame) (w : World) (h0 : w.cell? ⟨B, 0, none⟩ = some (.slice none 0 0)) :
    Walk Try.prog main (DR V) (fun g w' => g = G (c.finish (.slice (some ⟨w.heap.size, 0, none⟩) 0 0)) cs ∧ ∃ d, w' = (w.alloc (.cells (madeCells #[.bool false] 0) 4)).at d) (G (Frame.enter Try.prog 56 #[.pointer (some ⟨B, 0, none⟩)] .normal) (c :: cs)) w := by
  rw [enter_at _ Try.func56 rfl]
  simp only [Try.f56, List.size_toArray, List.length_cons, List.length_nil, Nat.reduceAdd, Nat.reduceSub, Array.replicate_succ, Array.replicate_zero, List.push_toArray, List.append_toArray, List.nil_append, List.cons_append]
  repeat (first | (refine Walk.c rfl ?_) | (refine Walk.cReg ?_; simp only [List.size_toArray, List.length_cons, List.length_nil, Nat.reduceAdd, Nat.zero_add, List.range, List.range.loop]) | (refine Walk.cRet ?_) | (refine Walk.cEnd ?_) | (refine Walk.opq (ho_of (by conv => lhs; whnf) (by kernel_rfl)) (by rfl) (by decide) (fun dd e he => ?_) (fun dd K hK => ?_); (· (simp [go_sem, *] at he; try (subst he; exact evR_read _ _))); go_simp; refine hK _ ?_; clear hK K; try walk_nrm) | (refine Walk.ctl rfl (fun w => stepG_unwanted (ho_of (by conv => lhs; whnf) (by kernel_rfl)) (by rfl)) ?_; walk_nrm))
  have hi4 := Option.some_get (show (Try.prog.info? 4).isSome = true by kernel_rfl)
  refine Walk.make 50 (.tmp 10) (.tmp 10) rfl (by rfl) (by decide) rfl 4 _ (.bool false) 1 1 (by kernel_rfl) hi4.symm (by rfl) (by rfl) (by rfl) 0 (by rfl) (by rfl) (by omega) (by omega) ?_
  have h0' := cell_alloc w (.cells (madeCells #[.bool false] 0) 4) h0
  walk_nrm
  simp only [Value.cells, Nat.mul_one]
  repeat (first | (refine Walk.c rfl ?_) | (refine Walk.cReg ?_; simp only [List.size_toArray, List.length_cons, List.length_nil, Nat.reduceAdd, Nat.zero_add, List.range, List.range.loop]) | (refine Walk.cRet ?_) | (refine Walk.cEnd ?_) | (refine Walk.opq (ho_of (by conv => lhs; whnf) (by kernel_rfl)) (by rfl) (by decide) (fun dd e he => ?_) (fun dd K hK => ?_); (· (simp [go_sem, *] at he; try (subst he; exact evR_read _ _))); go_simp; refine hK _ ?_; clear hK K; try walk_nrm) | (refine Walk.ctl rfl (fun w => stepG_unwanted (ho_of (by conv => lhs; whnf) (by kernel_rfl)) (by rfl)) ?_; walk_nrm))
  refine Walk.ctl rfl (fun w => stepG_loop) ?_
  repeat (first | (refine Walk.c rfl ?_) | (refine Walk.cReg ?_; simp only [List.size_toArray, List.length_cons, List.length_nil, Nat.reduceAdd, Nat.zero_add, List.range, List.range.loop]) | (refine Walk.cRet ?_) | (refine Walk.cEnd ?_) | (refine Walk.opq (ho_of (by conv => lhs; whnf) (by kernel_rfl)) (by rfl) (by decide) (fun dd e he => ?_) (fun dd K hK => ?_); (· (simp [go_sem, *] at he; try (subst he; exact evR_read _ _))); go_simp; refine hK _ ?_; clear hK K; try walk_nrm) | (refine Walk.ctl rfl (fun w => stepG_unwanted (ho_of (by conv => lhs; whnf) (by kernel_rfl)) (by rfl)) ?_; walk_nrm))
  exact (Walk.ret1 (Post := fun v w' => v = .slice (some ⟨w.heap.size, 0, none⟩) 0 0 ∧ ∃ d, w' = (w.alloc (.cells (madeCells #[.bool false] 0) 4)).at d) rfl rfl Try.func56 rfl fun d => ⟨by simp, d, rfl⟩).mono fun g w' ⟨v, ⟨e, d, e'⟩, hg⟩ => ⟨by rw [hg, e], d, e'⟩

/-- Over of no threads: no order, not stuck, nobody broken. -/
theorem over_zero (sa : Option Addr) (m sc : Nat) (most : Int) (og : Value) (c : Frame) (cs : List Frame) (w : World) (hog : CallV Try.prog main V 52 #[og] w (.slice none 0 0) w)
    (hs : 0 < m → ∃ s so x, sa = some ⟨s, so, none⟩ ∧ w.cell? ⟨s, so, none⟩ = some (.int .i64 x)) :
    Walk Try.prog main (DR V) (fun g w' => g = G (c.finish (.tuple #[.slice none 0 0, .bool false, .slice (some ⟨w.heap.size + 1, 0, none⟩) 0 0])) cs ∧ ∃ d, w' = ((turnW w 0 most).alloc (.cells (madeCells #[.bool false] 0) 4)).at d)
      (G (Frame.enter Try.prog 23 #[og, .slice sa m sc, .int .i64 most] .normal) (c :: cs)) w := by
  have hs1 : (turnW w 0 most).heap.size = w.heap.size + 1 := by simp [turnW]
  have ht : ∀ i, (turnW w 0 most).cell? ⟨w.heap.size, i, none⟩ = (#[.slice none 0 0, .int .i64 (0 : Nat), .int .i64 (min (max most 0) 1048576), .slice none 0 0] : Array Value)[i]? := fun i => cell_of (heap_alloc_new w _) i
  have t0 := (ht 0).trans rfl
  have t1 := (ht 1).trans rfl
  have t2 := (ht 2).trans rfl
  have t3 := (ht 3).trans rfl
  clear ht
  refine (over_in 0 0 m sc none sa og most (c :: cs) w hog (nt_in 0 0 none most (fr23t 0 0 m sc none sa og most :: c :: cs) w)).then ?_
  rintro _ _ ⟨rfl, d1, rfl⟩
  refine Walk.back ?_ d1
  refine (nt_out w.heap.size 0 0 none most _ (fr23t 0 0 m sc none sa og most) (c :: cs) _).then ?_
  rintro _ _ ⟨rfl, d2, rfl⟩
  refine Walk.back ?_ d2
  refine (over_begin w.heap.size 0 0 m sc none sa og most (c :: cs) _ (begin_zero w.heap.size _ (c :: cs) _ t0)).then ?_
  rintro _ _ ⟨rfl, d3, rfl⟩
  refine Walk.back ?_ d3
  refine (over_follow w.heap.size 0 0 m sc none sa og most (c :: cs) _ (follow_in w.heap.size sa m sc _ _)).then ?_
  rintro _ _ ⟨⟨u4, rfl⟩, d4, rfl⟩
  refine Walk.back ?_ d4
  have back : Walk Try.prog main (DR V) (fun g w' => g = G ((fr23b w.heap.size 0 0 m sc none sa og most).finish (.tuple #[])) (c :: cs) ∧ ∃ d, w' = (turnW w 0 most).at d) (G (hd55 w.heap.size sa m sc 0 u4) (fr23b w.heap.size 0 0 m sc none sa og most :: c :: cs)) (turnW w 0 most) := by
    rcases Nat.eq_zero_or_pos m with hm | hm
    · subst hm
      refine (follow_past w.heap.size sa 0 sc u4 _ _).then ?_
      rintro _ _ ⟨⟨u5, rfl⟩, d5, rfl⟩
      refine Walk.back ?_ d5
      exact round_over w.heap.size sa 0 sc (0 : Nat) _ none 0 0 u5 _ (c :: cs) _ t1 t2 t3 (by simp)
    · obtain ⟨s, so, x, rfl, hc⟩ := hs hm
      refine follow_over w.heap.size s so m sc 0 x (0 : Nat) _ none 0 0 u4 _ (c :: cs) _ hm ?_ t1 t2 t3 (by simp)
      exact cell_alloc w _ hc
  refine back.then ?_
  rintro _ _ ⟨rfl, d5, rfl⟩
  refine Walk.back ?_ d5
  refine (over_end w.heap.size 0 0 m sc none sa og most (0 : Nat) (c :: cs) _ t1 (end_zero w.heap.size _ (c :: cs) _ t0)).then ?_
  rintro _ _ ⟨rfl, d6, rfl⟩
  refine Walk.back ?_ d6
  have t3' := cell_alloc _ (.cells (madeCells #[.bool false] 0) 4) t3
  rw [hs1]
  refine (over_out w.heap.size (w.heap.size + 1) 0 0 m sc none sa og most (0 : Nat) none 0 0 c cs _ t3').mono ?_
  rintro _ _ ⟨rfl, d7, rfl⟩
  exact ⟨by simp, d7, rfl⟩
end Go.Proofs.Ytgiiicdpbdfemaa
end

/- The statement's side: does. -/
section
namespace Go.Proofs.Ytgiiicdpbdfemaa
open Go.Conc Go.RowKit Go.Relay
open Go.ConcN (upd upd_ne upd_same)

variable {main : Bool} {V : Nat → Option Wait}

theorem bits_and31 (n : Int) : bits .and .i64 n 31 = n % 32 := by
  have h3 : BitVec.ofInt 64 31 = 31#64 := by decide
  have hx : (BitVec.ofInt 64 n).toNat = (n % 18446744073709551616).toNat := by rw [BitVec.toNat_ofInt]; rfl
  have hb : (BitVec.ofInt 64 n &&& 31#64).toNat = (BitVec.ofInt 64 n).toNat % 32 := by
    rw [BitVec.toNat_and]
    exact Nat.and_two_pow_sub_one_eq_mod _ 5
  show IntKind.i64.wrap ((BitVec.ofInt 64 n &&& BitVec.ofInt 64 31).toNat : Int) = n % 32
  rw [h3, hb, hx]
  simp [IntKind.wrap, IntKind.bits, IntKind.signed]
  omega

noncomputable def reg26_0 : Array Oper := match Try.f26.body with | some (.seq (.region _ ops _) _) => ops | _ => #[]
theorem size26_0 : reg26_0.size = 3 := by kernel_rfl
noncomputable def reg26_1 : Array Oper := match Try.f26.body with | some (.seq _ (.seq (.region _ ops _) _)) => ops | _ => #[]
theorem size26_1 : reg26_1.size = 4 := by kernel_rfl
noncomputable def reg26_2 : Array Oper := match Try.f26.body with | some (.seq _ (.seq _ (.seq (.block _ (.seq (.region _ ops _) _)) _))) => ops | _ => #[]
theorem size26_2 : reg26_2.size = 3 := by kernel_rfl
noncomputable def reg26_3 : Array Oper := match Try.f26.body with | some (.seq _ (.seq _ (.seq (.block _ (.seq _ (.cond _ (.seq (.region _ ops _) _) _))) _))) => ops | _ => #[]
theorem size26_3 : reg26_3.size = 2 := by kernel_rfl
noncomputable def reg26_4 : Array Oper := match Try.f26.body with | some (.seq _ (.seq _ (.seq (.block _ (.seq _ (.cond _ _ (.seq (.region _ ops _) _)))) _))) => ops | _ => #[]
theorem size26_4 : reg26_4.size = 10 := by kernel_rfl
noncomputable def reg26_5 : Array Oper := match Try.f26.body with | some (.seq _ (.seq _ (.seq (.block _ (.seq _ (.cond _ _ (.seq _ (.cond _ (.seq (.region _ ops _) _) _))))) _))) => ops | _ => #[]
theorem size26_5 : reg26_5.size = 4 := by kernel_rfl
noncomputable def reg26_6 : Array Oper := match Try.f26.body with | some (.seq _ (.seq _ (.seq _ (.seq (.region _ ops _) _)))) => ops | _ => #[]
theorem size26_6 : reg26_6.size = 3 := by kernel_rfl
theorem code26_is : Try.f26.body = some (.seq (.region 0 reg26_0 false) (.seq (.region 1 reg26_1 false) (.seq (.block 0 (.seq (.region 2 reg26_2 false) (.cond (.tmp 8 ) (.seq (.region 3 reg26_3 false) (.ret)) (.seq (.region 4 reg26_4 false) (.cond (.tmp 11 ) (.seq (.region 5 reg26_5 false) (.ret)) (.skip)))))) (.seq (.region 6 reg26_6 false) (.ret))))) := by kernel_rfl

set_option maxHeartbeats 8000000 in
set_option maxRecDepth 100000 in
theorem does_w (st af : Int) (w : World) : CallW Try.prog main V 26 #[.agg #[.int .i64 st, .int .i64 af, .bool false]] w (fun v w' => v = .tuple #[.int .i64 (numW (st % 32) af), .bool (badW (st % 32) af)] ∧ ∃ d, w' = (w.alloc (.cells #[.int .i64 st, .int .i64 af, .bool false] 58)).at d) := by
  refine callW_in Try.func26 code26_is fun fr cs => ?_
  simp only [Try.ntmps26, List.size_toArray, List.length_cons, List.length_nil, Nat.reduceAdd, Nat.reduceSub, Array.replicate_succ, Array.replicate_zero, List.push_toArray, List.append_toArray, List.nil_append, List.cons_append]
  repeat (first | (refine Walk.c rfl ?_) | (refine Walk.cRet ?_) | (refine Walk.cEnd ?_) | (refine Walk.cReg ?_; simp only [size26_0, size26_1, size26_2, size26_3, size26_4, size26_5, size26_6, List.range, List.range.loop]) | (refine Walk.opq (ho_of (by conv => lhs; whnf) (by kernel_rfl)) (by rfl) (by decide) (fun dd e he => ?_) (fun dd K hK => ?_); (· (simp [go_sem, *] at he; try (subst he; exact evR_read _ _))); go_simp; refine hK _ ?_; clear hK K; try walk_nrm) | (refine Walk.ctl rfl (fun w => stepG_unwanted (ho_of (by conv => lhs; whnf) (by kernel_rfl)) (by rfl)) ?_; walk_nrm))
  (co_applyP Walk.opw (ho_of (by conv => lhs; whnf) (by kernel_rfl)) (by rfl) (by decide) ?wev1 ?wdr1 ?wrun1; (case' wrun1 => (intro dd K hK; go_simp; simp only [alloc_at', setCell_at']; refine hK _ ?wmore1; clear hK K)); (case wdr1 => exact fun dd es hes => DR.alloc' dd es hes); (case wev1 => (intro dd e he; simp [go_sem, *] at he)); try walk_nrm)
  have hb := heap_alloc_new w (.cells #[.int .i64 st, .int .i64 af, .bool false] 58)
  have c0 : (w.alloc (.cells #[.int .i64 st, .int .i64 af, .bool false] 58)).cell? ⟨w.heap.size, 0, none⟩ = some (.int .i64 st) := (cell_of hb 0).trans rfl
  have c1 : (w.alloc (.cells #[.int .i64 st, .int .i64 af, .bool false] 58)).cell? ⟨w.heap.size, 1, none⟩ = some (.int .i64 af) := (cell_of hb 1).trans rfl
  have c2 : (w.alloc (.cells #[.int .i64 st, .int .i64 af, .bool false] 58)).cell? ⟨w.heap.size, 2, none⟩ = some (.bool false) := (cell_of hb 2).trans rfl
  clear hb
  generalize w.heap.size = X at *
  generalize w.alloc (.cells #[.int .i64 st, .int .i64 af, .bool false] 58) = w1 at *
  have hbk := bits_and31 st
  generalize st % 32 = k at *
  by_cases h0 : 0 ≤ af
  · have d0 : decide (0 ≤ af) = true := decide_eq_true h0
    by_cases h1 : af ≤ k
    · have d1 : decide (af ≤ k) = true := decide_eq_true h1
      repeat (first | (refine Walk.c rfl ?_) | (refine Walk.cRet ?_) | (refine Walk.cEnd ?_) | (refine Walk.cReg ?_; simp only [size26_0, size26_1, size26_2, size26_3, size26_4, size26_5, size26_6, List.range, List.range.loop]) | (refine Walk.opq (ho_of (by conv => lhs; whnf) (by kernel_rfl)) (by rfl) (by decide) (fun dd e he => ?_) (fun dd K hK => ?_); (· (simp [go_sem, *] at he; try (subst he; exact evR_read _ _))); go_simp; refine hK _ ?_; clear hK K; try walk_nrm) | (refine Walk.ctl rfl (fun w => stepG_unwanted (ho_of (by conv => lhs; whnf) (by kernel_rfl)) (by rfl)) ?_; walk_nrm))
      refine Walk.ctl rfl (fun w => stepG_leave rfl rfl Try.func26 (results_tmp2 rfl _ _ w) (events_results_tmp2 rfl _ _)) (.stop fun d => ⟨_, ⟨?_, d, rfl⟩, rfl⟩)
      simp [numW, badW, h0, h1]
    · have d1 : decide (af ≤ k) = false := decide_eq_false h1
      repeat (first | (refine Walk.c rfl ?_) | (refine Walk.cRet ?_) | (refine Walk.cEnd ?_) | (refine Walk.cReg ?_; simp only [size26_0, size26_1, size26_2, size26_3, size26_4, size26_5, size26_6, List.range, List.range.loop]) | (refine Walk.opq (ho_of (by conv => lhs; whnf) (by kernel_rfl)) (by rfl) (by decide) (fun dd e he => ?_) (fun dd K hK => ?_); (· (simp [go_sem, *] at he; try (subst he; exact evR_read _ _))); go_simp; refine hK _ ?_; clear hK K; try walk_nrm) | (refine Walk.ctl rfl (fun w => stepG_unwanted (ho_of (by conv => lhs; whnf) (by kernel_rfl)) (by rfl)) ?_; walk_nrm))
      refine Walk.ctl rfl (fun w => stepG_leave rfl rfl Try.func26 (results_tmp2 rfl _ _ w) (events_results_tmp2 rfl _ _)) (.stop fun d => ⟨_, ⟨?_, d, rfl⟩, rfl⟩)
      simp [numW, badW, h1]
  · have d0 : decide (0 ≤ af) = false := decide_eq_false h0
    repeat (first | (refine Walk.c rfl ?_) | (refine Walk.cRet ?_) | (refine Walk.cEnd ?_) | (refine Walk.cReg ?_; simp only [size26_0, size26_1, size26_2, size26_3, size26_4, size26_5, size26_6, List.range, List.range.loop]) | (refine Walk.opq (ho_of (by conv => lhs; whnf) (by kernel_rfl)) (by rfl) (by decide) (fun dd e he => ?_) (fun dd K hK => ?_); (· (simp [go_sem, *] at he; try (subst he; exact evR_read _ _))); go_simp; refine hK _ ?_; clear hK K; try walk_nrm) | (refine Walk.ctl rfl (fun w => stepG_unwanted (ho_of (by conv => lhs; whnf) (by kernel_rfl)) (by rfl)) ?_; walk_nrm))
    refine Walk.ctl rfl (fun w => stepG_leave rfl rfl Try.func26 (results_tmp2 rfl _ _ w) (events_results_tmp2 rfl _ _)) (.stop fun d => ⟨_, ⟨?_, d, rfl⟩, rfl⟩)
    simp [numW, badW, h0]
end Go.Proofs.Ytgiiicdpbdfemaa
end

/- The statement's side: walkers. -/
section
namespace Go.Proofs.Ytgiiicdpbdfemaa
open Go.Conc Go.RowKit Go.Relay
open Go.ConcN (upd upd_ne upd_same)

variable {main : Bool} {V : Nat → Option Wait}

noncomputable def reg24_0 : Array Oper := match Try.f24.body with | some (.seq (.region _ ops _) _) => ops | _ => #[]
theorem size24_0 : reg24_0.size = 1 := by kernel_rfl
noncomputable def reg24_1 : Array Oper := match Try.f24.body with | some (.seq _ (.seq (.region _ ops _) _)) => ops | _ => #[]
theorem size24_1 : reg24_1.size = 1 := by kernel_rfl
noncomputable def reg24_2 : Array Oper := match Try.f24.body with | some (.seq _ (.seq _ (.seq (.seq (.region _ ops _) _) _))) => ops | _ => #[]
theorem size24_2 : reg24_2.size = 1 := by kernel_rfl
noncomputable def reg24_3 : Array Oper := match Try.f24.body with | some (.seq _ (.seq _ (.seq (.seq _ (.block _ (.loop (.seq (.seq (.region _ ops _) _) _)))) _))) => ops | _ => #[]
theorem size24_3 : reg24_3.size = 4 := by kernel_rfl
noncomputable def reg24_5 : Array Oper := match Try.f24.body with | some (.seq _ (.seq _ (.seq (.seq _ (.block _ (.loop (.seq _ (.seq (.block _ (.seq (.seq (.region _ ops _) _) _)) _))))) _))) => ops | _ => #[]
theorem size24_5 : reg24_5.size = 5 := by kernel_rfl
noncomputable def reg24_6 : Array Oper := match Try.f24.body with | some (.seq _ (.seq _ (.seq (.seq _ (.block _ (.loop (.seq _ (.seq (.block _ (.seq (.seq _ (.cond _ (.seq (.region _ ops _) _) _)) _)) _))))) _))) => ops | _ => #[]
theorem size24_6 : reg24_6.size = 4 := by kernel_rfl
noncomputable def reg24_7 : Array Oper := match Try.f24.body with | some (.seq _ (.seq _ (.seq (.seq _ (.block _ (.loop (.seq _ (.seq (.block _ (.seq _ (.seq (.region _ ops _) _))) _))))) _))) => ops | _ => #[]
theorem size24_7 : reg24_7.size = 16 := by kernel_rfl
noncomputable def reg24_8 : Array Oper := match Try.f24.body with | some (.seq _ (.seq _ (.seq (.seq _ (.block _ (.loop (.seq _ (.seq (.block _ (.seq _ (.seq _ (.region _ ops _)))) _))))) _))) => ops | _ => #[]
theorem size24_8 : reg24_8.size = 6 := by kernel_rfl
noncomputable def reg24_4 : Array Oper := match Try.f24.body with | some (.seq _ (.seq _ (.seq (.seq _ (.block _ (.loop (.seq _ (.seq _ (.region _ ops _)))))) _))) => ops | _ => #[]
theorem size24_4 : reg24_4.size = 3 := by kernel_rfl
noncomputable def reg24_9 : Array Oper := match Try.f24.body with | some (.seq _ (.seq _ (.seq _ (.seq (.region _ ops _) _)))) => ops | _ => #[]
theorem size24_9 : reg24_9.size = 2 := by kernel_rfl
theorem code24_is : Try.f24.body = some (.seq (.region 0 reg24_0 false) (.seq (.region 1 reg24_1 false) (.seq (.seq (.region 2 reg24_2 false) (.block 0 (.loop (.seq (.seq (.region 3 reg24_3 false) (.cond (.tmp 11 ) (.skip) (.exit 0))) (.seq (.block 1 (.seq (.seq (.region 5 reg24_5 false) (.cond (.tmp 18 ) (.seq (.region 6 reg24_6 false) (.exit 1)) (.skip))) (.seq (.region 7 reg24_7 true) (.region 8 reg24_8 false)))) (.region 4 reg24_4 false)))))) (.seq (.region 9 reg24_9 false) (.ret))))) := by kernel_rfl

noncomputable def hd24 (B : Nat) (lv : Value) (oa : Option Addr) (oc i : Nat) (u : Nat → Value) : Frame :=
  (base 24).at { tmps := #[.pointer (some ⟨B, 0, none⟩), lv, u 2, u 3, .slice none 0 0, .slice oa i oc, .int .i64 i, u 7, u 8, u 9, u 10, u 11, u 12, u 13, u 14, u 15, u 16, u 17, u 18, u 19, u 20, u 21, u 22, u 23, u 24, u 25, u 26, u 27, u 28, u 29, u 30, u 31, u 32, u 33, u 34, u 35, u 36, u 37, u 38, u 39, u 40, u 41, u 42], defers := [] } [.code (.seq (.seq (.region 3 reg24_3 false) (.cond (.tmp 11 ) (.skip) (.exit 0))) (.seq (.block 1 (.seq (.seq (.region 5 reg24_5 false) (.cond (.tmp 18 ) (.seq (.region 6 reg24_6 false) (.exit 1)) (.skip))) (.seq (.region 7 reg24_7 true) (.region 8 reg24_8 false)))) (.region 4 reg24_4 false))), .inLoop (.seq (.seq (.region 3 reg24_3 false) (.cond (.tmp 11 ) (.skip) (.exit 0))) (.seq (.block 1 (.seq (.seq (.region 5 reg24_5 false) (.cond (.tmp 18 ) (.seq (.region 6 reg24_6 false) (.exit 1)) (.skip))) (.seq (.region 7 reg24_7 true) (.region 8 reg24_8 false)))) (.region 4 reg24_4 false))), .inBlock 0, .code (.seq (.region 9 reg24_9 false) (.ret))]
def tm24 (B : Nat) (lv : Value) (oa : Option Addr) (oc i : Nat) (u : Nat → Value) : Array Value := #[.pointer (some ⟨B, 0, none⟩), lv, u 2, u 3, .slice none 0 0, .slice oa i oc, .int .i64 i, u 7, u 8, u 9, u 10, u 11, u 12, u 13, u 14, u 15, u 16, u 17, u 18, u 19, u 20, u 21, u 22, u 23, u 24, u 25, u 26, u 27, u 28, u 29, u 30, u 31, u 32, u 33, u 34, u 35, u 36, u 37, u 38, u 39, u 40, u 41, u 42]
def wkr (B i : Nat) (st af : Int) : Array Value := #[.pointer (some ⟨B, 0, none⟩), .int .i64 i, .int .i64 (st % 32), .int .i64 af]

set_option maxHeartbeats 8000000 in
set_option maxRecDepth 100000 in
theorem new24 {Stop : Goroutine → World → Prop} (B L lo n cap i : Nat) (oa : Option Addr) (oc : Nat) (st af : Int) (k : List Item) (cs : List Frame) (u0 : Nat → Value) (w : World) (hi : i < n) (hc0 : w.cell? ⟨L, lo + i * 3, none⟩ = some (.int .i64 st)) (hc1 : w.cell? ⟨L, lo + i * 3 + 1, none⟩ = some (.int .i64 af))
    (hk : ∀ u, u 7 = .pointer (some ⟨w.heap.size, 0, none⟩) → Walk Try.prog main (DR V) Stop (G ((base 24).at ⟨tm24 B (.slice (some ⟨L, lo, none⟩) n cap) oa oc i u, []⟩ (.inRegion reg24_7 [] :: k)) cs) (w.alloc (.cells (wkr B i st af) 127))) :
    Walk Try.prog main (DR V) Stop (G ((base 24).at ⟨tm24 B (.slice (some ⟨L, lo, none⟩) n cap) oa oc i u0, []⟩ (.code (.region 7 reg24_7 true) :: k)) cs) w := by
  have hbk := bits_and31 st
  refine Walk.drawnJ (Inv := fun f a w' => ∃ u, a = ⟨tm24 B (.slice (some ⟨L, lo, none⟩) n cap) oa oc i u, []⟩ ∧ Facts [22, 23, 24, 25, 26, 27, 28, 29, 30, 31, 32, 33, 34, 35, 36, 7] [.pointer (some ⟨B, 0, none⟩), .int .i64 i, .slice (some ⟨L, lo, none⟩) n cap, .int .i64 i, .pointer (some ⟨L, lo + i * 3, none⟩), .pointer (some ⟨L, lo + i * 3, none⟩), .int .i64 st, .int .i64 (st % 32), .slice (some ⟨L, lo, none⟩) n cap, .int .i64 i, .pointer (some ⟨L, lo + i * 3, none⟩), .pointer (some ⟨L, lo + i * 3 + 1, none⟩), .int .i64 af, .agg (wkr B i st af), .pointer (some ⟨w.heap.size, 0, none⟩), .pointer (some ⟨w.heap.size, 0, none⟩)] f u ∧ ((f 14 = false ∧ ∃ d, w' = w.at d) ∨ (f 14 = true ∧ ∃ d, w' = (w.alloc (.cells (wkr B i st af) 127)).at d))) (by kernel_rfl) (by kernel_rfl) (fun d => ⟨u0, rfl, Facts.none _ _ _, .inl ⟨rfl, d, rfl⟩⟩) ?_ ?_
  · rintro f j o a w' ⟨u, rfl, F, hp⟩ hC hfi ho hdeps rest hr
    have hj : j < 16 := by have := (Array.getElem?_eq_some_iff.1 ho).1; rw [size24_7] at this; exact this
    have hall : f 14 = true → ∀ j, j < 14 → f j = true := fun h14 j hj => by
      have d14 := hC.deps h14 (show depB reg24_7 14 [13] = true by kernel_rfl)
      have h13 := d14 13 (by simp)
      have d13 := hC.deps h13 (show depB reg24_7 13 [0, 1, 7, 12] = true by kernel_rfl)
      have h0 := d13 0 (by simp)
      have h1 := d13 1 (by simp)
      have h7 := d13 7 (by simp)
      have h12 := d13 12 (by simp)
      have d7 := hC.deps h7 (show depB reg24_7 7 [6] = true by kernel_rfl)
      have h6 := d7 6 (by simp)
      have d12 := hC.deps h12 (show depB reg24_7 12 [11] = true by kernel_rfl)
      have h11 := d12 11 (by simp)
      have d6 := hC.deps h6 (show depB reg24_7 6 [5] = true by kernel_rfl)
      have h5 := d6 5 (by simp)
      have d11 := hC.deps h11 (show depB reg24_7 11 [10] = true by kernel_rfl)
      have h10 := d11 10 (by simp)
      have d5 := hC.deps h5 (show depB reg24_7 5 [4] = true by kernel_rfl)
      have h4 := d5 4 (by simp)
      have d10 := hC.deps h10 (show depB reg24_7 10 [8, 9] = true by kernel_rfl)
      have h8 := d10 8 (by simp)
      have h9 := d10 9 (by simp)
      have d4 := hC.deps h4 (show depB reg24_7 4 [2, 3] = true by kernel_rfl)
      have h2 := d4 2 (by simp)
      have h3 := d4 3 (by simp)
      match j, hj with
      | 0, _ => exact h0
      | 1, _ => exact h1
      | 2, _ => exact h2
      | 3, _ => exact h3
      | 4, _ => exact h4
      | 5, _ => exact h5
      | 6, _ => exact h6
      | 7, _ => exact h7
      | 8, _ => exact h8
      | 9, _ => exact h9
      | 10, _ => exact h10
      | 11, _ => exact h11
      | 12, _ => exact h12
      | 13, _ => exact h13
      | j + 14, hj => exact absurd hj (by omega)
    match j, hj with
    | 0, _ =>
      obtain ⟨d, rfl⟩ : ∃ d, w' = w.at d := by
        rcases hp with ⟨_, h⟩ | ⟨h, _⟩
        · exact h
        · have := hall h 0 (by decide); rw [this] at hfi; cases hfi
      refine Walk.back ?_ d
      have h14 : f 14 = false := by
        cases h : f 14 with
        | false => rfl
        | true => have := hall h 0 (by decide); rw [this] at hfi; cases hfi
      clear hdeps ho hC
      simp only [tm24] at hr ⊢
      (refine Walk.opq (ho_of (by conv => lhs; whnf) (by kernel_rfl)) (by rfl) (by decide) (fun dd e he => ?_) (fun dd K hK => ?_); (· (simp [go_sem, *] at he; try (subst he; exact evR_read _ _))); go_simp; refine hK _ ?_; clear hK K; try walk_nrm)
      refine hr _ _ ⟨upd u 22 (.pointer (some ⟨B, 0, none⟩)), ?_, F.set (by decide) rfl rfl, (.inl ⟨by simpa [upd] using h14, w.drawn, rfl⟩)⟩
      simp [upd]
    | 1, _ =>
      obtain ⟨d, rfl⟩ : ∃ d, w' = w.at d := by
        rcases hp with ⟨_, h⟩ | ⟨h, _⟩
        · exact h
        · have := hall h 1 (by decide); rw [this] at hfi; cases hfi
      refine Walk.back ?_ d
      have h14 : f 14 = false := by
        cases h : f 14 with
        | false => rfl
        | true => have := hall h 1 (by decide); rw [this] at hfi; cases hfi
      clear hdeps ho hC
      simp only [tm24] at hr ⊢
      (refine Walk.opq (ho_of (by conv => lhs; whnf) (by kernel_rfl)) (by rfl) (by decide) (fun dd e he => ?_) (fun dd K hK => ?_); (· (simp [go_sem, *] at he; try (subst he; exact evR_read _ _))); go_simp; refine hK _ ?_; clear hK K; try walk_nrm)
      refine hr _ _ ⟨upd u 23 (.int .i64 i), ?_, F.set (by decide) rfl rfl, (.inl ⟨by simpa [upd] using h14, w.drawn, rfl⟩)⟩
      simp [upd]
    | 2, _ =>
      obtain ⟨d, rfl⟩ : ∃ d, w' = w.at d := by
        rcases hp with ⟨_, h⟩ | ⟨h, _⟩
        · exact h
        · have := hall h 2 (by decide); rw [this] at hfi; cases hfi
      refine Walk.back ?_ d
      have h14 : f 14 = false := by
        cases h : f 14 with
        | false => rfl
        | true => have := hall h 2 (by decide); rw [this] at hfi; cases hfi
      clear hdeps ho hC
      simp only [tm24] at hr ⊢
      (refine Walk.opq (ho_of (by conv => lhs; whnf) (by kernel_rfl)) (by rfl) (by decide) (fun dd e he => ?_) (fun dd K hK => ?_); (· (simp [go_sem, *] at he; try (subst he; exact evR_read _ _))); go_simp; refine hK _ ?_; clear hK K; try walk_nrm)
      refine hr _ _ ⟨upd u 24 (.slice (some ⟨L, lo, none⟩) n cap), ?_, F.set (by decide) rfl rfl, (.inl ⟨by simpa [upd] using h14, w.drawn, rfl⟩)⟩
      simp [upd]
    | 3, _ =>
      obtain ⟨d, rfl⟩ : ∃ d, w' = w.at d := by
        rcases hp with ⟨_, h⟩ | ⟨h, _⟩
        · exact h
        · have := hall h 3 (by decide); rw [this] at hfi; cases hfi
      refine Walk.back ?_ d
      have h14 : f 14 = false := by
        cases h : f 14 with
        | false => rfl
        | true => have := hall h 3 (by decide); rw [this] at hfi; cases hfi
      clear hdeps ho hC
      simp only [tm24] at hr ⊢
      (refine Walk.opq (ho_of (by conv => lhs; whnf) (by kernel_rfl)) (by rfl) (by decide) (fun dd e he => ?_) (fun dd K hK => ?_); (· (simp [go_sem, *] at he; try (subst he; exact evR_read _ _))); go_simp; refine hK _ ?_; clear hK K; try walk_nrm)
      refine hr _ _ ⟨upd u 25 (.int .i64 i), ?_, F.set (by decide) rfl rfl, (.inl ⟨by simpa [upd] using h14, w.drawn, rfl⟩)⟩
      simp [upd]
    | 4, _ =>
      have hd := deps_of (l := [2, 3]) (by kernel_rfl) ho hdeps
      have e24 := F 2 24 _ (hd 2 (by simp)) rfl rfl
      have e25 := F 3 25 _ (hd 3 (by simp)) rfl rfl
      obtain ⟨d, rfl⟩ : ∃ d, w' = w.at d := by
        rcases hp with ⟨_, h⟩ | ⟨h, _⟩
        · exact h
        · have := hall h 4 (by decide); rw [this] at hfi; cases hfi
      refine Walk.back ?_ d
      have h14 : f 14 = false := by
        cases h : f 14 with
        | false => rfl
        | true => have := hall h 4 (by decide); rw [this] at hfi; cases hfi
      clear hdeps ho hC
      simp only [tm24] at hr ⊢
      (refine Walk.opq (ho_of (by conv => lhs; whnf) (by kernel_rfl)) (by rfl) (by decide) (fun dd e he => ?_) (fun dd K hK => ?_); (· (simp [go_sem, *] at he; try (subst he; exact evR_read _ _))); go_simp; refine hK _ ?_; clear hK K; try walk_nrm)
      refine hr _ _ ⟨upd u 26 (.pointer (some ⟨L, lo + i * 3, none⟩)), ?_, F.set (by decide) rfl rfl, (.inl ⟨by simpa [upd] using h14, w.drawn, rfl⟩)⟩
      simp [upd, e24, e25]
    | 5, _ =>
      have hd := deps_of (l := [4]) (by kernel_rfl) ho hdeps
      have e26 := F 4 26 _ (hd 4 (by simp)) rfl rfl
      obtain ⟨d, rfl⟩ : ∃ d, w' = w.at d := by
        rcases hp with ⟨_, h⟩ | ⟨h, _⟩
        · exact h
        · have := hall h 5 (by decide); rw [this] at hfi; cases hfi
      refine Walk.back ?_ d
      have h14 : f 14 = false := by
        cases h : f 14 with
        | false => rfl
        | true => have := hall h 5 (by decide); rw [this] at hfi; cases hfi
      clear hdeps ho hC
      simp only [tm24] at hr ⊢
      (refine Walk.opq (ho_of (by conv => lhs; whnf) (by kernel_rfl)) (by rfl) (by decide) (fun dd e he => ?_) (fun dd K hK => ?_); (· (simp [go_sem, *] at he; try (subst he; exact evR_read _ _))); go_simp; refine hK _ ?_; clear hK K; try walk_nrm)
      refine hr _ _ ⟨upd u 27 (.pointer (some ⟨L, lo + i * 3, none⟩)), ?_, F.set (by decide) rfl rfl, (.inl ⟨by simpa [upd] using h14, w.drawn, rfl⟩)⟩
      simp [upd, e26]
    | 6, _ =>
      have hd := deps_of (l := [5]) (by kernel_rfl) ho hdeps
      have e27 := F 5 27 _ (hd 5 (by simp)) rfl rfl
      obtain ⟨d, rfl⟩ : ∃ d, w' = w.at d := by
        rcases hp with ⟨_, h⟩ | ⟨h, _⟩
        · exact h
        · have := hall h 6 (by decide); rw [this] at hfi; cases hfi
      refine Walk.back ?_ d
      have h14 : f 14 = false := by
        cases h : f 14 with
        | false => rfl
        | true => have := hall h 6 (by decide); rw [this] at hfi; cases hfi
      clear hdeps ho hC
      simp only [tm24] at hr ⊢
      (refine Walk.opq (ho_of (by conv => lhs; whnf) (by kernel_rfl)) (by rfl) (by decide) (fun dd e he => ?_) (fun dd K hK => ?_); (· (simp [go_sem, *] at he; try (subst he; exact evR_read _ _))); go_simp; refine hK _ ?_; clear hK K; try walk_nrm)
      refine hr _ _ ⟨upd u 28 (.int .i64 st), ?_, F.set (by decide) rfl rfl, (.inl ⟨by simpa [upd] using h14, w.drawn, rfl⟩)⟩
      simp [upd, e27]
    | 7, _ =>
      have hd := deps_of (l := [6]) (by kernel_rfl) ho hdeps
      have e28 := F 6 28 _ (hd 6 (by simp)) rfl rfl
      obtain ⟨d, rfl⟩ : ∃ d, w' = w.at d := by
        rcases hp with ⟨_, h⟩ | ⟨h, _⟩
        · exact h
        · have := hall h 7 (by decide); rw [this] at hfi; cases hfi
      refine Walk.back ?_ d
      have h14 : f 14 = false := by
        cases h : f 14 with
        | false => rfl
        | true => have := hall h 7 (by decide); rw [this] at hfi; cases hfi
      clear hdeps ho hC
      simp only [tm24] at hr ⊢
      (refine Walk.opq (ho_of (by conv => lhs; whnf) (by kernel_rfl)) (by rfl) (by decide) (fun dd e he => ?_) (fun dd K hK => ?_); (· (simp [go_sem, *] at he; try (subst he; exact evR_read _ _))); go_simp; refine hK _ ?_; clear hK K; try walk_nrm)
      refine hr _ _ ⟨upd u 29 (.int .i64 (st % 32)), ?_, F.set (by decide) rfl rfl, (.inl ⟨by simpa [upd] using h14, w.drawn, rfl⟩)⟩
      simp [upd, e28]
    | 8, _ =>
      obtain ⟨d, rfl⟩ : ∃ d, w' = w.at d := by
        rcases hp with ⟨_, h⟩ | ⟨h, _⟩
        · exact h
        · have := hall h 8 (by decide); rw [this] at hfi; cases hfi
      refine Walk.back ?_ d
      have h14 : f 14 = false := by
        cases h : f 14 with
        | false => rfl
        | true => have := hall h 8 (by decide); rw [this] at hfi; cases hfi
      clear hdeps ho hC
      simp only [tm24] at hr ⊢
      (refine Walk.opq (ho_of (by conv => lhs; whnf) (by kernel_rfl)) (by rfl) (by decide) (fun dd e he => ?_) (fun dd K hK => ?_); (· (simp [go_sem, *] at he; try (subst he; exact evR_read _ _))); go_simp; refine hK _ ?_; clear hK K; try walk_nrm)
      refine hr _ _ ⟨upd u 30 (.slice (some ⟨L, lo, none⟩) n cap), ?_, F.set (by decide) rfl rfl, (.inl ⟨by simpa [upd] using h14, w.drawn, rfl⟩)⟩
      simp [upd]
    | 9, _ =>
      obtain ⟨d, rfl⟩ : ∃ d, w' = w.at d := by
        rcases hp with ⟨_, h⟩ | ⟨h, _⟩
        · exact h
        · have := hall h 9 (by decide); rw [this] at hfi; cases hfi
      refine Walk.back ?_ d
      have h14 : f 14 = false := by
        cases h : f 14 with
        | false => rfl
        | true => have := hall h 9 (by decide); rw [this] at hfi; cases hfi
      clear hdeps ho hC
      simp only [tm24] at hr ⊢
      (refine Walk.opq (ho_of (by conv => lhs; whnf) (by kernel_rfl)) (by rfl) (by decide) (fun dd e he => ?_) (fun dd K hK => ?_); (· (simp [go_sem, *] at he; try (subst he; exact evR_read _ _))); go_simp; refine hK _ ?_; clear hK K; try walk_nrm)
      refine hr _ _ ⟨upd u 31 (.int .i64 i), ?_, F.set (by decide) rfl rfl, (.inl ⟨by simpa [upd] using h14, w.drawn, rfl⟩)⟩
      simp [upd]
    | 10, _ =>
      have hd := deps_of (l := [8, 9]) (by kernel_rfl) ho hdeps
      have e30 := F 8 30 _ (hd 8 (by simp)) rfl rfl
      have e31 := F 9 31 _ (hd 9 (by simp)) rfl rfl
      obtain ⟨d, rfl⟩ : ∃ d, w' = w.at d := by
        rcases hp with ⟨_, h⟩ | ⟨h, _⟩
        · exact h
        · have := hall h 10 (by decide); rw [this] at hfi; cases hfi
      refine Walk.back ?_ d
      have h14 : f 14 = false := by
        cases h : f 14 with
        | false => rfl
        | true => have := hall h 10 (by decide); rw [this] at hfi; cases hfi
      clear hdeps ho hC
      simp only [tm24] at hr ⊢
      (refine Walk.opq (ho_of (by conv => lhs; whnf) (by kernel_rfl)) (by rfl) (by decide) (fun dd e he => ?_) (fun dd K hK => ?_); (· (simp [go_sem, *] at he; try (subst he; exact evR_read _ _))); go_simp; refine hK _ ?_; clear hK K; try walk_nrm)
      refine hr _ _ ⟨upd u 32 (.pointer (some ⟨L, lo + i * 3, none⟩)), ?_, F.set (by decide) rfl rfl, (.inl ⟨by simpa [upd] using h14, w.drawn, rfl⟩)⟩
      simp [upd, e30, e31]
    | 11, _ =>
      have hd := deps_of (l := [10]) (by kernel_rfl) ho hdeps
      have e32 := F 10 32 _ (hd 10 (by simp)) rfl rfl
      obtain ⟨d, rfl⟩ : ∃ d, w' = w.at d := by
        rcases hp with ⟨_, h⟩ | ⟨h, _⟩
        · exact h
        · have := hall h 11 (by decide); rw [this] at hfi; cases hfi
      refine Walk.back ?_ d
      have h14 : f 14 = false := by
        cases h : f 14 with
        | false => rfl
        | true => have := hall h 11 (by decide); rw [this] at hfi; cases hfi
      clear hdeps ho hC
      simp only [tm24] at hr ⊢
      (refine Walk.opq (ho_of (by conv => lhs; whnf) (by kernel_rfl)) (by rfl) (by decide) (fun dd e he => ?_) (fun dd K hK => ?_); (· (simp [go_sem, *] at he; try (subst he; exact evR_read _ _))); go_simp; refine hK _ ?_; clear hK K; try walk_nrm)
      refine hr _ _ ⟨upd u 33 (.pointer (some ⟨L, lo + i * 3 + 1, none⟩)), ?_, F.set (by decide) rfl rfl, (.inl ⟨by simpa [upd] using h14, w.drawn, rfl⟩)⟩
      simp [upd, e32]
    | 12, _ =>
      have hd := deps_of (l := [11]) (by kernel_rfl) ho hdeps
      have e33 := F 11 33 _ (hd 11 (by simp)) rfl rfl
      obtain ⟨d, rfl⟩ : ∃ d, w' = w.at d := by
        rcases hp with ⟨_, h⟩ | ⟨h, _⟩
        · exact h
        · have := hall h 12 (by decide); rw [this] at hfi; cases hfi
      refine Walk.back ?_ d
      have h14 : f 14 = false := by
        cases h : f 14 with
        | false => rfl
        | true => have := hall h 12 (by decide); rw [this] at hfi; cases hfi
      clear hdeps ho hC
      simp only [tm24] at hr ⊢
      (refine Walk.opq (ho_of (by conv => lhs; whnf) (by kernel_rfl)) (by rfl) (by decide) (fun dd e he => ?_) (fun dd K hK => ?_); (· (simp [go_sem, *] at he; try (subst he; exact evR_read _ _))); go_simp; refine hK _ ?_; clear hK K; try walk_nrm)
      refine hr _ _ ⟨upd u 34 (.int .i64 af), ?_, F.set (by decide) rfl rfl, (.inl ⟨by simpa [upd] using h14, w.drawn, rfl⟩)⟩
      simp [upd, e33]
    | 13, _ =>
      have hd := deps_of (l := [0, 1, 7, 12]) (by kernel_rfl) ho hdeps
      have e22 := F 0 22 _ (hd 0 (by simp)) rfl rfl
      have e23 := F 1 23 _ (hd 1 (by simp)) rfl rfl
      have e29 := F 7 29 _ (hd 7 (by simp)) rfl rfl
      have e34 := F 12 34 _ (hd 12 (by simp)) rfl rfl
      obtain ⟨d, rfl⟩ : ∃ d, w' = w.at d := by
        rcases hp with ⟨_, h⟩ | ⟨h, _⟩
        · exact h
        · have := hall h 13 (by decide); rw [this] at hfi; cases hfi
      refine Walk.back ?_ d
      have h14 : f 14 = false := by
        cases h : f 14 with
        | false => rfl
        | true => have := hall h 13 (by decide); rw [this] at hfi; cases hfi
      clear hdeps ho hC
      simp only [tm24] at hr ⊢
      (refine Walk.opq (ho_of (by conv => lhs; whnf) (by kernel_rfl)) (by rfl) (by decide) (fun dd e he => ?_) (fun dd K hK => ?_); (· (simp [go_sem, *] at he; try (subst he; exact evR_read _ _))); go_simp; refine hK _ ?_; clear hK K; try walk_nrm)
      refine hr _ _ ⟨upd u 35 (.agg (wkr B i st af)), ?_, F.set (by decide) rfl rfl, (.inl ⟨by simpa [upd] using h14, w.drawn, rfl⟩)⟩
      simp [upd, e22, e23, e29, e34, wkr]
    | 14, _ =>
      have hd := deps_of (l := [13]) (by kernel_rfl) ho hdeps
      have e35 := F 13 35 _ (hd 13 (by simp)) rfl rfl
      rcases hp with ⟨h14, d, rfl⟩ | ⟨h14, _⟩
      · refine Walk.back ?_ d
        clear hdeps ho hC
        simp only [tm24] at hr ⊢
        simp only [e35, wkr]
        (co_applyP Walk.opw (ho_of (by conv => lhs; whnf) (by kernel_rfl)) (by rfl) (by decide) ?wev1 ?wdr1 ?wrun1; (case' wrun1 => (intro dd K hK; go_simp; simp only [alloc_at', setCell_at']; refine hK _ ?wmore1; clear hK K)); (case wdr1 => exact fun dd es hes => DR.alloc' dd es hes); (case wev1 => (intro dd e he; simp [go_sem, *] at he)); try walk_nrm)
        refine hr _ _ ⟨upd u 36 (.pointer (some ⟨w.heap.size, 0, none⟩)), ?_, F.set (by decide) rfl rfl, .inr ⟨by simp [upd], _, rfl⟩⟩
        simp [upd, e35, wkr]
      · rw [h14] at hfi; cases hfi
    | 15, _ =>
      have hd := deps_of (l := [0, 1, 2, 3, 4, 5, 6, 7, 8, 9, 10, 11, 12, 13, 14]) (by kernel_rfl) ho hdeps
      have e36 := F 14 36 _ (hd 14 (by simp)) rfl rfl
      have h14 := hd 14 (by simp)
      clear hdeps ho hC
      simp only [tm24] at hr ⊢
      simp only [e36]
      (refine Walk.opq (ho_of (by conv => lhs; whnf) (by kernel_rfl)) (by rfl) (by decide) (fun dd e he => ?_) (fun dd K hK => ?_); (· (simp [go_sem, *] at he; try (subst he; exact evR_read _ _))); go_simp; refine hK _ ?_; clear hK K; try walk_nrm)
      refine hr _ _ ⟨upd u 7 (.pointer (some ⟨w.heap.size, 0, none⟩)), ?_, F.set (by decide) rfl rfl, by simpa [upd] using hp⟩
      simp [upd, e36]
  · rintro f a w' ⟨u, rfl, F, hp⟩ hall
    have h14 := hall 14 (by rw [size24_7]; decide)
    rcases hp with ⟨h, _⟩ | ⟨_, d, rfl⟩
    · rw [h14] at h; cases h
    · exact (hk u (F 15 7 _ (hall 15 (by rw [size24_7]; decide)) rfl rfl)).back d

set_option maxHeartbeats 8000000 in
set_option maxRecDepth 100000 in
theorem walkers24_in (B : Nat) (lv : Value) (cs : List Frame) (w : World) :
    Walk Try.prog main (DR V) (fun g w' => (∃ u, g = G (hd24 B lv none 0 0 u) cs) ∧ ∃ d, w' = w.at d) (G (Frame.enter Try.prog 24 #[.pointer (some ⟨B, 0, none⟩), lv] .normal) cs) w := by
  rw [enter_at _ Try.func24 code24_is]
  simp only [Try.ntmps24, List.size_toArray, List.length_cons, List.length_nil, Nat.reduceAdd, Nat.reduceSub, Array.replicate_succ, Array.replicate_zero, List.push_toArray, List.append_toArray, List.nil_append, List.cons_append]
  repeat (first | (refine Walk.c rfl ?_) | (refine Walk.cRet ?_) | (refine Walk.cEnd ?_) | (refine Walk.cReg ?_; simp only [size24_0, size24_1, size24_2, size24_3, size24_5, size24_6, size24_7, size24_8, size24_4, size24_9, List.range, List.range.loop]) | (refine Walk.opq (ho_of (by conv => lhs; whnf) (by kernel_rfl)) (by rfl) (by decide) (fun dd e he => ?_) (fun dd K hK => ?_); (· (simp [go_sem, *] at he; try (subst he; exact evR_read _ _))); go_simp; refine hK _ ?_; clear hK K; try walk_nrm) | (refine Walk.ctl rfl (fun w => stepG_unwanted (ho_of (by conv => lhs; whnf) (by kernel_rfl)) (by rfl)) ?_; walk_nrm))
  refine Walk.ctl rfl (fun w => stepG_loop) ?_
  refine .stop fun d => ⟨at_slots ?_, d, rfl⟩
  simp only [hd24]
  rfl

set_option maxHeartbeats 8000000 in
set_option maxRecDepth 100000 in
theorem walkers24_out (B : Nat) (la : Option Addr) (n cap : Nat) (oa : Option Addr) (oc : Nat) (u : Nat → Value) (c : Frame) (cs : List Frame) (w : World) :
    Walk Try.prog main (DR V) (fun g w' => g = G (c.finish (.slice oa n oc)) cs ∧ ∃ d, w' = w.at d) (G (hd24 B (.slice la n cap) oa oc n u) (c :: cs)) w := by
  unfold hd24
  repeat (first | (refine Walk.c rfl ?_) | (refine Walk.cRet ?_) | (refine Walk.cEnd ?_) | (refine Walk.cReg ?_; simp only [size24_0, size24_1, size24_2, size24_3, size24_5, size24_6, size24_7, size24_8, size24_4, size24_9, List.range, List.range.loop]) | (refine Walk.opq (ho_of (by conv => lhs; whnf) (by kernel_rfl)) (by rfl) (by decide) (fun dd e he => ?_) (fun dd K hK => ?_); (· (simp [go_sem, *] at he; try (subst he; exact evR_read _ _))); go_simp; refine hK _ ?_; clear hK K; try walk_nrm) | (refine Walk.ctl rfl (fun w => stepG_unwanted (ho_of (by conv => lhs; whnf) (by kernel_rfl)) (by rfl)) ?_; walk_nrm))
  exact (Walk.ret1 (Post := fun v w' => v = .slice oa n oc ∧ ∃ d, w' = w.at d) rfl rfl Try.func24 rfl fun d => ⟨rfl, d, rfl⟩).mono fun g w' ⟨v, ⟨hv, hd⟩, hg⟩ => ⟨by rw [hg, hv], hd⟩

def thrV (W : Nat) : Value := .func (.func 57) #[.pointer (some ⟨W, 0, none⟩)] #[]
def wkrW (w : World) (B i : Nat) (st af : Int) : World := (w.alloc (.cells (wkr B i st af) 127)).alloc (.cells #[thrV w.heap.size] 67)

set_option maxHeartbeats 8000000 in
set_option maxRecDepth 100000 in
theorem walkers24_go (B L lo n cap i : Nat) (oa : Option Addr) (oc n0 : Nat) (xs : List Value) (st af : Int) (u : Nat → Value) (cs : List Frame) (w : World) (hi : i < n) (hn : n ≤ 8796093022208) (hc0 : w.cell? ⟨L, lo + i * 3, none⟩ = some (.int .i64 st)) (hc1 : w.cell? ⟨L, lo + i * 3 + 1, none⟩ = some (.int .i64 af)) (hc2 : w.cell? ⟨L, lo + i * 3 + 2, none⟩ = some (.bool false))
    (hrow : w.ownsRow n0 67 1 (.slice oa i oc) i xs) (hb : n0 ≤ w.heap.size) (hap : ∀ g, (Value.slice oa i oc).ownBlock = some g → Apart V g) :
    Walk Try.prog main (DR V) (fun g' w' => ∃ g cap' w3, (∃ u', g' = G (hd24 B (.slice (some ⟨L, lo, none⟩) n cap) (some ⟨g, 0, none⟩) cap' (i + 1) u') cs) ∧ (∃ d, w' = w3.at d) ∧ w3.ownsRow n0 67 1 (.slice (some ⟨g, 0, none⟩) (i + 1) cap') (i + 1) (xs ++ [thrV w.heap.size]) ∧ (wkrW w B i st af).grownBy w3 (Value.slice oa i oc).ownBlock ∧ ((Value.slice oa i oc).ownBlock = some g ∨ g = (wkrW w B i st af).heap.size) ∧ g < w3.heap.size)
      (G (hd24 B (.slice (some ⟨L, lo, none⟩) n cap) oa oc i u) cs) w := by
  have hw1 : IntKind.wrap .i64 ((i : Int) + 1) = (i : Int) + 1 := by rw [IntKind.wrap_i64]; omega
  conv => arg 5; unfold hd24
  repeat (first | (refine Walk.c rfl ?_) | (refine Walk.cRet ?_) | (refine Walk.cEnd ?_) | (refine Walk.cReg ?_; simp only [size24_0, size24_1, size24_2, size24_3, size24_5, size24_6, size24_7, size24_8, size24_4, size24_9, List.range, List.range.loop]) | (refine Walk.opq (ho_of (by conv => lhs; whnf) (by kernel_rfl)) (by rfl) (by decide) (fun dd e he => ?_) (fun dd K hK => ?_); (· (simp [go_sem, *] at he; try (subst he; exact evR_read _ _))); go_simp; refine hK _ ?_; clear hK K; try walk_nrm) | (refine Walk.ctl rfl (fun w => stepG_unwanted (ho_of (by conv => lhs; whnf) (by kernel_rfl)) (by rfl)) ?_; walk_nrm))
  refine slots_walk (F := fun u => G ((base 24).at ⟨tm24 B (.slice (some ⟨L, lo, none⟩) n cap) oa oc i u, []⟩ (.code (.region 7 reg24_7 true) :: ([.code (.region 8 reg24_8 false), .inBlock 1, .code (.region 4 reg24_4 false)] ++ ([.code (.seq (.seq (.region 3 reg24_3 false) (.cond (.tmp 11 ) (.skip) (.exit 0))) (.seq (.block 1 (.seq (.seq (.region 5 reg24_5 false) (.cond (.tmp 18 ) (.seq (.region 6 reg24_6 false) (.exit 1)) (.skip))) (.seq (.region 7 reg24_7 true) (.region 8 reg24_8 false)))) (.region 4 reg24_4 false))), .inLoop (.seq (.seq (.region 3 reg24_3 false) (.cond (.tmp 11 ) (.skip) (.exit 0))) (.seq (.block 1 (.seq (.seq (.region 5 reg24_5 false) (.cond (.tmp 18 ) (.seq (.region 6 reg24_6 false) (.exit 1)) (.skip))) (.seq (.region 7 reg24_7 true) (.region 8 reg24_8 false)))) (.region 4 reg24_4 false))), .inBlock 0, .code (.seq (.region 9 reg24_9 false) (.ret))] : List Item).drop 1))) cs) (fun u => new24 B L lo n cap i oa oc st af _ cs u w hi hc0 hc1 fun u e7 => ?_) (by simp only [tm24]; rfl)
  simp only [tm24]
  rw [e7]
  clear e7
  simp only [List.cons_append, List.nil_append, List.drop_succ_cons, List.drop_zero]
  repeat (first | (refine Walk.c rfl ?_) | (refine Walk.cRet ?_) | (refine Walk.cEnd ?_) | (refine Walk.cReg ?_; simp only [size24_0, size24_1, size24_2, size24_3, size24_5, size24_6, size24_7, size24_8, size24_4, size24_9, List.range, List.range.loop]) | (refine Walk.opq (ho_of (by conv => lhs; whnf) (by kernel_rfl)) (by rfl) (by decide) (fun dd e he => ?_) (fun dd K hK => ?_); (· (simp [go_sem, *] at he; try (subst he; exact evR_read _ _))); go_simp; refine hK _ ?_; clear hK K; try walk_nrm) | (refine Walk.ctl rfl (fun w => stepG_unwanted (ho_of (by conv => lhs; whnf) (by kernel_rfl)) (by rfl)) ?_; walk_nrm))
  (co_applyP Walk.opw (ho_of (by conv => lhs; whnf) (by kernel_rfl)) (by rfl) (by decide) ?wev2 ?wdr2 ?wrun2; (case' wrun2 => (intro dd K hK; go_simp; simp only [alloc_at', setCell_at']; refine hK _ ?wmore2; clear hK K)); (case wdr2 => exact fun dd es hes => DR.alloc' dd es hes); (case wev2 => (intro dd e he; simp [go_sem, *] at he)); try walk_nrm)
  have hsA : (w.alloc (.cells (wkr B i st af) 127)).heap.size = w.heap.size + 1 := by simp
  have hs2 : (wkrW w B i st af).heap.size = w.heap.size + 2 := by simp [wkrW]
  have hrow2 : (wkrW w B i st af).ownsRow n0 67 1 (.slice oa i oc) i xs := (hrow.kept (World.grownBy_alloc w _ none) (by cases (Value.slice oa i oc).ownBlock <;> simp)).kept (World.grownBy_alloc _ _ none) (by cases (Value.slice oa i oc).ownBlock <;> simp)
  have hnew : ∀ y v, ([thrV w.heap.size] : List Value)[y]? = some v → (wkrW w B i st af).cell? ((⟨w.heap.size + 1, 0, none⟩ : Addr).add y) = some v := fun y v hv => by
    rw [add_none, Nat.zero_add, ← hsA]
    refine (cell_of (heap_alloc_new _ _) y).trans ?_
    simpa using hv
  have hcW : (w.alloc (.cells (wkr B i st af) 127)).alloc (.cells #[.func (.func 57) #[.pointer (some ⟨w.heap.size, 0, none⟩)] #[]] 67) = wkrW w B i st af := rfl
  rw [hcW]
  have hi67 := Option.some_get (show (Try.prog.info? 67).isSome = true by kernel_rfl)
  refine Walk.append (.tmp 37) (.tmp 40) 53 (ho_of (by conv => lhs; whnf) (by kernel_rfl)) (by rfl) (by decide) rfl n0 67 _ .nilFunc 1 8 (by kernel_rfl) hi67.symm (by rfl) (by rfl) (by rfl) (by rfl) (by decide) (.slice oa i oc) i xs rfl hrow2 ⟨w.heap.size + 1, 0, none⟩ 1 1 [thrV w.heap.size] ?_ (by rfl) hnew (by simp [thrV, Value.oneCell']) (by decide) (by simp [maxLen]; omega) (by omega) (by omega) hap (fun g cap' w3 hown hg hat hlt => ?_)
  · simp [Act.eval, hsA]
  clear hi67
  walk_nrm
  repeat (first | (refine Walk.c rfl ?_) | (refine Walk.cRet ?_) | (refine Walk.cEnd ?_) | (refine Walk.cReg ?_; simp only [size24_0, size24_1, size24_2, size24_3, size24_5, size24_6, size24_7, size24_8, size24_4, size24_9, List.range, List.range.loop]) | (refine Walk.opq (ho_of (by conv => lhs; whnf) (by kernel_rfl)) (by rfl) (by decide) (fun dd e he => ?_) (fun dd K hK => ?_); (· (simp [go_sem, *] at he; try (subst he; exact evR_read _ _))); go_simp; refine hK _ ?_; clear hK K; try walk_nrm) | (refine Walk.ctl rfl (fun w => stepG_unwanted (ho_of (by conv => lhs; whnf) (by kernel_rfl)) (by rfl)) ?_; walk_nrm))
  refine Walk.ctl rfl (fun w => stepG_inLoop) ?_
  refine .stop fun d' => ⟨g, cap', w3, at_slots ?_, ⟨d', rfl⟩, hown, hg, hat, hlt⟩
  have hc : ((i + 1 : Nat) : Int) = (i : Int) + 1 := by simp
  simp only [hd24, hc]
  rfl

set_option maxHeartbeats 8000000 in
set_option maxRecDepth 100000 in
theorem walkers24_nil (B L lo n cap i : Nat) (oa : Option Addr) (oc n0 : Nat) (xs : List Value) (u : Nat → Value) (cs : List Frame) (w : World) (hi : i < n) (hn : n ≤ 8796093022208) (hc2 : w.cell? ⟨L, lo + i * 3 + 2, none⟩ = some (.bool true))
    (hrow : w.ownsRow n0 67 1 (.slice oa i oc) i xs) (hb : n0 ≤ w.heap.size) (hap : ∀ g, (Value.slice oa i oc).ownBlock = some g → Apart V g) :
    Walk Try.prog main (DR V) (fun g' w' => ∃ g cap' w3, (∃ u', g' = G (hd24 B (.slice (some ⟨L, lo, none⟩) n cap) (some ⟨g, 0, none⟩) cap' (i + 1) u') cs) ∧ (∃ d, w' = w3.at d) ∧ w3.ownsRow n0 67 1 (.slice (some ⟨g, 0, none⟩) (i + 1) cap') (i + 1) (xs ++ [.nilFunc]) ∧ (w.alloc (.cells #[.nilFunc] 67)).grownBy w3 (Value.slice oa i oc).ownBlock ∧ ((Value.slice oa i oc).ownBlock = some g ∨ g = (w.alloc (.cells #[.nilFunc] 67)).heap.size) ∧ g < w3.heap.size)
      (G (hd24 B (.slice (some ⟨L, lo, none⟩) n cap) oa oc i u) cs) w := by
  have hw1 : IntKind.wrap .i64 ((i : Int) + 1) = (i : Int) + 1 := by rw [IntKind.wrap_i64]; omega
  conv => arg 5; unfold hd24
  repeat (first | (refine Walk.c rfl ?_) | (refine Walk.cRet ?_) | (refine Walk.cEnd ?_) | (refine Walk.cReg ?_; simp only [size24_0, size24_1, size24_2, size24_3, size24_5, size24_6, size24_7, size24_8, size24_4, size24_9, List.range, List.range.loop]) | (refine Walk.opq (ho_of (by conv => lhs; whnf) (by kernel_rfl)) (by rfl) (by decide) (fun dd e he => ?_) (fun dd K hK => ?_); (· (simp [go_sem, *] at he; try (subst he; exact evR_read _ _))); go_simp; refine hK _ ?_; clear hK K; try walk_nrm) | (refine Walk.ctl rfl (fun w => stepG_unwanted (ho_of (by conv => lhs; whnf) (by kernel_rfl)) (by rfl)) ?_; walk_nrm))
  (co_applyP Walk.opw (ho_of (by conv => lhs; whnf) (by kernel_rfl)) (by rfl) (by decide) ?wev3 ?wdr3 ?wrun3; (case' wrun3 => (intro dd K hK; go_simp; simp only [alloc_at', setCell_at']; refine hK _ ?wmore3; clear hK K)); (case wdr3 => exact fun dd es hes => DR.alloc' dd es hes); (case wev3 => (intro dd e he; simp [go_sem, *] at he)); try walk_nrm)
  have hsA : (w.alloc (.cells #[.nilFunc] 67)).heap.size = w.heap.size + 1 := by simp
  have hrow2 : (w.alloc (.cells #[.nilFunc] 67)).ownsRow n0 67 1 (.slice oa i oc) i xs := hrow.kept (World.grownBy_alloc w _ none) (by cases (Value.slice oa i oc).ownBlock <;> simp)
  have hnew : ∀ y v, ([.nilFunc] : List Value)[y]? = some v → (w.alloc (.cells #[.nilFunc] 67)).cell? ((⟨w.heap.size, 0, none⟩ : Addr).add y) = some v := fun y v hv => by
    rw [add_none, Nat.zero_add]
    refine (cell_of (heap_alloc_new _ _) y).trans ?_
    simpa using hv
  have hi67 := Option.some_get (show (Try.prog.info? 67).isSome = true by kernel_rfl)
  refine Walk.append (.tmp 19) (.tmp 20) 53 (ho_of (by conv => lhs; whnf) (by kernel_rfl)) (by rfl) (by decide) rfl n0 67 _ .nilFunc 1 8 (by kernel_rfl) hi67.symm (by rfl) (by rfl) (by rfl) (by rfl) (by decide) (.slice oa i oc) i xs rfl hrow2 ⟨w.heap.size, 0, none⟩ 1 1 [.nilFunc] ?_ (by rfl) hnew (by simp [Value.oneCell']) (by decide) (by simp [maxLen]; omega) (by omega) (by omega) hap (fun g cap' w3 hown hg hat hlt => ?_)
  · simp [Act.eval]
  clear hi67
  walk_nrm
  repeat (first | (refine Walk.c rfl ?_) | (refine Walk.cRet ?_) | (refine Walk.cEnd ?_) | (refine Walk.cReg ?_; simp only [size24_0, size24_1, size24_2, size24_3, size24_5, size24_6, size24_7, size24_8, size24_4, size24_9, List.range, List.range.loop]) | (refine Walk.opq (ho_of (by conv => lhs; whnf) (by kernel_rfl)) (by rfl) (by decide) (fun dd e he => ?_) (fun dd K hK => ?_); (· (simp [go_sem, *] at he; try (subst he; exact evR_read _ _))); go_simp; refine hK _ ?_; clear hK K; try walk_nrm) | (refine Walk.ctl rfl (fun w => stepG_unwanted (ho_of (by conv => lhs; whnf) (by kernel_rfl)) (by rfl)) ?_; walk_nrm))
  refine Walk.ctl rfl (fun w => stepG_inLoop) ?_
  refine .stop fun d' => ⟨g, cap', w3, at_slots ?_, ⟨d', rfl⟩, hown, hg, hat, hlt⟩
  have hc : ((i + 1 : Nat) : Int) = (i : Int) + 1 := by simp
  simp only [hd24, hc]
  rfl
end Go.Proofs.Ytgiiicdpbdfemaa
end

/- The statement's side: walkers: its contract. -/
section
namespace Go.Proofs.Ytgiiicdpbdfemaa
open Go.Conc Go.RowKit Go.Relay
open Go.ConcN (upd upd_ne upd_same)

/-- Walks in a slice, wherever it begins. -/
def WalksAt (a : Option Addr) (n : Nat) (st af : Nat → Int) (nl : Nat → Bool) (w : World) : Prop := ∀ i, i < n → ∃ b o, a = some ⟨b, o, none⟩ ∧ w.cell? ⟨b, o + i * 3, none⟩ = some (.int .i64 (st i)) ∧ w.cell? ⟨b, o + i * 3 + 1, none⟩ = some (.int .i64 (af i)) ∧ w.cell? ⟨b, o + i * 3 + 2, none⟩ = some (.bool (nl i))
theorem WalksAt.old {a : Option Addr} {n : Nat} {st af : Nat → Int} {nl : Nat → Bool} {w w' : World} (h : WalksAt a n st af nl w) (O : Old w w') : WalksAt a n st af nl w' := fun i hi => by
  obtain ⟨b, o, e, h1, h2, h3⟩ := h i hi
  exact ⟨b, o, e, old_cell O h1, old_cell O h2, old_cell O h3⟩
def thrOf (nl : Nat → Bool) (W : Nat → Nat) (i : Nat) : Value := if nl i then .nilFunc else thrV (W i)

/-- What walkers has made so far. -/
structure Mde (B : Nat) (st af : Nat → Int) (nl : Nat → Bool) (w0 w : World) (oa : Option Addr) (oc i : Nat) (W : Nat → Nat) : Prop where
  old : Old w0 w
  row : w.ownsRow w0.heap.size 67 1 (.slice oa i oc) i ((List.range i).map (thrOf nl W))
  wk : ∀ j, j < i → nl j = false → w.heap[W j]? = some (.cells (wkr B j (st j) (af j)) 127) ∧ w0.heap.size ≤ W j
  inj : ∀ j k, j < i → k < i → nl j = false → nl k = false → W j = W k → j = k
  z : i = 0 → oa = none ∧ oc = 0

theorem Mde.ne {B : Nat} {st af : Nat → Int} {nl : Nat → Bool} {w0 w : World} {oa : Option Addr} {oc i : Nat} {W : Nat → Nat} (M : Mde B st af nl w0 w oa oc i W) {j b : Nat} (hj : j < i) (hn : nl j = false) (hb : (Value.slice oa i oc).ownBlock = some b) : W j ≠ b := by
  rintro rfl
  obtain ⟨_, _, cur, h⟩ := row_at M.row hb
  rw [(M.wk j hj hn).1] at h
  injection h with h
  injection h with _ h _
  cases h

theorem map_range_upd (nl : Nat → Bool) (W : Nat → Nat) (i x : Nat) : (List.range i).map (thrOf nl (upd W i x)) = (List.range i).map (thrOf nl W) := by
  refine List.map_congr_left fun j hj => ?_
  have := List.mem_range.1 hj
  unfold thrOf
  rw [upd_ne _ _ (by omega)]

section
variable {main : Bool} {V : Nat → Option Wait} {B : Nat} {st af : Nat → Int} {nl : Nat → Bool}

theorem walkers24_loop (la : Option Addr) (cap n : Nat) (hn : n ≤ 8796093022208) (w0 : World) (hl : WalksAt la n st af nl w0) (hA : ∀ b, w0.heap.size ≤ b → Apart V b) (fr : Frame) (cs : List Frame) :
    ∀ (r i : Nat) (oa : Option Addr) (oc : Nat) (W : Nat → Nat) (u : Nat → Value) (w : World), i + r = n → Mde B st af nl w0 w oa oc i W →
      Walk Try.prog main (DR V) (fun g' w' => ∃ oa' oc' W', g' = G (fr.finish (.slice oa' n oc')) cs ∧ Mde B st af nl w0 w' oa' oc' n W') (G (hd24 B (.slice la n cap) oa oc i u) (fr :: cs)) w := by
  intro r
  induction r with
  | zero =>
    intro i oa oc W u w hi M
    have hi : i = n := hi
    subst hi
    refine (walkers24_out B la i cap oa oc u fr cs w).mono ?_
    rintro g w' ⟨rfl, d, rfl⟩
    exact ⟨oa, oc, W, rfl, ⟨⟨M.old.size, M.old.same⟩, M.row, M.wk, M.inj, M.z⟩⟩
  | succ r ih =>
    intro i oa oc W u w hi M
    have hin : i < n := by omega
    obtain ⟨L, lo, rfl, h0, h1, h2⟩ := hl i hin
    have h0 := old_cell M.old h0
    have h1 := old_cell M.old h1
    have h2 := old_cell M.old h2
    have hos := M.old.size
    have hown : ∀ b, b < w0.heap.size → (Value.slice oa i oc).ownBlock ≠ some b := fun b hb e => by have := (row_at M.row e).1; omega
    cases hnl : nl i with
    | true =>
      rw [hnl] at h2
      refine (walkers24_nil (main := main) (V := V) B L lo n cap i oa oc w0.heap.size ((List.range i).map (thrOf nl W)) u (fr :: cs) w hin hn h2 M.row hos (fun g hg => hA g (row_at M.row hg).1)).then ?_
      rintro g' w2 ⟨g, cap', w3, ⟨u', rfl⟩, ⟨d, rfl⟩, hrow, hg, hat, hlt⟩
      refine Walk.back ?_ d
      have hs1 : (w.alloc (.cells #[.nilFunc] 67)).heap.size = w.heap.size + 1 := by simp
      have hsz := hg.size
      have hkeep : ∀ b, b < w.heap.size → (Value.slice oa i oc).ownBlock ≠ some b → w3.heap[b]? = w.heap[b]? := fun b hb hne => (hg.block b (by omega) (fun e => hne e.symm)).trans (heap_new_lt w _ hb)
      refine ih (i + 1) _ cap' W u' w3 (by omega) ⟨⟨by omega, fun b hb => (hkeep b (by omega) (hown b hb)).trans (M.old.same b hb)⟩, ?_, fun j hj hj2 => ?_, fun j k hj hk h1 h2 e => ?_, fun h => by omega⟩
      · rw [List.range_succ, List.map_append]
        have : (List.map (thrOf nl W) [i]) = [.nilFunc] := by simp [thrOf, hnl]
        rw [this]; exact hrow
      · have hji : j < i := by
          have : j ≠ i := fun e => by rw [e, hnl] at hj2; cases hj2
          omega
        obtain ⟨k1, k2⟩ := M.wk j hji hj2
        exact ⟨(hkeep _ (Array.getElem?_eq_some_iff.1 k1).1 (fun e => M.ne hji hj2 e rfl)).trans k1, k2⟩
      · have : j ≠ i := fun e => by rw [e, hnl] at h1; cases h1
        have : k ≠ i := fun e => by rw [e, hnl] at h2; cases h2
        exact M.inj j k (by omega) (by omega) h1 h2 e
    | false =>
      rw [hnl] at h2
      refine (walkers24_go (main := main) (V := V) B L lo n cap i oa oc w0.heap.size ((List.range i).map (thrOf nl W)) (st i) (af i) u (fr :: cs) w hin hn h0 h1 h2 M.row hos (fun g hg => hA g (row_at M.row hg).1)).then ?_
      rintro g' w2 ⟨g, cap', w3, ⟨u', rfl⟩, ⟨d, rfl⟩, hrow, hg, hat, hlt⟩
      refine Walk.back ?_ d
      have hs2 : (wkrW w B i (st i) (af i)).heap.size = w.heap.size + 2 := by simp [wkrW]
      have hsz := hg.size
      have hkeep2 : ∀ b, b < w.heap.size + 2 → (Value.slice oa i oc).ownBlock ≠ some b → w3.heap[b]? = (wkrW w B i (st i) (af i)).heap[b]? := fun b hb hne => hg.block b (by omega) (fun e => hne e.symm)
      have hkeep : ∀ b, b < w.heap.size → (Value.slice oa i oc).ownBlock ≠ some b → w3.heap[b]? = w.heap[b]? := fun b hb hne => (hkeep2 b (by omega) hne).trans ((heap_new_lt _ _ (by simp; omega)).trans (heap_new_lt w _ hb))
      have hWn : w3.heap[w.heap.size]? = some (.cells (wkr B i (st i) (af i)) 127) := (hkeep2 _ (by omega) fun e => by have := (row_at M.row e).2.1; omega).trans ((heap_new_lt _ _ (by simp)).trans (heap_alloc_new w _))
      refine ih (i + 1) _ cap' (upd W i w.heap.size) u' w3 (by omega) ⟨⟨by omega, fun b hb => (hkeep b (by omega) (hown b hb)).trans (M.old.same b hb)⟩, ?_, fun j hj hj2 => ?_, fun j k hj hk h1 h2 e => ?_, fun h => by omega⟩
      · rw [List.range_succ, List.map_append, map_range_upd]
        have : (List.map (thrOf nl (upd W i w.heap.size)) [i]) = [thrV w.heap.size] := by simp [thrOf, hnl, upd_same]
        rw [this]; exact hrow
      · by_cases e : j = i
        · subst e
          rw [upd_same]
          exact ⟨hWn, hos⟩
        · have hji : j < i := by omega
          rw [upd_ne _ _ e]
          obtain ⟨k1, k2⟩ := M.wk j hji hj2
          exact ⟨(hkeep _ (Array.getElem?_eq_some_iff.1 k1).1 (fun e => M.ne hji hj2 e rfl)).trans k1, k2⟩
      · have hlt' : ∀ x, x < i → nl x = false → W x < w.heap.size := fun x hx hx2 => (Array.getElem?_eq_some_iff.1 (M.wk x hx hx2).1).1
        by_cases ej : j = i
        · by_cases ek : k = i
          · omega
          · rw [ej, upd_same, upd_ne _ _ ek] at e
            have := hlt' k (by omega) h2
            omega
        · by_cases ek : k = i
          · rw [ek, upd_same, upd_ne _ _ ej] at e
            have := hlt' j (by omega) h1
            omega
          · rw [upd_ne _ _ ej, upd_ne _ _ ek] at e
            exact M.inj j k (by omega) (by omega) h1 h2 e

/-- walkers: for each walk its walker, or nil. -/
theorem walkers24_w (la : Option Addr) (cap n : Nat) (hn : n ≤ 8796093022208) (w : World) (hl : WalksAt la n st af nl w) (hA : ∀ b, w.heap.size ≤ b → Apart V b) :
    CallW Try.prog main V 24 #[.pointer (some ⟨B, 0, none⟩), .slice la n cap] w (fun v w' => ∃ oa oc W, v = .slice oa n oc ∧ Mde B st af nl w w' oa oc n W) := by
  intro fr cs
  refine (walkers24_in B _ (fr :: cs) w).then ?_
  rintro g w1 ⟨⟨u, rfl⟩, d, rfl⟩
  refine Walk.back ?_ d
  refine (walkers24_loop la cap n hn w hl hA fr cs n 0 none 0 (fun _ => 0) u w (by omega) ⟨Old.refl w, row_nil w _ _ _, fun j hj => absurd hj (Nat.not_lt_zero _), fun j k hj => absurd hj (Nat.not_lt_zero _), fun _ => ⟨rfl, rfl⟩⟩).mono ?_
  rintro g w' ⟨oa, oc, W, rfl, M⟩
  exact ⟨_, ⟨oa, oc, W, rfl, M⟩, rfl⟩
end
end Go.Proofs.Ytgiiicdpbdfemaa
end

/- Package turn's Over, of walkers: what it answers, and what stands upon the board. -/
section
namespace Go.Proofs.Ytgiiicdpbdfemaa
open Go.Conc Go.RowKit Go.Relay
open Go.ConcN (upd upd_ne upd_same)

def numbs (l : List Nat) : List Value := l.map fun i => .int .i64 (i : Nat)

/-- What Over of walkers has come to. -/
structure Ovd (s : Wlk) (n B : Nat) (m : Int) (sl : List Int) (w : World) (v : Value) (w' : World) : Prop where
  all : ∃ (oa : Option Addr) (oc q : Nat) (la : Option Addr) (cap : Nat) (arr : Array Value),
    v = .tuple #[.slice oa (overW s n m sl).2.length oc, .bool (decide (0 < goingW n (overW s n m sl).1)), .slice (some ⟨q, 0, none⟩) n n] ∧
    w'.ownsRow w.heap.size 3 1 (.slice oa (overW s n m sl).2.length oc) (overW s n m sl).2.length (numbs (overW s n m sl).2) ∧
    w'.heap[B]? = some (.cells #[.slice la (overW s n m sl).2.length cap] 49) ∧ w'.ownsRow 0 3 1 (.slice la (overW s n m sl).2.length cap) (overW s n m sl).2.length (numbs (overW s n m sl).2) ∧
    w'.heap[q]? = some (.cells arr 4 (0, 0)) ∧ (∀ i, i < n → arr[i]? = some (.bool ((overW s n m sl).1.out i == some true))) ∧ w.heap.size ≤ q
  size : w.heap.size ≤ w'.heap.size
  same : ∀ b, b < w.heap.size → b ≠ B → w'.heap[b]? = w.heap[b]?

theorem followA_off {X : Type} (C : Abs X) {st : X × List Nat} (h : overA C st = true) (l : List Int) : followA C st l = st := by
  have h1 : ∀ l : List Int, l.foldl (stepA C) st = st := fun l => by
    induction l with
    | nil => rfl
    | cons z l ih =>
      rw [List.foldl_cons]
      have : stepA C st z = st := by
        unfold stepA
        rw [if_neg]
        rintro ⟨h', _⟩
        rw [h] at h'; cases h'
      rw [this]; exact ih
  unfold followA
  rw [h1]
  cases C.most.toNat with
  | zero => rfl
  | succ f => exact rest_off C h
theorem overW_zero (s : Wlk) (m : Int) (sl : List Int) : overW s 0 m sl = (wx0, []) := followA_off (absW s 0 m) (st := (wx0, [])) rfl sl

/-- The walkers of a run, by number: as a crew. -/
noncomputable def wgOf (n B : Nat) (W : Nat → Nat) (s : Wlk) (ro : Nat → Option Obj) : WG := ⟨n, B, W, s, ro⟩
def givenW (nl : Nat → Bool) (W : Nat → Nat) (n tb tcap : Nat) (most : Int) (sa : Option Addr) (sc : Nat) (sl : List Int) : Given where
  g0 := 0
  n := n
  tb := tb
  tcap := tcap
  most := most
  F := thrOf nl W
  sa := sa
  sc := sc
  sl := sl

section
variable {B : Nat} {st af : Nat → Int} {nl : Nat → Bool}

open Classical in
theorem over_walkers {w0 w : World} {oa : Option Addr} {oc N : Nat} {W : Nat → Nat} (M : Mde B st af nl w0 w oa oc N W) (hB : w.heap[B]? = some (.cells #[.slice none 0 0] 49)) (sa : Option Addr) (sc : Nat) (sl : List Int) (most : Int) (hsl : sl.length ≤ 17592186044416)
    (hsch : ∀ (j : Nat) (z : Int), sl[j]? = some z → ∃ s so, sa = some ⟨s, so, none⟩ ∧ s ≠ B ∧ (∀ i, i < N → nl i = false → s ≠ W i) ∧ w.cell? ⟨s, so + j, none⟩ = some (.int .i64 z)) (c : Frame) (cs : List Frame) :
    Runs (fun g w' => ∃ v, Ovd ⟨nl, fun i => st i % 32, af⟩ (min N 64) B (min (max most 0) 1048576) sl w v w' ∧ g = G (c.finish v) cs) (G (Frame.enter Try.prog 23 #[.slice oa N oc, .slice sa sl.length sc, .int .i64 most] .normal) (c :: cs)) w := by
  have hBlt : B < w.heap.size := (Array.getElem?_eq_some_iff.1 hB).1
  rcases Nat.eq_zero_or_pos N with hN | hN
  · subst hN
    obtain ⟨rfl, rfl⟩ := M.z rfl
    refine Runs.walk (over_zero sa sl.length sc most (.slice none 0 0) c cs w (first_none w) fun hm => ?_) ?_
    · obtain ⟨s, so, e, _, _, hc⟩ := hsch 0 sl[0] (List.getElem?_eq_getElem hm)
      exact ⟨s, so, _, e, hc⟩
    · rintro _ w' ⟨rfl, d, rfl⟩
      have hs1 : (turnW w 0 most).heap.size = w.heap.size + 1 := by simp [turnW]
      have hk : ∀ b, b < w.heap.size → (((turnW w 0 most).alloc (.cells (madeCells #[.bool false] 0) 4)).at d).heap[b]? = w.heap[b]? := fun b hb => (heap_new_lt _ _ (by rw [hs1]; omega)).trans (heap_new_lt w _ hb)
      refine .now ⟨_, ⟨⟨none, 0, w.heap.size + 1, none, 0, madeCells #[.bool false] 0, ?_, ?_, ?_, ?_, ?_, fun i hi => ?_, Nat.le_succ _⟩, ?_, fun b hb _ => hk b hb⟩, rfl⟩
      · rw [show min 0 64 = 0 from rfl, overW_zero]; rfl
      · rw [show min 0 64 = 0 from rfl, overW_zero]; exact row_nil _ _ _ _
      · rw [show min 0 64 = 0 from rfl, overW_zero]; exact (hk B hBlt).trans hB
      · rw [show min 0 64 = 0 from rfl, overW_zero]; exact row_nil _ _ _ _
      · rw [← hs1]; exact heap_alloc_new _ _
      · exact absurd hi (Nat.not_lt_zero _)
      · show w.heap.size ≤ ((turnW w 0 most).alloc _).heap.size
        simp [turnW]; omega
  obtain ⟨tb, tcap, e, hcap, _, _, _⟩ := row_cell M.row (j := 0) (x := thrOf nl W 0) (by rw [List.getElem?_map, List.getElem?_range hN]; rfl)
  injection e with e1 _ e3
  subst e1 e3
  have hnN : min N 64 ≤ N := Nat.min_le_left _ _
  have hn64 : min N 64 ≤ 64 := Nat.min_le_right _ _
  have hn1 : 1 ≤ min N 64 := by omega
  have htb : ∀ i, i < N → w.cell? ⟨tb, i, none⟩ = some (thrOf nl W i) := fun i hi => by
    obtain ⟨g, cap, e, _, _, _, h⟩ := row_cell M.row (j := i) (x := thrOf nl W i) (by rw [List.getElem?_map, List.getElem?_range hi]; rfl)
    injection e with e _ _
    injection e with e
    injection e with e
    rw [e]; exact h
  have htbo := row_at M.row (g := tb) rfl
  have htB : tb ≠ B := fun e => by
    obtain ⟨_, _, cur, h⟩ := htbo
    rw [e, hB] at h
    injection h with h
    injection h with _ h _
    cases h
  have hWB : ∀ i, i < N → nl i = false → W i ≠ B := fun i hi hn e => by
    have := (M.wk i hi hn).1
    rw [e, hB] at this
    injection this with h
    injection h with _ h _
    cases h
  generalize hn : min N 64 = n at *
  let ro : Nat → Option Obj := fun b => if b < w.heap.size ∧ b ≠ B ∧ ¬ ∃ i, i < n ∧ nl i = false ∧ b = W i then w.heap[b]? else none
  let κ : Nat → Option WR := fun b => if h : ∃ i, i < n ∧ nl i = false ∧ b = W i then some (.wk h.choose) else if b = B then some .bd else if b < w.heap.size then some .ro else none
  have kW : ∀ i, i < n → nl i = false → κ (W i) = some (.wk i) := fun i hi hni => by
    have h : ∃ j, j < n ∧ nl j = false ∧ W i = W j := ⟨i, hi, hni, rfl⟩
    show (if h : ∃ j, j < n ∧ nl j = false ∧ W i = W j then some (WR.wk h.choose) else _) = _
    rw [dif_pos h]
    obtain ⟨h1, h2, h3⟩ := h.choose_spec
    have := M.inj i h.choose (by omega) (by omega) hni h2 h3
    rw [← this]
  have kO : ∀ b, (¬ ∃ i, i < n ∧ nl i = false ∧ b = W i) → κ b = if b = B then some .bd else if b < w.heap.size then some .ro else none := fun b hb => dif_neg hb
  have kB : κ B = some .bd := by
    rw [kO B (fun ⟨i, hi, hni, e⟩ => hWB i (by omega) hni e.symm), if_pos rfl]
  have kR : ∀ b, b < w.heap.size → b ≠ B → (¬ ∃ i, i < n ∧ nl i = false ∧ b = W i) → κ b = some .ro := fun b h1 h2 h3 => by
    rw [kO b h3, if_neg h2, if_pos h1]
  have kL : ∀ b r, κ b = some r → b < w.heap.size := fun b r h => by
    by_cases hb : ∃ i, i < n ∧ nl i = false ∧ b = W i
    · obtain ⟨i, hi, hni, rfl⟩ := hb
      exact (Array.getElem?_eq_some_iff.1 (M.wk i (by omega) hni).1).1
    · rw [kO b hb] at h
      by_cases e : b = B
      · rw [e]; exact hBlt
      · rw [if_neg e] at h
        by_cases hlt : b < w.heap.size
        · exact hlt
        · rw [if_neg hlt] at h; cases h
  refine Runs.then (over_run (fun S => crewW (wgOf n B W ⟨nl, fun i => st i % 32, af⟩ ro) S) wx0 (givenW nl W n tb oc most sa sc sl) (.slice (some ⟨tb, 0, none⟩) N oc) w hn1 hn64 hsl (fun _ => rfl) (by
      have := first_some (main := true) (V := fun _ => none) tb N oc w hcap
      rw [hn] at this
      exact this) (fun g0 sb scap sts => ⟨fun _ => [], κ, none, 0, fun _ _ => undef, ?_⟩) c cs) ?_
  · refine ⟨fun b r h => ⟨rfl, kL b r h⟩, rfl, fun i hi hni => (M.wk i (Nat.lt_of_lt_of_le hi hnN) hni).1, hB, row_nil _ _ _ _, kW, kB, (fun b h => by cases h), kR tb htbo.2.1 htB fun ⟨i, hi, hni, e⟩ => M.ne (Nat.lt_of_lt_of_le hi hnN) hni rfl e.symm, fun i hi => htb i (Nat.lt_of_lt_of_le hi hnN), fun j z hz => ?_, fun i hi => rfl, fun i => ⟨Int.emod_nonneg _ (by decide), Int.emod_lt_of_pos _ (by decide)⟩, rfl, fun i _ h => absurd h (Nat.not_lt_zero _), fun _ _ _ => rfl, Nat.zero_le _, fun b ob h => ?_⟩
    · obtain ⟨s, so, e, hsB, hsW, hc⟩ := hsch j z hz
      exact ⟨s, so, e, kR s (cell_lt w hc) hsB fun ⟨i, hi, hni, e⟩ => hsW i (Nat.lt_of_lt_of_le hi hnN) hni e, hc⟩
    · have h : (if b < w.heap.size ∧ b ≠ B ∧ ¬ ∃ i, i < n ∧ nl i = false ∧ b = W i then w.heap[b]? else none) = some ob := h
      by_cases hb : b < w.heap.size ∧ b ≠ B ∧ ¬ ∃ i, i < n ∧ nl i = false ∧ b = W i
      · rw [if_pos hb] at h
        exact ⟨kR b hb.1 hb.2.1 hb.2.2, h⟩
      · rw [if_neg hb] at h; cases h
  rintro _ w' ⟨_, ⟨g0, sb, scap, sts, x, ord, oa', oc', q, k, own, csx, hx, hov, rfl, hinv, hrow, _, _, hq, hsz, arr, hqa, hqi⟩, rfl⟩
  obtain ⟨κ', la, cap, us, P⟩ := hinv
  have hX : (x, ord) = overW ⟨nl, fun i => st i % 32, af⟩ n (min (max most 0) 1048576) sl := by
    rw [hx, follow_abs, born_abs]
    rfl
  have hlist : x.list = ord := by
    have := (pw_run (s := ⟨nl, fun i => st i % 32, af⟩) (n := n) (fun i => Int.emod_lt_of_pos _ (by decide)) (min (max most 0) 1048576) sl).list
    rw [← hX] at this
    exact this
  have hbd := P.bd
  have hbr := P.row
  rw [hlist] at hbd hbr
  refine .now ⟨_, ⟨⟨oa', oc', q, la, cap, arr, ?_, ?_, ?_, ?_, hqa, fun i hi => ?_, hq⟩, hsz, fun b hb hbB => ?_⟩, rfl⟩
  · rw [← hX]; rfl
  · rw [← hX]; exact hrow
  · rw [← hX]; exact hbd
  · rw [← hX]; exact hbr
  · rw [← hX]; exact hqi i hi
  · by_cases hw : ∃ i, i < n ∧ nl i = false ∧ b = W i
    · obtain ⟨i, hi, hni, rfl⟩ := hw
      exact (P.wk i hi hni).trans (M.wk i (by omega) hni).1.symm
    · have hro : ro b = w.heap[b]? := if_pos ⟨hb, hbB, hw⟩
      have h := (P.rr b (w.heap[b]) (by rw [show (wgOf n B W ⟨nl, fun i => st i % 32, af⟩ ro).ro b = ro b from rfl, hro]; exact Array.getElem?_eq_getElem hb)).2
      rw [h]; exact (Array.getElem?_eq_getElem hb).symm

/-- .. by a schedule that was there before the walkers. -/
theorem over_walkers_old {w0 w : World} {oa : Option Addr} {oc N : Nat} {W : Nat → Nat} (M : Mde B st af nl w0 w oa oc N W) (hB : w.heap[B]? = some (.cells #[.slice none 0 0] 49)) (sa : Option Addr) (sc : Nat) (sl : List Int) (most : Int) (hsl : sl.length ≤ 17592186044416)
    (hsch : ∀ (j : Nat) (z : Int), sl[j]? = some z → ∃ s so, sa = some ⟨s, so, none⟩ ∧ s ≠ B ∧ w0.cell? ⟨s, so + j, none⟩ = some (.int .i64 z)) (c : Frame) (cs : List Frame) :
    Runs (fun g w' => ∃ v, Ovd ⟨nl, fun i => st i % 32, af⟩ (min N 64) B (min (max most 0) 1048576) sl w v w' ∧ g = G (c.finish v) cs) (G (Frame.enter Try.prog 23 #[.slice oa N oc, .slice sa sl.length sc, .int .i64 most] .normal) (c :: cs)) w :=
  over_walkers M hB sa sc sl most hsl (fun j z hz => by
    obtain ⟨s, so, e, hsB, hc⟩ := hsch j z hz
    have hlt : s < w0.heap.size := cell_lt w0 hc
    exact ⟨s, so, e, hsB, fun i hi hni e' => by have := (M.wk i hi hni).2; omega, old_cell M.old hc⟩) c cs

theorem Mde.grow {w0 w w' : World} {oa : Option Addr} {oc i : Nat} {W : Nat → Nat} (M : Mde B st af nl w0 w oa oc i W) (O : Old w w') : Mde B st af nl w0 w' oa oc i W :=
  ⟨M.old.trans O, row_same M.row fun g hg => O.same g (row_at M.row hg).2.1, fun j hj hn => ⟨(O.same _ (Array.getElem?_eq_some_iff.1 (M.wk j hj hn).1).1).trans (M.wk j hj hn).1, (M.wk j hj hn).2⟩, M.inj, M.z⟩
end
theorem numb_get {l : List Nat} {i x : Nat} (h : l[i]? = some x) : (numbs l)[i]? = some (.int .i64 (x : Nat)) := by
  unfold numbs
  rw [List.getElem?_map, h]; rfl
theorem nums_row {w : World} {base : Nat} {a : Option Addr} {n cap X : Nat} {l : List Nat} (h : w.ownsRow base 3 1 (.slice a n cap) n (numbs l)) (f : Nat → Int) (hX : ∀ i, i < X → ∃ x : Nat, l[i]? = some x ∧ f i = x) : NumsAt a X f w := fun i hi => by
  obtain ⟨x, hx, hf⟩ := hX i hi
  obtain ⟨g, cap', e, _, _, _, hc⟩ := row_cell h (numb_get hx)
  injection e with e _ _
  rw [hf]
  exact ⟨g, 0, e, by rw [Nat.zero_add]; exact hc⟩

end Go.Proofs.Ytgiiicdpbdfemaa
end

/- The statement's side: bools held against each other. -/
section
namespace Go.Proofs.Ytgiiicdpbdfemaa
open Go.Conc Go.RowKit Go.Relay

section
variable {P : Program}
theorem eqIn_bool (d : Nat) (t : TypeId) (x y : Bool) (w : World) (es : Array Event) (hu : P.underlying t = some .bool) : (Op.equalIn (d + 1) t (.bool x) (.bool y)).run P w = .ok (x == y) w ∧ (Op.equalIn (d + 1) t (.bool x) (.bool y)).events P w es = es := by
  constructor <;> simp [Op.equalIn, run_underlying hu]
theorem run_neq_bool (t : TypeId) (hu : P.underlying t = some .bool) (x y : Bool) (w : World) : (binOp .neq t (.bool x) (.bool y)).run P w = .ok (.bool (x != y)) w := by
  simp only [binOp]
  simp [Op.equal, Op.maxDepth, (eqIn_bool 9999 t x y w #[] hu).1, bne]
theorem ev_neq_bool (t : TypeId) (hu : P.underlying t = some .bool) (x y : Bool) (w : World) (es : Array Event) : (binOp .neq t (.bool x) (.bool y)).events P w es = es := by
  simp only [binOp]
  simp [Op.equal, Op.maxDepth, (eqIn_bool 9999 t x y w #[] hu).1, (eqIn_bool 9999 t x y w es hu).2]
end
theorem und4 : Try.prog.underlying 4 = some .bool := by kernel_rfl

end Go.Proofs.Ytgiiicdpbdfemaa
end

/- The relay's walk through an append of whatever slice, the empty one too, to a slice that is the call's own. -/
section
namespace Go.Relay
open Go.Conc Go.RowKit

section
variable {P : Program} {main : Bool} {V : Nat → Option Wait} {Stop : Goroutine → World → Prop} {w : World} {b : Frame} {a : Act} {k : List Item} {cs : List Frame} {ops : Array Oper} {i : Nat} {rest : List Nat} {o : Oper}

theorem Walk.appendAny (s x : Operand) (t : TypeId) (ho : ops[i]? = some o) (hw : Region.wanted o (yielded ops a.tmps) = true) (hk : b.kind ≠ .early) (hop : o.op = .call { callee := .builtin .append, args := #[s, x], argTypes := #[t, t] })
    (base : Nat) (e : TypeId) (ti : TypeInfo) (z : Value) (size bytes : Nat) (ht : P.underlying t = some (.slice e)) (hi : P.info? e = some ti) (hz : ti.zero = some z) (hsize : ti.size = size) (hby : ti.bytes = bytes) (hzs : z.cells.size = size) (hsz : 0 < size)
    (v : Value) (n : Nat) (xs : List Value) (hs : a.eval s = v) (hown : w.ownsRow base e size v n xs)
    (ad : Addr) (m c : Nat) (news : List Value) (hx : a.eval x = .slice (some ad) m c) (hl : news.length = m * size) (hnews : ∀ j u, news[j]? = some u → w.cell? (ad.add j) = some u) (h1 : ∀ u ∈ news, u.oneCell' = true)
    (h63 : n + m ≤ maxLen) (hbytes : (n + m) * bytes ≤ 140737488355328) (hbase : base ≤ w.heap.size) (hap : ∀ g, v.ownBlock = some g → Apart V g)
    (h : ∀ v' w', w'.ownsRow base e size v' (n + m) (xs ++ news) → w.grownBy w' v.ownBlock → (v'.ownBlock = v.ownBlock ∨ v'.ownBlock = some w.heap.size) → Walk P main (DR V) Stop (G (b.at (a.put o.dst v') (.inRegion ops rest :: k)) cs) w') :
    Walk P main (DR V) Stop (G (b.at a (.inRegion ops (i :: rest) :: k)) cs) w := by
  refine Walk.go rfl fun d => goes_oper_k ho hw hk fun K hK => ?_
  obtain ⟨v', w', hr, hown', hg, _, hat⟩ := run_append_own_at (P := P) (w.at d) base t o.type e ti z size bytes ht hi hz hsize hby hzs hsz v n xs hown ad m c news hl hnews h1 h63 hbytes hbase
  refine uponK_append s x t hop hs hx hr (hK _ _ ⟨DR.grown hg hap fun ev hev => ?_, h v' w' hown' ⟨hg.os, hg.tape, hg.output, hg.size, hg.block⟩ hat⟩)
  have hm' := mem_listed hev
  rw [events_append_op s x t hop hs hx] at hm'
  rcases events_append_own (w.at d) base t o.type e ti z size bytes ht hi hz hsize hby v n xs hown ad m c news hl hnews h1 h63 hbytes ev hm' with h' | ⟨ad', h', hb⟩ | ⟨mk, h', hn⟩
  · exact evR_isRead h'
  · exact evR_cell h' ((hap _ hb.symm).1 ad' rfl)
  · rw [h', show mk = .noRoom from hn]; exact evR_noRoom

theorem events_append_owned_none (w : World) (base : Nat) (t ty e : TypeId) (ti : TypeInfo) (size : Nat) (ht : P.underlying t = some (.slice e)) (hi : P.info? e = some ti) (v : Value) (n : Nat) (xs : List Value) (hown : w.ownsRow base e size v n xs) (es : Array Event) :
    (Builtin.append_ #[t, t] ty #[v, .slice none 0 0]).events P w es = es := by
  rcases hown.2 with ⟨rfl, rfl⟩ | ⟨g, cap, cur, rfl, _, _, hnc, _⟩
  · simp [Builtin.append_, run_underlying ht, sizeOf, typeInfo, hi, Builtin.lenOf, Builtin.firstCells]
  · simp [Builtin.append_, run_underlying ht, sizeOf, typeInfo, hi, Builtin.lenOf, Builtin.firstCells, hnc, storeCells]

/-- Nothing is appended. -/
theorem Walk.appendNone (s x : Operand) (t : TypeId) (ho : ops[i]? = some o) (hw : Region.wanted o (yielded ops a.tmps) = true) (hk : b.kind ≠ .early) (hop : o.op = .call { callee := .builtin .append, args := #[s, x], argTypes := #[t, t] })
    (base : Nat) (e : TypeId) (ti : TypeInfo) (size : Nat) (ht : P.underlying t = some (.slice e)) (hi : P.info? e = some ti)
    (v : Value) (n : Nat) (xs : List Value) (hs : a.eval s = v) (hown : w.ownsRow base e size v n xs) (hx : a.eval x = .slice none 0 0)
    (h : Walk P main (DR V) Stop (G (b.at (a.put o.dst v) (.inRegion ops rest :: k)) cs) w) :
    Walk P main (DR V) Stop (G (b.at a (.inRegion ops (i :: rest) :: k)) cs) w := by
  refine Walk.go rfl fun d => goes_oper_k ho hw hk fun K hK => ?_
  have hr := run_append_owned_none (P := P) (w := w.at d) base t o.type e ti size ht hi v n xs hown
  refine uponK_append s x t hop hs hx hr (hK _ _ ⟨⟨fun i v e hK => hK, fun i v o e ho _ => ho, fun ev hev => ?_, OsSame.refl _⟩, h.back d⟩)
  have hm' := mem_listed hev
  rw [events_append_op s x t hop hs hx, events_append_owned_none (w.at d) base t o.type e ti size ht hi v n xs hown] at hm'
  simp at hm'

/-- Both in one: what is appended may be nil. -/
theorem Walk.appendSl (s x : Operand) (t : TypeId) (ho : ops[i]? = some o) (hw : Region.wanted o (yielded ops a.tmps) = true) (hk : b.kind ≠ .early) (hop : o.op = .call { callee := .builtin .append, args := #[s, x], argTypes := #[t, t] })
    (base : Nat) (e : TypeId) (ti : TypeInfo) (z : Value) (size bytes : Nat) (ht : P.underlying t = some (.slice e)) (hi : P.info? e = some ti) (hz : ti.zero = some z) (hsize : ti.size = size) (hby : ti.bytes = bytes) (hzs : z.cells.size = size) (hsz : 0 < size)
    (v : Value) (n : Nat) (xs : List Value) (hs : a.eval s = v) (hown : w.ownsRow base e size v n xs)
    (xa : Option Addr) (m c : Nat) (news : List Value) (hx : a.eval x = .slice xa m c) (hnil : xa = none → m = 0 ∧ c = 0) (hl : news.length = m * size) (hnews : ∀ ad, xa = some ad → ∀ j u, news[j]? = some u → w.cell? (ad.add j) = some u) (h1 : ∀ u ∈ news, u.oneCell' = true)
    (h63 : n + m ≤ maxLen) (hbytes : (n + m) * bytes ≤ 140737488355328) (hbase : base ≤ w.heap.size) (hap : ∀ g, v.ownBlock = some g → Apart V g)
    (h : ∀ v' w', w'.ownsRow base e size v' (n + m) (xs ++ news) → w.grownBy w' v.ownBlock → (v'.ownBlock = v.ownBlock ∨ v'.ownBlock = some w.heap.size) → Walk P main (DR V) Stop (G (b.at (a.put o.dst v') (.inRegion ops rest :: k)) cs) w') :
    Walk P main (DR V) Stop (G (b.at a (.inRegion ops (i :: rest) :: k)) cs) w := by
  cases xa with
  | none =>
    obtain ⟨rfl, rfl⟩ := hnil rfl
    have hn : news = [] := List.eq_nil_of_length_eq_zero (by simpa using hl)
    subst hn
    refine Walk.appendNone s x t ho hw hk hop base e ti size ht hi v n xs hs hown hx (h v w ?_ ⟨rfl, rfl, rfl, Nat.le_refl _, fun _ _ _ => rfl⟩ (.inl rfl))
    rw [Nat.add_zero, List.append_nil]; exact hown
  | some ad => exact Walk.appendAny s x t ho hw hk hop base e ti z size bytes ht hi hz hsize hby hzs hsz v n xs hs hown ad m c news hx hl (hnews ad rfl) h1 h63 hbytes hbase hap h

theorem row_shape {w : World} {base : Nat} {e : TypeId} {size : Nat} {v : Value} {n : Nat} {xs : List Value} (h : w.ownsRow base e size v n xs) : ∃ a cap, v = .slice a n cap := by
  rcases h.2 with ⟨rfl, rfl⟩ | ⟨g, cap, cur, rfl, _⟩
  · exact ⟨none, 0, rfl⟩
  · exact ⟨_, _, rfl⟩
end
end Go.Relay
end
