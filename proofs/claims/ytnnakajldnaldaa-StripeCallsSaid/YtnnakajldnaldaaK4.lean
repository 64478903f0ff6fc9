/- Part 4. -/
import Derived.Test.YtnnakajldnaldaaK1
import Derived.Test.YtnnakajldnaldaaK2
import Derived.Test.YtnnakajldnaldaaK3
set_option linter.unusedSimpArgs false
set_option linter.unusedVariables false
set_option maxHeartbeats 8000000
set_option maxRecDepth 100000
namespace Go.Proofs.Ytnnakajldnaldaa
open Go.Conc Go.RowKit Go.Relay
open Go.ConcN (upd upd_ne upd_same)
section
inductive Whole (L : La) (N : Nat) : Nat → L.Sg → List OpV → List Ans → Nat → L.Sg → List Ans → Prop
  | nil (c : Nat) (s : L.Sg) (az : List Ans) : Whole L N c s [] az c s az
  | cons {c c1 c2 : Nat} {s s1 s2 : L.Sg} {o : OpV} {l : List OpV} {az az2 : List Ans} {a : Ans} (h : lonC L N c (L.enter s o) = some (c1, s1, a)) (k : Whole L N c1 s1 l (az ++ [a]) c2 s2 az2) : Whole L N c s (o :: l) az c2 s2 az2
section
variable {L : La}
structure At1 (x : OX L) (r : L.Sg × Tst L) : Prop where
  s : x.s = r.1
  th : x.th 0 = r.2
  out : x.out 0 = (match r.2.d with | none => some false | some _ => none)
theorem At1.put (x : OX L) (r : L.Sg × Tst L) (c : Nat) : At1 (putO x 0 r c) r := ⟨rfl, (upd_same x.th 0 r.2 : _), (upd_same x.out 0 _ : _)⟩
theorem At1.next {x : OX L} {s : L.Sg} {left : List OpV} {d : L.D} {az : List Ans} (h : At1 x (s, ⟨left, some d, az⟩)) : At1 (nextO x 0) (landO L (L.act s d) left az) := by
  have hd : (x.th 0).d = some d := by rw [h.th]
  have e : nextO x 0 = putO x 0 (landO L (L.act x.s d) (x.th 0).left (x.th 0).ans) (x.cnt + 1) := by
    unfold nextO
    rw [hd]
  rw [e, h.th, h.s]
  exact At1.put _ _ _
inductive Go1 : Nat → OX L → OX L → Prop
  | refl (x : OX L) : Go1 0 x x
  | step {m : Nat} {x y : OX L} (h : x.out 0 = none) (k : Go1 m (nextO x 0) y) : Go1 (m + 1) x y
theorem Go1.trans {m n : Nat} {x y z : OX L} (h : Go1 m x y) (k : Go1 n y z) : Go1 (m + n) x z := by
  induction h with
  | refl => rw [Nat.zero_add]; exact k
  | step h _ ih =>
    rw [Nat.add_right_comm]
    exact .step h (ih k)
theorem go_call {N : Nat} : ∀ {c c1 : Nat} {s s1 : L.Sg} {r : Ans ⊕ L.D} {a : Ans}, lonC L N c (s, r) = some (c1, s1, a) → ∀ (left : List OpV) (az : List Ans) (x : OX L), At1 x (landO L (s, r) left az) → c ≤ c1 ∧ ∃ y, Go1 (c1 - c) x y ∧ At1 y (settleO L s1 left (az ++ [a])) := by
  induction N with
  | zero =>
    intro c c1 s s1 r a h left az x hx
    cases r with
    | inl a' =>
      rw [lonC_inl] at h
      simp only [Option.some.injEq, Prod.mk.injEq] at h
      obtain ⟨rfl, rfl, rfl⟩ := h
      exact ⟨Nat.le_refl _, x, by rw [Nat.sub_self]; exact .refl x, hx⟩
    | inr d => exact absurd h (by simp [lonC])
  | succ N ih =>
    intro c c1 s s1 r a h left az x hx
    cases r with
    | inl a' =>
      rw [lonC_inl] at h
      simp only [Option.some.injEq, Prod.mk.injEq] at h
      obtain ⟨rfl, rfl, rfl⟩ := h
      exact ⟨Nat.le_refl _, x, by rw [Nat.sub_self]; exact .refl x, hx⟩
    | inr d =>
      have h' : lonC L N (c + 1) ((L.act s d).1, (L.act s d).2) = some (c1, s1, a) := h
      have hx' : At1 x (s, ⟨left, some d, az⟩) := hx
      obtain ⟨h1, y, h2, h3⟩ := ih h' left az (nextO x 0) hx'.next
      refine ⟨by omega, y, ?_, h3⟩
      have e : c1 - c = (c1 - (c + 1)) + 1 := by omega
      rw [e]
      exact .step hx'.out h2
theorem go_whole {N c c2 : Nat} {s s2 : L.Sg} {l : List OpV} {az az2 : List Ans} (h : Whole L N c s l az c2 s2 az2) : ∀ x : OX L, At1 x (settleO L s l az) → c ≤ c2 ∧ ∃ y, Go1 (c2 - c) x y ∧ At1 y (s2, ⟨[], none, az2⟩) := by
  induction h with
  | nil c s az => exact fun x hx => ⟨Nat.le_refl _, x, by rw [Nat.sub_self]; exact .refl x, hx⟩
  | @cons c c1 c2 s s1 s2 o l az az2 a h _ ih =>
    intro x hx
    rw [settleO_cons] at hx
    have h' : lonC L N c ((L.enter s o).1, (L.enter s o).2) = some (c1, s1, a) := h
    obtain ⟨h1, y, h2, h3⟩ := go_call h' l az x hx
    obtain ⟨k1, z, k2, k3⟩ := ih y h3
    refine ⟨by omega, z, ?_, k3⟩
    have e : c2 - c = (c1 - c) + (c2 - c1) := by omega
    rw [e]
    exact h2.trans k2
theorem rest_alone (most : Int) (ops : Nat → List OpV) {m : Nat} {x y : OX L} (h : Go1 m x y) (hy : y.out 0 ≠ none) : ∀ (f : Nat) (ord : List Nat), (restA (absO L 1 most ops) f (x, ord)).1.out 0 ≠ none → restA (absO L 1 most ops) f (x, ord) = (y, ord ++ List.replicate m 0) := by
  induction h with
  | refl x =>
    intro f ord _
    have hov : overA (absO L 1 most ops) (x, ord) = true := by
      unfold overA goingA
      have hn : (x.out 0).isNone = false := by
        cases h : x.out 0 with
        | none => exact absurd h hy
        | some _ => rfl
      have : (List.range 1).countP (fun i => (x.out i).isNone) = 0 := by
        show List.countP (fun i => (x.out i).isNone) [0] = 0
        simp [hn]
      show (decide ((List.range 1).countP (fun i => (x.out i).isNone) = 0) || _) = true
      rw [this]
      rfl
    cases f with
    | zero => simp [restA]
    | succ f =>
      unfold restA
      rw [hov]
      simp
  | @step m x y hx _ ih =>
    intro f ord hF
    cases f with
    | zero => exact absurd hx hF
    | succ f =>
      unfold restA at hF ⊢
      cases hov : overA (absO L 1 most ops) (x, ord) with
      | true =>
        rw [hov] at hF
        exact absurd hx hF
      | false =>
        rw [hov] at hF
        have hr : roundA (absO L 1 most ops) (x, ord) = (nextO x 0, ord ++ [0]) := by
          show stepA (absO L 1 most ops) (x, ord) (0 : Nat) = _
          unfold stepA
          rw [if_pos ⟨hov, by decide, by show ((0 : Nat) : Int) < ((1 : Nat) : Int); decide, hx⟩]
          rfl
        simp only [Bool.false_eq_true, if_false] at hF ⊢
        rw [hr] at hF ⊢
        rw [ih hy f (ord ++ [0]) hF]
        simp [List.replicate_succ]
theorem play_alone {N c2 : Nat} {s0 s2 : L.Sg} {ops : Nat → List OpV} {az2 : List Ans} (most : Int) (h : Whole L N 0 s0 (ops 0) [] c2 s2 az2) (hs : stuckO 1 (playO L s0 ops 1 most []).1 = false) :
    (playO L s0 ops 1 most []).1.s = s2 ∧ ((playO L s0 ops 1 most []).1.th 0).ans = az2 ∧ (playO L s0 ops 1 most []).2.length = c2 := by
  have hb : At1 (bornO ops (x0O L s0) 0) (settleO L s0 (ops 0) []) := At1.put _ _ _
  obtain ⟨_, y, h1, h2⟩ := go_whole h _ hb
  have hy : y.out 0 ≠ none := by rw [h2.out]; exact fun e => by cases e
  have e : playO L s0 ops 1 most [] = restA (absO L 1 (min (max most 0) 1048576) ops) (min (max most 0) 1048576).toNat (bornO ops (x0O L s0) 0, []) := rfl
  have ho : (playO L s0 ops 1 most []).1.out 0 ≠ none := fun hn => by
    have : stuckO 1 (playO L s0 ops 1 most []).1 = true := by
      show decide (0 < List.countP (fun i => ((playO L s0 ops 1 most []).1.out i).isNone) [0]) = true
      simp [hn]
    rw [this] at hs
    cases hs
  rw [e] at ho
  have hF := rest_alone _ ops h1 hy _ [] ho
  rw [e, hF]
  exact ⟨h2.s, by rw [h2.th], by simp⟩
end
end
end Go.Proofs.Ytnnakajldnaldaa
