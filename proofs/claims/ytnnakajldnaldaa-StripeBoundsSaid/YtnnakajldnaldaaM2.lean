/- Part 2. -/
import Derived.Test.YtnnakajldnaldaaM1
set_option linter.unusedSimpArgs false
set_option linter.unusedVariables false
set_option maxHeartbeats 8000000
set_option maxRecDepth 100000
namespace Go.Proofs.Ytnnakajldnaldaa
open Go.Conc Go.RowKit Go.Relay
open Go.ConcN (upd upd_ne upd_same)
section
section
variable {cb rb m rc : Nat} {ra : Option Addr}
def rdE : OpV := ⟨5, 0, 0, 0⟩
def rdS : OpV := ⟨2, 0, 0, 0⟩
structure BnO (ops : Nat → List OpV) (K : Nat) : Prop where
  few : K ≤ 63
  len : ∀ i, i < K → (ops i).length ≤ 500
  add : ∀ i, i < K → ∀ o ∈ ops i, o.k = 1 ∧ 0 ≤ o.b ∧ o.b ≤ 999
  rd : ops K = [rdS, rdE, rdS]
theorem BnO.tot {ops : Nat → List OpV} {K : Nat} (h : BnO ops K) (l : List Nat) : 0 ≤ totS ops K l ∧ totS ops K l ≤ 31468500 := by
  have hf := h.few
  refine ⟨sg_nn fun i hi => addS_nn fun o ho => (h.add i hi o (List.mem_of_mem_take ho)).2.1, ?_⟩
  have h1 : totS ops K l ≤ K * 499500 := sg_const fun i hi => by
    have h2 := addS_le (l := (ops i).take (l.count i)) fun o ho => (h.add i hi o (List.mem_of_mem_take ho)).2.2
    have h3 : ((ops i).take (l.count i)).length ≤ 500 := by have := h.len i hi; rw [List.length_take]; omega
    omega
  omega
def adT (cb rb m : Nat) (ra : Option Addr) (rc : Nat) (r : List OpV) (az : List Ans) : Tst (spLa cb rb m ra rc) := match r with
  | [] => ⟨[], none, az⟩
  | o :: r => ⟨r, some (SD.a1 (stAt m o.a) o.b), az⟩
theorem settle_add (s : Sp) (r : List OpV) (az : List Ans) (h : ∀ o ∈ r, o.k = 1) : settleO (spLa cb rb m ra rc) s r az = (s, adT cb rb m ra rc r az) := by
  cases r with
  | nil => rfl
  | cons o r =>
    have h1 := h o (by simp)
    have e : spEnter m s o = (s, .inr (SD.a1 (stAt m o.a) o.b)) := by
      unfold spEnter
      rw [if_pos h1]
    exact (settleO_cons (spLa cb rb m ra rc) s o r az).trans (congrArg (fun r' => landO (spLa cb rb m ra rc) r' r az) e)
def SumB (m : Nat) (s : Sp) (T0 : Int) (k : Nat) (seen : List Int) : Prop := seen.length = k ∧ (0 < k → ∃ S0 : Sp, sg S0 m = T0 ∧ (∀ j, j < m → 0 ≤ S0 j ∧ S0 j ≤ s j) ∧ ∀ j, j < k → S0 j ≤ seen.getD j 0 ∧ seen.getD j 0 ≤ s j)
def SeeB (s : Sp) (k : Nat) (seen : List Int) : Prop := seen.length = k ∧ ∀ j, j < k → 0 ≤ seen.getD j 0 ∧ seen.getD j 0 ≤ s j
def LookB (m : Nat) (s : Sp) (T1 : Int) (k : Nat) (seen : List Int) : Prop := seen.length = m ∧ ∃ S1 : Sp, sg S1 m = T1 ∧ (∀ j, j < m → 0 ≤ seen.getD j 0 ∧ seen.getD j 0 ≤ S1 j ∧ S1 j ≤ s j) ∧ ∀ j, j < k → seen.getD j 0 = S1 j
theorem SumB.up {s s' : Sp} {T0 T0' : Int} {k : Nat} {seen : List Int} (h : SumB m s T0 k seen) (hs : ∀ j, j < m → s j ≤ s' j) (hk : k ≤ m) (hT : 0 < k → T0' = T0) : SumB m s' T0' k seen := by
  refine ⟨h.1, fun h0 => ?_⟩
  obtain ⟨S0, h1, h2, h3⟩ := h.2 h0
  exact ⟨S0, h1.trans (hT h0).symm, fun j hj => ⟨(h2 j hj).1, Int.le_trans (h2 j hj).2 (hs j hj)⟩, fun j hj => ⟨(h3 j hj).1, Int.le_trans (h3 j hj).2 (hs j (by omega))⟩⟩
theorem SeeB.up {s s' : Sp} {k : Nat} {seen : List Int} (h : SeeB s k seen) (hs : ∀ j, j < m → s j ≤ s' j) (hk : k ≤ m) : SeeB s' k seen := ⟨h.1, fun j hj => ⟨(h.2 j hj).1, Int.le_trans (h.2 j hj).2 (hs j (by omega))⟩⟩
theorem LookB.up {s s' : Sp} {T1 T1' : Int} {k : Nat} {seen : List Int} (h : LookB m s T1 k seen) (hs : ∀ j, j < m → s j ≤ s' j) (hT : T1' = T1) : LookB m s' T1' k seen := by
  obtain ⟨h0, S1, h1, h2, h3⟩ := h
  exact ⟨h0, S1, h1.trans hT.symm, fun j hj => ⟨(h2 j hj).1, (h2 j hj).2.1, Int.le_trans (h2 j hj).2.2 (hs j hj)⟩, h3⟩
theorem SumB.step {s : Sp} {T0 T0' : Int} {k : Nat} {seen : List Int} (h : SumB m s T0 k seen) (hk : k < m) (hs : ∀ j, j < m → 0 ≤ s j) (h0 : k = 0 → T0' = sg s m) (h1 : 0 < k → T0' = T0) : SumB m s T0' (k + 1) (seen ++ [s k]) := by
  obtain ⟨hl, hB⟩ := h
  refine ⟨by simp [hl], fun _ => ?_⟩
  have e : (seen ++ [s k]).getD k 0 = s k := by
    have := getD_snoc_eq (l := seen) (x := s k)
    rwa [hl] at this
  by_cases hk0 : k = 0
  · refine ⟨s, (h0 hk0).symm, fun j hj => ⟨hs j hj, Int.le_refl _⟩, fun j hj => ?_⟩
    obtain rfl : j = k := by omega
    rw [e]
    exact ⟨Int.le_refl _, Int.le_refl _⟩
  · obtain ⟨S0, a1, a2, a3⟩ := hB (by omega)
    refine ⟨S0, a1.trans (h1 (by omega)).symm, a2, fun j hj => ?_⟩
    by_cases hjk : j = k
    · subst hjk
      rw [e]
      exact ⟨(a2 j hk).2, Int.le_refl _⟩
    · rw [getD_snoc_lt (by omega)]
      exact a3 j (by omega)
theorem SumB.fin {s : Sp} {T0 : Int} {seen : List Int} (h : SumB m s T0 m seen) (hm : 0 < m) (hb : sg s m ≤ 4611686018427387904) : T0 ≤ sumZ seen ∧ sumZ seen ≤ sg s m := by
  obtain ⟨hl, hB⟩ := h
  obtain ⟨S0, a1, a2, a3⟩ := hB hm
  have e : sgL seen = sg (fun j => seen.getD j 0) m := by unfold sgL; rw [hl]
  have h1 : sgL seen ≤ sg s m := e ▸ sg_le fun j hj => (a3 j hj).2
  have h2 : T0 ≤ sgL seen := e ▸ a1 ▸ sg_le fun j hj => (a3 j hj).1
  rw [sumZ_is m seen hl (fun j hj => Int.le_trans (a2 j hj).1 (a3 j hj).1) (by omega)]
  exact ⟨h2, h1⟩
theorem SeeB.step {s : Sp} {k : Nat} {seen : List Int} (h : SeeB s k seen) (hk : k < m) (hs : ∀ j, j < m → 0 ≤ s j) : SeeB s (k + 1) (seen ++ [s k]) := by
  obtain ⟨hl, hB⟩ := h
  have e : (seen ++ [s k]).getD k 0 = s k := by
    have := getD_snoc_eq (l := seen) (x := s k)
    rwa [hl] at this
  refine ⟨by simp [hl], fun j hj => ?_⟩
  by_cases hjk : j = k
  · subst hjk
    rw [e]
    exact ⟨hs j hk, Int.le_refl _⟩
  · rw [getD_snoc_lt (by omega)]
    exact hB j (by omega)
def EvOK (m : Nat) (T : Nat → Int) (ev : Nat) (b : Bool) (N : Int) : Prop := (b = false ∧ N = 0 ∧ m + 1 ≤ ev ∧ ev ≤ 2 * m) ∨ (b = true ∧ ev = 2 * m ∧ N = T (2 * m - 1))
theorem EvOK.up {T T' : Nat → Int} {ev : Nat} {b : Bool} {N : Int} (h : EvOK m T ev b N) {c : Nat} (hc : m + ev ≤ c) (hm : 0 < m) (hT : ∀ k, k < c → T' k = T k) : EvOK m T' ev b N := by
  rcases h with h | ⟨h1, h2, h3⟩
  · exact .inl h
  · exact .inr ⟨h1, h2, h3.trans (hT _ (by omega)).symm⟩
inductive RdI (m : Nat) (s : Sp) (T : Nat → Int) (c : Nat) : List OpV → Option SD → List Ans → Prop
  | r0 (seen : List Int) : c < m → SumB m s (T 0) c seen → RdI m s T c [rdE, rdS] (some (.u1 c seen)) []
  | r1 (k : Nat) (seen : List Int) (N0 : Int) : c = m + k → k < m → T 0 ≤ N0 → N0 ≤ T (m - 1) → SeeB s k seen → RdI m s T c [rdS] (some (.e1 k seen)) [(true, N0)]
  | r2 (k : Nat) (seen : List Int) (N0 : Int) : c = 2 * m + k → k < m → T 0 ≤ N0 → N0 ≤ T (m - 1) → LookB m s (T (2 * m - 1)) k seen → RdI m s T c [rdS] (some (.e2 k seen)) [(true, N0)]
  | r3 (k ev : Nat) (seen : List Int) (N0 : Int) (b1 : Bool) (N1 : Int) : c = m + ev + k → k < m → T 0 ≤ N0 → N0 ≤ T (m - 1) → EvOK m T ev b1 N1 → SumB m s (T (m + ev)) k seen → RdI m s T c [] (some (.u1 k seen)) [(true, N0), (b1, N1)]
  | r4 (ev : Nat) (N0 : Int) (b1 : Bool) (N1 N2 : Int) : c = 2 * m + ev → T 0 ≤ N0 → N0 ≤ T (m - 1) → EvOK m T ev b1 N1 → T (m + ev) ≤ N2 → N2 ≤ T (2 * m + ev - 1) → RdI m s T c [] none [(true, N0), (b1, N1), (true, N2)]
theorem EvOK.le {T : Nat → Int} {ev : Nat} {b : Bool} {N : Int} (h : EvOK m T ev b N) (hm : 0 < m) : m + 1 ≤ ev ∧ ev ≤ 2 * m := by
  rcases h with h | ⟨h1, h2, h3⟩ <;> omega
theorem RdI.up {s s' : Sp} {T T' : Nat → Int} {c : Nat} {lf : List OpV} {d : Option SD} {az : List Ans} (h : RdI m s T c lf d az) (hm : 0 < m) (hs : ∀ j, j < m → s j ≤ s' j) (hT : ∀ k, k < c → T' k = T k) : RdI m s' T' c lf d az := by
  cases h with
  | r0 seen h1 h2 => exact .r0 seen h1 (h2.up hs (by omega) fun h => hT _ h)
  | r1 k seen N0 h1 h2 h3 h4 h5 =>
    refine .r1 k seen N0 h1 h2 ?_ ?_ (h5.up hs (by omega))
    · rw [hT 0 (by omega)]; exact h3
    · rw [hT _ (by omega)]; exact h4
  | r2 k seen N0 h1 h2 h3 h4 h5 =>
    refine .r2 k seen N0 h1 h2 ?_ ?_ (h5.up hs (hT _ (by omega)))
    · rw [hT 0 (by omega)]; exact h3
    · rw [hT _ (by omega)]; exact h4
  | r3 k ev seen N0 b1 N1 h1 h2 h3 h4 h5 h6 =>
    refine .r3 k ev seen N0 b1 N1 h1 h2 ?_ ?_ (h5.up (c := c) (by omega) hm hT) (h6.up hs (by omega) fun h => hT _ (by omega))
    · rw [hT 0 (by omega)]; exact h3
    · rw [hT _ (by omega)]; exact h4
  | r4 ev N0 b1 N1 N2 h1 h3 h4 h5 h6 h7 =>
    refine .r4 ev N0 b1 N1 N2 h1 ?_ ?_ (h5.up (c := c) (by omega) hm hT) ?_ ?_
    · rw [hT 0 (by omega)]; exact h3
    · rw [hT _ (by omega)]; exact h4
    · rw [hT _ (by omega)]; exact h6
    · rw [hT _ (by omega)]; exact h7
theorem RdI.step {s : Sp} {T T' : Nat → Int} {c : Nat} {lf : List OpV} {d : SD} {az : List Ans} (h : RdI m s T c lf (some d) az) (hm : 0 < m) (hs : ∀ j, j < m → 0 ≤ s j) (hb : sg s m ≤ 4611686018427387904) (hT : ∀ k, k < c → T' k = T k) (hc : T' c = sg s m) :
    ∃ lf' d' az', landO (spLa cb rb m ra rc) (spAct m s d) lf az = (s, ⟨lf', d', az'⟩) ∧ RdI m s T' (c + 1) lf' d' az' := by
  cases h with
  | r0 seen h1 h2 =>
    have h3 := h2.step (T0' := T' 0) h1 hs (fun e => by subst e; exact hc) (fun h => hT 0 h)
    have e : spAct m s (.u1 c seen) = (s, if c + 1 = m then .inl (true, sumZ (seen ++ [s c])) else .inr (.u1 (c + 1) (seen ++ [s c]))) := rfl
    rw [e]
    by_cases hcm : c + 1 = m
    · rw [if_pos hcm]
      rw [hcm] at h3
      have h4 := h3.fin hm hb
      refine ⟨[rdS], some (.e1 0 []), [(true, sumZ (seen ++ [s c]))], rfl, .r1 0 [] _ (by omega) hm h4.1 ?_ ⟨rfl, fun j hj => by omega⟩⟩
      rw [show m - 1 = c by omega, hc]
      exact h4.2
    · rw [if_neg hcm]
      exact ⟨_, _, _, rfl, .r0 _ (by omega) h3⟩
  | r1 k seen N0 h1 h2 h3 h4 h5 =>
    have h6 := h5.step h2 hs
    have e : spAct m s (.e1 k seen) = (s, if k + 1 = m then .inr (.e2 0 (seen ++ [s k])) else .inr (.e1 (k + 1) (seen ++ [s k]))) := rfl
    rw [e]
    have b0 : T' 0 ≤ N0 := by rw [hT 0 (by omega)]; exact h3
    have b1 : N0 ≤ T' (m - 1) := by rw [hT _ (by omega)]; exact h4
    by_cases hk : k + 1 = m
    · rw [if_pos hk]
      refine ⟨_, _, _, rfl, .r2 0 _ N0 (by omega) hm b0 b1 ⟨by rw [h6.1]; exact hk, s, ?_, fun j hj => ?_, fun j hj => by omega⟩⟩
      · rw [show 2 * m - 1 = c by omega, hc]
      · have := h6.2 j (by omega)
        exact ⟨this.1, this.2, Int.le_refl _⟩
    · rw [if_neg hk]
      exact ⟨_, _, _, rfl, .r1 (k + 1) _ N0 (by omega) (by omega) b0 b1 h6⟩
  | r2 k seen N0 h1 h2 h3 h4 h5 =>
    obtain ⟨hl, S1, a1, a2, a3⟩ := h5
    have e : spAct m s (.e2 k seen) = (s, if s k ≠ seen.getD k 0 then .inl (false, 0) else if k + 1 = m then .inl (true, sumZ seen) else .inr (.e2 (k + 1) seen)) := rfl
    rw [e]
    have b0 : T' 0 ≤ N0 := by rw [hT 0 (by omega)]; exact h3
    have b1 : N0 ≤ T' (m - 1) := by rw [hT _ (by omega)]; exact h4
    have hT1 : T' (2 * m - 1) = T (2 * m - 1) := hT _ (by omega)
    by_cases hne : s k ≠ seen.getD k 0
    · rw [if_pos hne]
      exact ⟨_, _, _, rfl, .r3 0 (m + k + 1) [] N0 false 0 (by omega) hm b0 b1 (.inl ⟨rfl, rfl, by omega, by omega⟩) ⟨rfl, fun h => by omega⟩⟩
    · rw [if_neg hne]
      have heq : s k = seen.getD k 0 := Classical.not_not.1 hne
      have a4 : ∀ j, j < k + 1 → seen.getD j 0 = S1 j := fun j hj => by
        by_cases e : j = k
        · subst e
          have := a2 j h2
          omega
        · exact a3 j (by omega)
      by_cases hk : k + 1 = m
      · rw [if_pos hk]
        have e1 : sgL seen = sg S1 m := by
          unfold sgL
          rw [hl]
          exact sg_eq fun j hj => a4 j (by omega)
        have e2 : sg S1 m ≤ sg s m := sg_le fun j hj => (a2 j hj).2.2
        have e3 : sumZ seen = T (2 * m - 1) := (sumZ_is m seen hl (fun j hj => (a2 j hj).1) (by omega)).trans (e1.trans a1)
        exact ⟨_, _, _, rfl, .r3 0 (2 * m) [] N0 true (sumZ seen) (by omega) hm b0 b1 (.inr ⟨rfl, rfl, e3.trans hT1.symm⟩) ⟨rfl, fun h => by omega⟩⟩
      · rw [if_neg hk]
        exact ⟨_, _, _, rfl, .r2 (k + 1) seen N0 (by omega) (by omega) b0 b1 ⟨hl, S1, a1.trans hT1.symm, a2, a4⟩⟩
  | r3 k ev seen N0 b1 N1 h1 h2 h3 h4 h5 h6 =>
    have hev := h5.le hm
    have h7 := h6.step (T0' := T' (m + ev)) h2 hs (fun e => by subst e; rw [show m + ev = c by omega]; exact hc) (fun h => hT _ (by omega))
    have e : spAct m s (.u1 k seen) = (s, if k + 1 = m then .inl (true, sumZ (seen ++ [s k])) else .inr (.u1 (k + 1) (seen ++ [s k]))) := rfl
    rw [e]
    have b0 : T' 0 ≤ N0 := by rw [hT 0 (by omega)]; exact h3
    have b1' : N0 ≤ T' (m - 1) := by rw [hT _ (by omega)]; exact h4
    have h5' : EvOK m T' ev b1 N1 := h5.up (c := c) (by omega) hm hT
    by_cases hk : k + 1 = m
    · rw [if_pos hk]
      rw [hk] at h7
      have h8 := h7.fin hm hb
      refine ⟨[], none, [(true, N0), (b1, N1), (true, sumZ (seen ++ [s k]))], rfl, .r4 ev N0 b1 N1 _ (by omega) b0 b1' h5' h8.1 ?_⟩
      rw [show 2 * m + ev - 1 = c by omega, hc]
      exact h8.2
    · rw [if_neg hk]
      exact ⟨_, _, _, rfl, .r3 (k + 1) ev _ N0 b1 N1 (by omega) (by omega) b0 b1' h5' h7⟩
end
end
end Go.Proofs.Ytnnakajldnaldaa
