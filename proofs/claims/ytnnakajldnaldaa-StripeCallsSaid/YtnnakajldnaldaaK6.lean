/- Part 6. -/
import Derived.Test.YtnnakajldnaldaaK1
import Derived.Test.YtnnakajldnaldaaK2
import Derived.Test.YtnnakajldnaldaaK4
import Derived.Test.YtnnakajldnaldaaK5
set_option linter.unusedSimpArgs false
set_option linter.unusedVariables false
set_option maxHeartbeats 8000000
set_option maxRecDepth 100000
namespace Go.Proofs.Ytnnakajldnaldaa
open Go.Conc Go.RowKit Go.Relay
open Go.ConcN (upd upd_ne upd_same)
section
theorem lonC_runN {L : La} : ∀ {N c c1 : Nat} {p : L.Sg × (Ans ⊕ L.D)} {s1 : L.Sg} {a : Ans}, lonC L N c p = some (c1, s1, a) → runN L N p = some (s1, a) := by
  intro N
  induction N with
  | zero =>
    rintro c c1 ⟨s, r⟩ s1 a h
    cases r with
    | inl x => simp [lonC] at h; simp [runN, h]
    | inr d => simp [lonC] at h
  | succ N ih =>
    rintro c c1 ⟨s, r⟩ s1 a h
    cases r with
    | inl x => simp [lonC] at h; simp [runN, h]
    | inr d => exact ih (c := c + 1) h
theorem lonC_more {L : La} : ∀ {N c : Nat} {p : L.Sg × (Ans ⊕ L.D)} {R : Nat × L.Sg × Ans}, lonC L N c p = some R → ∀ k, lonC L (N + k) c p = some R := by
  intro N
  induction N with
  | zero =>
    rintro c ⟨s, r⟩ R h k
    cases r with
    | inl x => rw [lonC_inl] at h ⊢; exact h
    | inr d => cases h
  | succ N ih =>
    rintro c ⟨s, r⟩ R h k
    cases r with
    | inl x => rw [lonC_inl] at h ⊢; exact h
    | inr d =>
      have e : N + 1 + k = (N + k) + 1 := by omega
      rw [e]
      exact ih (c := c + 1) h k
section
variable {cb rb m rc : Nat} {ra : Option Addr}
theorem lon_sum (s : Sp) : ∀ (r k c : Nat), k + r = m → lonC (spLa cb rb m ra rc) r c (s, dU m k (stL s k)) = some (c + r, s, (true, sumZ (stL s m)))
  | 0, k, c, h => by
    have h : k = m := h
    subst h
    have e : dU k k (stL s k) = .inl (true, sumZ (stL s k)) := if_pos rfl
    rw [e]
    exact lonC_inl _ _ _ _ _
  | r + 1, k, c, h => by
    have e : dU m k (stL s k) = .inr (.u1 k (stL s k)) := if_neg (by omega)
    rw [e]
    have e2 : (spLa cb rb m ra rc).act s (.u1 k (stL s k)) = (s, dU m (k + 1) (stL s (k + 1))) := by rw [stL_succ]; rfl
    show lonC (spLa cb rb m ra rc) r (c + 1) ((spLa cb rb m ra rc).act s (.u1 k (stL s k))) = _
    rw [e2]
    refine (lon_sum s r (k + 1) (c + 1) (by omega)).trans ?_
    rw [show c + 1 + r = c + (r + 1) by omega]
theorem lon_take (s : Sp) : ∀ (r k c : Nat), k + r = m → lonC (spLa cb rb m ra rc) r c (tkS s k, dT m k (stL s k)) = some (c + r, tkS s m, (true, sumZ (stL s m)))
  | 0, k, c, h => by
    have h : k = m := h
    subst h
    have e : dT k k (stL s k) = .inl (true, sumZ (stL s k)) := if_pos rfl
    rw [e]
    exact lonC_inl _ _ _ _ _
  | r + 1, k, c, h => by
    have e : dT m k (stL s k) = .inr (.t1 k (stL s k)) := if_neg (by omega)
    rw [e]
    have e2 : (spLa cb rb m ra rc).act (tkS s k) (.t1 k (stL s k)) = (tkS s (k + 1), dT m (k + 1) (stL s (k + 1))) := by
      have e3 : tkS s k k = s k := if_neg (Nat.lt_irrefl k)
      show (spPut (tkS s k) k 0, if k + 1 = m then Sum.inl (true, sumZ (stL s k ++ [tkS s k k])) else Sum.inr (SD.t1 (k + 1) (stL s k ++ [tkS s k k]))) = _
      rw [tkS_succ, e3, ← stL_succ]
      rfl
    show lonC (spLa cb rb m ra rc) r (c + 1) ((spLa cb rb m ra rc).act (tkS s k) (.t1 k (stL s k))) = _
    rw [e2]
    refine (lon_take s r (k + 1) (c + 1) (by omega)).trans ?_
    rw [show c + 1 + r = c + (r + 1) by omega]
theorem lon_even2 (s : Sp) : ∀ (r k c : Nat), k + r = m → lonC (spLa cb rb m ra rc) r c (s, dF m k (stL s m)) = some (c + r, s, (true, sumZ (stL s m)))
  | 0, k, c, h => by
    have h : k = m := h
    subst h
    have e : dF k k (stL s k) = .inl (true, sumZ (stL s k)) := if_pos rfl
    rw [e]
    exact lonC_inl _ _ _ _ _
  | r + 1, k, c, h => by
    have e : dF m k (stL s m) = .inr (.e2 k (stL s m)) := if_neg (by omega)
    rw [e]
    have e2 : (spLa cb rb m ra rc).act s (.e2 k (stL s m)) = (s, dF m (k + 1) (stL s m)) := by
      show spAct m s (.e2 k (stL s m)) = _
      simp only [spAct, stL_get s m k (by omega), ne_eq, not_true_eq_false, if_false]
      rfl
    show lonC (spLa cb rb m ra rc) r (c + 1) ((spLa cb rb m ra rc).act s (.e2 k (stL s m))) = _
    rw [e2]
    refine (lon_even2 s r (k + 1) (c + 1) (by omega)).trans ?_
    rw [show c + 1 + r = c + (r + 1) by omega]
theorem lon_even1 (hm : 0 < m) (s : Sp) : ∀ (r k c : Nat), k + r = m → lonC (spLa cb rb m ra rc) (r + m) c (s, dE m k (stL s k)) = some (c + (r + m), s, (true, sumZ (stL s m)))
  | 0, k, c, h => by
    have h : k = m := h
    subst h
    have e : dE k k (stL s k) = dF k 0 (stL s k) := by
      unfold dE dF
      rw [if_pos rfl, if_neg (by omega)]
    rw [e, Nat.zero_add]
    exact lon_even2 s k 0 c (by omega)
  | r + 1, k, c, h => by
    have e : dE m k (stL s k) = .inr (.e1 k (stL s k)) := if_neg (by omega)
    rw [e]
    have e2 : (spLa cb rb m ra rc).act s (.e1 k (stL s k)) = (s, dE m (k + 1) (stL s (k + 1))) := by rw [stL_succ]; rfl
    rw [show r + 1 + m = (r + m) + 1 by omega]
    show lonC (spLa cb rb m ra rc) (r + m) (c + 1) ((spLa cb rb m ra rc).act s (.e1 k (stL s k))) = _
    rw [e2]
    refine (lon_even1 hm s r (k + 1) (c + 1) (by omega)).trans ?_
    rw [show c + 1 + (r + m) = c + (r + m + 1) by omega]
def oneS (m : Nat) (s : Sp) (o : OpV) : Sp × Ans × Nat :=
  if o.k = 1 then (spPut s (stAt m o.a) (IntKind.i64.wrap (s (stAt m o.a) + o.b)), (true, IntKind.i64.wrap (s (stAt m o.a) + o.b)), 1)
  else if o.k = 2 then (s, (true, sumZ (stL s m)), m)
  else if o.k = 3 then (tkS s m, (true, sumZ (stL s m)), m)
  else if o.k = 4 then (spPut (spPut s (stAt m o.a) (IntKind.i64.wrap (s (stAt m o.a) + IntKind.i64.wrap (-o.c)))) (stAt m o.b) (IntKind.i64.wrap ((spPut s (stAt m o.a) (IntKind.i64.wrap (s (stAt m o.a) + IntKind.i64.wrap (-o.c)))) (stAt m o.b) + o.c)), (true, 0), 2)
  else if o.k = 5 then (s, (true, sumZ (stL s m)), m + m)
  else (s, (false, 0), 0)
theorem oneS_is (hm : 0 < m) (s : Sp) (o : OpV) (c : Nat) : lonC (spLa cb rb m ra rc) (m + m + 2) c ((spLa cb rb m ra rc).enter s o) = some (c + (oneS m s o).2.2, (oneS m s o).1, (oneS m s o).2.1) := by
  obtain ⟨k, a, b, d⟩ := o
  show lonC (spLa cb rb m ra rc) (m + m + 2) c (spEnter m s ⟨k, a, b, d⟩) = _
  unfold spEnter oneS
  dsimp only
  by_cases h1 : k = 1
  · rw [if_pos h1, if_pos h1]
    have h : lonC (spLa cb rb m ra rc) 1 c (s, .inr (.a1 (stAt m a) b)) = some (c + 1, spPut s (stAt m a) (IntKind.i64.wrap (s (stAt m a) + b)), (true, IntKind.i64.wrap (s (stAt m a) + b))) := rfl
    have h := lonC_more h (m + m + 1)
    rw [show 1 + (m + m + 1) = m + m + 2 by omega] at h
    exact h
  rw [if_neg h1, if_neg h1]
  by_cases h2 : k = 2
  · rw [if_pos h2, if_pos h2]
    have h := lonC_more (lon_sum (m := m) (cb := cb) (rb := rb) (rc := rc) (ra := ra) s m 0 c (by omega)) (m + 2)
    have e : dU m 0 (stL s 0) = .inr (.u1 0 []) := if_neg (by omega)
    rw [e, show m + (m + 2) = m + m + 2 by omega] at h
    exact h
  rw [if_neg h2, if_neg h2]
  by_cases h3 : k = 3
  · rw [if_pos h3, if_pos h3]
    have h := lonC_more (lon_take (m := m) (cb := cb) (rb := rb) (rc := rc) (ra := ra) s m 0 c (by omega)) (m + 2)
    have e : dT m 0 (stL s 0) = .inr (.t1 0 []) := if_neg (by omega)
    rw [e, tkS_zero, show m + (m + 2) = m + m + 2 by omega] at h
    exact h
  rw [if_neg h3, if_neg h3]
  by_cases h4 : k = 4
  · rw [if_pos h4, if_pos h4]
    have h : lonC (spLa cb rb m ra rc) 2 c (s, .inr (.m1 (stAt m a) (stAt m b) d)) = some (c + 2, spPut (spPut s (stAt m a) (IntKind.i64.wrap (s (stAt m a) + IntKind.i64.wrap (-d)))) (stAt m b) (IntKind.i64.wrap ((spPut s (stAt m a) (IntKind.i64.wrap (s (stAt m a) + IntKind.i64.wrap (-d)))) (stAt m b) + d)), (true, 0)) := rfl
    have h := lonC_more h (m + m)
    rw [show 2 + (m + m) = m + m + 2 by omega] at h
    exact h
  rw [if_neg h4, if_neg h4]
  by_cases h5 : k = 5
  · rw [if_pos h5, if_pos h5]
    have h := lonC_more (lon_even1 (m := m) (cb := cb) (rb := rb) (rc := rc) (ra := ra) hm s m 0 c (by omega)) 2
    have e : dE m 0 (stL s 0) = .inr (.e1 0 []) := if_neg (by omega)
    rw [e] at h
    exact h
  rw [if_neg h5, if_neg h5]
  exact lonC_inl _ _ _ _ _
def prS (m : Nat) (l : List OpV) (i : Nat) : Sp × Nat := (l.take i).foldl (fun p o => ((oneS m p.1 o).1, p.2 + (oneS m p.1 o).2.2)) (sp0, 0)
theorem prS_zero (l : List OpV) : prS m l 0 = (sp0, 0) := rfl
theorem prS_succ (l : List OpV) (i : Nat) (o : OpV) (ho : l[i]? = some o) : prS m l (i + 1) = ((oneS m (prS m l i).1 o).1, (prS m l i).2 + (oneS m (prS m l i).1 o).2.2) := by
  obtain ⟨hi, e⟩ := List.getElem?_eq_some_iff.1 ho
  unfold prS
  rw [List.take_succ_eq_append_getElem hi, List.foldl_append, e]
  rfl
def anS (m : Nat) (l : List OpV) (i : Nat) : Ans := match l[i]? with
  | some o => (oneS m (prS m l i).1 o).2.1
  | none => (false, 0)
def azS (m : Nat) (l : List OpV) (i : Nat) : List Ans := (List.range i).map (anS m l)
theorem azS_succ (l : List OpV) (i : Nat) : azS m l (i + 1) = azS m l i ++ [anS m l i] := by simp [azS, List.range_succ]
theorem whole_S (hm : 0 < m) (l : List OpV) : ∀ (r i : Nat), i + r = l.length → Whole (spLa cb rb m ra rc) (m + m + 2) (prS m l i).2 (prS m l i).1 (l.drop i) (azS m l i) (prS m l l.length).2 (prS m l l.length).1 (azS m l l.length)
  | 0, i, h => by
    have h : i = l.length := h
    rw [h, List.drop_length]
    exact .nil _ _ _
  | r + 1, i, h => by
    have hi : i < l.length := by omega
    have ho : l[i]? = some l[i] := List.getElem?_eq_getElem hi
    rw [List.drop_eq_getElem_cons hi]
    have ha : anS m l i = (oneS m (prS m l i).1 l[i]).2.1 := by unfold anS; rw [ho]
    have h1 := oneS_is (cb := cb) (rb := rb) (rc := rc) (ra := ra) hm (prS m l i).1 l[i] (prS m l i).2
    have hp := prS_succ (m := m) l i _ ho
    have hw := whole_S hm l r (i + 1) (by omega)
    rw [azS_succ, ha] at hw
    rw [hp] at hw
    exact .cons h1 hw
theorem alone_S (hm : 0 < m) (ops : Nat → List OpV) (most : Int) (hs : stuckO 1 (playO (spLa cb rb m ra rc) sp0 ops 1 most []).1 = false) :
    (playO (spLa cb rb m ra rc) sp0 ops 1 most []).1.s = (prS m (ops 0) (ops 0).length).1 ∧ ((playO (spLa cb rb m ra rc) sp0 ops 1 most []).1.th 0).ans = azS m (ops 0) (ops 0).length ∧ (playO (spLa cb rb m ra rc) sp0 ops 1 most []).2.length = (prS m (ops 0) (ops 0).length).2 :=
  play_alone most (whole_S hm (ops 0) (ops 0).length 0 (by omega)) hs
end
end
end Go.Proofs.Ytnnakajldnaldaa
