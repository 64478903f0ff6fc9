/- Part 1. -/
import Derived.Test.YtnnakajldnaldaaJ1
import Derived.Test.YtnnakajldnaldaaJ2
import Derived.Test.YtnnakajldnaldaaJ3
import Derived.Test.YtnnakajldnaldaaJ4
import Derived.Test.YtnnakajldnaldaaJ5
import Derived.Test.YtnnakajldnaldaaJ6
import Derived.Test.YtnnakajldnaldaaJ8
import Derived.Test.YtnnakajldnaldaaJ10
import Derived.Test.YtnnakajldnaldaaJ11
import Derived.Test.YtnnakajldnaldaaJ12
import Derived.Test.YtnnakajldnaldaaJ13
import Derived.Test.YtnnakajldnaldaaJ14
import Derived.Test.YtnnakajldnaldaaJ15
import Derived.Test.YtnnakajldnaldaaJ16
import Derived.Test.YtnnakajldnaldaaJ17
import Derived.Test.YtnnakajldnaldaaJ21
import Derived.Test.YtnnakajldnaldaaJ22
import Derived.Test.YtnnakajldnaldaaJ27
import Derived.Test.YtnnakajldnaldaaJ28
import Derived.Test.YtnnakajldnaldaaJ29
import Derived.Test.YtnnakajldnaldaaJ30
import Derived.Conc.CompanyMem
import Derived.Conc.TokenWords
set_option linter.unusedSimpArgs false
set_option linter.unusedVariables false
set_option maxHeartbeats 8000000
set_option maxRecDepth 100000
namespace Go.Relay
section
open Go.Conc Go.RowKit
open Go.ConcN (upd)
section
variable {P : Program} {main : Bool} {V : Nat → Option Wait} {Stop Stop' : Goroutine → World → Prop} {g : Goroutine} {w w' : World} {es : Array Event}
variable {b : Frame} {a : Act} {k : List Item} {cs : List Frame} {ops : Array Oper} {i : Nat} {rest : List Nat} {o : Oper}
theorem Walk.ret0 {fn : Func} {todo : List Item} {c : Frame} {Post : Value → World → Prop} (hn : b.kind = .normal) (hd : a.defers = []) (hf : P.funcs[b.fn]? = some fn) (hr : fn.results = #[]) (h : ∀ d, Post (.tuple #[]) (w.at d)) :
    Walk P main (DR V) (fun g w' => ∃ v, Post v w' ∧ g = G (c.finish v) cs) (G { b.at a todo with mode := .returning } (c :: cs)) w :=
  Walk.ctl rfl (fun w => stepG_leave hn hd hf (results_none hr _ P w) (events_results_none hr _ _)) (.stop fun d => ⟨_, h d, rfl⟩)
end
end
end Go.Relay
namespace Go.Proofs.Ytnnakajldnaldaa
open Go.Conc Go.RowKit Go.Relay
open Go.ConcN (upd upd_ne upd_same)
def lonC (L : La) : Nat → Nat → L.Sg × (Ans ⊕ L.D) → Option (Nat × L.Sg × Ans)
  | _, c, (s, .inl a) => some (c, s, a)
  | 0, _, (_, .inr _) => none
  | n + 1, c, (s, .inr d) => lonC L n (c + 1) (L.act s d)
theorem lonC_inl (L : La) (n c : Nat) (s : L.Sg) (a : Ans) : lonC L n c (s, .inl a) = some (c, s, a) := by cases n <;> rfl
theorem size42_0 : reg42_0.size = 1 := by kernel_rfl
theorem size42_1 : reg42_1.size = 2 := by kernel_rfl
theorem size42_2 : reg42_2.size = 1 := by kernel_rfl
theorem size42_3 : reg42_3.size = 2 := by kernel_rfl
theorem size42_4 : reg42_4.size = 6 := by kernel_rfl
theorem size17_0 : reg17_0.size = 1 := by kernel_rfl
theorem size17_1 : reg17_1.size = 2 := by kernel_rfl
theorem size17_2 : reg17_2.size = 1 := by kernel_rfl
theorem size17_3 : reg17_3.size = 7 := by kernel_rfl
theorem size41_0 : reg41_0.size = 1 := by kernel_rfl
theorem size41_1 : reg41_1.size = 3 := by kernel_rfl
theorem size41_2 : reg41_2.size = 2 := by kernel_rfl
theorem size41_3 : reg41_3.size = 1 := by kernel_rfl
theorem size41_4 : reg41_4.size = 4 := by kernel_rfl
theorem size41_5 : reg41_5.size = 2 := by kernel_rfl
theorem size41_6 : reg41_6.size = 4 := by kernel_rfl
theorem size41_7 : reg41_7.size = 4 := by kernel_rfl
theorem size43_0 : reg43_0.size = 1 := by kernel_rfl
theorem size43_1 : reg43_1.size = 4 := by kernel_rfl
theorem size43_2 : reg43_2.size = 3 := by kernel_rfl
theorem size43_3 : reg43_3.size = 1 := by kernel_rfl
theorem size43_4 : reg43_4.size = 2 := by kernel_rfl
theorem size43_5 : reg43_5.size = 9 := by kernel_rfl
theorem size43_6 : reg43_6.size = 2 := by kernel_rfl
theorem size43_7 : reg43_7.size = 2 := by kernel_rfl
theorem size36_0 : reg36_0.size = 2 := by kernel_rfl
theorem size36_1 : reg36_1.size = 4 := by kernel_rfl
theorem size27_0 : reg27_0.size = 1 := by kernel_rfl
theorem size27_1 : reg27_1.size = 5 := by kernel_rfl
theorem size28_0 : reg28_0.size = 2 := by kernel_rfl
theorem size28_1 : reg28_1.size = 5 := by kernel_rfl
theorem size26_0 : reg26_0.size = 1 := by kernel_rfl
theorem size26_1 : reg26_1.size = 7 := by kernel_rfl
theorem size35_0 : reg35_0.size = 6 := by kernel_rfl
theorem size35_1 : reg35_1.size = 5 := by kernel_rfl
theorem size25_0 : reg25_0.size = 2 := by kernel_rfl
theorem size25_1 : reg25_1.size = 2 := by kernel_rfl
theorem size25_2 : reg25_2.size = 2 := by kernel_rfl
theorem size25_3 : reg25_3.size = 4 := by kernel_rfl
theorem size25_4 : reg25_4.size = 3 := by kernel_rfl
theorem size25_5 : reg25_5.size = 1 := by kernel_rfl
theorem size25_6 : reg25_6.size = 5 := by kernel_rfl
theorem size25_7 : reg25_7.size = 7 := by kernel_rfl
theorem size25_8 : reg25_8.size = 2 := by kernel_rfl
theorem size25_9 : reg25_9.size = 2 := by kernel_rfl
theorem size25_10 : reg25_10.size = 4 := by kernel_rfl
theorem size21_0 : reg21_0.size = 1 := by kernel_rfl
theorem size21_1 : reg21_1.size = 3 := by kernel_rfl
section
section
variable {cb rb m rc : Nat} {ra : Option Addr}
theorem size22_0 : reg22_0.size = 1 := by kernel_rfl
theorem size22_1 : reg22_1.size = 3 := by kernel_rfl
variable {main : Bool} {V : Nat → Option Wait}
end
end
section
theorem lonC_runN {L : La} : ∀ {N c c1 : Nat} {p : L.Sg × (Ans ⊕ L.D)} {s1 : L.Sg} {a : Ans}, lonC L N c p = some (c1, s1, a) → runN L N p = some (s1, a) := by
  intro N
  induction N with
  | zero =>
    rintro c c1 ⟨s, r⟩ s1 a h
    cases r with
    | inl x => simp [lonC] at h; simp [runN, h]
    | inr d => simp [lonC] at h
  | succ N ih =>
    rintro c c1 ⟨s, r⟩ s1 a h
    cases r with
    | inl x => simp [lonC] at h; simp [runN, h]
    | inr d => exact ih (c := c + 1) h
theorem lonC_more {L : La} : ∀ {N c : Nat} {p : L.Sg × (Ans ⊕ L.D)} {R : Nat × L.Sg × Ans}, lonC L N c p = some R → ∀ k, lonC L (N + k) c p = some R := by
  intro N
  induction N with
  | zero =>
    rintro c ⟨s, r⟩ R h k
    cases r with
    | inl x => rw [lonC_inl] at h ⊢; exact h
    | inr d => cases h
  | succ N ih =>
    rintro c ⟨s, r⟩ R h k
    cases r with
    | inl x => rw [lonC_inl] at h ⊢; exact h
    | inr d =>
      have e : N + 1 + k = (N + k) + 1 := by omega
      rw [e]
      exact ih (c := c + 1) h k
section
variable {cb rb m rc : Nat} {ra : Option Addr}
theorem lon_sum (s : Sp) : ∀ (r k c : Nat), k + r = m → lonC (spLa cb rb m ra rc) r c (s, dU m k (stL s k)) = some (c + r, s, (true, sumZ (stL s m)))
  | 0, k, c, h => by
    have h : k = m := h
    subst h
    have e : dU k k (stL s k) = .inl (true, sumZ (stL s k)) := if_pos rfl
    rw [e]
    exact lonC_inl _ _ _ _ _
  | r + 1, k, c, h => by
    have e : dU m k (stL s k) = .inr (.u1 k (stL s k)) := if_neg (by omega)
    rw [e]
    have e2 : (spLa cb rb m ra rc).act s (.u1 k (stL s k)) = (s, dU m (k + 1) (stL s (k + 1))) := by rw [stL_succ]; rfl
    show lonC (spLa cb rb m ra rc) r (c + 1) ((spLa cb rb m ra rc).act s (.u1 k (stL s k))) = _
    rw [e2]
    refine (lon_sum s r (k + 1) (c + 1) (by omega)).trans ?_
    rw [show c + 1 + r = c + (r + 1) by omega]
theorem lon_take (s : Sp) : ∀ (r k c : Nat), k + r = m → lonC (spLa cb rb m ra rc) r c (tkS s k, dT m k (stL s k)) = some (c + r, tkS s m, (true, sumZ (stL s m)))
  | 0, k, c, h => by
    have h : k = m := h
    subst h
    have e : dT k k (stL s k) = .inl (true, sumZ (stL s k)) := if_pos rfl
    rw [e]
    exact lonC_inl _ _ _ _ _
  | r + 1, k, c, h => by
    have e : dT m k (stL s k) = .inr (.t1 k (stL s k)) := if_neg (by omega)
    rw [e]
    have e2 : (spLa cb rb m ra rc).act (tkS s k) (.t1 k (stL s k)) = (tkS s (k + 1), dT m (k + 1) (stL s (k + 1))) := by
      have e3 : tkS s k k = s k := if_neg (Nat.lt_irrefl k)
      show (spPut (tkS s k) k 0, if k + 1 = m then Sum.inl (true, sumZ (stL s k ++ [tkS s k k])) else Sum.inr (SD.t1 (k + 1) (stL s k ++ [tkS s k k]))) = _
      rw [tkS_succ, e3, ← stL_succ]
      rfl
    show lonC (spLa cb rb m ra rc) r (c + 1) ((spLa cb rb m ra rc).act (tkS s k) (.t1 k (stL s k))) = _
    rw [e2]
    refine (lon_take s r (k + 1) (c + 1) (by omega)).trans ?_
    rw [show c + 1 + r = c + (r + 1) by omega]
theorem lon_even2 (s : Sp) : ∀ (r k c : Nat), k + r = m → lonC (spLa cb rb m ra rc) r c (s, dF m k (stL s m)) = some (c + r, s, (true, sumZ (stL s m)))
  | 0, k, c, h => by
    have h : k = m := h
    subst h
    have e : dF k k (stL s k) = .inl (true, sumZ (stL s k)) := if_pos rfl
    rw [e]
    exact lonC_inl _ _ _ _ _
  | r + 1, k, c, h => by
    have e : dF m k (stL s m) = .inr (.e2 k (stL s m)) := if_neg (by omega)
    rw [e]
    have e2 : (spLa cb rb m ra rc).act s (.e2 k (stL s m)) = (s, dF m (k + 1) (stL s m)) := by
      show spAct m s (.e2 k (stL s m)) = _
      simp only [spAct, stL_get s m k (by omega), ne_eq, not_true_eq_false, if_false]
      rfl
    show lonC (spLa cb rb m ra rc) r (c + 1) ((spLa cb rb m ra rc).act s (.e2 k (stL s m))) = _
    rw [e2]
    refine (lon_even2 s r (k + 1) (c + 1) (by omega)).trans ?_
    rw [show c + 1 + r = c + (r + 1) by omega]
theorem lon_even1 (hm : 0 < m) (s : Sp) : ∀ (r k c : Nat), k + r = m → lonC (spLa cb rb m ra rc) (r + m) c (s, dE m k (stL s k)) = some (c + (r + m), s, (true, sumZ (stL s m)))
  | 0, k, c, h => by
    have h : k = m := h
    subst h
    have e : dE k k (stL s k) = dF k 0 (stL s k) := by
      unfold dE dF
      rw [if_pos rfl, if_neg (by omega)]
    rw [e, Nat.zero_add]
    exact lon_even2 s k 0 c (by omega)
  | r + 1, k, c, h => by
    have e : dE m k (stL s k) = .inr (.e1 k (stL s k)) := if_neg (by omega)
    rw [e]
    have e2 : (spLa cb rb m ra rc).act s (.e1 k (stL s k)) = (s, dE m (k + 1) (stL s (k + 1))) := by rw [stL_succ]; rfl
    rw [show r + 1 + m = (r + m) + 1 by omega]
    show lonC (spLa cb rb m ra rc) (r + m) (c + 1) ((spLa cb rb m ra rc).act s (.e1 k (stL s k))) = _
    rw [e2]
    refine (lon_even1 hm s r (k + 1) (c + 1) (by omega)).trans ?_
    rw [show c + 1 + (r + m) = c + (r + m + 1) by omega]
def oneS (m : Nat) (s : Sp) (o : OpV) : Sp × Ans × Nat :=
  if o.k = 1 then (spPut s (stAt m o.a) (IntKind.i64.wrap (s (stAt m o.a) + o.b)), (true, IntKind.i64.wrap (s (stAt m o.a) + o.b)), 1)
  else if o.k = 2 then (s, (true, sumZ (stL s m)), m)
  else if o.k = 3 then (tkS s m, (true, sumZ (stL s m)), m)
  else if o.k = 4 then (spPut (spPut s (stAt m o.a) (IntKind.i64.wrap (s (stAt m o.a) + IntKind.i64.wrap (-o.c)))) (stAt m o.b) (IntKind.i64.wrap ((spPut s (stAt m o.a) (IntKind.i64.wrap (s (stAt m o.a) + IntKind.i64.wrap (-o.c)))) (stAt m o.b) + o.c)), (true, 0), 2)
  else if o.k = 5 then (s, (true, sumZ (stL s m)), m + m)
  else (s, (false, 0), 0)
theorem oneS_is (hm : 0 < m) (s : Sp) (o : OpV) (c : Nat) : lonC (spLa cb rb m ra rc) (m + m + 2) c ((spLa cb rb m ra rc).enter s o) = some (c + (oneS m s o).2.2, (oneS m s o).1, (oneS m s o).2.1) := by
  obtain ⟨k, a, b, d⟩ := o
  show lonC (spLa cb rb m ra rc) (m + m + 2) c (spEnter m s ⟨k, a, b, d⟩) = _
  unfold spEnter oneS
  dsimp only
  by_cases h1 : k = 1
  · rw [if_pos h1, if_pos h1]
    have h : lonC (spLa cb rb m ra rc) 1 c (s, .inr (.a1 (stAt m a) b)) = some (c + 1, spPut s (stAt m a) (IntKind.i64.wrap (s (stAt m a) + b)), (true, IntKind.i64.wrap (s (stAt m a) + b))) := rfl
    have h := lonC_more h (m + m + 1)
    rw [show 1 + (m + m + 1) = m + m + 2 by omega] at h
    exact h
  rw [if_neg h1, if_neg h1]
  by_cases h2 : k = 2
  · rw [if_pos h2, if_pos h2]
    have h := lonC_more (lon_sum (m := m) (cb := cb) (rb := rb) (rc := rc) (ra := ra) s m 0 c (by omega)) (m + 2)
    have e : dU m 0 (stL s 0) = .inr (.u1 0 []) := if_neg (by omega)
    rw [e, show m + (m + 2) = m + m + 2 by omega] at h
    exact h
  rw [if_neg h2, if_neg h2]
  by_cases h3 : k = 3
  · rw [if_pos h3, if_pos h3]
    have h := lonC_more (lon_take (m := m) (cb := cb) (rb := rb) (rc := rc) (ra := ra) s m 0 c (by omega)) (m + 2)
    have e : dT m 0 (stL s 0) = .inr (.t1 0 []) := if_neg (by omega)
    rw [e, tkS_zero, show m + (m + 2) = m + m + 2 by omega] at h
    exact h
  rw [if_neg h3, if_neg h3]
  by_cases h4 : k = 4
  · rw [if_pos h4, if_pos h4]
    have h : lonC (spLa cb rb m ra rc) 2 c (s, .inr (.m1 (stAt m a) (stAt m b) d)) = some (c + 2, spPut (spPut s (stAt m a) (IntKind.i64.wrap (s (stAt m a) + IntKind.i64.wrap (-d)))) (stAt m b) (IntKind.i64.wrap ((spPut s (stAt m a) (IntKind.i64.wrap (s (stAt m a) + IntKind.i64.wrap (-d)))) (stAt m b) + d)), (true, 0)) := rfl
    have h := lonC_more h (m + m)
    rw [show 2 + (m + m) = m + m + 2 by omega] at h
    exact h
  rw [if_neg h4, if_neg h4]
  by_cases h5 : k = 5
  · rw [if_pos h5, if_pos h5]
    have h := lonC_more (lon_even1 (m := m) (cb := cb) (rb := rb) (rc := rc) (ra := ra) hm s m 0 c (by omega)) 2
    have e : dE m 0 (stL s 0) = .inr (.e1 0 []) := if_neg (by omega)
    rw [e] at h
    exact h
  rw [if_neg h5, if_neg h5]
  exact lonC_inl _ _ _ _ _
end
end
end Go.Proofs.Ytnnakajldnaldaa
