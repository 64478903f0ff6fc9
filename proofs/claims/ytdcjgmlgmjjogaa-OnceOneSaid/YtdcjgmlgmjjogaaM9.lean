/- Part 9. -/
import Derived.Test.YtdcjgmlgmjjogaaM5
import Derived.Test.YtdcjgmlgmjjogaaM6
import Derived.Test.YtdcjgmlgmjjogaaM7
import Derived.Test.YtdcjgmlgmjjogaaM8
set_option linter.unusedSimpArgs false
set_option linter.unusedVariables false
set_option maxHeartbeats 8000000
set_option maxRecDepth 100000
namespace Go.Proofs.Ytdcjgmlgmjjogaa
open Go.Conc Go.RowKit Go.Relay
open Go.ConcN (upd upd_ne upd_same)
section
def winB (c : Nat) (o : OpV) (a : Ans) : Bool := decide (o.k = 2) && decide (o.a = c) && a.1
section
variable {main : Bool}
theorem one_round (tb toff nT tc T1 m c : Nat) (S V C : Int) (W : Nat) (bv : Value) (nA k ab ao nR rc i ob oo ln oc : Nat) (o : OpV) (a : Ans) (hk : k < nT) (hn : nT ≤ 64) (hi : i < nR) (hR : nR ≤ 65536) (hil : i < ln) (u : Nat → Value) (cs : List Frame) (w : World)
    (ht : w.cell? ⟨tb, toff + k, none⟩ = some (.slice (some ⟨ob, oo, none⟩) ln oc))
    (o0 : w.cell? ⟨ob, oo + i * 4, none⟩ = some (.int .i64 o.k)) (o1 : w.cell? ⟨ob, oo + i * 4 + 1, none⟩ = some (.int .i64 o.a)) (o2 : w.cell? ⟨ob, oo + i * 4 + 2, none⟩ = some (.int .i64 o.b)) (o3 : w.cell? ⟨ob, oo + i * 4 + 3, none⟩ = some (.int .i64 o.c))
    (a0 : w.cell? ⟨ab, ao + i * 3, none⟩ = some (.bool a.1)) (a1 : w.cell? ⟨ab, ao + i * 3 + 1, none⟩ = some (.int .i64 a.2)) (a2 : w.cell? ⟨ab, ao + i * 3 + 2, none⟩ = some (.slice none 0 0))
    (hkd : o.k = 1 ∨ o.k = 2 ∨ o.k = 3 ∨ o.k = 4) (hA : o.a = c → (a.1 = true ∨ (o.k = 2 ∧ a.2 ≠ 0) → S = 2 ∧ a.2 = V) ∧ (o.k = 4 → a.1 = false → a.2 = -6 ∨ a.2 = -4) ∧ (o.k = 3 → a.1 = false → a.2 = -4)) (hW : winB c o a = true → W = 0) :
    Walk Try.prog main (DR (fun _ => none)) (fun g w' => (∃ u, g = G (hdOi (.slice (some ⟨tb, toff, none⟩) nT tc) T1 m c S V C (if winB c o a then 1 else W) bv nA k (.slice (some ⟨ab, ao, none⟩) nR rc) nR (i + 1) u) cs) ∧ (∀ b, b < w.heap.size → w'.heap[b]? = w.heap[b]?) ∧ w.heap.size ≤ w'.heap.size)
      (G (hdOi (.slice (some ⟨tb, toff, none⟩) nT tc) T1 m c S V C W bv nA k (.slice (some ⟨ab, ao, none⟩) nR rc) nR i u) cs) w := by
  refine (one_lay tb toff nT tc T1 m c S V C W bv nA k ab ao nR rc i ob oo ln oc o a hk hn hi hR hil u cs w ht o0 o1 o2 o3 a0 a1 a2).then ?_
  rintro _ w1 ⟨⟨u1, rfl⟩, hO, hs, dA, dB⟩
  obtain ⟨kd, ox, ob', oc'⟩ := o
  obtain ⟨b1, av⟩ := a
  dsimp only at *
  clear o0 o1 o2 o3 a0 a1 a2 ht
  have fin : ∀ {W' : Nat} {w' : World} {g : Goroutine}, (if winB c ⟨kd, ox, ob', oc'⟩ (b1, av) then 1 else W) = W' → (∃ u, g = G (hdOi (.slice (some ⟨tb, toff, none⟩) nT tc) T1 m c S V C W' bv nA k (.slice (some ⟨ab, ao, none⟩) nR rc) nR (i + 1) u) cs) → (∃ d, w' = w1.at d) →
      (∃ u, g = G (hdOi (.slice (some ⟨tb, toff, none⟩) nT tc) T1 m c S V C (if winB c ⟨kd, ox, ob', oc'⟩ (b1, av) then 1 else W) bv nA k (.slice (some ⟨ab, ao, none⟩) nR rc) nR (i + 1) u) cs) ∧ (∀ b, b < w.heap.size → w'.heap[b]? = w.heap[b]?) ∧ w.heap.size ≤ w'.heap.size := by
    rintro W' w' g rfl hu ⟨d, rfl⟩
    exact ⟨hu, hO, by show w.heap.size ≤ w1.heap.size; omega⟩
  by_cases hc : ox = c
  · obtain ⟨h1, h2, h3⟩ := hA hc
    rcases hkd with rfl | rfl | rfl | rfl
    · cases b1 with
      | true =>
        obtain ⟨e1, e2⟩ := h1 (.inl rfl)
        subst e2
        refine (one_t1 (.slice (some ⟨tb, toff, none⟩) nT tc) T1 m c S av C W bv nA k (.slice (some ⟨ab, ao, none⟩) nR rc) nR i w.heap.size (w.heap.size + 1) ox ob' oc' u1 cs w1 hR hi hc e1 dA dB).mono fun g w' ⟨hu, hd⟩ => fin (by simp [winB, hc]) hu hd
      | false =>
        refine (one_f1 (.slice (some ⟨tb, toff, none⟩) nT tc) T1 m c S V C W bv nA k (.slice (some ⟨ab, ao, none⟩) nR rc) nR i w.heap.size (w.heap.size + 1) ox ob' oc' u1 cs w1 hR hi hc av dA dB).mono fun g w' ⟨hu, hd⟩ => fin (by simp [winB, hc]) hu hd
    · cases b1 with
      | true =>
        obtain ⟨e1, e2⟩ := h1 (.inl rfl)
        subst e2
        refine (one_t2 (.slice (some ⟨tb, toff, none⟩) nT tc) T1 m c S av C W bv nA k (.slice (some ⟨ab, ao, none⟩) nR rc) nR i w.heap.size (w.heap.size + 1) ox ob' oc' u1 cs w1 hR hi hc e1 (hW (by simp [winB, hc])) dA dB).mono fun g w' ⟨hu, hd⟩ => fin (by simp [winB, hc]) hu hd
      | false =>
        by_cases ev : av = 0
        · subst ev
          refine (one_f2 (.slice (some ⟨tb, toff, none⟩) nT tc) T1 m c S V C W bv nA k (.slice (some ⟨ab, ao, none⟩) nR rc) nR i w.heap.size (w.heap.size + 1) ox ob' oc' u1 cs w1 hR hi hc dA dB).mono fun g w' ⟨hu, hd⟩ => fin (by simp [winB, hc]) hu hd
        · obtain ⟨e1, e2⟩ := h1 (.inr ⟨rfl, ev⟩)
          subst e2
          refine (one_f2n (.slice (some ⟨tb, toff, none⟩) nT tc) T1 m c S av C W bv nA k (.slice (some ⟨ab, ao, none⟩) nR rc) nR i w.heap.size (w.heap.size + 1) ox ob' oc' u1 cs w1 hR hi hc e1 ev dA dB).mono fun g w' ⟨hu, hd⟩ => fin (by simp [winB, hc]) hu hd
    · cases b1 with
      | true =>
        obtain ⟨e1, e2⟩ := h1 (.inl rfl)
        subst e2
        refine (one_t3 (.slice (some ⟨tb, toff, none⟩) nT tc) T1 m c S av C W bv nA k (.slice (some ⟨ab, ao, none⟩) nR rc) nR i w.heap.size (w.heap.size + 1) ox ob' oc' u1 cs w1 hR hi hc e1 dA dB).mono fun g w' ⟨hu, hd⟩ => fin (by simp [winB, hc]) hu hd
      | false =>
        obtain rfl := h3 rfl rfl
        refine (one_f3 (.slice (some ⟨tb, toff, none⟩) nT tc) T1 m c S V C W bv nA k (.slice (some ⟨ab, ao, none⟩) nR rc) nR i w.heap.size (w.heap.size + 1) ox ob' oc' u1 cs w1 hR hi hc dA dB).mono fun g w' ⟨hu, hd⟩ => fin (by simp [winB, hc]) hu hd
    · cases b1 with
      | true =>
        obtain ⟨e1, e2⟩ := h1 (.inl rfl)
        subst e2
        refine (one_t4 (.slice (some ⟨tb, toff, none⟩) nT tc) T1 m c S av C W bv nA k (.slice (some ⟨ab, ao, none⟩) nR rc) nR i w.heap.size (w.heap.size + 1) ox ob' oc' u1 cs w1 hR hi hc e1 dA dB).mono fun g w' ⟨hu, hd⟩ => fin (by simp [winB, hc]) hu hd
      | false =>
        rcases h2 rfl rfl with rfl | rfl
        · refine (one_f4 (.slice (some ⟨tb, toff, none⟩) nT tc) T1 m c S V C W bv nA k (.slice (some ⟨ab, ao, none⟩) nR rc) nR i w.heap.size (w.heap.size + 1) ox ob' oc' u1 cs w1 hR hi hc dA dB).mono fun g w' ⟨hu, hd⟩ => fin (by simp [winB, hc]) hu hd
        · refine (one_f4b (.slice (some ⟨tb, toff, none⟩) nT tc) T1 m c S V C W bv nA k (.slice (some ⟨ab, ao, none⟩) nR rc) nR i w.heap.size (w.heap.size + 1) ox ob' oc' u1 cs w1 hR hi hc dA dB).mono fun g w' ⟨hu, hd⟩ => fin (by simp [winB, hc]) hu hd
  · refine (one_far (.slice (some ⟨tb, toff, none⟩) nT tc) T1 m c S V C W bv nA k (.slice (some ⟨ab, ao, none⟩) nR rc) nR i w.heap.size (w.heap.size + 1) ox ob' oc' u1 cs w1 hR hi kd av b1 hc (by omega) (by omega) dA dB).mono fun g w' ⟨hu, hd⟩ => fin (by simp [winB, hc]) hu hd
structure OnM (tb toff nT : Nat) (oa : Nat → Option Addr) (ln oc : Nat → Nat) (ops : Nat → List OpV) (aa : Option Addr) (F : Nat → List Ans) (w : World) : Prop where
  I : OpsIn tb toff nT oa ln oc ops w
  A : ∀ i, i < nT → ∃ b o ta tc, aa = some ⟨b, o, none⟩ ∧ w.cell? ⟨b, o + i, none⟩ = some (.slice ta (F i).length tc) ∧ AnsA ta (F i) w
theorem OnM.old {tb toff nT : Nat} {oa : Nat → Option Addr} {ln oc : Nat → Nat} {ops : Nat → List OpV} {aa : Option Addr} {F : Nat → List Ans} {w w' : World} (h : OnM tb toff nT oa ln oc ops aa F w) (ho : ∀ b, b < w.heap.size → w'.heap[b]? = w.heap[b]?) (hs : w.heap.size ≤ w'.heap.size) : OnM tb toff nT oa ln oc ops aa F w' := by
  have hC : Chg (fun _ => False) w w' := ⟨hs, fun b hb _ => ho b hb⟩
  refine ⟨h.I.old ho, fun i hi => ?_⟩
  obtain ⟨b, o, ta, tc, e, k1, k2⟩ := h.A i hi
  exact ⟨b, o, ta, tc, e, (World.cell?_of_block (a := ⟨b, o + i, none⟩) (ho b (cell_lt' k1))).trans k1, k2.chg hC⟩
def Won (ops : Nat → List OpV) (F : Nat → List Ans) (c k i : Nat) : Prop := ∃ o a, (ops k)[i]? = some o ∧ (F k)[i]? = some a ∧ winB c o a = true
structure OnF (ops : Nat → List OpV) (n : Nat) (F : Nat → List Ans) (s : Oz) : Prop where
  len : ∀ k, k < n → (F k).length ≤ (ops k).length ∧ (ops k).length ≤ 65536
  kind : ∀ k, k < n → ∀ (i : Nat) (o : OpV), (ops k)[i]? = some o → (o.k = 1 ∨ o.k = 2 ∨ o.k = 3 ∨ o.k = 4)
  ans : ∀ k, k < n → ∀ (i : Nat) (o : OpV) (a : Ans), (ops k)[i]? = some o → (F k)[i]? = some a → ansZ s o a
  win : ∀ c k k' i i', k < n → k' < n → Won ops F c k i → Won ops F c k' i' → k = k' ∧ i = i'
def WP (ops : Nat → List OpV) (n : Nat) (F : Nat → List Ans) (s : Oz) (c k i W : Nat) : Prop :=
  (W = 0 ∧ ∀ k' i', k' < k ∨ (k' = k ∧ i' < i) → ¬ Won ops F c k' i') ∨ (W = 1 ∧ s.st c = 2 ∧ ∃ k' i', k' < n ∧ (k' < k ∨ (k' = k ∧ i' < i)) ∧ Won ops F c k' i')
theorem WP.next {ops : Nat → List OpV} {n : Nat} {F : Nat → List Ans} {s : Oz} {c k i W : Nat} (h : WP ops n F s c k i W) (X : OnF ops n F s) (hk : k < n) {o : OpV} {a : Ans} (ho : (ops k)[i]? = some o) (ha : (F k)[i]? = some a) :
    (winB c o a = true → W = 0) ∧ WP ops n F s c k (i + 1) (if winB c o a then 1 else W) := by
  by_cases hw : winB c o a = true
  · have hW : Won ops F c k i := ⟨o, a, ho, ha, hw⟩
    have h2 : s.st c = 2 := by
      simp only [winB, Bool.and_eq_true, decide_eq_true_eq] at hw
      have := ((X.ans k hk i o a ho ha).1 (.inl hw.2)).1
      have e : o.a.toNat = c := by omega
      rwa [e] at this
    rw [if_pos hw]
    rcases h with ⟨h0, h1⟩ | ⟨h0, _, k', i', hk', hb, hW'⟩
    · exact ⟨fun _ => h0, .inr ⟨rfl, h2, k, i, hk, .inr ⟨rfl, by omega⟩, hW⟩⟩
    · obtain ⟨e1, e2⟩ := X.win c k' k i' i hk' hk hW' hW
      omega
  · rw [if_neg hw]
    refine ⟨fun h => absurd h hw, ?_⟩
    rcases h with ⟨h0, h1⟩ | ⟨h0, h2, k', i', hk', hb, hW'⟩
    · refine .inl ⟨h0, fun k' i' hb hW' => ?_⟩
      by_cases e : k' = k ∧ i' = i
      · obtain ⟨rfl, rfl⟩ := e
        obtain ⟨o', a', e1, e2, e3⟩ := hW'
        rw [ho] at e1
        rw [ha] at e2
        cases e1
        cases e2
        exact hw e3
      · exact h1 k' i' (by omega) hW'
    · exact .inr ⟨h0, h2, k', i', hk', by omega, hW'⟩
theorem WP.line {ops : Nat → List OpV} {n : Nat} {F : Nat → List Ans} {s : Oz} {c k W : Nat} (h : WP ops n F s c k (F k).length W) : WP ops n F s c (k + 1) 0 W := by
  rcases h with ⟨h0, h1⟩ | ⟨h0, h2, k', i', hk', hb, hW'⟩
  · refine .inl ⟨h0, fun k' i' hb hW' => h1 k' i' ?_ hW'⟩
    obtain ⟨o, a, e1, e2, e3⟩ := hW'
    have hl := (List.getElem?_eq_some_iff.1 e2).1
    by_cases e : k' = k
    · subst e; exact .inr ⟨rfl, hl⟩
    · omega
  · exact .inr ⟨h0, h2, k', i', hk', by omega, hW'⟩
theorem one_answers {tb toff nT : Nat} {oa : Nat → Option Addr} {ln oc : Nat → Nat} {ops : Nat → List OpV} {aa : Option Addr} {F : Nat → List Ans} {s : Oz} (X : OnF ops nT F s) (hn : nT ≤ 64) (tc T1 m c : Nat) (bv : Value) (nA k rc : Nat) (ra : Option Addr) (hk : k < nT) (cs : List Frame) :
    ∀ (r i W : Nat) (u : Nat → Value) (w : World), i + r = (F k).length → OnM tb toff nT oa ln oc ops aa F w → AnsA ra (F k) w → WP ops nT F s c k i W →
    Walk Try.prog main (DR (fun _ => none)) (fun g w' => (∃ u W', WP ops nT F s c (k + 1) 0 W' ∧ g = G (hdOi (.slice (some ⟨tb, toff, none⟩) nT tc) T1 m c (s.st c) (s.vl c) (s.ct c) W' bv nA k (.slice ra (F k).length rc) (F k).length (F k).length u) cs) ∧ (∀ b, b < w.heap.size → w'.heap[b]? = w.heap[b]?) ∧ w.heap.size ≤ w'.heap.size)
      (G (hdOi (.slice (some ⟨tb, toff, none⟩) nT tc) T1 m c (s.st c) (s.vl c) (s.ct c) W bv nA k (.slice ra (F k).length rc) (F k).length i u) cs) w := by
  intro r
  induction r with
  | zero =>
    intro i W u w hi hM hA hW
    obtain rfl : i = (F k).length := by omega
    exact .stop fun d => ⟨⟨u, W, hW.line, rfl⟩, fun b hb => rfl, Nat.le_refl _⟩
  | succ r ih =>
    intro i W u w hi hM hA hW
    have hil : i < (F k).length := by omega
    obtain ⟨hl1, hl2⟩ := X.len k hk
    obtain ⟨o, ho⟩ : ∃ o, (ops k)[i]? = some o := ⟨_, List.getElem?_eq_getElem (by omega)⟩
    obtain ⟨a, ha⟩ : ∃ a, (F k)[i]? = some a := ⟨_, List.getElem?_eq_getElem hil⟩
    obtain ⟨ab, ao, rfl, a0, a1, a2⟩ := hA i a ha
    obtain ⟨ob, oo, eo, o0, o1, o2, o3⟩ := hM.I.ops k hk i o ho
    have ht := hM.I.hd k hk
    rw [eo] at ht
    have hln := hM.I.len k hk
    obtain ⟨hw0, hW'⟩ := hW.next X hk ho ha
    have hz := X.ans k hk i o a ho ha
    refine (one_round tb toff nT tc T1 m c (s.st c) (s.vl c) (s.ct c) W bv nA k ab ao (F k).length rc i ob oo (ln k) (oc k) o a hk hn hil (by omega) (by omega) u cs w ht o0 o1 o2 o3 a0 a1 a2 (X.kind k hk i o ho) (fun e => ?_) hw0).then ?_
    · have e' : o.a.toNat = c := by omega
      unfold ansZ at hz
      rw [e'] at hz
      exact hz
    rintro _ w1 ⟨⟨u1, rfl⟩, hO, hs⟩
    have hC : Chg (fun _ => False) w w1 := ⟨hs, fun b hb _ => hO b hb⟩
    refine (ih (i + 1) _ u1 w1 (by omega) (hM.old hO hs) (AnsA.chg hA hC) hW').mono ?_
    rintro g w2 ⟨hu, h1, h2⟩
    exact ⟨hu, fun b hb => (h1 b (by omega)).trans (hO b hb), by omega⟩
end
end
end Go.Proofs.Ytdcjgmlgmjjogaa
