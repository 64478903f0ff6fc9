/- Part 3. -/
import Derived.Test.YtdcjgmlgmjjogaaM2
set_option linter.unusedSimpArgs false
set_option linter.unusedVariables false
set_option maxHeartbeats 8000000
set_option maxRecDepth 100000
namespace Go.Proofs.Ytdcjgmlgmjjogaa
open Go.Conc Go.RowKit Go.Relay
open Go.ConcN (upd upd_ne upd_same)
section
section
variable {cb m : Nat}
structure ThZ (s : Oz) (l : List OpV) (t : Tst (onLa cb m)) : Prop where
  tail : match t.d with
    | none => l.length = t.ans.length
    | some d => ∃ o, l.drop t.ans.length = o :: t.left ∧ atZ s o d
  ans : ∀ (i : Nat) (o : OpV) (a : Ans), l[i]? = some o → t.ans[i]? = some a → ansZ s o a
def WinZ (ops : Nat → List OpV) (th : Nat → Tst (onLa cb m)) (c k i : Nat) : Prop := ∃ o a, (ops k)[i]? = some o ∧ (th k).ans[i]? = some a ∧ o.k = 2 ∧ o.a = c ∧ a.1 = true
structure AllZ (ops : Nat → List OpV) (n : Nat) (x : OX (onLa cb m)) (len : Nat) : Prop where
  good : goodZ x.s len
  th : ∀ k, k < n → ThZ (cb := cb) (m := m) x.s (ops k) (x.th k)
  uni : ∀ k k' d d' c, k < n → k' < n → (x.th k).d = some d → (x.th k').d = some d' → holdsZ d = some c → holdsZ d' = some c → k = k'
  win : ∀ c k k' i i', k < n → k' < n → WinZ ops x.th c k i → WinZ ops x.th c k' i' → k = k' ∧ i = i'
def firstZ (cb m : Nat) (l : List OpV) (az : List Ans) : Tst (onLa cb m) := match l with
  | [] => ⟨[], none, az⟩
  | o :: l => ⟨l, some (entZ o), az⟩
theorem firstZ_ans (l : List OpV) (az : List Ans) : (firstZ cb m l az).ans = az := by cases l <;> rfl
theorem settle_fine {s : Oz} {l : List OpV} (h : ∀ o ∈ l, fineZ m o) (az : List Ans) : settleO (onLa cb m) s l az = (s, firstZ cb m l az) := by
  cases l with
  | nil => rfl
  | cons o l =>
    have := (ent_at (s := s) (h o (List.mem_cons_self ..))).1
    show landO (onLa cb m) ((onLa cb m).enter s o) l az = _
    have h2 : (onLa cb m).enter s o = (s, .inr (entZ o)) := this
    rw [h2]
    rfl
theorem th_keep {s s' : Oz} {l : List OpV} {t : Tst (onLa cb m)} {d : OD} (ht : touchZ s s' d) (h : ThZ (cb := cb) (m := m) s l t) (hu : ∀ c d', t.d = some d' → holdsZ d = some c → holdsZ d' = some c → False) : ThZ (cb := cb) (m := m) s' l t := by
  obtain ⟨h1, h2⟩ := h
  refine ⟨?_, fun i o a ho ha => ans_keep ht (h2 i o a ho ha)⟩
  cases e : t.d with
  | none => rw [e] at h1; exact h1
  | some d' =>
    rw [e] at h1
    obtain ⟨o, ho, hat⟩ := h1
    exact ⟨o, ho, at_keep ht hat fun c => hu c d' e⟩
theorem all_born {ops : Nat → List OpV} {x : OX (onLa cb m)} {k : Nat} (hf : ∀ o ∈ ops k, fineZ m o) (h : AllZ ops k x 0) : AllZ ops (k + 1) (bornO ops x k) 0 := by
  have e : bornO ops x k = putO x k (x.s, firstZ cb m (ops k) []) x.cnt := congrArg (fun r => putO x k r x.cnt) (settle_fine hf [])
  rw [e]
  have hs : ∀ j, j ≠ k → upd x.th k (firstZ cb m (ops k) []) j = x.th j := fun j hj => upd_ne _ _ hj
  have hk : upd x.th k (firstZ cb m (ops k) []) k = (firstZ cb m (ops k) []) := upd_same ..
  have hans : (firstZ cb m (ops k) []).ans = [] := firstZ_ans _ _
  have hd : ∀ d c, (firstZ cb m (ops k) []).d = some d → holdsZ d = some c → False := by
    intro d c h1 h2
    cases e : ops k with
    | nil => rw [e] at h1; cases h1
    | cons o l =>
      rw [e] at h1
      have h1 : entZ o = d := Option.some.inj h1
      have := (ent_at (s := x.s) (hf o (by rw [e]; exact List.mem_cons_self ..))).2.2
      rw [h1, h2] at this
      cases this
  refine ⟨h.good, fun j hj => ?_, fun j j' d d' c hj hj' h1 h2 h3 h4 => ?_, fun c j j' i i' hj hj' h1 h2 => ?_⟩
  · show ThZ x.s (ops j) (upd x.th k _ j)
    by_cases e : j = k
    · subst e
      rw [hk]
      refine ⟨?_, fun i o a ho ha => by rw [hans] at ha; simp at ha⟩
      cases e : ops j with
      | nil => rfl
      | cons o l => exact ⟨o, rfl, (ent_at (hf o (by rw [e]; exact List.mem_cons_self ..))).2.1⟩
    · rw [hs j e]
      exact h.th j (by omega)
  · have h1 : (upd x.th k _ j).d = some d := h1
    have h2 : (upd x.th k _ j').d = some d' := h2
    by_cases e : j = k
    · subst e
      rw [hk] at h1
      exact (hd _ _ h1 h3).elim
    · by_cases e' : j' = k
      · subst e'
        rw [hk] at h2
        exact (hd _ _ h2 h4).elim
      · rw [hs j e] at h1
        rw [hs j' e'] at h2
        exact h.uni j j' d d' c (by omega) (by omega) h1 h2 h3 h4
  · have key : ∀ j i, j < k + 1 → WinZ ops (upd x.th k (firstZ cb m (ops k) [])) c j i → j < k ∧ WinZ ops x.th c j i := by
      rintro j i hj ⟨o, a, w1, w2, w3⟩
      by_cases e : j = k
      · subst e
        rw [hk, hans] at w2
        simp at w2
      · rw [hs j e] at w2
        exact ⟨by omega, o, a, w1, w2, w3⟩
    obtain ⟨a1, a2⟩ := key j i hj h1
    obtain ⟨b1, b2⟩ := key j' i' hj' h2
    exact h.win c j j' i i' a1 b1 a2 b2
theorem all_next {ops : Nat → List OpV} {n : Nat} (hf : ∀ k, k < n → ∀ o ∈ ops k, fineZ m o) {x : OX (onLa cb m)} {i len : Nat} (hi : i < n) (hl : len < 1048576) (h : AllZ ops n x len) : AllZ ops n (nextO x i) (len + 1) := by
  obtain ⟨tt, tn⟩ := h.th i hi
  unfold nextO
  cases e : (x.th i).d with
  | none => exact ⟨good_more h.good, h.th, h.uni, h.win⟩
  | some d =>
    rw [e] at tt
    obtain ⟨o, hdr, hat⟩ := tt
    obtain ⟨T, Gd, Dn⟩ := act_fine hat h.good hl
    have hact : (onLa cb m).act x.s d = onAct x.s d := rfl
    have hop : (ops i)[(x.th i).ans.length]? = some o := by
      have := congrArg (fun l => l[0]?) hdr
      simpa using this
    have hleft : ∀ o' ∈ (x.th i).left, fineZ m o' := fun o' ho' => hf i hi o' (List.mem_of_mem_drop (i := (x.th i).ans.length) (by rw [hdr]; exact List.mem_cons_of_mem _ ho'))
    have hdl : (ops i).drop ((x.th i).ans.length + 1) = (x.th i).left := by
      rw [← List.drop_drop, hdr]
      rfl
    have hno : ∀ j, j < n → j ≠ i → ∀ c d', (x.th j).d = some d' → holdsZ d = some c → holdsZ d' = some c → False := fun j hj hne c d' h1 h2 h3 => hne (h.uni j i d' d c hj hi h1 e h3 h2)
    have key : ∀ (s' : Oz) (t' : Tst (onLa cb m)), touchZ x.s s' d → goodZ s' (len + 1) → ThZ (cb := cb) (m := m) s' (ops i) t' → (∀ d' c, t'.d = some d' → holdsZ d' = some c → holdsZ d = some c ∨ x.s.st c = 0) →
        (∀ c i', WinZ ops (upd x.th i t') c i i' → WinZ ops x.th c i i' ∨ (x.s.st c ≠ 2 ∧ i' = (x.th i).ans.length)) → AllZ ops n (putO x i (s', t') (x.cnt + 1)) (len + 1) := by
      intro s' t' hT hG hTh hHo hWi
      have hs : ∀ j, j ≠ i → upd x.th i t' j = x.th j := fun j hj => upd_ne _ _ hj
      have hk : upd x.th i t' i = t' := upd_same ..
      have hcl : ∀ j d' dj c, j < n → j ≠ i → t'.d = some d' → (x.th j).d = some dj → holdsZ d' = some c → holdsZ dj = some c → False := by
        intro j d' dj c hj hne h1 h2 h3 h4
        rcases hHo d' c h1 h3 with h5 | h5
        · exact hno j hj hne c dj h2 h5 h4
        · obtain ⟨tj, _⟩ := h.th j hj
          rw [h2] at tj
          obtain ⟨oj, _, hj'⟩ := tj
          have := holds_st hj' h4
          omega
      have hwo : ∀ j i' c, j ≠ i → WinZ ops (upd x.th i t') c j i' → WinZ ops x.th c j i' := by
        rintro j i' c hne ⟨o, a, w1, w2, w3⟩
        rw [hs j hne] at w2
        exact ⟨o, a, w1, w2, w3⟩
      have hw2 : ∀ j i' c, j < n → WinZ ops x.th c j i' → x.s.st c = 2 := by
        rintro j i' c hj ⟨o, a, w1, w2, w3, w4, w5⟩
        have := ((h.th j hj).ans i' o a w1 w2).1 (.inl w5)
        have e : o.a.toNat = c := by omega
        rw [e] at this
        exact this.1
      refine ⟨hG, fun j hj => ?_, fun j j' d1 d2 c hj hj' h1 h2 h3 h4 => ?_, fun c j j' i1 i2 hj hj' h1 h2 => ?_⟩
      · show ThZ s' (ops j) (upd x.th i t' j)
        by_cases e : j = i
        · subst e
          rw [hk]
          exact hTh
        · rw [hs j e]
          exact th_keep hT (h.th j hj) fun c d' h1 h2 h3 => hno j hj e c d' h1 h2 h3
      · have h1 : (upd x.th i t' j).d = some d1 := h1
        have h2 : (upd x.th i t' j').d = some d2 := h2
        by_cases e : j = i
        · by_cases e' : j' = i
          · exact e.trans e'.symm
          · subst e
            rw [hk] at h1
            rw [hs j' e'] at h2
            exact (hcl j' d1 d2 c hj' e' h1 h2 h3 h4).elim
        · by_cases e' : j' = i
          · subst e'
            rw [hk] at h2
            rw [hs j e] at h1
            exact (hcl j d2 d1 c hj e h2 h1 h4 h3).elim
          · rw [hs j e] at h1
            rw [hs j' e'] at h2
            exact h.uni j j' d1 d2 c hj hj' h1 h2 h3 h4
      · have h1 : WinZ ops (upd x.th i t') c j i1 := h1
        have h2 : WinZ ops (upd x.th i t') c j' i2 := h2
        by_cases e : j = i
        · by_cases e' : j' = i
          · subst e
            subst e'
            rcases hWi c i1 h1 with g1 | ⟨g1, g1'⟩
            · rcases hWi c i2 h2 with g2 | ⟨g2, _⟩
              · exact h.win c _ _ i1 i2 hj hj' g1 g2
              · exact (g2 (hw2 _ _ _ hj g1)).elim
            · rcases hWi c i2 h2 with g2 | ⟨g2, g2'⟩
              · exact (g1 (hw2 _ _ _ hj g2)).elim
              · exact ⟨rfl, g1'.trans g2'.symm⟩
          · subst e
            have g2 := hwo j' i2 c e' h2
            rcases hWi c i1 h1 with g1 | ⟨g1, _⟩
            · exact h.win c _ _ i1 i2 hj hj' g1 g2
            · exact (g1 (hw2 _ _ _ hj' g2)).elim
        · have g1 := hwo j i1 c e h1
          by_cases e' : j' = i
          · subst e'
            rcases hWi c i2 h2 with g2 | ⟨g2, _⟩
            · exact h.win c _ _ i1 i2 hj hj' g1 g2
            · exact (g2 (hw2 _ _ _ hj g1)).elim
          · exact h.win c _ _ i1 i2 hj hj' g1 (hwo j' i2 c e' h2)
    show AllZ ops n (putO x i (landO (onLa cb m) (onAct x.s d) (x.th i).left (x.th i).ans) (x.cnt + 1)) (len + 1)
    generalize hr : onAct x.s d = r at *
    obtain ⟨s', r⟩ := r
    cases r with
    | inr d' =>
      obtain ⟨D1, D2⟩ := Dn
      refine key s' ⟨(x.th i).left, some d', (x.th i).ans⟩ T Gd ⟨⟨o, hdr, D1⟩, fun j o a ho ha => ans_keep T (tn j o a ho ha)⟩ (fun d2 c h1 h2 => ?_) (fun c i' hw => ?_)
      · cases h1
        exact D2 c h2
      · obtain ⟨o, a, w1, w2, w3⟩ := hw
        rw [upd_same] at w2
        exact .inl ⟨o, a, w1, w2, w3⟩
    | inl a =>
      obtain ⟨D1, D2⟩ := Dn
      show AllZ ops n (putO x i (settleO (onLa cb m) s' (x.th i).left ((x.th i).ans ++ [a])) (x.cnt + 1)) (len + 1)
      have hsf : settleO (onLa cb m) s' (x.th i).left ((x.th i).ans ++ [a]) = (s', firstZ cb m (x.th i).left ((x.th i).ans ++ [a])) := settle_fine hleft _
      rw [hsf]
      have hta : (firstZ cb m (x.th i).left ((x.th i).ans ++ [a])).ans = (x.th i).ans ++ [a] := firstZ_ans _ _
      have hans : ∀ (j : Nat) (o' : OpV) (a' : Ans), (ops i)[j]? = some o' → ((x.th i).ans ++ [a])[j]? = some a' → ansZ s' o' a' := by
        intro j o' a' ho' ha'
        rcases Nat.lt_or_ge j (x.th i).ans.length with hj | hj
        · rw [List.getElem?_append_left hj] at ha'
          exact ans_keep T (tn j o' a' ho' ha')
        · rw [List.getElem?_append_right hj] at ha'
          have hj0 : j - (x.th i).ans.length = 0 := by
            have := (List.getElem?_eq_some_iff.1 ha').1
            simpa using this
          have ej : j = (x.th i).ans.length := by omega
          rw [hj0] at ha'
          subst ej
          rw [hop] at ho'
          cases ho'
          cases ha'
          exact D1
      refine key s' _ T Gd ⟨?_, fun j o' a' ho' ha' => hans j o' a' ho' (by rw [hta] at ha'; exact ha')⟩ (fun d2 c h1 h2 => ?_) (fun c i' hw => ?_)
      · cases el : (x.th i).left with
        | nil =>
          show (ops i).length = ((x.th i).ans ++ [a]).length
          rw [el] at hdr
          have := congrArg List.length hdr
          simp only [List.length_drop, List.length_cons, List.length_nil, List.length_append] at this ⊢
          omega
        | cons o2 l2 =>
          refine ⟨o2, ?_, (ent_at (hleft o2 (by rw [el]; exact List.mem_cons_self ..))).2.1⟩
          show (ops i).drop ((x.th i).ans ++ [a]).length = o2 :: l2
          rw [List.length_append, ← el, ← hdl]
          rfl
      · cases el : (x.th i).left with
        | nil => rw [el] at h1; cases h1
        | cons o2 l2 =>
          rw [el] at h1
          have h1 : entZ o2 = d2 := Option.some.inj h1
          have := (ent_at (s := s') (hleft o2 (by rw [el]; exact List.mem_cons_self ..))).2.2
          rw [h1, h2] at this
          cases this
      · obtain ⟨o', a', w1, w2, w3, w4, w5⟩ := hw
        rw [upd_same, hta] at w2
        rcases Nat.lt_or_ge i' (x.th i).ans.length with hj | hj
        · rw [List.getElem?_append_left hj] at w2
          exact .inl ⟨o', a', w1, w2, w3, w4, w5⟩
        · rw [List.getElem?_append_right hj] at w2
          have hj0 : i' - (x.th i).ans.length = 0 := by
            have := (List.getElem?_eq_some_iff.1 w2).1
            simpa using this
          have ej : i' = (x.th i).ans.length := by omega
          rw [hj0] at w2
          subst ej
          rw [hop] at w1
          cases w1
          cases w2
          have e : o.a.toNat = c := by omega
          exact .inr ⟨e ▸ D2 w3 w5, rfl⟩
theorem all_play (ops : Nat → List OpV) (n : Nat) (most : Int) (sl : List Int) (hf : ∀ k, k < n → ∀ o ∈ ops k, fineZ m o) :
    AllZ (cb := cb) (m := m) ops n (playO (onLa cb m) oz0 ops n most sl).1 (playO (onLa cb m) oz0 ops n most sl).2.length ∧ ((playO (onLa cb m) oz0 ops n most sl).2.length : Int) ≤ min (max most 0) 1048576 := by
  refine playO_inv (L := onLa cb m) oz0 ops n most sl (fun k x => AllZ ops k x 0) (fun x l => AllZ ops n x l.length ∧ (l.length : Int) ≤ min (max most 0) 1048576) ?_ (fun k x hk h => all_born (hf k hk) h) (fun x h => ⟨h, ?_⟩) (fun x l i h hi _ hl => ?_)
  · exact ⟨⟨fun c => .inl rfl, fun c => ⟨Int.le_refl _, Int.le_refl _⟩⟩, fun k hk => absurd hk (Nat.not_lt_zero _), fun k _ _ _ _ hk => absurd hk (Nat.not_lt_zero _), fun _ k _ _ _ hk => absurd hk (Nat.not_lt_zero _)⟩
  · show ((0 : Nat) : Int) ≤ _
    omega
  · have hl1 : (l ++ [i]).length = l.length + 1 := by simp
    rw [hl1]
    exact ⟨all_next hf hi (by omega) h.1, by omega⟩
end
end
end Go.Proofs.Ytdcjgmlgmjjogaa
