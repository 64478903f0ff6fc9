/- Part 25. -/
import Derived.Test.YtgfajibjedfkdaaJO23
import Derived.Test.YtgfajibjedfkdaaJO24
import Derived.Test.YtgfajibjedfkdaaJO27
set_option linter.unusedSimpArgs false
set_option linter.unusedVariables false
set_option linter.unusedVariables false
set_option maxHeartbeats 8000000
set_option maxRecDepth 100000
namespace Go.Proofs.Ytgfajibjedfkdaa
open Go.Conc Go.RowKit Go.Relay
open Go.ConcN (upd upd_ne upd_same)
section
theorem keptL (r0 : Nat) (rs : List Nat) : kept (some r0 :: none :: rs.flatMap fun r => [some r, none]) (some r0 :: none :: rs.flatMap fun r => [some r, none]).length = (r0 :: rs).map some := by
  unfold kept
  rw [List.take_length]
  have h : ∀ rs : List Nat, (rs.flatMap fun r => ([some r, none] : List (Option Nat))).filter Option.isSome = rs.map some := fun rs => by
    induction rs with
    | nil => rfl
    | cons r rs ih =>
      rw [List.flatMap_cons, List.filter_append, ih]
      rfl
  rw [List.filter_cons_of_pos rfl, List.filter_cons_of_neg (by simp), h]
  rfl
theorem flat_len (rs : List Nat) : (rs.flatMap fun r => ([some r, none] : List (Option Nat))).length = 2 * rs.length := by
  induction rs with
  | nil => rfl
  | cons r rs ih =>
    rw [List.flatMap_cons, List.length_append, ih]
    simp
    omega
theorem sum0 : ∀ k, sumL wS0 k = 0
  | 0 => rfl
  | k + 1 => by show sumL wS0 k + 0 = 0; rw [sum0 k]
theorem sumC (s : Rs) (u K : Nat) (h : ∀ j, j < K → s.ld j = u) : ∀ k, k ≤ K → sumL s k = k * u
  | 0, _ => by simp [sumL]
  | k + 1, hk => by
    show sumL s k + s.ld k = _
    rw [sumC s u K h k (by omega), h k (by omega), Nat.succ_mul]
theorem wait_bad {ls : Nat → List Int} {K : Nat} {q tries way : Int} {s : Rs} {n e : Int} (hR : waitR ls K 1 q tries way wS0 = (s, n, e)) (hw : way < 1 ∨ 3 < way) : s = wS0 ∧ n = 0 ∧ e = 2 := by
  unfold waitR at hR
  rw [if_pos hw] at hR
  injection hR with h1 h2
  injection h2 with h2 h3
  exact ⟨h1.symm, h2.symm, h3.symm⟩
theorem wait_zero {ls : Nat → List Int} {q tries way : Int} {s : Rs} {n e : Int} (hR : waitR ls 0 1 q tries way wS0 = (s, n, e)) (hw : ¬ (way < 1 ∨ 3 < way)) : s = wS0 ∧ n = 0 ∧ e = 6 := by
  unfold waitR at hR
  rw [if_neg hw, if_pos rfl] at hR
  injection hR with h1 h2
  injection h2 with h2 h3
  exact ⟨h1.symm, h2.symm, h3.symm⟩
theorem wait_two {ls : Nat → List Int} {K : Nat} {q tries : Int} {s : Rs} {n e : Int} (hK : 0 < K) (hq : q ≤ 9223372036854775807) (hR : waitR ls K 1 q tries 2 wS0 = (s, n, e)) : ∃ u, u ≤ triesN tries ∧ sumL s K = u ∧ s.n = 2 * u ∧ ((e = 0 ∧ q ≤ n) ∨ (e = 4 ∧ n = 0 ∧ u = triesN tries)) := by
  unfold waitR at hR
  rw [if_neg (by omega), if_neg (by omega), if_pos rfl] at hR
  have h := oneR_is ls K q (triesN tries) 0 9223372036854775807 wS0 rfl hK hq
  rw [hR, sum0] at h
  obtain ⟨u, h1, h2, h3, _, h5⟩ := h
  refine ⟨u, h1, ?_, ?_, h5⟩
  · have h2 : sumL s K = 0 + u := h2
    omega
  · have h3 : s.n = 0 + 2 * u := h3
    omega
theorem wait_tog {ls : Nat → List Int} {K : Nat} {q tries way : Int} {s : Rs} {n e : Int} (hK : 0 < K) (h13 : way = 1 ∨ way = 3) (hR : waitR ls K 1 q tries way wS0 = (s, n, e)) : ∃ u, u ≤ triesN tries ∧ sumL s K = K * u ∧ s.n = K * u + (if way = 3 then (u + 7) / 8 else u) ∧ ((e = 0 ∧ q ≤ n ∧ 1 ≤ u) ∨ (e = 4 ∧ n = 0 ∧ u = triesN tries)) := by
  unfold waitR at hR
  rw [if_neg (by omega), if_neg (by omega), if_neg (by omega)] at hR
  rcases h13 with rfl | rfl
  · rw [if_neg (by decide)] at hR
    have h := togR_is ls K q 1 (fun t => t) (fun t => by show t + 1 = t + _; rw [if_pos (Nat.mod_one t)]) (triesN tries) 0 wS0 rfl
    rw [hR] at h
    obtain ⟨u, h1, h2, h3, _, h5⟩ := h
    refine ⟨u, h1, ?_, ?_, h5⟩
    · exact sumC s u K (fun j hj => by have h : s.ld j = 0 + u := h2 j hj; omega) K (Nat.le_refl _)
    · have h3 : s.n + 0 = 0 + K * u + (0 + u) := h3
      rw [if_neg (by decide)]
      omega
  · rw [if_pos rfl] at hR
    have h := togR_is ls K q 8 (fun t => (t + 7) / 8) (fun t => by show (t + 1 + 7) / 8 = (t + 7) / 8 + _; split <;> omega) (triesN tries) 0 wS0 rfl
    rw [hR] at h
    obtain ⟨u, h1, h2, h3, _, h5⟩ := h
    refine ⟨u, h1, ?_, ?_, h5⟩
    · exact sumC s u K (fun j hj => by have h : s.ld j = 0 + u := h2 j hj; omega) K (Nat.le_refl _)
    · have h3 : s.n + (0 + 7) / 8 = 0 + K * u + (0 + u + 7) / 8 := h3
      rw [if_pos rfl]
      rw [Nat.zero_add u] at h3
      omega
section
variable {main : Bool} {V : Nat → Option Wait}
def StO (W : World) (g : Goroutine) (w' : World) : Prop := Closing 3 8 (.bool true) g ∧ ∀ b, b < W.heap.size → w'.heap[b]? = W.heap[b]?
theorem bo_fin (hA : ∀ b, Apart V b) (oa : Option Addr) (K oc : Nat) (hK : 0 < K) (hK5 : K ≤ 5) (bb P : Nat) (q tries way : Int) (hq : q ≤ 9223372036854775807) (ls : Nat → List Int) (s : Rs) (n e : Int) (hR : waitR ls K 1 q tries way wS0 = (s, n, e)) (W w : World) (hold : ∀ b, b < W.heap.size → w.heap[b]? = W.heap[b]?) (hs : w.cell? ⟨P, 0, none⟩ = some (.int .i64 (s.n : Nat))) (u : Nat → Value) :
    Walk Try.prog main (DR V) (StO W) (G (hdOd oa K oc (.pointer (some ⟨bb, 0, none⟩)) P q tries way n e (sumL s K : Nat) K u) []) w := by
  have fin : ∀ {g : Goroutine} {w' : World}, (Closing 3 8 (.bool true) g ∧ ∃ d, w' = w.at d) → StO W g w' := fun {g w'} h => ⟨h.1, fun b hb => by
    obtain ⟨d, rfl⟩ := h.2
    exact hold b hb⟩
  by_cases h1 : way < 1
  · obtain ⟨rfl, rfl, rfl⟩ := wait_bad hR (.inl h1)
    exact (of_a hA oa K oc bb P q tries way h1 w hs _ u).mono fun _ _ h => fin h
  · by_cases h3 : 3 < way
    · obtain ⟨rfl, rfl, rfl⟩ := wait_bad hR (.inr h3)
      exact (of_b hA oa K oc bb P q tries way h3 w hs _ u).mono fun _ _ h => fin h
    · by_cases h2 : way = 2
      · subst h2
        obtain ⟨t, ht, hsm, hn, hc⟩ := wait_two hK hq hR
        rw [hsm]
        rw [hn] at hs
        rcases hc with ⟨rfl, hqn⟩ | ⟨rfl, rfl, rfl⟩
        · exact (of_20 hA oa K oc bb P q tries hK hK5 _ rfl n hqn t ht hs u).mono fun _ _ h => fin h
        · exact (of_24 hA oa K oc bb P q tries hK hK5 _ rfl hs u).mono fun _ _ h => fin h
      · have h13 : way = 1 ∨ way = 3 := by omega
        obtain ⟨t, ht, hsm, hn, hc⟩ := wait_tog hK h13 hR
        rw [hsm]
        rw [hn] at hs
        rcases h13 with rfl | rfl
        · rw [if_neg (by decide)] at hs hn
          rcases hc with ⟨rfl, hqn, ht1⟩ | ⟨rfl, rfl, rfl⟩
          · exact (of_10 hA oa K oc bb P q tries hK hK5 _ rfl n hqn t ht ht1 (K * t) _ t rfl rfl rfl hs u).mono fun _ _ h => fin h
          · exact (of_14 hA oa K oc bb P q tries hK hK5 _ rfl (K * triesN tries) _ (triesN tries) rfl rfl rfl hs u).mono fun _ _ h => fin h
        · rw [if_pos rfl] at hs hn
          rcases hc with ⟨rfl, hqn, ht1⟩ | ⟨rfl, rfl, rfl⟩
          · exact (of_30 hA oa K oc bb P q tries hK hK5 _ rfl n hqn t ht ht1 (K * t) _ _ rfl rfl rfl hs u).mono fun _ _ h => fin h
          · exact (of_34 hA oa K oc bb P q tries hK hK5 _ rfl (K * triesN tries) _ _ rfl rfl rfl hs u).mono fun _ _ h => fin h
theorem bo_end0 (hA : ∀ b, Apart V b) (nv lv : Value) (q tries way : Int) (W W0 : World) (hW : ∀ b, b < W.heap.size → W0.heap[b]? = W.heap[b]?) (hWR : W.heap.size ≤ W0.heap.size) (w : World) (O : OwI W0 [] (fun _ => []) (.slice none 0 0) (.slice none 0 0) w.heap.size w) (u : Nat → Value) :
    Walk Try.prog main (DR V) (StO W) (G (hdOa (.slice none 0 0) (.slice none 0 0) nv lv q tries way 0 0 u) []) w := by
  refine (oc_none (.slice none 0 0) (.slice none 0 0) nv lv 0 0 none none rfl rfl q tries way u [] w).then ?_
  rintro _ _ ⟨⟨u1, rfl⟩, d, rfl⟩
  refine Walk.back ?_ d
  refine (oc_mid hA (.slice none 0 0) none [] (by simp) none 0 q tries way w (fun j o h => by simp at h) u1 []).then ?_
  rintro _ w5 ⟨kb, kc, bb, g, sc, ⟨u2, rfl⟩, M⟩
  have hz := O.size
  have hz5 := M.size
  have o7 : ∀ b, b < w5.heap.size → (w5.alloc (.cells #[.int .i64 0] 37)).heap[b]? = w5.heap[b]? := fun b hb => heap_new_lt _ _ hb
  have d7 := heap_alloc_new w5 (.cells #[.int .i64 0] 37)
  have s7 : (w5.alloc (.cells #[.int .i64 0] 37)).heap.size = w5.heap.size + 1 := by simp
  have hbl : bb < w5.heap.size := (Array.getElem?_eq_some_iff.1 M.bar).1
  have I : RI ⟨W, w5.heap.size, 0, fun _ => 0, fun _ => none, fun _ => [], fun _ => 0, bb, g, some ⟨g, 0, none⟩, sc, fun _ => True, fun _ _ _ h => h⟩ wS0 (w5.alloc (.cells #[.int .i64 0] 37)) :=
    ⟨d7, fun i hi => absurd hi (Nat.not_lt_zero _), fun i hi => absurd hi (Nat.not_lt_zero _), fun i j hi => absurd hi (Nat.not_lt_zero _), (o7 _ hbl).trans M.bar, fun h => absurd h (Nat.lt_irrefl 0), Nat.zero_le _, fun b hb => (o7 b (by have h : b < W.heap.size := hb; omega)).trans ((M.old b (by have h : b < W.heap.size := hb; omega)).trans ((O.old b (by have h : b < W.heap.size := hb; omega)).trans (hW b hb))), ⟨by show W.heap.size ≤ w5.heap.size; omega, by show W.heap.size ≤ bb; have := M.blo; omega, fun i hi => absurd hi (Nat.not_lt_zero _)⟩, by show W.heap.size ≤ _; omega, trivial⟩
  obtain ⟨s, n, e, hR⟩ : ∃ s n e, waitR (fun _ => []) 0 1 q tries way wS0 = (s, n, e) := ⟨_, _, _, rfl⟩
  refine (od_in hA none 0 0 0 (.slice none 0 0) _ q tries way _ (Nat.zero_le _) w5 rfl I (s, n, e) hR u2 []).then ?_
  rintro _ w8 ⟨⟨u3, rfl⟩, J⟩
  have hold : ∀ b, b < W.heap.size → w8.heap[b]? = W.heap[b]? := J.old
  have fin : ∀ {g : Goroutine} {w' : World}, (Closing 3 8 (.bool true) g ∧ ∃ d, w' = w8.at d) → StO W g w' := fun {g w'} h => ⟨h.1, fun b hb => by
    obtain ⟨d, rfl⟩ := h.2
    exact hold b hb⟩
  have hs : w8.cell? ⟨w5.heap.size, 0, none⟩ = some (.int .i64 (s.n : Nat)) := (cell_of J.cnt 0).trans rfl
  have hb : w8.cell? ⟨bb, 0, none⟩ = some (.slice (some ⟨g, 0, none⟩) 0 sc) := (cell_of J.bar 0).trans rfl
  by_cases h1 : way < 1
  · obtain ⟨rfl, rfl, rfl⟩ := wait_bad hR (.inl h1)
    exact (of_a hA none 0 0 bb _ q tries way h1 w8 hs _ u3).mono fun _ _ h => fin h
  · by_cases h3 : 3 < way
    · obtain ⟨rfl, rfl, rfl⟩ := wait_bad hR (.inr h3)
      exact (of_b hA none 0 0 bb _ q tries way h3 w8 hs _ u3).mono fun _ _ h => fin h
    · obtain ⟨rfl, rfl, rfl⟩ := wait_zero hR (by omega)
      exact (of_c hA none 0 bb _ q tries way (by omega) (by omega) w8 hs _ _ _ hb u3).mono fun _ _ h => fin h
theorem bo_endK (hA : ∀ b, Apart V b) (nv lv : Value) (q tries way : Int) (hq : q ≤ 9223372036854775807) (K : Nat) (hK : 0 < K) (hK5 : K ≤ 5) (W W0 : World) (hW : ∀ b, b < W.heap.size → W0.heap[b]? = W.heap[b]?) (hWR : W.heap.size ≤ W0.heap.size) (rs : List Nat) (hrs : rs.length = K) (ll : Nat → List Int) (vo vb : Value) (w : World) (O : OwI W0 rs ll vo vb w.heap.size w) (u : Nat → Value) :
    Walk Try.prog main (DR V) (StO W) (G (hdOa vo vb nv lv q tries way K K u) []) w := by
  have hz := O.size
  obtain ⟨go, oc, cur, rfl, hgo, hcur⟩ : ∃ (go oc : Nat) (cur : Array Value), vo = .slice (some ⟨go, 0, none⟩) K oc ∧ w.heap[go]? = some (.cells cur 27) ∧ ∀ i, i < K → cur[i]? = some (risV (rs.getD i 0)) := by
    rcases O.own.2 with ⟨_, e⟩ | ⟨g, cap, cur, e, _, hg, _, _, _, ht⟩
    · omega
    · refine ⟨g, cap, cur, by rw [e, hrs], hg, fun i hi => ?_⟩
      have h2 : (cur.toList.take (rs.length * 1))[i]? = some (risV (rs.getD i 0)) := by
        rw [ht, List.getElem?_map, List.getElem?_eq_getElem (by omega), List.getD_eq_getElem?_getD, List.getElem?_eq_getElem (by omega)]
        rfl
      rw [List.getElem?_take, if_pos (by omega)] at h2
      simpa using h2
  obtain ⟨r0, rs', rfl⟩ : ∃ r0 rs', rs = r0 :: rs' := by
    cases rs with
    | nil => simp at hrs; omega
    | cons r rs => exact ⟨r, rs, rfl⟩
  obtain ⟨gb, bc, curb, rfl, hgb, hbc, hcurb⟩ : ∃ (gb bc : Nat) (curb : Array Value), vb = .slice (some ⟨gb, 0, none⟩) (2 * K) bc ∧ w.heap[gb]? = some (.cells curb 32) ∧ 2 * K ≤ bc ∧ ∀ (j : Nat) (o : Option Nat), (none :: rs'.flatMap fun r => [some r, none])[j]? = some o → curb[1 + j]? = some (srcO o) := by
    rcases O.beh.2 with ⟨_, e⟩ | ⟨g, cap, cur, e, _, hg, hle, _, _, ht⟩
    · omega
    · refine ⟨g, cap, cur, by rw [e, hrs], hg, by omega, fun j o ho => ?_⟩
      have hjl := (List.getElem?_eq_some_iff.1 ho).1
      have hl : (none :: rs'.flatMap fun r => ([some r, none] : List (Option Nat))).length + 1 = 2 * (r0 :: rs').length := by
        simp only [List.length_cons, flat_len]
        omega
      have h2 : (cur.toList.take (2 * (r0 :: rs').length * 1))[1 + j]? = some (srcO o) := by
        rw [ht, tailL, Nat.add_comm, List.getElem?_cons_succ, List.getElem?_map, ho]
        rfl
      rw [List.getElem?_take, if_pos (by omega)] at h2
      simpa using h2
  obtain ⟨bl, hbl⟩ : ∃ bl, (none :: rs'.flatMap fun r => ([some r, none] : List (Option Nat))) = bl := ⟨_, rfl⟩
  have hm : 1 + bl.length = 2 * K := by
    rw [← hbl, ← hrs]
    simp only [List.length_cons, flat_len]
    omega
  have hkept : kept (some r0 :: bl) (some r0 :: bl).length = (r0 :: rs').map some := by rw [← hbl]; exact keptL r0 rs'
  rw [hbl] at hcurb
  have hgol : go < w.heap.size := (Array.getElem?_eq_some_iff.1 hgo).1
  have hgbl : gb < w.heap.size := (Array.getElem?_eq_some_iff.1 hgb).1
  have hc0 : w.cell? ⟨go, 0, none⟩ = some (.pointer (some ⟨r0, 0, none⟩)) := (cell_of hgo 0).trans (hcur 0 hK)
  refine (oc_some nv lv oc bc K bl.length go gb r0 hK hK5 hm hbc q tries way u [] w hc0).then ?_
  rintro _ _ ⟨⟨u1, rfl⟩, d, rfl⟩
  refine Walk.back ?_ d
  have hsrc : SrcA (some ⟨gb, 1, none⟩) bl w := fun j o hj => ⟨gb, 1, rfl, (cell_of hgb _).trans (hcurb j o hj)⟩
  refine (oc_mid hA (.slice (some ⟨go, 0, none⟩) K oc) (some r0) bl (by omega) (some ⟨gb, 1, none⟩) (bc - 1) q tries way w hsrc u1 []).then ?_
  rintro _ w5 ⟨kb, kc, bb, g, sc, ⟨u2, rfl⟩, M⟩
  have hz5 := M.size
  have hklo := M.klo
  have V0 : OvI gb 1 bl.length 0 bl w5 w5 := ⟨⟨curb, (M.old gb hgbl).trans hgb, fun j o _ ho => hcurb j o ho⟩, fun _ _ _ => rfl, Nat.le_refl _⟩
  refine (ov_loop hA (.slice (some ⟨go, 0, none⟩) K oc) (.pointer (some ⟨bb, 0, none⟩)) gb 1 (bc - 1) kb kc bl (by omega) q tries way w5 (by omega) hklo.2 (by omega) M.kp [] bl.length 0 u2 w5 (Nat.zero_add _) V0).then ?_
  rintro _ w6 ⟨⟨u3, rfl⟩, V6⟩
  have hz6 := V6.size
  have o7 : ∀ b, b < w6.heap.size → (w6.alloc (.cells #[.int .i64 0] 37)).heap[b]? = w6.heap[b]? := fun b hb => heap_new_lt _ _ hb
  have d7 := heap_alloc_new w6 (.cells #[.int .i64 0] 37)
  have s7 : (w6.alloc (.cells #[.int .i64 0] 37)).heap.size = w6.heap.size + 1 := by simp
  have up5 : ∀ b, b < w5.heap.size → b ≠ gb → (w6.alloc (.cells #[.int .i64 0] 37)).heap[b]? = w5.heap[b]? := fun b hb hne => (o7 b (by omega)).trans (V6.old b hb hne)
  have up : ∀ (b : Nat) (x : Array Value) (t : TypeId), t ≠ 32 → w.heap[b]? = some (.cells x t) → (w6.alloc (.cells #[.int .i64 0] 37)).heap[b]? = some (.cells x t) := fun b x t ht h => by
    have hlt := (Array.getElem?_eq_some_iff.1 h).1
    have hne : b ≠ gb := ne_of_ty h hgb ht
    exact (up5 b (by omega) hne).trans ((M.old b hlt).trans h)
  have hex : ∀ i, ∃ p : Option Addr × Nat, i < K → W0.heap.size ≤ (r0 :: rs').getD i 0 ∧ w.heap[(r0 :: rs').getD i 0]? = some (.cells #[.slice p.1 (ll i).length p.2, .int .i64 0] 30) ∧ (ll i ≠ [] → ∃ (b : Nat) (arr : Array Value), p.1 = some ⟨b, 0, none⟩ ∧ w.heap[b]? = some (.cells arr 2) ∧ ∀ (j : Nat) (z : Int), (ll i)[j]? = some z → arr[j]? = some (.int .i64 z)) := fun i => by
    by_cases hi : i < K
    · have hx := List.getElem?_eq_getElem (l := r0 :: rs') (i := i) (by omega)
      obtain ⟨h1, _, a, c, h2, h3⟩ := O.src i _ hx
      have hg : (r0 :: rs').getD i 0 = (r0 :: rs')[i] := by rw [List.getD_eq_getElem?_getD, hx]; rfl
      refine ⟨(a, c), fun _ => ?_⟩
      rw [hg]
      refine ⟨h1, h2, fun hl => ?_⟩
      obtain ⟨b, arr, _, e, h4, h5⟩ := h3 hl
      exact ⟨b, arr, e, h4, h5⟩
    · exact ⟨(none, 0), fun h => absurd h hi⟩
  obtain ⟨f, hf⟩ := Classical.axiomOfChoice hex
  have hbne : bb ≠ gb := by have := M.blo; omega
  have hgne : g ≠ gb := by have := M.glo; omega
  have hbar := M.bar
  have hcap := M.cap
  have hsr := M.src
  rw [hkept] at hbar hcap hsr
  simp only [List.length_map, hrs] at hbar hcap
  have hnd : ∀ i j, i < K → j < K → (r0 :: rs').getD i 0 = (r0 :: rs').getD j 0 → i = j := fun i j hi hj h => by
    have hx := List.getElem?_eq_getElem (l := r0 :: rs') (i := i) (by omega)
    have hy := List.getElem?_eq_getElem (l := r0 :: rs') (i := j) (by omega)
    rw [List.getD_eq_getElem?_getD, List.getD_eq_getElem?_getD, hx, hy] at h
    have h : (r0 :: rs')[i] = (r0 :: rs')[j] := h
    exact O.nd i j _ hx (by rw [hy, h])
  have hexs : ∀ w w' : World, (∀ (b : Nat) (x : Array Value) (t : TypeId), t ≠ 37 → t ≠ 30 → t ≠ 54 → w.heap[b]? = some (.cells x t) → w'.heap[b]? = some (.cells x t)) → (∃ cur : Array Value, w.heap[go]? = some (.cells cur 27) ∧ ∀ i, i < K → cur[i]? = some (risV ((r0 :: rs').getD i 0))) → ∃ cur : Array Value, w'.heap[go]? = some (.cells cur 27) ∧ ∀ i, i < K → cur[i]? = some (risV ((r0 :: rs').getD i 0)) :=
    fun w w' h ⟨cur, h1, h2⟩ => ⟨cur, h _ _ _ (by decide) (by decide) (by decide) h1, h2⟩
  obtain ⟨X, hX⟩ : ∃ X : RX, X = ⟨W, w6.heap.size, K, fun i => (r0 :: rs').getD i 0, fun i => (f i).1, ll, fun i => (f i).2, bb, g, some ⟨g, 0, none⟩, sc, fun w => ∃ cur : Array Value, w.heap[go]? = some (.cells cur 27) ∧ ∀ i, i < K → cur[i]? = some (risV ((r0 :: rs').getD i 0)), hexs⟩ := ⟨_, rfl⟩
  have I : RI X wS0 (w6.alloc (.cells #[.int .i64 0] 37)) := by
    subst hX
    refine ⟨d7, fun i hi => ?_, fun i hi hl => ?_, hnd, (up5 bb (Array.getElem?_eq_some_iff.1 M.bar).1 hbne).trans hbar, fun _ => ⟨rfl, ?_⟩, hcap, fun b hb => ?_, ⟨?_, ?_, fun i hi => ?_⟩, ?_, ⟨cur, up _ _ _ (by decide) hgo, hcur⟩⟩
    · exact up _ _ _ (by decide) (hf i hi).2.1
    · obtain ⟨b, arr, e, h1, h2⟩ := (hf i hi).2.2 hl
      exact ⟨b, arr, e, up _ _ _ (by decide) h1, h2⟩
    · obtain ⟨arr, h1, h2⟩ := hsr
      refine ⟨arr, (up5 g (Array.getElem?_eq_some_iff.1 h1).1 hgne).trans h1, fun i hi => ?_⟩
      have hi : i < K := hi
      refine h2 i _ ?_
      rw [List.getElem?_map, List.getElem?_eq_getElem (by omega)]
      show some (some (r0 :: rs')[i]) = some (some ((r0 :: rs').getD i 0))
      rw [List.getD_eq_getElem?_getD, List.getElem?_eq_getElem (by omega)]
      rfl
    · have hb : b < W.heap.size := hb
      have hbg : b ≠ gb := by
        have := (O.beh.lt gb rfl).1
        omega
      exact (up5 b (by omega) hbg).trans ((M.old b (by omega)).trans ((O.old b (by omega)).trans (hW b hb)))
    · show W.heap.size ≤ w6.heap.size
      omega
    · show W.heap.size ≤ bb
      have := M.blo
      omega
    · have := (hf i hi).1
      show W.heap.size ≤ (r0 :: rs').getD i 0
      omega
    · show W.heap.size ≤ _
      omega
  have hXk : X.k = K := by rw [hX]
  have hXp : X.p = w6.heap.size := by rw [hX]
  have hXb : X.bb = bb := by rw [hX]
  have hXW : X.base = W := by rw [hX]
  have hXe : ∀ w, X.ex w → ∀ i, i < K → w.cell? ⟨go, i, none⟩ = some (risV (X.rb i)) := fun w h i hi => by
    rw [hX] at h ⊢
    obtain ⟨cur, h1, h2⟩ := h
    exact (cell_of h1 i).trans (h2 i hi)
  clear hX hf hnd hexs hbar hcap hsr hkept up up5 o7 d7 s7 hcur hcurb hgo hgb hsrc V0
  obtain ⟨s, n, e, hR⟩ : ∃ s n e, waitR X.ls X.k 1 q tries way wS0 = (s, n, e) := ⟨_, _, _, rfl⟩
  have hodin := od_in (main := main) hA (some ⟨go, 0, none⟩) K oc bl.length (.slice (some ⟨gb, 1, none⟩) bl.length (bc - 1)) (.slice (some ⟨kb, 0, none⟩) bl.length kc) q tries way X (by omega) w6 hXp I (s, n, e) hR u3 []
  rw [hXb] at hodin
  refine hodin.then ?_
  rintro _ w8 ⟨⟨u4, rfl⟩, J⟩
  have J : RI X s w8 := J
  have hold : ∀ b, b < W.heap.size → w8.heap[b]? = W.heap[b]? := by
    have h := J.old
    rw [hXW] at h
    exact h
  have hld := wait_ld X.ls K q tries way hq
  rw [hXk] at hR
  rw [hR] at hld
  refine od_loop go K oc (.pointer (some ⟨bb, 0, none⟩)) q tries way n e hK5 X hXk s hld w8 J (hXe w8 J.ext) [] (StO W) (fun u d => ?_) K 0 u4 w8.drawn (Nat.zero_add _)
  refine Walk.back ?_ d
  exact bo_fin hA _ K oc hK hK5 bb X.p q tries way hq X.ls s n e hR W w8 hold ((cell_of J.cnt 0).trans rfl) u
end
theorem bo_all (la : Option Addr) (L lc : Nat) (hlc : L ≤ lc) (hla : la = none → lc = 0) (q tries way : Int) (hq : q ≤ 9223372036854775807) (W : World) (hin : LstI W la L) :
    Walk Try.prog true (DR (fun _ => none)) (fun g w' => Closing 3 8 (.bool true) g ∧ ∀ b, b < W.heap.size → w'.heap[b]? = W.heap[b]?) (G (Frame.enter Try.prog 3 #[.slice la L lc, .int .i64 q, .int .i64 tries, .int .i64 way] .normal) []) W := by
  have hA : ∀ b, Apart (fun _ => none) b := fun b => ⟨fun _ _ _ _ h => (by cases h), fun _ _ h => (by cases h)⟩
  show Walk Try.prog true (DR (fun _ => none)) (StO W) _ _
  refine (bo_in hA la L lc hlc hla q tries way W).then ?_
  rintro _ _ ⟨W0, ⟨u, rfl⟩, hW, hWR, d, rfl⟩
  refine Walk.back ?_ d
  have hLK : min L 5 ≤ L := Nat.min_le_left _ _
  have hK5 : min L 5 ≤ 5 := Nat.min_le_right _ _
  generalize min L 5 = K at *
  have O0 : OwI W0 [] (fun _ => []) (.slice none 0 0) (.slice none 0 0) W0.heap.size W0 := ⟨⟨rfl, .inl ⟨rfl, rfl⟩⟩, ⟨rfl, .inl ⟨rfl, rfl⟩⟩, fun i r h => by simp at h, fun i j r h => by simp at h, fun _ _ => rfl, Nat.le_refl _, Nat.le_refl _⟩
  refine oa_loop hA (.slice la L lc) q tries way K hK5 la lc W W0 hW hWR (fun i hi => hin i (by omega)) [] (StO W) ?_ K 0 [] (fun _ => []) _ _ u W0 (Nat.zero_add _) rfl (fun _ => ⟨rfl, rfl⟩) O0
  intro rs ll vo vb u w hrs h0 O
  by_cases hK0 : K = 0
  · obtain ⟨rfl, rfl⟩ := h0 hK0
    subst hK0
    obtain rfl : rs = [] := List.eq_nil_of_length_eq_zero hrs
    exact bo_end0 hA _ _ q tries way W W0 hW hWR w (O.ll fun i hi => absurd hi (Nat.not_lt_zero _)) u
  · exact bo_endK hA _ _ q tries way hq K (by omega) hK5 W W0 hW hWR rs hrs ll vo vb w O u
end
end Go.Proofs.Ytgfajibjedfkdaa
