/- Part 11. -/
import Derived.Test.YtnnakajldnaldaaM7
import Derived.Test.YtnnakajldnaldaaM10
set_option linter.unusedSimpArgs false
set_option linter.unusedVariables false
set_option maxHeartbeats 8000000
set_option maxRecDepth 100000
namespace Go.Proofs.Ytnnakajldnaldaa
open Go.Conc Go.RowKit Go.Relay
open Go.ConcN (upd upd_ne upd_same)
theorem fx_in {T : Nat} {w : World} (h : w.heap[T]? = some (.cells fxZ 2)) : SlIn (some ⟨T, 0, none⟩) [0, 0] w := fun j z hz => by
  match j, hz with
  | 0, hz => cases hz; exact ⟨by decide, T, 0, rfl, (cell_of h _).trans rfl⟩
  | 1, hz => cases hz; exact ⟨by decide, T, 0, rfl, (cell_of h _).trans rfl⟩
theorem fixed_run (c : Frame) (cs : List Frame) (w : World) : Runs (fun g w' => g = G (c.finish (.bool true)) cs ∧ (∀ b, b < w.heap.size → w'.heap[b]? = w.heap[b]?) ∧ w.heap.size ≤ w'.heap.size) (G (Frame.enter Try.prog 12 #[] .normal) (c :: cs)) w := by
  have e2 : stN (([0, 0] : List Int).length : Int) = 2 := stN2
  refine Runs.walk (fixed_in c cs w) ?_
  rintro _ w1 ⟨fr, rfl, O1, Z1, hz1, hb1, I1, hs1, hB⟩
  refine Runs.then (splay_any (some ⟨w.heap.size, 0, none⟩) [0, 0] 2 (Nat.le_refl _) (.inr ⟨_, rfl⟩) (by decide) (.slice (some ⟨w.heap.size + 3, 0, none⟩) 2 2) 99 (some ⟨w.heap.size + 3, 0, none⟩) (w.heap.size + 3) 0 2 2 (fun _ => rfl) (by decide) (fxOa (w.heap.size + 2) (w.heap.size + 1)) fxL fxL (fkOps 2) (some ⟨w.heap.size + 4, 0, none⟩) 4 fxSl (by decide) fr (c :: cs) w1 (fx_in hz1) I1 (fun j z hz => ⟨_, _, rfl, hs1 j z hz⟩) fun w' _ => firstOps_some (some ⟨w.heap.size + 3, 0, none⟩) 2 2 w' (Nat.le_refl _) (.inr ⟨_, rfl⟩)) ?_
  rintro _ w2 ⟨cells, H, rfl⟩
  have O2 := H.old
  have Z2 := H.size
  have hT := H.tr
  rw [e2] at hT
  have l1 := (Array.getElem?_eq_some_iff.1 hz1).1
  have l2 := (Array.getElem?_eq_some_iff.1 hb1).1
  refine Runs.walk (hB cells _ _ _ _ w2 hT (fx_run _ _ _ _) ((O2 _ l1).trans hz1) ((O2 _ l2).trans hb1)) ?_
  rintro _ w3 ⟨fr2, b, o, ac, b0, o0, tc0, v1, v2, rfl, O3, Z3, C3, hz3, I3, hs3, hB3⟩
  refine Runs.then (splay_any (some ⟨w.heap.size, 0, none⟩) [0, 0] 2 (Nat.le_refl _) (.inr ⟨_, rfl⟩) (by decide) (.slice (some ⟨w2.heap.size + 2, 0, none⟩) 2 2) 99 (some ⟨w2.heap.size + 2, 0, none⟩) (w2.heap.size + 2) 0 2 2 (fun _ => rfl) (by decide) (fxOa (w2.heap.size + 1) (w.heap.size + 1)) fxL fxL (fkOps 5) (some ⟨w2.heap.size + 3, 0, none⟩) 5 fySl (by decide) fr2 (c :: cs) w3 (fx_in hz3) I3 (fun j z hz => ⟨_, _, rfl, hs3 j z hz⟩) fun w' _ => firstOps_some (some ⟨w2.heap.size + 2, 0, none⟩) 2 2 w' (Nat.le_refl _) (.inr ⟨_, rfl⟩)) ?_
  rintro _ w4 ⟨cells4, H4, rfl⟩
  have O4 := H4.old
  have Z4 := H4.size
  have hT4 := H4.tr
  rw [e2] at hT4
  refine Runs.walk (hB3 cells4 _ _ _ _ w4 (C3.old O4) hT4 (fy_run _ _ _ _)) ?_
  rintro _ w5 ⟨rfl, O5, Z5⟩
  exact .now ⟨rfl, fun b hb => (O5 b (by omega)).trans ((O4 b (by omega)).trans ((O3 b (by omega)).trans ((O2 b (by omega)).trans (O1 b hb)))), by omega⟩
theorem spJ_zero (m k : Nat) : spJ (List.replicate m 0) k = sp0 := by
  funext i
  unfold spJ sp0
  split
  · rw [List.getD_eq_getElem?_getD, List.getElem?_replicate]
    split <;> rfl
  · rfl
theorem zeros_in {Z m : Nat} {w : World} (h : w.heap[Z]? = some (.cells (madeCells #[.int .i64 0] (m * 1)) 2)) : SlIn (some ⟨Z, 0, none⟩) (List.replicate m 0) w := fun j z hz => by
  rw [List.getElem?_replicate] at hz
  split at hz
  · rename_i hj
    cases hz
    exact ⟨by decide, Z, 0, rfl, by rw [Nat.zero_add]; exact (cell_of h j).trans (made1 m j (by omega))⟩
  · cases hz
theorem addS_mono {l : List OpV} (h : ∀ o ∈ l, 0 ≤ o.b) (a : Nat) : ∀ d : Nat, addS (l.take a) ≤ addS (l.take (a + d))
  | 0 => Int.le_refl _
  | d + 1 => by
    refine Int.le_trans (addS_mono h a d) ?_
    rw [← Nat.add_assoc]
    cases ho : l[a + d]? with
    | none =>
      have hl := List.getElem?_eq_none_iff.1 ho
      rw [List.take_of_length_le hl, List.take_of_length_le (by omega)]
      exact Int.le_refl _
    | some o =>
      rw [addS_take l _ o ho]
      have := h o (List.mem_of_getElem? ho)
      omega
theorem totAt_mono {ops : Nat → List OpV} {K : Nat} (O : BnO ops K) (l : List Nat) {p q : Nat} (h : p ≤ q) : totAt ops K l p ≤ totAt ops K l q := by
  unfold totAt totS
  refine sg_le fun i hi => ?_
  have hc : (l.take (p + 1)).count i ≤ (l.take (q + 1)).count i := by
    have e : l.take (p + 1) = (l.take (q + 1)).take (p + 1) := by rw [List.take_take, Nat.min_eq_left (by omega)]
    rw [e]
    exact (List.take_sublist _ _).count_le i
  obtain ⟨d, hd⟩ : ∃ d, (l.take (q + 1)).count i = (l.take (p + 1)).count i + d := ⟨_, (Nat.add_sub_cancel' hc).symm⟩
  show addS ((ops i).take ((l.take (p + 1)).count i)) ≤ addS ((ops i).take ((l.take (q + 1)).count i))
  rw [hd]
  exact addS_mono (fun o ho => (O.add i hi o ho).2.1) _ d
theorem mine_lt (K : Nat) (l : List Nat) {a b : Nat} (h : a < b) (hb : b < (mineR K l).length) : (mineR K l).getD a 0 < (mineR K l).getD b 0 := by
  have hp : (mineR K l).Pairwise (· < ·) := List.Pairwise.filter _ List.pairwise_lt_range
  rw [List.getD_eq_getElem?_getD, List.getD_eq_getElem?_getD, List.getElem?_eq_getElem (by omega), List.getElem?_eq_getElem hb]
  exact List.pairwise_iff_getElem.1 hp a b (by omega) hb h
theorem opsX_ok (xs : Nat → List Int) (K : Nat) (hK : K ≤ 63) : BnO (opsX xs K) K := by
  refine ⟨hK, fun i hi => ?_, fun i hi o ho => ?_, if_pos rfl⟩
  · rw [show opsX xs K i = adOps xs i from if_neg (by omega), adOps_len]
    omega
  · rw [show opsX xs K i = adOps xs i from if_neg (by omega)] at ho
    obtain ⟨x, _, rfl⟩ := List.mem_map.1 ho
    exact ⟨rfl, (adV_in x).1, (adV_in x).2⟩
theorem LsIn.old {lb lo K : Nat} {xa : Nat → Option Addr} {xc : Nat → Nat} {xs : Nat → List Int} {w w' : World} (L : LsIn lb lo K xa xc xs w) (h : ∀ b, b < w.heap.size → w'.heap[b]? = w.heap[b]?) : LsIn lb lo K xa xc xs w' := by
  refine ⟨fun i hi => ?_, fun i hi k x hx => ?_⟩
  · have c := L.hd i hi
    exact (World.cell?_of_block (a := ⟨lb, lo + i, none⟩) (h lb (cell_lt' c))).trans c
  · obtain ⟨b, o, e, c⟩ := L.num i hi k x hx
    exact ⟨b, o, e, (World.cell?_of_block (a := ⟨b, o + k, none⟩) (h b (cell_lt' c))).trans c⟩
theorem bo_whole (st : Int) (hst : 0 ≤ st) (la : Option Addr) (n0 lc lb lo : Nat) (hla : 0 < n0 → la = some ⟨lb, lo, none⟩) (xa : Nat → Option Addr) (xc : Nat → Nat) (xs : Nat → List Int) (sa : Option Addr) (sc : Nat) (sl : List Int) (W : World) (L : LsIn lb lo (min n0 63) xa xc xs W)
    (hsl : sl.length ≤ 17592186044416) (hs : ∀ (j : Nat) (z : Int), sl[j]? = some z → ∃ s so, sa = some ⟨s, so, none⟩ ∧ W.cell? ⟨s, so + j, none⟩ = some (.int .i64 z)) :
    Runs (fun g w' => Closing 5 6 (.bool true) g ∧ ∀ b, b < W.heap.size → w'.heap[b]? = W.heap[b]?) (G (Frame.enter Try.prog 5 #[.int .u8 st, .slice la n0 lc, .slice sa sl.length sc] .normal) []) W := by
  have t1 := Int.tmod_nonneg 8 hst
  have t2 := Int.tmod_lt_of_pos st (show (0 : Int) < 8 by decide)
  obtain ⟨m, hm⟩ : ∃ m : Nat, 1 + st.tmod 8 = m := ⟨(1 + st.tmod 8).toNat, by omega⟩
  have hm1 : 1 ≤ m := by omega
  have hm8 : m ≤ 8 := by omega
  have hmN : stN ((m : Nat) : Int) = m := by unfold stN; omega
  have hK : min n0 63 ≤ 63 := by omega
  refine Runs.walk (bo_in st m (min n0 63) xs (.slice la n0 lc) (.slice sa sl.length sc) hm hm1 hm8 hK W) ?_
  rintro _ _ ⟨fr, rfl, ⟨d, rfl⟩, hB⟩
  clear hm t1 t2
  refine Runs.then (fixed_run fr [] (W.at d)) ?_
  rintro _ w1 ⟨rfl, O1, Z1⟩
  have O1 : ∀ b, b < W.heap.size → w1.heap[b]? = W.heap[b]? := O1
  have Z1 : W.heap.size ≤ w1.heap.size := Z1
  refine Runs.walk (hB w1 (adders_w la lb lo n0 lc hla xa xc xs w1 (L.old O1))) ?_
  clear hB hla L
  generalize hKn : min n0 63 = K at *
  clear hKn
  rintro _ _ ⟨fr2, oa, oc, ra, rc, wy, wz, rfl, HF, dZ, oZ, sZ, ⟨d2, rfl⟩, hB2⟩
  have O := opsX_ok xs K hK
  have hlen : ∀ k, k < K + 1 → (opsX xs K k).length ≤ 65536 := fun k hk => by
    by_cases e : k = K
    · subst e
      rw [O.rd]
      decide
    · have := O.len k (by omega)
      omega
  obtain ⟨tb, hoa, I⟩ := HF.ops hlen
  obtain rfl := hoa (by omega)
  have hcap : K + 1 ≤ oc := by
    rcases HF.row.2 with ⟨e, h⟩ | ⟨g, cap, cur, e, h1, h2, h3, _⟩
    · cases e
    · injection e with _ _ e3
      omega
  have hZy := HF.size
  have oldZ : ∀ b, b < W.heap.size → (wz.at d2).heap[b]? = W.heap[b]? := fun b hb => (oZ b (by omega)).trans ((HF.old b (by omega)).trans (O1 b hb))
  have I2 : OpsIn tb 0 (K + 1) ra (fun k => (opsX xs K k).length) rc (opsX xs K) (wz.at d2) := I.old oZ
  have hs2 : ∀ (j : Nat) (z : Int), sl[j]? = some z → ∃ s so, sa = some ⟨s, so, none⟩ ∧ (wz.at d2).cell? ⟨s, so + j, none⟩ = some (.int .i64 z) := fun j z hz => by
    obtain ⟨s, so, e, hc⟩ := hs j z hz
    exact ⟨s, so, e, (World.cell?_of_block (a := ⟨s, so + j, none⟩) (oldZ s (cell_lt' hc))).trans hc⟩
  have dZ2 : (wz.at d2).heap[wy.heap.size]? = some (.cells (madeCells #[.int .i64 0] (m * 1)) 2) := dZ
  have e : stN ((List.replicate m (0 : Int)).length : Int) = m := by rw [List.length_replicate]; exact hmN
  have h := splay_any (some ⟨wy.heap.size, 0, none⟩) (List.replicate m 0) m (by rw [List.length_replicate]; omega) (.inr ⟨_, rfl⟩) (by rw [List.length_replicate]; omega) (.slice (some ⟨tb, 0, none⟩) (K + 1) oc) 1048576 (some ⟨tb, 0, none⟩) tb 0 oc (K + 1) (fun _ => rfl) (by omega) ra (fun k => (opsX xs K k).length) rc (opsX xs K) sa sc sl hsl fr2 [] (wz.at d2) (zeros_in dZ2) I2 hs2 fun w' _ => by
    have := firstOps_some (main := true) (V := fun _ => none) (some ⟨tb, 0, none⟩) (K + 1) oc w' hcap (.inr ⟨_, rfl⟩)
    rwa [Nat.min_eq_left (by omega)] at this
  rw [e, spJ_zero, List.length_replicate] at h
  refine Runs.then h ?_
  clear h
  rintro _ w3 ⟨cells, P3, rfl⟩
  have hbn := bn_all (cb := (wz.at d2).heap.size + 2) (rb := (wz.at d2).heap.size + 1) (m := m) (ra := some ⟨(wz.at d2).heap.size + 1, 0, none⟩) (rc := m - 1) O (by omega) hm8 sp0 (fun _ => rfl) sl
  have O3 : ∀ b, b < wz.heap.size → w3.heap[b]? = wz.heap[b]? := P3.old
  have Z3 : wz.heap.size ≤ w3.heap.size := P3.size
  have T3 := P3.tr.all
  clear P3
  generalize playO (spLa ((wz.at d2).heap.size + 2) ((wz.at d2).heap.size + 1) m (some ⟨(wz.at d2).heap.size + 1, 0, none⟩) (m - 1)) sp0 (opsX xs K) (K + 1) 1048576 sl = Fq at *
  obtain ⟨hst2, E⟩ := hbn
  obtain ⟨aa, ac, oa3, oc3, sa3, sc3, rfl, n1, n2, n3⟩ := T3
  obtain ⟨ab, ao, ta3, tc3, rfl, k1, k2⟩ := n3 K (by omega)
  obtain ⟨ev, N0, b1, N1, N2, hc, haz, y1, y2, y3, y4, y5⟩ := E.rd
  have k1 : w3.cell? ⟨ab, ao + K, none⟩ = some (.slice ta3 ((Fq.1.th K).ans).length tc3) := k1
  have k2 : AnsA ta3 ((Fq.1.th K).ans) w3 := k2
  rw [haz] at k1 k2
  rw [hst2]
  obtain ⟨rb, ro, rfl, a0, a0', _⟩ := k2 0 _ rfl
  obtain ⟨rb1, ro1, er1, a1, a1', _⟩ := k2 1 _ rfl
  cases er1
  obtain ⟨rb2, ro2, er2, a2, a2', _⟩ := k2 2 _ rfl
  cases er2
  have hev := y3.le (by omega : 0 < m)
  have hlE := E.len
  have hmemE := E.mem
  have hcntE := E.cnt
  generalize Fq.2 = l at *
  refine Runs.walk (hB2 ab ao ac oa3 sa3 l.length oc3 _ sc3 rb ro tc3 w3 k1) ?_
  rintro _ _ ⟨W4, ⟨d4, rfl⟩, ⟨u, rfl⟩, s4, dQ4, dA4, o4⟩
  have cell4 : ∀ {x y : Nat} {v : Value}, w3.cell? ⟨x, y, none⟩ = some v → x < w3.heap.size ∧ W4.cell? ⟨x, y, none⟩ = some v := fun {x y v} h => ⟨cell_lt' h, (World.cell?_of_block (a := ⟨x, y, none⟩) (o4 x (cell_lt' h))).trans h⟩
  have I3 : OpsIn tb 0 (K + 1) ra (fun k => (opsX xs K k).length) rc (opsX xs K) w3 := I2.old O3
  have hm0 : mineR K (l.take 0) = [] := rfl
  have B0 : BoI K (w3.heap.size + 1) (opsX xs K) l W4 W4 0 0 none 0 none 0 := by
    refine ⟨(sg_zero fun i _ => rfl).symm, ⟨_, dA4, fun i hi => ?_⟩, ⟨rfl, .inl ⟨rfl, rfl⟩⟩, ⟨rfl, .inl ⟨rfl, rfl⟩⟩, fun g hg => by simp [Value.ownBlock] at hg, fun _ _ _ => rfl, Nat.le_refl _⟩
    refine (made1 (K + 1) i (by omega)).trans ?_
    unfold cnB
    split <;> rfl
  have hlp := bo_loop (main := true) m w3.heap.size tb oc K (w3.heap.size + 1) oc3 oa3 (.slice (some ⟨ab, ao, none⟩) (K + 1) ac) (.slice sa3 (stL Fq.1.s m).length sc3) (opsX xs K) ra rc l hK (by omega) O hmemE hcntE [] W4 (by omega) dQ4 (by omega) (fun j i hj => by
      obtain ⟨b, o, e, h⟩ := n1 j (i : Nat) (by rw [List.getElem?_map, hj]; rfl)
      exact ⟨b, o, e, by have := (cell4 h).1; omega, (cell4 h).2⟩) (by have := (cell4 (I3.hd 0 (by omega))).1; omega) (fun i hi => (cell4 (I3.hd i (by omega))).2) (fun i hi j o ho => by
      obtain ⟨b, off, e, _, _, h, _⟩ := I3.ops i (by omega) j o ho
      exact ⟨b, off, e, by have := (cell4 h).1; omega, (cell4 h).2⟩) l.length 0 0 none 0 none 0 u W4 (by omega) B0
  refine Runs.walk (Walk.back hlp d4) ?_
  clear hlp B0
  rintro _ w5 ⟨tot, ta, tc, ma, mc, ⟨u5, rfl⟩, B⟩
  have hBm := B.mine
  rw [List.take_length] at hBm
  have hct : (mineR K l).length ≤ l.length := mine_le K l
  have hT : ∀ p, p < l.length → ∃ g, ta = some ⟨g, 0, none⟩ ∧ w5.cell? ⟨g, p, none⟩ = some (.int .i64 (totAt (opsX xs K) K l p)) := fun p hp => by
    obtain ⟨g, e, _, _, h⟩ := row_at B.tots (j := p) (x := .int .i64 (totAt (opsX xs K) K l p)) (by simp [hp])
    exact ⟨g, e, h⟩
  have hM : ∀ q, q < (mineR K l).length → ∃ g, ma = some ⟨g, 0, none⟩ ∧ w5.cell? ⟨g, q, none⟩ = some (.int .i64 (((mineR K l).getD q 0 : Nat) : Int)) := fun q hq => by
    obtain ⟨g, e, _, _, h⟩ := row_at hBm (j := q) (x := .int .i64 (((mineR K l).getD q 0 : Nat) : Int)) (by rw [List.getElem?_map, List.getElem?_eq_getElem hq, List.getD_eq_getElem?_getD, List.getElem?_eq_getElem hq]; rfl)
    exact ⟨g, e, h⟩
  obtain ⟨tg, rfl, _⟩ := hT 0 (by omega)
  obtain ⟨mg, rfl, _⟩ := hM 0 (by omega)
  have hT' : ∀ p, p < l.length → w5.cell? ⟨tg, p, none⟩ = some (.int .i64 (totAt (opsX xs K) K l p)) := fun p hp => by
    obtain ⟨g, e, h⟩ := hT p hp
    cases e
    exact h
  have hM' : ∀ q, q < (mineR K l).length → w5.cell? ⟨mg, q, none⟩ = some (.int .i64 (((mineR K l).getD q 0 : Nat) : Int)) := fun q hq => by
    obtain ⟨g, e, h⟩ := hM q hq
    cases e
    exact h
  have cell5 : ∀ {x y : Nat} {v : Value}, w3.cell? ⟨x, y, none⟩ = some v → w5.cell? ⟨x, y, none⟩ = some v := fun {x y v} h => by
    have h4 := cell4 h
    exact (World.cell?_of_block (a := ⟨x, y, none⟩) (B.old x (by omega) (by omega))).trans h4.2
  have dQ5 := (B.old w3.heap.size (by omega) (by omega)).trans dQ4
  have y45 : rdT (opsX xs K) K l (2 * m - 1) ≤ rdT (opsX xs K) K l (2 * m) := totAt_mono O l (Nat.le_of_lt (mine_lt K l (by omega) (by omega)))
  have g : ∀ q, q < (mineR K l).length → (mineR K l).getD q 0 < l.length := fun q hq => mine_getD hq
  refine Runs.walk (bo_fin m w3.heap.size tb (K + 1) oc K (w3.heap.size + 1) l.length tg tc mg mc (mineR K l).length ev ab ao ac rb ro tc3 oc3 _ _ _ _ _ _ (m - 1) (m + ev) ((mineR K l).length - 1) (2 * m - 1) (2 * m) (3 * m) (3 * m + 1) (4 * m) tot N0 N1 N2 _ _ _ _ _ _ b1 oa3 _ w5 dQ5 (by omega) (by omega) (cell5 k1) (cell5 a0') (cell5 a1) (cell5 a1') (cell5 a2') (hM' 0 (by omega)) (hM' _ (by omega)) (hM' _ (by omega)) (hM' _ (by omega)) (hM' _ (by omega)) (hM' _ (by omega))
    (hT' _ (g _ (by omega))) (hT' _ (g _ (by omega))) (hT' _ (g _ (by omega))) (hT' _ (g _ (by omega))) (hT' _ (g _ (by omega))) (hT' _ (g _ (by omega))) (g _ (by omega)) (g _ (by omega)) (g _ (by omega)) (g _ (by omega)) (g _ (by omega)) (g _ (by omega)) hm1 hm8 hc hev (by omega) rfl (by omega) (by omega) rfl rfl rfl rfl y1 y2 y4 ?_ ?_ u5) ?_
  · rw [hc]
    exact y5
  · rcases y3 with ⟨h1, h2, _⟩ | ⟨h1, h2, h3⟩
    · exact .inl ⟨h1, h2⟩
    · exact .inr ⟨h1, h2, h3, y45⟩
  rintro g _ ⟨hC, d6, rfl⟩
  exact .now ⟨hC, fun b hb => (B.old b (by omega) (by omega)).trans ((o4 b (by omega)).trans ((O3 b (by omega)).trans (oldZ b hb)))⟩
end Go.Proofs.Ytnnakajldnaldaa
