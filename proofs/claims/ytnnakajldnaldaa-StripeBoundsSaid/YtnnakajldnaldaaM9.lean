/- Part 9. -/
import Derived.Test.YtnnakajldnaldaaM8
set_option linter.unusedSimpArgs false
set_option linter.unusedVariables false
set_option maxHeartbeats 8000000
set_option maxRecDepth 100000
namespace Go.Proofs.Ytnnakajldnaldaa
open Go.Conc Go.RowKit Go.Relay
open Go.ConcN (upd upd_ne upd_same)
section
def cnB (K : Nat) (l : List Nat) (k i : Nat) : Nat := if i < K then (l.take k).count i else 0
structure BoI (K Ab : Nat) (ops : Nat → List OpV) (l : List Nat) (W w : World) (k : Nat) (tot : Int) (ta : Option Addr) (tc : Nat) (ma : Option Addr) (mc : Nat) : Prop where
  tot : tot = totS ops K (l.take k)
  cn : ∃ arr : Array Value, w.heap[Ab]? = some (.cells arr 3) ∧ ∀ i, i < K + 1 → arr[i]? = some (.int .i64 ((cnB K l k i : Nat) : Int))
  tots : w.ownsRow W.heap.size 2 1 (.slice ta k tc) k ((List.range k).map fun j => .int .i64 (totAt ops K l j))
  mine : w.ownsRow W.heap.size 3 1 (.slice ma (mineR K (l.take k)).length mc) (mineR K (l.take k)).length ((mineR K (l.take k)).map fun j => .int .i64 (j : Nat))
  apart : ∀ g, (Value.slice ta k tc).ownBlock = some g → (Value.slice ma (mineR K (l.take k)).length mc).ownBlock ≠ some g
  old : ∀ b, b < W.heap.size → b ≠ Ab → w.heap[b]? = W.heap[b]?
  size : W.heap.size ≤ w.heap.size
theorem take_snoc (l : List Nat) (k i : Nat) (h : l[k]? = some i) : l.take (k + 1) = l.take k ++ [i] := by
  obtain ⟨hk, e⟩ := List.getElem?_eq_some_iff.1 h
  rw [List.take_succ_eq_append_getElem hk, e]
theorem mine_le (K : Nat) (l : List Nat) : (mineR K l).length ≤ l.length := by
  unfold mineR
  refine Nat.le_trans (List.length_filter_le _ _) ?_
  simp
theorem range_snoc (k : Nat) (f : Nat → Value) : (List.range (k + 1)).map f = (List.range k).map f ++ [f k] := by simp [List.range_succ]
section
variable {main : Bool}
theorem bo_loop (m Q tb thc K Ab oc : Nat) (oa : Option Addr) (ansV stV : Value) (ops : Nat → List OpV) (ra : Nat → Option Addr) (rc : Nat → Nat) (l : List Nat) (hK : K ≤ 63) (hl : l.length ≤ 40000) (O : BnO ops K) (hmem : ∀ i ∈ l, i ≤ K) (hcnt : ∀ i, i < K → l.count i ≤ (ops i).length) (cs : List Frame) (W : World) (hAb : Ab < W.heap.size)
    (dQ : W.heap[Q]? = some (.cells (trC ansV (.slice oa l.length oc) stV false) 31)) (hQ : Q ≠ Ab) (hord : ∀ (j i : Nat), l[j]? = some i → ∃ b o, oa = some ⟨b, o, none⟩ ∧ b ≠ Ab ∧ W.cell? ⟨b, o + j, none⟩ = some (.int .i64 (i : Nat)))
    (htb : tb ≠ Ab) (hth : ∀ i, i < K → W.cell? ⟨tb, 0 + i, none⟩ = some (.slice (ra i) (ops i).length (rc i))) (hop : ∀ i, i < K → ∀ (j : Nat) (o : OpV), (ops i)[j]? = some o → ∃ b off, ra i = some ⟨b, off, none⟩ ∧ b ≠ Ab ∧ W.cell? ⟨b, off + j * 4 + 2, none⟩ = some (.int .i64 o.b)) :
    ∀ (r k : Nat) (tot : Int) (ta : Option Addr) (tc : Nat) (ma : Option Addr) (mc : Nat) (u : Nat → Value) (w : World), k + r = l.length → BoI K Ab ops l W w k tot ta tc ma mc →
    Walk Try.prog main (DR (fun _ => none)) (fun g w' => ∃ tot ta tc ma mc, (∃ u, g = G (hdBo m Q (.slice (some ⟨tb, 0, none⟩) (K + 1) thc) K (.slice (some ⟨Ab, 0, none⟩) (K + 1) (K + 1)) tot (.slice ta l.length tc) (.slice ma (mineR K l).length mc) l.length u) cs) ∧ BoI K Ab ops l W w' l.length tot ta tc ma mc)
      (G (hdBo m Q (.slice (some ⟨tb, 0, none⟩) (K + 1) thc) K (.slice (some ⟨Ab, 0, none⟩) (K + 1) (K + 1)) tot (.slice ta k tc) (.slice ma (mineR K (l.take k)).length mc) k u) cs) w := by
  intro r
  induction r with
  | zero =>
    intro k tot ta tc ma mc u w hk B
    have hk : k = l.length := hk
    subst hk
    have e : l.take l.length = l := List.take_length
    have B' := B
    rw [e]
    exact .stop fun d => ⟨tot, ta, tc, ma, mc, ⟨u, rfl⟩, ⟨B.tot, B.cn, B.tots, B.mine, B.apart, B.old, B.size⟩⟩
  | succ r ih =>
    intro k tot ta tc ma mc u w hk B
    have hkl : k < l.length := by omega
    have hget : l[k]? = some l[k] := List.getElem?_eq_getElem hkl
    have hiK := hmem _ (List.getElem_mem hkl)
    generalize l[k] = i at *
    obtain ⟨ob, oo, rfl, hobA, hoc⟩ := hord k i hget
    have hcell : ∀ {x y : Nat} {v : Value}, x ≠ Ab → W.cell? ⟨x, y, none⟩ = some v → w.cell? ⟨x, y, none⟩ = some v := fun {x y v} e h => (World.cell?_of_block (a := ⟨x, y, none⟩) (B.old x (cell_lt' h) e)).trans h
    have dQ' : w.heap[Q]? = some (.cells (trC ansV (.slice (some ⟨ob, oo, none⟩) l.length oc) stV false) 31) := (B.old Q (Array.getElem?_eq_some_iff.1 dQ).1 hQ).trans dQ
    have ho := hcell hobA hoc
    have htk := take_snoc l k i hget
    have htl : (l.take k).length = k := by rw [List.length_take]; omega
    have hml := mine_le K (l.take k)
    have htt := O.tot (l.take k)
    have ht := B.tot
    have hBs := B.size
    have hAt : totAt ops K l k = totS ops K (l.take (k + 1)) := rfl
    obtain ⟨arr, dA, hA⟩ := B.cn
    by_cases hi : i = K
    · subst hi
      refine (bo_rd m Q tb (i + 1) thc i Ab k l.length oc (mineR i (l.take k)).length mc (some ⟨ob, oo, none⟩) ta ma tc ob oo ansV stV tot W.heap.size _ _ (by omega) (by omega) hkl hl (by omega) rfl u cs w hBs dQ' B.tots B.mine ho B.apart).then ?_
      rintro _ w1 ⟨ta', tc', ma', mc', ⟨u', rfl⟩, rT, rM, ap, kA, kz, kk, fT, fM⟩
      have hm : mineR i (l.take (k + 1)) = mineR i (l.take k) ++ [k] := by rw [htk, mine_snoc, if_pos rfl, htl]
      have hml1 : (mineR i (l.take (k + 1))).length = (mineR i (l.take k)).length + 1 := by rw [hm]; simp
      have e1 : totS ops i (l.take (k + 1)) = totS ops i (l.take k) := by rw [htk, totS_far (Nat.le_refl _)]
      rw [← hml1]
      refine ih (k + 1) tot ta' tc' ma' mc' u' w1 (by omega) ⟨ht.trans e1.symm, ⟨arr, (kA Ab rfl (fun g hg he => by have := (B.tots.lt g hg).1; omega) (fun g hg he => by have := (B.mine.lt g hg).1; omega) (by omega)).trans dA, fun j hj => ?_⟩, ?_, ?_, ?_, fun b hb hbA => ?_, by omega⟩
      · refine (hA j hj).trans ?_
        unfold cnB
        by_cases hjK : j < i
        · rw [if_pos hjK, if_pos hjK, htk, count_snoc, if_neg (by omega)]
        · rw [if_neg hjK, if_neg hjK]
      · rw [range_snoc, hAt, e1, ← ht]
        exact rT
      · rw [hml1, hm, List.map_append]
        exact rM
      · rw [hml1]
        exact ap
      · exact (kk b (by omega) hbA (fun g hg he => by have := (B.tots.lt g hg).1; omega) (fun g hg he => by have := (B.mine.lt g hg).1; omega)).trans (B.old b hb hbA)
    · have hi' : i < K := by omega
      have hlen := O.len i hi'
      have hcl : (l.take k).count i < (ops i).length := by
        have h1 := hcnt i hi'
        have h2 : (l.take (k + 1)).count i ≤ l.count i := (List.take_sublist _ _).count_le i
        rw [htk, count_snoc, if_pos rfl] at h2
        omega
      have hoi : (ops i)[(l.take k).count i]? = some (ops i)[(l.take k).count i] := List.getElem?_eq_getElem hcl
      have hadd := O.add i hi' _ (List.getElem_mem hcl)
      generalize (ops i)[(l.take k).count i] = o at *
      obtain ⟨b, off, hra, hbA, hov⟩ := hop i hi' _ o hoi
      have ai := hA i (by omega)
      have ecn : cnB K l k i = (l.take k).count i := if_pos hi'
      rw [ecn] at ai
      have e1 : totS ops K (l.take (k + 1)) = totS ops K (l.take k) + o.b := by rw [htk]; exact totS_add hi' hoi
      have htt1 := O.tot (l.take (k + 1))
      have hm : mineR K (l.take (k + 1)) = mineR K (l.take k) := by rw [htk, mine_snoc, if_neg hi, List.append_nil]
      refine (bo_add m Q tb (K + 1) thc K Ab k l.length oc (mineR K (l.take k)).length mc (some ⟨ob, oo, none⟩) ta ma tc ob oo ansV stV tot W.heap.size _ _ (by omega) (by omega) hkl hl (by omega) rfl u cs w hBs dQ' B.tots B.mine i ((l.take k).count i) (ops i).length (rc i) b off (ra i) o.b arr hi' hcl hlen hra (by omega) (by omega) hadd.2.1 hadd.2.2 ho dA ai (hcell htb (hth i hi')) (hcell hbA hov) hAb B.apart).then ?_
      rintro _ w1 ⟨ta', tc', ⟨u', rfl⟩, rT, rM, ap, dA', kz, kk, fT, fM⟩
      rw [← hm]
      refine ih (k + 1) (tot + o.b) ta' tc' ma mc u' w1 (by omega) ⟨by rw [e1, ht], ⟨_, dA', fun j hj => ?_⟩, ?_, ?_, ?_, fun b hb hbA => ?_, by omega⟩
      · by_cases hji : j = i
        · subst hji
          have hlt := (Array.getElem?_eq_some_iff.1 ai).1
          rw [Array.getElem?_setIfInBounds_self_of_lt hlt]
          unfold cnB
          rw [if_pos hi', htk, count_snoc, if_pos rfl]
        · rw [Array.getElem?_setIfInBounds_ne (fun e => hji e.symm)]
          refine (hA j hj).trans ?_
          unfold cnB
          by_cases hjK : j < K
          · rw [if_pos hjK, if_pos hjK, htk, count_snoc, if_neg hji]
          · rw [if_neg hjK, if_neg hjK]
      · rw [range_snoc, hAt, e1, ← ht]
        exact rT
      · rw [hm]
        exact rM
      · rw [hm]
        exact ap
      · exact (kk b (by omega) hbA (fun g hg he => by have := (B.tots.lt g hg).1; omega) (fun g hg he => by have := (B.mine.lt g hg).1; omega)).trans (B.old b hb hbA)
end
end
end Go.Proofs.Ytnnakajldnaldaa
