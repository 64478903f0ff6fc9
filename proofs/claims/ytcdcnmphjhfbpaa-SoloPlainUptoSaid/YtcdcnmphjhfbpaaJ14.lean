/- Part 14. -/
import Derived.Test.YtcdcnmphjhfbpaaJ10
import Derived.Test.YtcdcnmphjhfbpaaJ12
import Derived.Test.YtcdcnmphjhfbpaaJ13
set_option linter.unusedSimpArgs false
set_option linter.unusedVariables false
set_option linter.unusedVariables false
set_option maxHeartbeats 8000000
set_option maxRecDepth 100000
namespace Go.Proofs.Ytcdcnmphjhfbpaa
open Go.Conc Go.RowKit Go.Relay
open Go.ConcN (upd upd_ne upd_same)
def rgLay (n : Nat) (s : Rg) (q v : Int) : Rg := rgPutS (rgPutV (rgPutS s (ixR n q) (laR n q - 1)) (ixR n q) v) (ixR n q) (laR n q)
section
def RgM (n : Nat) (all : List Int) (g : Rg) : Prop := ∀ (q : Nat) (v : Int), all[q]? = some v → all.length ≤ q + n → g.st (q % n) = 2 * ((q / n : Nat) : Int) ∧ g.va (q % n) = v
theorem ixR_of (n q : Nat) : ixR n (q : Int) = q % n := by
  unfold ixR
  rw [← Int.natCast_emod, Int.toNat_natCast]
theorem laR_of (n q : Nat) : laR n (q : Int) = 2 * ((q / n : Nat) : Int) := by
  unfold laR
  rw [← Int.natCast_ediv]
theorem mod_ne {n q x : Nat} (h1 : q < x) (h2 : x < q + n) : q % n ≠ x % n := fun e => by
  have h3 := Nat.div_add_mod q n
  have h4 := Nat.div_add_mod x n
  have hn : 0 < n := by omega
  have h5 : n * (x / n) = n * (q / n) + (x - q) := by omega
  have h6 : q / n ≤ x / n := Nat.div_le_div_right (by omega)
  obtain ⟨d, hd⟩ := Nat.exists_eq_add_of_le h6
  rw [hd, Nat.mul_add] at h5
  have h7 : n * d = x - q := by omega
  cases d with
  | zero => simp at h7; omega
  | succ d => rw [Nat.mul_succ] at h7; omega
theorem RgM.lay {n : Nat} {all : List Int} {g : Rg} (h : RgM n all g) (v : Int) : RgM n (all ++ [v]) (rgLay n g (all.length : Nat) v) := by
  intro q y hq hn
  unfold rgLay rgPutS rgPutV
  rw [ixR_of, laR_of]
  simp only
  rw [List.length_append, List.length_singleton] at hn
  by_cases e : q = all.length
  · subst e
    rw [List.getElem?_append_right (Nat.le_refl _), Nat.sub_self] at hq
    have hq : v = y := by simpa using hq
    rw [upd_same, upd_same]
    exact ⟨rfl, hq⟩
  · have hlt : q < all.length := by
      have := (List.getElem?_eq_some_iff.1 hq).1
      rw [List.length_append, List.length_singleton] at this
      omega
    rw [List.getElem?_append_left hlt] at hq
    have hne : q % n ≠ all.length % n := mod_ne hlt (by omega)
    rw [upd_ne _ _ hne, upd_ne _ _ hne, upd_ne _ _ hne]
    exact h q y hq (by omega)
structure SoM (n m : Nat) (all : List Int) (pt : Nat → Nat) (s : So) : Prop where
  nx : s.nx = all.length
  pb : s.pb = (all.length : Int) - 1
  cur : s.cur = (all.length : Int) - 1
  nm : ∀ k, k < m → s.nm k = (pt k : Int) - 1
  pl : ∀ k, k < m → s.pl k = (pt k : Int) - 1
  le : ∀ k, k < m → pt k ≤ all.length
  near : ∀ k, k < m → all.length ≤ pt k + n
  ca : ∀ k, k < m → s.ca ≤ (pt k : Int) - 1
  rg : RgM n all s.rg
section
variable {rb sb n ob qb m : Nat}
theorem least_run (s : So) (f c : Int) (t : Option (Nat × (Nat → Int))) : ∀ (r k : Nat) (z : Int), k + r + 1 = m → ∃ z', z' ≤ z ∧ (∀ i, k ≤ i → i < m → z' ≤ s.nm i) ∧ (z' = z ∨ ∃ i, k ≤ i ∧ i < m ∧ z' = s.nm i) ∧ ∀ j, runN (soLa rb sb n ob qb m) (r + 1 + j) (s, .inr (.cl k z f c t)) = runN (soLa rb sb n ob qb m) j (soGot n s z' f c t) := by
  intro r
  induction r with
  | zero =>
    intro k z hk
    refine ⟨min z (s.nm k), by omega, fun i h1 h2 => ?_, ?_, fun j => ?_⟩
    · have : i = k := by omega
      subst this
      omega
    · by_cases h : z ≤ s.nm k
      · exact .inl (by omega)
      · exact .inr ⟨k, Nat.le_refl _, by omega, by omega⟩
    · rw [show 0 + 1 + j = j + 1 by omega]
      show runN (soLa rb sb n ob qb m) j (soAct n m s (.cl k z f c t)) = _
      unfold soAct
      dsimp only
      rw [if_neg (by omega)]
  | succ r ih =>
    intro k z hk
    obtain ⟨z', h1, h2, h3, h4⟩ := ih (k + 1) (min z (s.nm k)) (by omega)
    refine ⟨z', by omega, fun i hi hm => ?_, ?_, fun j => ?_⟩
    · by_cases e : i = k
      · subst e; omega
      · exact h2 i (by omega) hm
    · rcases h3 with h3 | ⟨i, hi, hm, h3⟩
      · by_cases h : z ≤ s.nm k
        · exact .inl (by omega)
        · exact .inr ⟨k, Nat.le_refl _, by omega, by omega⟩
      · exact .inr ⟨i, by omega, hm, h3⟩
    · rw [show r + 1 + 1 + j = (r + 1 + j) + 1 by omega]
      show runN (soLa rb sb n ob qb m) (r + 1 + j) (soAct n m s (.cl k z f c t)) = _
      unfold soAct
      dsimp only
      rw [if_pos (by omega)]
      exact h4 j
def soRg (s : So) (g : Rg) : So := { s with rg := g }
theorem lay_run (f c : Nat) (vs : List Int) (hc : vs.length = c) (xs : Nat → Int) (hxs : ∀ i, i < vs.length → vs[i]? = some (xs i)) (all : List Int) : ∀ (r i : Nat) (s : So), i + r = c → s.pb < f → (f : Int) + c ≤ s.nx → 1 ≤ c → all.length = f → RgM n (all ++ vs.take i) s.rg →
    ∃ g, RgM n (all ++ vs) g ∧ ∀ j, runN (soLa rb sb n ob qb m) (3 * r + 1 + j) (s, soW s f c xs r) = runN (soLa rb sb n ob qb m) j (soPb (soCur (soRg s g) (f + c - 1)) (f + c - 1), .inl ⟨true, f, []⟩) := by
  intro r
  induction r with
  | zero =>
    intro i s hi h1 h2 h3 h4 h5
    have hi : i = c := hi
    rw [List.take_of_length_le (by omega)] at h5
    refine ⟨s.rg, h5, fun j => ?_⟩
    have ho : soOpen s ((f : Int) + c - 1) := ⟨by omega, by omega⟩
    have e : soW s f c xs 0 = .inr (.pu ((f : Int) + c - 1) ⟨true, f, []⟩) := if_pos ho
    rw [e, show 3 * 0 + 1 + j = j + 1 by omega]
    rfl
  | succ r ih =>
    intro i s hi h1 h2 h3 h4 h5
    have hil : i < vs.length := by omega
    have ho : soOpen s ((f : Int) + ((c - (r + 1) : Nat) : Int)) := ⟨by omega, by omega⟩
    have e : soW s f c xs (r + 1) = .inr (.p1 ((f : Int) + ((c - (r + 1) : Nat) : Int)) (xs (c - (r + 1))) (some ⟨f, c, xs, r⟩)) := if_pos ho
    have ei : c - (r + 1) = i := by omega
    rw [ei] at e
    have hlay : RgM n (all ++ vs.take (i + 1)) (rgLay n s.rg ((f : Int) + (i : Nat)) (xs i)) := by
      have h6 := h5.lay (xs i)
      have e1 : (all ++ vs.take i).length = f + i := by rw [List.length_append, List.length_take]; omega
      rw [e1] at h6
      have e2 : all ++ vs.take i ++ [xs i] = all ++ vs.take (i + 1) := by
        rw [List.append_assoc, List.take_add_one, hxs i hil]
        rfl
      rw [e2] at h6
      rw [show ((f : Int) + (i : Nat)) = ((f + i : Nat) : Int) by omega]
      exact h6
    obtain ⟨g, k1, k2⟩ := ih (i + 1) (soRg s (rgLay n s.rg ((f : Int) + (i : Nat)) (xs i))) (by omega) h1 h2 h3 h4 hlay
    refine ⟨g, k1, fun j => ?_⟩
    rw [e, show 3 * (r + 1) + 1 + j = (3 * r + 1 + j) + 1 + 1 + 1 by omega]
    exact k2 j
end
end
section
section
variable {rb sb n ob qb m : Nat} {all : List Int} {pt : Nat → Nat} {s : So}
theorem wrun_range (c : Nat) (xs : Nat → Int) (hc : c < 1 ∨ n < c) : runN (soLa rb sb n ob qb m) 0 (soClaim n m s c (some (c, xs))) = some (s, ⟨false, 1, []⟩) := by
  unfold soClaim
  rw [if_pos (by omega)]
  rfl
theorem SoM.cached (M : SoM n m all pt s) {z : Int} (hz : ∀ k, k < m → z ≤ s.nm k) : SoM n m all pt (soCa s z) :=
  ⟨M.nx, M.pb, M.cur, M.nm, M.pl, M.le, M.near, fun k hk => Int.le_trans (hz k hk) (Int.le_of_eq (M.nm k hk)), M.rg⟩
theorem wrun_take (M : SoM n m all pt s) (vs : List Int) (xs : Nat → Int) (hxs : ∀ i, i < vs.length → vs[i]? = some (xs i)) (h1 : 1 ≤ vs.length) (hroom : ∀ k, k < m → all.length + vs.length ≤ pt k + n) :
    ∃ s', SoM n m (all ++ vs) pt s' ∧ ∀ j, runN (soLa rb sb n ob qb m) (3 * vs.length + 1 + j) (soTake s all.length vs.length (some (vs.length, xs))) = some (s', ⟨true, all.length, []⟩) := by
  obtain ⟨g, k1, k2⟩ := lay_run (rb := rb) (sb := sb) (n := n) (ob := ob) (qb := qb) (m := m) all.length vs.length vs rfl xs hxs all vs.length 0 (soNx s ((all.length : Int) + vs.length)) (Nat.zero_add _) (by show s.pb < _; have := M.pb; omega) (Int.le_refl _) h1 rfl (by rw [List.take_zero, List.append_nil]; exact M.rg)
  refine ⟨soPb (soCur (soRg (soNx s ((all.length : Int) + vs.length)) g) ((all.length : Int) + vs.length - 1)) ((all.length : Int) + vs.length - 1), ⟨?_, ?_, ?_, M.nm, M.pl, fun k hk => ?_, fun k hk => ?_, M.ca, k1⟩, fun j => (k2 j).trans (runN_inl _ _ _ _)⟩
  · show (all.length : Int) + vs.length = ((all ++ vs).length : Nat)
    rw [List.length_append]; omega
  · show (all.length : Int) + vs.length - 1 = ((all ++ vs).length : Nat) - 1
    rw [List.length_append]; omega
  · show (all.length : Int) + vs.length - 1 = ((all ++ vs).length : Nat) - 1
    rw [List.length_append]; omega
  · have := M.le k hk; rw [List.length_append]; omega
  · have := hroom k hk; rw [List.length_append]; omega
theorem wrun_find (M : SoM n m all pt s) (vs : List Int) (xs : Nat → Int) (hxs : ∀ i, i < vs.length → vs[i]? = some (xs i)) (h1 : 1 ≤ vs.length) (h2 : vs.length ≤ n) (hb : (all.length : Int) + vs.length ≤ 4611686018427387904) :
    ((∀ k, k < m → all.length + vs.length ≤ pt k + n) → ∃ N s', SoM n m (all ++ vs) pt s' ∧ runN (soLa rb sb n ob qb m) N (soClaim n m s vs.length (some (vs.length, xs))) = some (s', ⟨true, all.length, []⟩)) ∧
    ((∃ k, k < m ∧ pt k + n < all.length + vs.length) → ∃ N s', SoM n m all pt s' ∧ runN (soLa rb sb n ob qb m) N (soClaim n m s vs.length (some (vs.length, xs))) = some (s', ⟨false, 3, []⟩)) := by
  have hnx := M.nx
  have e0 : soClaim n m s vs.length (some (vs.length, xs)) = soFind n m s all.length vs.length (some (vs.length, xs)) := by
    unfold soClaim
    rw [if_neg (by omega), hnx, if_neg (by omega)]
  rw [e0]
  unfold soFind
  constructor
  · intro hroom
    by_cases hca : s.ca < (all.length : Int) + vs.length - 1 - n
    · rw [if_pos hca]
      unfold soLst
      by_cases hm : m = 0
      · subst hm
        rw [if_pos rfl]
        unfold soGot
        rw [if_neg (by omega)]
        obtain ⟨s', k1, k2⟩ := wrun_take (rb := rb) (sb := sb) (ob := ob) (qb := qb) (M.cached (z := 4611686018427387904) fun k hk => absurd hk (Nat.not_lt_zero k)) vs xs hxs h1 hroom
        exact ⟨_, s', k1, k2 0⟩
      · rw [if_neg hm]
        obtain ⟨z, z1, z2, z3, z4⟩ := least_run (rb := rb) (sb := sb) (n := n) (ob := ob) (qb := qb) (m := m) s all.length vs.length (some (vs.length, xs)) (m - 1) 0 4611686018427387904 (by omega)
        obtain ⟨s', k1, k2⟩ := wrun_take (rb := rb) (sb := sb) (ob := ob) (qb := qb) (M.cached (z := z) fun k hk => z2 k (Nat.zero_le _) hk) vs xs hxs h1 hroom
        refine ⟨m - 1 + 1 + (3 * vs.length + 1 + 0), s', k1, (z4 _).trans ?_⟩
        have hz : ¬ z < (all.length : Int) + vs.length - 1 - n := by
          rcases z3 with z3 | ⟨i, _, hi, z3⟩
          · omega
          · have h3 := hroom i hi
            have h4 := M.nm i hi
            omega
        unfold soGot
        rw [if_neg hz]
        exact k2 0
    · rw [if_neg hca]
      obtain ⟨s', k1, k2⟩ := wrun_take (rb := rb) (sb := sb) (ob := ob) (qb := qb) M vs xs hxs h1 hroom
      exact ⟨_, s', k1, k2 0⟩
  · rintro ⟨k, hk, hfull⟩
    have hc := M.ca k hk
    rw [if_pos (by omega)]
    unfold soLst
    rw [if_neg (by omega)]
    obtain ⟨z, z1, z2, z3, z4⟩ := least_run (rb := rb) (sb := sb) (n := n) (ob := ob) (qb := qb) (m := m) s all.length vs.length (some (vs.length, xs)) (m - 1) 0 4611686018427387904 (by omega)
    refine ⟨m - 1 + 1 + 0, soCa s z, M.cached fun i hi => z2 i (Nat.zero_le _) hi, (z4 _).trans ?_⟩
    have h3 := z2 k (Nat.zero_le _) hk
    have h4 := M.nm k hk
    unfold soGot
    rw [if_pos (by omega)]
    rfl
end
end
section
section
variable {rb sb n ob qb m : Nat} {all : List Int} {pt : Nat → Nat} {s : So}
theorem gat_run (hg : RgM n all s.rg) (k a M : Nat) (hM : a + M ≤ all.length) (hn : all.length ≤ a + n) (hb : all.length < 4611686018427387904) : ∀ (r i : Nat), i + r + 1 = M →
    ∀ j, runN (soLa rb sb n ob qb m) (3 * (r + 1) + j) (s, .inr (.b1 k ((a : Int) - 1) ((a + i : Nat) : Int) M ((all.drop a).take i))) = runN (soLa rb sb n ob qb m) j (s, .inr (.b4 k ((a : Int) - 1 + M) ((all.drop a).take M))) := by
  intro r
  induction r with
  | zero =>
    intro i hi j
    have hlt : a + i < all.length := by omega
    obtain ⟨h1, h2⟩ := hg (a + i) all[a + i] (List.getElem?_eq_getElem hlt) (by omega)
    have e1 : s.rg.st (ixR n ((a + i : Nat) : Int)) = laR n ((a + i : Nat) : Int) := by rw [ixR_of, laR_of]; exact h1
    have e2 : s.rg.va (ixR n ((a + i : Nat) : Int)) = all[a + i] := by rw [ixR_of]; exact h2
    have el : ((all.drop a).take i).length = i := by rw [List.length_take, List.length_drop]; omega
    have e3 : (all.drop a).take i ++ [all[a + i]] = (all.drop a).take M := by
      rw [show M = i + 1 by omega, List.take_add_one, List.getElem?_drop, List.getElem?_eq_getElem hlt]
      rfl
    have s1 : soAct n m s (.b1 k ((a : Int) - 1) ((a + i : Nat) : Int) M ((all.drop a).take i)) = (s, .inr (.b2 k ((a : Int) - 1) ((a + i : Nat) : Int) M ((all.drop a).take i))) := by
      unfold soAct
      dsimp only
      rw [if_neg (by omega), if_neg (by omega)]
    have s3 : soAct n m s (.b3 k ((a : Int) - 1) ((a + i : Nat) : Int) M ((all.drop a).take i) (s.rg.va (ixR n ((a + i : Nat) : Int)))) = (s, .inr (.b4 k ((a : Int) - 1 + M) ((all.drop a).take M))) := by
      unfold soAct
      dsimp only
      rw [if_pos e1, e2, e3, el, if_neg (by omega)]
      have e4 : ((all.drop a).take M).length = M := by rw [List.length_take, List.length_drop]; omega
      rw [e4]
    rw [show 3 * (0 + 1) + j = j + 1 + 1 + 1 by omega]
    show runN (soLa rb sb n ob qb m) (j + 1 + 1) (soAct n m s (.b1 k ((a : Int) - 1) ((a + i : Nat) : Int) M ((all.drop a).take i))) = _
    rw [s1]
    show runN (soLa rb sb n ob qb m) j (soAct n m s (.b3 k ((a : Int) - 1) ((a + i : Nat) : Int) M ((all.drop a).take i) (s.rg.va (ixR n ((a + i : Nat) : Int))))) = _
    rw [s3]
    rfl
  | succ r ih =>
    intro i hi j
    have hlt : a + i < all.length := by omega
    obtain ⟨h1, h2⟩ := hg (a + i) all[a + i] (List.getElem?_eq_getElem hlt) (by omega)
    have e1 : s.rg.st (ixR n ((a + i : Nat) : Int)) = laR n ((a + i : Nat) : Int) := by rw [ixR_of, laR_of]; exact h1
    have e2 : s.rg.va (ixR n ((a + i : Nat) : Int)) = all[a + i] := by rw [ixR_of]; exact h2
    have el : ((all.drop a).take i).length = i := by rw [List.length_take, List.length_drop]; omega
    have e3 : (all.drop a).take i ++ [all[a + i]] = (all.drop a).take (i + 1) := by
      rw [List.take_add_one, List.getElem?_drop, List.getElem?_eq_getElem hlt]
      rfl
    have e5 : ((a + i : Nat) : Int) + 1 = ((a + (i + 1) : Nat) : Int) := by omega
    have s1 : soAct n m s (.b1 k ((a : Int) - 1) ((a + i : Nat) : Int) M ((all.drop a).take i)) = (s, .inr (.b2 k ((a : Int) - 1) ((a + i : Nat) : Int) M ((all.drop a).take i))) := by
      unfold soAct
      dsimp only
      rw [if_neg (by omega), if_neg (by omega)]
    have s3 : soAct n m s (.b3 k ((a : Int) - 1) ((a + i : Nat) : Int) M ((all.drop a).take i) (s.rg.va (ixR n ((a + i : Nat) : Int)))) = (s, .inr (.b1 k ((a : Int) - 1) ((a + (i + 1) : Nat) : Int) M ((all.drop a).take (i + 1)))) := by
      unfold soAct
      dsimp only
      rw [if_pos e1, e2, e3, el, if_pos ⟨by omega, ⟨by omega, by omega⟩⟩, e5]
    rw [show 3 * (r + 1 + 1) + j = (3 * (r + 1) + j) + 1 + 1 + 1 by omega]
    show runN (soLa rb sb n ob qb m) (3 * (r + 1) + j + 1 + 1) (soAct n m s (.b1 k ((a : Int) - 1) ((a + i : Nat) : Int) M ((all.drop a).take i))) = _
    rw [s1]
    show runN (soLa rb sb n ob qb m) (3 * (r + 1) + j) (soAct n m s (.b3 k ((a : Int) - 1) ((a + i : Nat) : Int) M ((all.drop a).take i) (s.rg.va (ixR n ((a + i : Nat) : Int))))) = _
    rw [s3]
    exact ih (i + 1) (by omega) j
theorem brun_none (M : SoM n m all pt s) (k : Nat) (hk : k < m) (mo : Int) (h : pt k = all.length) : runN (soLa rb sb n ob qb m) 1 (s, .inr (.b0 k (s.pl k) mo)) = some (s, ⟨false, 4, []⟩) := by
  have h1 := M.pl k hk
  have h2 := M.cur
  have e : soAct n m s (.b0 k (s.pl k) mo) = (s, .inl ⟨false, 4, []⟩) := by
    unfold soAct
    dsimp only
    unfold soBat
    rw [if_pos (by omega)]
  show runN (soLa rb sb n ob qb m) 0 (soAct n m s (.b0 k (s.pl k) mo)) = _
  rw [e]
  rfl
theorem brun_some (M : SoM n m all pt s) (k : Nat) (hk : k < m) (mo : Int) (h : pt k < all.length) (hb : all.length < 4611686018427387904) (j : Nat) (hj : (j : Int) = min ((all.length : Int) - pt k) (max mo 1)) :
    ∃ N s', SoM n m all (upd pt k (pt k + j)) s' ∧ runN (soLa rb sb n ob qb m) N (s, .inr (.b0 k (s.pl k) mo)) = some (s', ⟨true, 0, (all.drop (pt k)).take j⟩) := by
  have h1 := M.pl k hk
  have h2 := M.cur
  have h3 := M.near k hk
  have h4 := M.le k hk
  have hj1 : 1 ≤ j := by omega
  have e : soAct n m s (.b0 k (s.pl k) mo) = (s, .inr (.b1 k ((pt k : Int) - 1) ((pt k + 0 : Nat) : Int) j ((all.drop (pt k)).take 0))) := by
    unfold soAct
    dsimp only
    unfold soBat
    have e1 : min (min (s.cur - s.pl k) (max mo 1)) (n : Int) = j := by omega
    rw [if_neg (by omega), e1, h1, List.take_zero, Nat.add_zero, show (pt k : Int) - 1 + 1 = ((pt k : Nat) : Int) by omega]
  have hg := gat_run (rb := rb) (sb := sb) (ob := ob) (qb := qb) (m := m) M.rg k (pt k) j (by omega) h3 hb (j - 1) 0 (by omega) 1
  have hfin : SoM n m all (upd pt k (pt k + j)) (soFin s k ((pt k : Int) - 1 + j)) := by
    refine ⟨M.nx, M.pb, M.cur, fun i hi => ?_, fun i hi => ?_, fun i hi => ?_, fun i hi => ?_, fun i hi => ?_, M.rg⟩
    · show upd s.nm k _ i = _
      by_cases e : i = k
      · subst e; rw [upd_same, upd_same]; omega
      · rw [upd_ne _ _ e, upd_ne _ _ e]; exact M.nm i hi
    · show upd s.pl k _ i = _
      by_cases e : i = k
      · subst e; rw [upd_same, upd_same]; omega
      · rw [upd_ne _ _ e, upd_ne _ _ e]; exact M.pl i hi
    · by_cases e : i = k
      · subst e; rw [upd_same]; omega
      · rw [upd_ne _ _ e]; exact M.le i hi
    · by_cases e : i = k
      · subst e; rw [upd_same]; omega
      · rw [upd_ne _ _ e]; exact M.near i hi
    · by_cases e : i = k
      · subst e
        rw [upd_same]
        have h5 : s.ca ≤ (pt i : Int) - 1 := M.ca i hi
        show s.ca ≤ _
        omega
      · rw [upd_ne _ _ e]; exact M.ca i hi
  refine ⟨3 * (j - 1 + 1) + 1 + 1, _, hfin, ?_⟩
  show runN (soLa rb sb n ob qb m) (3 * (j - 1 + 1) + 1) (soAct n m s (.b0 k (s.pl k) mo)) = _
  exact (congrArg (runN (soLa rb sb n ob qb m) (3 * (j - 1 + 1) + 1)) e).trans (hg.trans rfl)
end
end
section
theorem undSolo : Try.prog.underlying 76 = some (.pointer 167) := by kernel_rfl
theorem undRdr : Try.prog.underlying 171 = some (.pointer 169) := by kernel_rfl
noncomputable def reg39_0 := rg Try.f39.body [0]
noncomputable def reg39_1 := rg Try.f39.body [1, 0, 0]
noncomputable def reg39_2 := rg Try.f39.body [1, 0, 1, 0, 0]
noncomputable def reg39_3 := rg Try.f39.body [1, 1, 0]
theorem z39 : List.range reg39_0.size = [0] ∧ List.range reg39_1.size = [0, 1] ∧ List.range reg39_2.size = [0] ∧ List.range reg39_3.size = [0, 1, 2, 3, 4, 5] := by refine ⟨?_, ?_, ?_, ?_⟩ <;> kernel_rfl
theorem code39_is : Try.f39.body = some (.seq (.region 0 reg39_0 false) (.seq (.seq (.region 1 reg39_1 false) (.cond (.tmp 4 ) (.seq (.region 2 reg39_2 false) (.ret)) (.skip))) (.seq (.region 3 reg39_3 false) (.ret)))) := by kernel_rfl
noncomputable def reg40_0 := rg Try.f40.body [0]
noncomputable def reg40_1 := rg Try.f40.body [1, 0, 0]
noncomputable def reg40_2 := rg Try.f40.body [1, 0, 1, 0, 0]
noncomputable def reg40_3 := rg Try.f40.body [1, 1, 0]
theorem z40 : List.range reg40_0.size = [0] ∧ List.range reg40_1.size = [0, 1] ∧ List.range reg40_2.size = [0] ∧ List.range reg40_3.size = [0, 1, 2, 3, 4, 5] := by refine ⟨?_, ?_, ?_, ?_⟩ <;> kernel_rfl
theorem code40_is : Try.f40.body = some (.seq (.region 0 reg40_0 false) (.seq (.seq (.region 1 reg40_1 false) (.cond (.tmp 4 ) (.seq (.region 2 reg40_2 false) (.ret)) (.skip))) (.seq (.region 3 reg40_3 false) (.ret)))) := by kernel_rfl
noncomputable def reg132_0 := rg Try.f132.body [0]
noncomputable def reg132_1 := rg Try.f132.body [1, 0]
theorem z132 : List.range reg132_0.size = [0] ∧ List.range reg132_1.size = [0, 1, 2, 3, 4, 5, 6, 7, 8, 9, 10, 11, 12, 13, 14, 15, 16, 17, 18, 19, 20] := by refine ⟨?_, ?_⟩ <;> kernel_rfl
theorem code132_is : Try.f132.body = some (.seq (.region 0 reg132_0 false) (.seq (.region 1 reg132_1 false) (.ret))) := by kernel_rfl
noncomputable def reg99_0 := rg Try.f99.body [0]
noncomputable def reg99_1 := rg Try.f99.body [1, 0, 0]
noncomputable def reg99_2 := rg Try.f99.body [1, 0, 1, 0, 0]
noncomputable def reg99_3 := rg Try.f99.body [1, 1, 0]
theorem z99 : List.range reg99_0.size = [0] ∧ List.range reg99_1.size = [0, 1, 2, 3, 4, 5, 6, 7] ∧ List.range reg99_2.size = [0] ∧ List.range reg99_3.size = [0, 1, 2, 3, 4, 5, 6] := by refine ⟨?_, ?_, ?_, ?_⟩ <;> kernel_rfl
theorem code99_is : Try.f99.body = some (.seq (.region 0 reg99_0 false) (.seq (.seq (.region 1 reg99_1 false) (.cond (.tmp 12 ) (.seq (.region 2 reg99_2 false) (.ret)) (.skip))) (.seq (.region 3 reg99_3 false) (.ret)))) := by kernel_rfl
section
variable {main : Bool} {V : Nat → Option Wait} {rb sb n ob qb m : Nat} {s : So}
theorem osize_w (w : World) (I : SoI rb sb n ob qb m s w) : CallV Try.prog main V 39 #[.pointer (some ⟨ob, 0, none⟩)] w (.int .i64 (n : Nat)) w := by
  have c0 : w.cell? ⟨ob, 0, none⟩ = some (.pointer (some ⟨rb, 0, none⟩)) := (cell_of I.ob 0).trans rfl
  have hsz := size_w (main := main) (V := V) w I.ring
  have hp1 := fun w => run_eql_ptr (P := Try.prog) 76 undSolo (some ⟨ob, 0, none⟩) w
  have hp2 := fun w es => ev_eql_ptr (P := Try.prog) 76 undSolo (some ⟨ob, 0, none⟩) w es
  simp only [Option.isNone_some] at hp1
  clear I
  refine callW_in Try.func39 code39_is fun fr cs => ?_
  simp only [Try.ntmps39, ez, Nat.reduceAdd, Nat.reduceSub]
  repeat (first | refine Walk.cx ?_ | (refine Walk.cReg ?_; simp only [z39]) | (refine Walk.oq ?_; try walk_nrm) | (refine Walk.un ?_; walk_nrm))
  refine Walk.callV (x := .int .i64 (n : Nat)) (W := w) ?_ (ho_of (by conv => lhs; whnf) (by kernel_rfl)) (by rfl) (by decide) rfl Try.func19 (by kernel_rfl) (by rfl) ?_
  · walk_nrm
    exact hsz
  walk_nrm
  repeat (first | refine Walk.cx ?_ | (refine Walk.cReg ?_; simp only [z39]) | (refine Walk.oq ?_; try walk_nrm) | (refine Walk.un ?_; walk_nrm))
  exact Walk.ret1 rfl rfl Try.func39 rfl fun d => ⟨rfl, d, rfl⟩
theorem oreaders_w (w : World) (I : SoI rb sb n ob qb m s w) : CallV Try.prog main V 40 #[.pointer (some ⟨ob, 0, none⟩)] w (.int .i64 (m : Nat)) w := by
  have c0 : w.cell? ⟨ob, 2, none⟩ = some (.slice (some ⟨qb, 0, none⟩) m m) := (cell_of I.ob 2).trans rfl
  have hp1 := fun w => run_eql_ptr (P := Try.prog) 76 undSolo (some ⟨ob, 0, none⟩) w
  have hp2 := fun w es => ev_eql_ptr (P := Try.prog) 76 undSolo (some ⟨ob, 0, none⟩) w es
  simp only [Option.isNone_some] at hp1
  clear I
  refine callW_in Try.func40 code40_is fun fr cs => ?_
  simp only [Try.ntmps40, ez, Nat.reduceAdd, Nat.reduceSub]
  repeat (first | refine Walk.cx ?_ | (refine Walk.cReg ?_; simp only [z40]) | (refine Walk.oq ?_; try walk_nrm) | (refine Walk.un ?_; walk_nrm))
  exact Walk.ret1 rfl rfl Try.func40 rfl fun d => ⟨rfl, d, rfl⟩
theorem open_1 (w : World) (I : SoI rb sb n ob qb m s w) (q : Int) (h1 : s.pb < q) : CallV Try.prog main V 132 #[.pointer (some ⟨ob, 0, none⟩), .int .i64 q] w (.bool (decide (q < s.nx))) w := by
  have c3 : w.cell? ⟨ob, 3, none⟩ = some (.int .i64 s.nx) := (cell_of I.ob 3).trans rfl
  have c4 : w.cell? ⟨ob, 4, none⟩ = some (.int .i64 s.pb) := (cell_of I.ob 4).trans rfl
  have hp1 := fun w => run_neq_ptr (P := Try.prog) 76 undSolo (some ⟨ob, 0, none⟩) w
  have hp2 := fun w es => ev_neq_ptr (P := Try.prog) 76 undSolo (some ⟨ob, 0, none⟩) w es
  simp only [Option.isNone_some, Bool.not_false] at hp1
  generalize s.pb = pb at *
  generalize s.nx = nx at *
  clear I
  have g1 : decide (pb < q) = true := by simp [h1]
  refine callW_in Try.func132 code132_is fun fr cs => ?_
  simp only [Try.ntmps132, ez, Nat.reduceAdd, Nat.reduceSub]
  repeat (first | refine Walk.cx ?_ | (refine Walk.cReg ?_; simp only [z132]) | (refine Walk.oq ?_; try walk_nrm) | (refine Walk.un ?_; walk_nrm))
  exact Walk.ret1 rfl rfl Try.func132 rfl fun d => ⟨rfl, d, rfl⟩
theorem open_2 (w : World) (I : SoI rb sb n ob qb m s w) (q : Int) (h1 : ¬ s.pb < q) : CallV Try.prog main V 132 #[.pointer (some ⟨ob, 0, none⟩), .int .i64 q] w (.bool false) w := by
  have c3 : w.cell? ⟨ob, 3, none⟩ = some (.int .i64 s.nx) := (cell_of I.ob 3).trans rfl
  have c4 : w.cell? ⟨ob, 4, none⟩ = some (.int .i64 s.pb) := (cell_of I.ob 4).trans rfl
  have hp1 := fun w => run_neq_ptr (P := Try.prog) 76 undSolo (some ⟨ob, 0, none⟩) w
  have hp2 := fun w es => ev_neq_ptr (P := Try.prog) 76 undSolo (some ⟨ob, 0, none⟩) w es
  simp only [Option.isNone_some, Bool.not_false] at hp1
  generalize s.pb = pb at *
  generalize s.nx = nx at *
  clear I
  have g1 : decide (pb < q) = false := by simp [h1]
  refine callW_in Try.func132 code132_is fun fr cs => ?_
  simp only [Try.ntmps132, ez, Nat.reduceAdd, Nat.reduceSub]
  repeat (first | refine Walk.cx ?_ | (refine Walk.cReg ?_; simp only [z132]) | (refine Walk.oq ?_; try walk_nrm) | (refine Walk.un ?_; walk_nrm))
  exact Walk.ret1 rfl rfl Try.func132 rfl fun d => ⟨rfl, d, rfl⟩
theorem open_w (w : World) (I : SoI rb sb n ob qb m s w) (q : Int) : CallV Try.prog main V 132 #[.pointer (some ⟨ob, 0, none⟩), .int .i64 q] w (.bool (decide (soOpen s q))) w := by
  by_cases h1 : s.pb < q
  · have e : decide (soOpen s q) = decide (q < s.nx) := by by_cases b : q < s.nx <;> simp [soOpen, h1, b]
    rw [e]
    exact open_1 w I q h1
  · have e : decide (soOpen s q) = false := by simp [soOpen, h1]
    rw [e]
    exact open_2 w I q h1
theorem open_yes (w : World) (I : SoI rb sb n ob qb m s w) (q : Int) (h : soOpen s q) : CallV Try.prog main V 132 #[.pointer (some ⟨ob, 0, none⟩), .int .i64 q] w (.bool true) w := by
  have hx := open_w (main := main) (V := V) w I q
  rwa [show decide (soOpen s q) = true from by simp [h]] at hx
theorem open_no (w : World) (I : SoI rb sb n ob qb m s w) (q : Int) (h : ¬ soOpen s q) : CallV Try.prog main V 132 #[.pointer (some ⟨ob, 0, none⟩), .int .i64 q] w (.bool false) w := by
  have hx := open_w (main := main) (V := V) w I q
  rwa [show decide (soOpen s q) = false from by simp [h]] at hx
theorem reader_yes (w : World) (I : SoI rb sb n ob qb m s w) (k : Nat) (hk : k < m) : CallV Try.prog main V 99 #[.pointer (some ⟨ob, 0, none⟩), .int .i64 k] w (.pointer (some ⟨qb, k * 2, none⟩)) w := by
  have c0 : w.cell? ⟨ob, 2, none⟩ = some (.slice (some ⟨qb, 0, none⟩) m m) := (cell_of I.ob 2).trans rfl
  have hrd := oreaders_w (main := main) (V := V) w I
  have hm := I.few
  have hk0 : (0 : Int) ≤ k := by omega
  have g1 : decide ((k : Int) < 0) = false := by simp
  have g2 : decide ((m : Int) ≤ k) = false := by simp; omega
  have g3 : decide (m ≤ k) = false := by simp; omega
  have hk4 : (k : Int) < m := by omega
  clear I
  refine callW_in Try.func99 code99_is fun fr cs => ?_
  simp only [Try.ntmps99, ez, Nat.reduceAdd, Nat.reduceSub]
  repeat (first | refine Walk.cx ?_ | (refine Walk.cReg ?_; simp only [z99]) | (refine Walk.oq ?_; try walk_nrm) | (refine Walk.un ?_; walk_nrm))
  refine Walk.callV (x := .int .i64 (m : Nat)) (W := w) ?_ (ho_of (by conv => lhs; whnf) (by kernel_rfl)) (by rfl) (by decide) rfl Try.func40 (by kernel_rfl) (by rfl) ?_
  · walk_nrm
    exact hrd
  walk_nrm
  repeat (first | refine Walk.cx ?_ | (refine Walk.cReg ?_; simp only [z99]) | (refine Walk.oq ?_; try walk_nrm) | (refine Walk.un ?_; walk_nrm))
  exact Walk.ret1 rfl rfl Try.func99 rfl fun d => ⟨rfl, d, rfl⟩
end
end
end Go.Proofs.Ytcdcnmphjhfbpaa
