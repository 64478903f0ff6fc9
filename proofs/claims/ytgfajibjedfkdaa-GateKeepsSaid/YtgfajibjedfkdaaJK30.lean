/-
For all two scripts (numbers to begin with, threads of operations, a schedule, a most): SeqlockKeeps returns true on every schedule of the goroutines, without a data race, and what was there stands. Conditions: none beyond the statement's own.
-/
import Derived.Test.YtgfajibjedfkdaaJK13
import Derived.Test.YtgfajibjedfkdaaJK28
import Derived.Test.YtgfajibjedfkdaaJK29
set_option linter.unusedSimpArgs false
set_option linter.unusedVariables false
set_option linter.unusedVariables false
set_option maxHeartbeats 8000000
set_option maxRecDepth 100000
namespace Go.Proofs.Ytgfajibjedfkdaa
open Go.Conc Go.RowKit Go.Relay
open Go.ConcN (upd upd_ne upd_same)
section
open Go.ChangeShapes Go.WideShapes Go.ChangeAt Go.Joins Go.Deep
section
variable {H : Type} {enc : TypeId × Value → H} {W : World} {base : Nat} {spare : Nat → Bool} {held : Bool}
theorem trod_struct4x {P : Program} {t : TypeId} {f0 f1 f2 f3 : Field} {fuel : Nat} {cs : List Value} {x : DataW H × List MemPlace} (ht : P.underlying t = some (.struct #[f0, f1, f2, f3])) (h : DataW.trod enc P W base spare held fuel t cs = some x) :
    ∃ y0 y1 y2 y3 n, x.1 = .agg [y0.1, y1.1, y2.1, y3.1] ∧ cs.length = P.cellsOf t ∧ DataW.trod enc P W base spare held n f0.type ((cs.drop f0.offset).take (P.cellsOf f0.type)) = some y0 ∧
      DataW.trod enc P W base spare held n f1.type ((cs.drop f1.offset).take (P.cellsOf f1.type)) = some y1 ∧ DataW.trod enc P W base spare held n f2.type ((cs.drop f2.offset).take (P.cellsOf f2.type)) = some y2 ∧
      DataW.trod enc P W base spare held n f3.type ((cs.drop f3.offset).take (P.cellsOf f3.type)) = some y3 := by
  obtain ⟨xs, n, _, rfl, hl, hlen, hf⟩ := DataW.trod_struct ht h
  match xs, hlen with
  | [y0, y1, y2, y3], _ => exact ⟨y0, y1, y2, y3, n, rfl, hl, by simpa using hf 0 f0 rfl, by simpa using hf 1 f1 rfl, by simpa using hf 2 f2 rfl, by simpa using hf 3 f3 rfl⟩
end
noncomputable def fldsSc : Array Field := match Try.prog.underlying 71 with | some (.struct fs) => fs | _ => #[]
theorem undSc_is : Try.prog.underlying 71 = some (.struct fldsSc) := by kernel_rfl
theorem fldsSc_four : ∃ f0 f1 f2 f3, fldsSc = #[f0, f1, f2, f3] ∧ f0.type = 28 ∧ f1.type = 56 ∧ f2.type = 57 ∧ f3.type = 3 := by
  have hs : fldsSc.size = 4 := by kernel_rfl
  have h0 : (fldsSc[0]?).map (·.type) = some 28 := by kernel_rfl
  have h1 : (fldsSc[1]?).map (·.type) = some 56 := by kernel_rfl
  have h2 : (fldsSc[2]?).map (·.type) = some 57 := by kernel_rfl
  have h3 : (fldsSc[3]?).map (·.type) = some 3 := by kernel_rfl
  generalize fldsSc = F at *
  obtain ⟨l⟩ := F
  match l, hs with
  | [f0, f1, f2, f3], _ => exact ⟨f0, f1, f2, f3, rfl, by simpa using h0, by simpa using h1, by simpa using h2, by simpa using h3⟩
end
section
open Go.Conc Go.RowKit Go.Relay Go.ChangeShapes Go.WideShapes Go.ChangeAt Go.Joins Go.Deep
section
variable {H : Type} {enc : TypeId × Value → H} {W : World} {base : Nat} {spare : Nat → Bool} {held : Bool}
theorem open_numsX {t e : TypeId} {n : Nat} {v : Value} {x : DataW H × List MemPlace} (hu : Try.prog.underlying t = some (.slice e)) (he : Try.prog.underlying e = some (.int .i64)) (hc3 : Try.prog.cellsOf e = 1) (hb3 : Try.prog.bytesOf e = 8) (h : DataW.trod enc Try.prog W 0 (fun _ => true) true n t [v] = some x)
    {ts : List TypeId} {ds : List (DataW H)} {j : Nat} (hsz : (DataW.weightsEach Try.prog ts ds).all (· ≤ reachBytes) = true) (ht : ts[j]? = some t) (hd : ds[j]? = some x.1) :
    ∃ (a : Option Addr) (cap : Nat) (zs : List Int), v = .slice a zs.length cap ∧ zs.length ≤ 17592186044415 ∧ (∀ (i : Nat) (z : Int), zs[i]? = some z → IntKind.i64.wrap z = z ∧ ∃ s so, a = some ⟨s, so, none⟩ ∧ W.cell? ⟨s, so + i, none⟩ = some (.int .i64 z)) ∧ zs.length ≤ cap ∧ (a = none ∧ cap = 0 ∨ ∃ p, a = some p) := by
  rcases open_ints hu he hc3 h with ⟨e, _⟩ | ⟨a', len', cap', zs, e, _, hl, _, hzl, hx, hcell, hwf⟩
  · have e : [v] = [.slice none 0 0] := e
    injection e with e _
    subst e
    exact ⟨none, 0, [], rfl, Nat.zero_le _, fun i z h => by simp at h, Nat.zero_le _, .inl ⟨rfl, rfl⟩⟩
  · have e : [v] = [.slice (some a') len' cap'] := e
    injection e with e _
    subst e
    have hzl : zs.length = cap' := by simpa using hzl
    subst hx
    have hs := sized_slice hsz ht hd hu
    rw [hb3] at hs
    have hs2 : ((lits .i64 (zs.take len') : List (DataW H)).length + (lits .i64 (zs.drop len') : List (DataW H)).length) = cap' := by simp [lits]; omega
    rw [hs2] at hs
    have hr := reachBytes_lt
    have htl : (zs.take len').length = len' := by rw [List.length_take]; omega
    refine ⟨some a', cap', zs.take len', by rw [htl], by omega, fun i z hz => ?_, by omega, .inr ⟨_, rfl⟩⟩
    have hi : i < len' := by have := (List.getElem?_eq_some_iff.1 hz).1; omega
    have h0 := hcell 0 (by omega)
    have ha : a'.add 0 = a' := by simp [Addr.add]
    rw [ha] at h0
    have hform := addr_form h0
    have hci := hcell i (by omega)
    rw [hform] at hci
    have hz' : zs[i]? = some z := by
      rw [List.getElem?_take, if_pos hi] at hz
      exact hz
    refine ⟨lit_wraps (hwf z (List.mem_of_getElem? hz')), _, _, congrArg some hform, ?_⟩
    rw [add_none] at hci
    rw [hci]
    rw [List.getD_eq_getElem?_getD, hz']
    rfl
theorem trodAll_two {P : Program} {t t1 : TypeId} {args : Array Value} {ds : List (DataW H)} {ps : List MemPlace} (h : DataW.TrodAll enc P W base spare held [t, t1] args.toList ds ps) :
    ∃ v v1 d d1 p q, args = #[v, v1] ∧ ds = [d, d1] ∧ ps = p ++ q ∧ DataW.Trod enc P W base spare held t v d p ∧ DataW.Trod enc P W base spare held t1 v1 d1 q := by
  obtain ⟨v, vs, d, ds1, p, q, hargs, rfl, rfl, hd, hrest⟩ := trodAll_cons h
  obtain ⟨v1, vs1, d1, ds2, p1, q1, rfl, rfl, rfl, hd1, hrest1⟩ := trodAll_cons hrest
  obtain ⟨rfl, rfl, rfl⟩ := trodAll_nil hrest1
  exact ⟨v, v1, d, d1, p, p1, by cases args; simp_all, rfl, by simp, hd, hd1⟩
end
end
section
open Go.ChangeShapes Go.WideShapes Go.ChangeAt Go.Joins Go.Deep
structure ThK (W : World) (tb toff n : Nat) (oa : Nat → Option Addr) (ln oc : Nat → Nat) (ops : Nat → List OpV) : Prop where
  hd : ∀ i, i < n → W.cell? ⟨tb, toff + i, none⟩ = some (.slice (oa i) (ln i) (oc i))
  cap : ∀ i, i < n → ln i ≤ oc i
  ad : ∀ i, i < n → (oa i = none ∧ oc i = 0) ∨ ∃ p, oa i = some p
  len : ∀ i, i < n → (ops i).length = ln i ∧ ln i ≤ 4398046511104
  ops : ∀ i, i < n → ∀ (k : Nat) (o : OpV), (ops i)[k]? = some o → ∃ b off, oa i = some ⟨b, off, none⟩ ∧ ∀ (j : Nat) (v : Value), (opL o)[j]? = some v → W.cell? ⟨b, off + k * 4 + j, none⟩ = some v
theorem take_get {α : Type} {l : List α} {n j : Nat} {x : α} (h : (l.take n)[j]? = some x) : l[j]? = some x := by
  rw [List.getElem?_take] at h
  split at h
  · exact h
  · cases h
theorem ThK.some {W : World} {tb toff n : Nat} {oa : Nat → Option Addr} {ln oc : Nat → Nat} {ops : Nat → List OpV} (K : ThK W tb toff n oa ln oc ops) : OpsIn tb toff (min n 64) oa ln oc (fun i => (ops i).take 65536) W :=
  ⟨fun i hi => K.hd i (by omega), fun i hi => K.cap i (by omega), fun i hi => K.ad i (by omega), fun i hi => by rw [List.length_take, (K.len i (by omega)).1]; exact Nat.min_comm _ _, fun i hi j o ho => by
    obtain ⟨b, off, e, h⟩ := K.ops i (by omega) j o (take_get ho)
    exact ⟨b, off, e, h 0 _ rfl, h 1 _ rfl, h 2 _ rfl, h 3 _ rfl⟩⟩
section
variable {H : Type} {enc : TypeId × Value → H} {W : World} {base : Nat} {spare : Nat → Bool} {held : Bool}
theorem weights_allK {P : Program} {e : TypeId} : ∀ {elems : List (DataW H)} {d : DataW H}, d ∈ elems → ∀ n ∈ d.weights P e, n ∈ DataW.weightsAll P e elems
  | x :: l, d, hd, n, hn => by
    simp only [DataW.weightsAll, List.mem_append]
    rcases List.mem_cons.1 hd with rfl | h
    · exact .inl hn
    · exact .inr (weights_allK h n hn)
theorem open_opsX {n : Nat} {v : Value} {x : DataW H × List MemPlace} (hu : Try.prog.underlying 73 = some (.slice 84)) (h : DataW.trod enc Try.prog W base (fun _ => true) held n 73 [v] = some x) (hw : ∀ k ∈ x.1.weights Try.prog 73, k ≤ reachBytes) :
    ∃ (q : (Option Addr × Nat × Nat) × List OpV), ThIn W v q.1.1 q.1.2.1 q.1.2.2 q.2 ∧ q.1.2.1 ≤ 4398046511104 := by
  have hB : Try.prog.bytesOf 84 = 32 := by kernel_rfl
  obtain ⟨q, I⟩ := open_ops hu h
  refine ⟨q, I, ?_⟩
  rcases open_slice hu h with ⟨e, _⟩ | ⟨a', len', cap', m, n', D, Pl, e, _, hl, _, hm, hx, _⟩
  · injection e with e _
    rw [I.is] at e
    injection e with _ e _
    omega
  · injection e with e _
    rw [I.is] at e
    injection e with _ e _
    have hm : m = cap' := by simpa using hm
    rw [hx] at hw
    have hs := hw ((((List.range len').map D).length + ((List.range (m - len')).map fun j => D (len' + j)).length) * Try.prog.bytesOf 84) (by simp [DataW.weights, hu])
    rw [hB] at hs
    have hr := reachBytes_lt
    simp only [List.length_map, List.length_range] at hs
    omega
theorem open_threadsK {t : TypeId} {n : Nat} {v : Value} {x : DataW H × List MemPlace} (hu : Try.prog.underlying t = some (.slice 73)) (hu2 : Try.prog.underlying 73 = some (.slice 84)) (h : DataW.trod enc Try.prog W 0 (fun _ => true) true n t [v] = some x)
    {ts : List TypeId} {ds : List (DataW H)} {j : Nat} (hsz : (DataW.weightsEach Try.prog ts ds).all (· ≤ reachBytes) = true) (ht : ts[j]? = some t) (hd : ds[j]? = some x.1) :
    ∃ (a : Option Addr) (n0 cap tb toff : Nat) (oa : Nat → Option Addr) (ln oc : Nat → Nat) (ops : Nat → List OpV), v = .slice a n0 cap ∧ ThK W tb toff n0 oa ln oc ops ∧ (0 < n0 → a = some ⟨tb, toff, none⟩) ∧ (a = none ∧ cap = 0 ∨ ∃ p, a = some p) ∧ n0 ≤ cap ∧ n0 ≤ 5864062014805 := by
  have hC : Try.prog.cellsOf 73 = 1 := by kernel_rfl
  have hB : Try.prog.bytesOf 73 = 24 := by kernel_rfl
  rcases open_slice1 hu hC h with ⟨e, _⟩ | ⟨a', len, cap, m, n', V, D, Pl, e, _, hl, _, hm, hx, hel⟩
  · have e : [v] = [.slice none 0 0] := e
    injection e with e _
    subst e
    exact ⟨none, 0, 0, 0, 0, fun _ => none, fun _ => 0, fun _ => 0, fun _ => [], rfl, ⟨fun i h => absurd h (by omega), fun i h => absurd h (by omega), fun i h => absurd h (by omega), fun i h => absurd h (by omega), fun i h => absurd h (by omega)⟩, fun h => absurd h (Nat.lt_irrefl _), .inl ⟨rfl, rfl⟩, Nat.le_refl _, Nat.zero_le _⟩
  · have e : [v] = [.slice (some a') len cap] := e
    injection e with e _
    subst e
    have hm : m = cap := by simpa using hm
    have hx1 := congrArg Prod.fst hx
    simp only at hx1
    rw [hx1] at hd
    have hs := sized_slice hsz ht hd hu
    rw [hB] at hs
    have hr := reachBytes_lt
    simp only [List.length_map, List.length_range] at hs
    have key : ∀ i, i < len → ∃ q : (Option Addr × Nat × Nat) × List OpV, ThIn W (V i) q.1.1 q.1.2.1 q.1.2.2 q.2 ∧ q.1.2.1 ≤ 4398046511104 := fun i hi => by
      refine open_opsX hu2 (hel i (by omega)).2 fun k hk => ?_
      have h3 := weights_allK (P := Try.prog) (e := 73) (elems := (List.range len).map D) (d := D i) (List.mem_map.2 ⟨i, List.mem_range.2 hi, rfl⟩) k hk
      have h4 := DataW.weights_mem_each (P := Try.prog) ht hd k (by simp [DataW.weights, hu, h3])
      simpa using List.all_eq_true.1 hsz k h4
    have hI : Inhabited ((Option Addr × Nat × Nat) × List OpV) := ⟨((none, 0, 0), [])⟩
    obtain ⟨f, hf'⟩ := choose_lt (α := (Option Addr × Nat × Nat) × List OpV) key
    have hform : 0 < len → a' = ⟨a'.block, a'.off, none⟩ := fun h => by
      have h0 := (hel 0 (by omega)).1
      have ha : a'.add 0 = a' := by simp [Addr.add]
      rw [ha] at h0
      exact addr_form h0
    refine ⟨some a', len, cap, a'.block, a'.off, fun i => (f i).1.1, fun i => (f i).1.2.1, fun i => (f i).1.2.2, fun i => (f i).2, rfl, ⟨fun i hi => ?_, fun i hi => (hf' i hi).1.cap, fun i hi => (hf' i hi).1.ad, fun i hi => ⟨(hf' i hi).1.len, (hf' i hi).2⟩, fun i hi k o ho => ?_⟩, fun h => congrArg some (hform h), .inr ⟨_, rfl⟩, hl, by omega⟩
    · have hci := (hel i (by omega)).1
      rw [(hf' i hi).1.is, hform (by omega), add_none] at hci
      exact hci
    · obtain ⟨b, off, e, h0, h1, h2, h3⟩ := (hf' i hi).1.ops k o ho
      refine ⟨b, off, e, fun j v hv => ?_⟩
      match j, hv with
      | 0, hv => cases hv; exact h0
      | 1, hv => cases hv; exact h1
      | 2, hv => cases hv; exact h2
      | 3, hv => cases hv; exact h3
      | j + 4, hv => simp [opL] at hv
theorem open_scriptK {base : Nat} {v : Value} {d : DataW H} {ps : List MemPlace} (hval : Value.okWide Try.prog W .any base 71 v) (h : DataW.Trod enc Try.prog W 0 (fun _ => true) true 71 v d ps) {ts : List TypeId} {ds : List (DataW H)} {j : Nat} (hsz : (DataW.weightsEach Try.prog ts ds).all (· ≤ reachBytes) = true) (ht : ts[j]? = some 71) (hd : ds[j]? = some d) :
    ∃ (xa : Option Addr) (xc : Nat) (xs : List Int) (ta : Option Addr) (n0 tc tb toff : Nat) (oa : Nat → Option Addr) (ln oc : Nat → Nat) (ops : Nat → List OpV) (sa : Option Addr) (sc : Nat) (sl : List Int) (most : Int), v = .agg #[.slice xa xs.length xc, .slice ta n0 tc, .slice sa sl.length sc, .int .i64 most] ∧
      xs.length ≤ 17592186044415 ∧ LsR (.slice xa xs.length xc) xs W ∧ ThK W tb toff n0 oa ln oc ops ∧ (0 < n0 → ta = some ⟨tb, toff, none⟩) ∧ (ta = none ∧ tc = 0 ∨ ∃ p, ta = some p) ∧ n0 ≤ tc ∧ n0 ≤ 5864062014805 ∧ sl.length ≤ 17592186044415 ∧ LsR (.slice sa sl.length sc) sl W := by
  obtain ⟨f0, f1, f2, f3, ef, t0, t1, t2, t3⟩ := fldsSc_four
  have hst : Try.prog.underlying 71 = some (.struct #[f0, f1, f2, f3]) := by rw [undSc_is, ef]
  have hone : oneCellFields Try.prog #[f0, f1, f2, f3] = true := by rw [← ef]; kernel_rfl
  have hC : Try.prog.cellsOf 71 = 4 := by kernel_rfl
  obtain ⟨cs, rfl, hcs⟩ := okWide_struct hst hval
  rw [hC] at hcs
  obtain ⟨fuel, hf⟩ := h
  have hf : DataW.trod enc Try.prog W 0 (fun _ => true) true fuel 71 cs.toList = some (d, ps) := hf
  obtain ⟨y0, y1, y2, y3, n, hag, _, u0, u1, u2, u3⟩ := trod_struct4x hst hf
  obtain ⟨o0, k0⟩ := hone_of hone 0 f0 rfl
  obtain ⟨o1, k1⟩ := hone_of hone 1 f1 rfl
  obtain ⟨o2, k2⟩ := hone_of hone 2 f2 rfl
  obtain ⟨o3, k3⟩ := hone_of hone 3 f3 rfl
  have hag : d = .agg [y0.1, y1.1, y2.1, y3.1] := hag
  subst hag
  have hsz2 : (DataW.weightsEach Try.prog [28, 56, 57, 3] [y0.1, y1.1, y2.1, y3.1]).all (· ≤ reachBytes) = true := by
    rw [List.all_eq_true] at hsz ⊢
    intro m hm
    refine hsz m (DataW.weights_mem_each ht hd m ?_)
    rw [DataW.weights, hst]
    simp only [List.map_cons, List.map_nil, t0, t1, t2, t3]
    exact hm
  obtain ⟨cl⟩ := cs
  match cl, hcs with
  | [c0, c1, c2, c3], _ =>
    rw [o0, k0, t0] at u0
    rw [o1, k1, t1] at u1
    rw [o2, k2, t2] at u2
    rw [o3, k3, t3] at u3
    have u0 : DataW.trod enc Try.prog W 0 (fun _ => true) true n 28 [c0] = some y0 := u0
    have u1 : DataW.trod enc Try.prog W 0 (fun _ => true) true n 56 [c1] = some y1 := u1
    have u2 : DataW.trod enc Try.prog W 0 (fun _ => true) true n 57 [c2] = some y2 := u2
    have u3 : DataW.trod enc Try.prog W 0 (fun _ => true) true n 3 [c3] = some y3 := u3
    obtain ⟨xa, xc, xs, rfl, g1, g2, g3, g4⟩ := open_numsX (e := 2) (by kernel_rfl) und2_is (by kernel_rfl) (by kernel_rfl) u0 (j := 0) hsz2 rfl rfl
    obtain ⟨ta, n0, tc, tb, toff, oa, ln, oc, ops, rfl, g5, g6, g7, g8, g8'⟩ := open_threadsK (by kernel_rfl) (by kernel_rfl) u1 (j := 1) hsz2 rfl rfl
    obtain ⟨sa, sc, sl, rfl, g9, g10, g11, g12⟩ := open_numsX (e := 3) (by kernel_rfl) und3_is (by kernel_rfl) (by kernel_rfl) u2 (j := 2) hsz2 rfl rfl
    obtain ⟨z, e, _, _⟩ := DataW.trod_int und3_is u3
    simp at e
    subst e
    exact ⟨xa, xc, xs, ta, n0, tc, tb, toff, oa, ln, oc, ops, sa, sc, sl, z, rfl, g1, numsT_lsR g2 g3 g4, g5, g6, g7, g8, g8', g9, numsT_lsR g10 g11 g12⟩
end
end
theorem flat_at : ∀ (l : List OpV) (k : Nat) (o : OpV), l[k]? = some o → ∀ (j : Nat) (v : Value), (opL o)[j]? = some v → (l.flatMap opL)[k * 4 + j]? = some v
  | [], k, o, h, j, v, hv => by simp at h
  | p :: l, 0, o, h, j, v, hv => by
    have h : p = o := by simpa using h
    subst h
    have hj : j < (opL p).length := (List.getElem?_eq_some_iff.1 hv).1
    rw [List.flatMap_cons, Nat.zero_mul, Nat.zero_add, List.getElem?_append_left hj]
    exact hv
  | p :: l, k + 1, o, h, j, v, hv => by
    have h : l[k]? = some o := by simpa using h
    have := flat_at l k o h j v hv
    rw [List.flatMap_cons, List.getElem?_append_right (by simp [opL]; omega)]
    rw [show (k + 1) * 4 + j - (opL p).length = k * 4 + j by simp [opL]; omega]
    exact this
theorem flat_of : ∀ (l : List OpV) (j : Nat) (v : Value), (l.flatMap opL)[j]? = some v → ∃ k o i, l[k]? = some o ∧ (opL o)[i]? = some v ∧ j = k * 4 + i
  | [], j, v, h => by simp at h
  | p :: l, j, v, h => by
    rw [List.flatMap_cons] at h
    by_cases hj : j < (opL p).length
    · rw [List.getElem?_append_left hj] at h
      exact ⟨0, p, j, rfl, h, by omega⟩
    · rw [List.getElem?_append_right (by omega)] at h
      obtain ⟨k, o, i, h1, h2, h3⟩ := flat_of l _ v h
      have hl : (opL p).length = 4 := rfl
      exact ⟨k + 1, o, i, by simpa using h1, h2, by omega⟩
theorem flat_len : ∀ (l : List OpV), (l.flatMap opL).length = l.length * 4
  | [] => rfl
  | p :: l => by
    rw [List.flatMap_cons, List.length_append, flat_len l]
    simp [opL]
    omega
theorem flat_one (l : List OpV) : ∀ x ∈ l.flatMap opL, x.oneCell' = true := fun x hx => by
  obtain ⟨o, _, h⟩ := List.mem_flatMap.1 hx
  simp only [opL, List.mem_cons, List.not_mem_nil, or_false] at h
  rcases h with rfl | rfl | rfl | rfl <;> rfl
theorem LsR.rwK {sl : Value} {l : List Int} {w : World} (h : LsR sl l w) : RwR sl l.length (l.map fun z => .int .i64 z) w := by
  obtain ⟨a, c, h1, h2, h3, h4⟩ := h
  refine ⟨a, c, h1, fun j u hj => ?_⟩
  rw [List.getElem?_map, Option.map_eq_some_iff] at hj
  obtain ⟨y, hy, rfl⟩ := hj
  exact h4 j y hy
theorem LsR.numK {a : Option Addr} {c : Nat} {l : List Int} {w : World} (h : LsR (.slice a l.length c) l w) : NumA a l w := by
  obtain ⟨a', c', h1, _, _, h4⟩ := h
  injection h1 with e _ _
  subst e
  exact h4
theorem LsR.capK {a : Option Addr} {c : Nat} {l : List Int} {w : World} (h : LsR (.slice a l.length c) l w) (j : Nat) (z : Int) (hz : l[j]? = some z) : ∃ s so, a = some ⟨s, so, none⟩ ∧ w.cell? ⟨s, so + j, none⟩ = some (.int .i64 z) := h.numK j z hz
theorem copy_k {w : World} {base g c : Nat} {e : TypeId} {l : List Int} {x : Value} (h : w.ownsRow base e 1 (.slice (some ⟨g, 0, none⟩) (l.length + 1) c) (l.length + 1) ((l.map fun z => .int .i64 z) ++ [x])) : LsR (.slice (some ⟨g, 0, none⟩) l.length c) l w ∧ w.cell? ⟨g, l.length, none⟩ = some x ∧ l.length < c ∧ base ≤ g ∧ g < w.heap.size := by
  have hc : l.length + 1 ≤ c := by
    rcases h.2 with ⟨e, _⟩ | ⟨g', cap, cur, e, _, _, hle, _⟩
    · cases e
    · injection e with _ _ e
      omega
  have hb := h.lt g rfl
  refine ⟨⟨_, _, rfl, by omega, fun e => (by cases e), fun j z hz => ?_⟩, ?_, by omega, hb.1, hb.2⟩
  · have hj := (List.getElem?_eq_some_iff.1 hz).1
    obtain ⟨g', e, _, _, hcell⟩ := row_at h (j := j) (x := .int .i64 z) (by rw [List.getElem?_append_left (by simpa using hj), List.getElem?_map, hz]; rfl)
    cases e
    exact ⟨g, 0, rfl, by rw [Nat.zero_add]; exact hcell⟩
  · obtain ⟨g', e, _, _, hcell⟩ := row_at h (j := l.length) (x := x) (by rw [List.getElem?_append_right (by simp)]; simp)
    cases e
    exact hcell
theorem copy_ops {T n tc : Nat} {tv : Value} {g cp ln : Nat → Nat} {ops : Nat → List OpV} {w1 w : World} (C : CpI T tv n g cp ln (fun i => (ops i).flatMap opL) w1 w) (hl : ∀ i, i < n → (ops i).length = ln i) :
    ∃ (ta : Option Addr) (tb tcap : Nat) (hdrs : Array Value), tv = .slice ta n tcap ∧ (0 < n → ta = some ⟨tb, 0, none⟩) ∧ (ta = none ∧ tcap = 0 ∨ ∃ p, ta = some p) ∧ n ≤ tcap ∧ (0 < n → w.heap[tb]? = some (.cells hdrs 73 (0, 0)) ∧ ∀ i, i < n → hdrs[i]? = some (.slice (some ⟨g i, 0, none⟩) (ln i) (cp i))) ∧
      (∀ i, i < n → ∀ (k : Nat) (o : OpV), (ops i)[k]? = some o → ∀ (j : Nat) (v : Value), (opL o)[j]? = some v → w.cell? ⟨g i, k * 4 + j, none⟩ = some v) ∧ OpsIn tb 0 (min n 64) (fun i => some ⟨g i, 0, none⟩) ln cp (fun i => (ops i).take 65536) w := by
  have hcells : ∀ i, i < n → ∀ (k : Nat) (o : OpV), (ops i)[k]? = some o → ∀ (j : Nat) (v : Value), (opL o)[j]? = some v → w.cell? ⟨g i, k * 4 + j, none⟩ = some v := fun i hi k o ho j v hv => by
    obtain ⟨g', e, _, _, hc⟩ := row_at (C.row i hi) (flat_at _ k o ho j v hv)
    cases e
    exact hc
  have hcap : ∀ i, i < n → ln i ≤ cp i := fun i hi => by
    rcases (C.row i hi).2 with ⟨e, _⟩ | ⟨g', cap, cur, e, _, _, hle, _⟩
    · cases e
    · injection e with _ _ e
      omega
  rcases C.hdr.2 with ⟨e, h0⟩ | ⟨tb, tcap, cur, e, hb, hg, hle, hm, hs, ht⟩
  · subst h0
    exact ⟨none, 0, 0, #[], e, fun h => absurd h (Nat.lt_irrefl _), .inl ⟨rfl, rfl⟩, Nat.le_refl _, fun h => absurd h (Nat.lt_irrefl _), hcells, ⟨fun i h => absurd h (by omega), fun i h => absurd h (by omega), fun i h => absurd h (by omega), fun i h => absurd h (by omega), fun i h => absurd h (by omega)⟩⟩
  · have hh : ∀ i, i < n → cur[i]? = some (.slice (some ⟨g i, 0, none⟩) (ln i) (cp i)) := fun i hi => by
      have h1 : (cur.toList.take (n * 1))[i]? = some (.slice (some ⟨g i, 0, none⟩) (ln i) (cp i)) := by
        rw [ht, List.getElem?_map, List.getElem?_range hi]
        rfl
      have := take_get h1
      rwa [Array.getElem?_toList] at this
    refine ⟨_, tb, tcap, cur, e, fun _ => rfl, .inr ⟨_, rfl⟩, hle, fun _ => ⟨hg, hh⟩, hcells, ⟨fun i hi => ?_, fun i hi => hcap i (by omega), fun i hi => .inr ⟨_, rfl⟩, fun i hi => by rw [List.length_take, hl i (by omega)]; exact Nat.min_comm _ _, fun i hi j o ho => ?_⟩⟩
    · rw [Nat.zero_add]
      exact (cell_of hg i).trans (hh i (by omega))
    · have h := hcells i (by omega) j o (take_get ho)
      exact ⟨g i, 0, rfl, by rw [Nat.zero_add]; exact h 0 _ rfl, by rw [Nat.zero_add]; exact h 1 _ rfl, by rw [Nat.zero_add]; exact h 2 _ rfl, by rw [Nat.zero_add]; exact h 3 _ rfl⟩
theorem k57_out (st sc : Value) (X B C : Nat) (u : Nat → Value) (h : u 4 = .bool true) (w : World) : Walk Try.prog true (DR (fun _ => none)) (fun g w' => Closing 11 4 (.bool true) g ∧ ∃ d, w' = w.at d) (G ((base 11).at ⟨tm57 st sc X B C u, []⟩ (.inRegion reg11_57 [] :: [.code .ret])) []) w := by
  simp only [tm57, h]
  repeat (first | refine Walk.cx ?_ | (refine Walk.cReg ?_; simp only [z11]) | (refine Walk.oq ?_; try walk_nrm) | (refine Walk.un ?_; walk_nrm))
  exact .stop fun d => ⟨⟨_, rfl, rfl, rfl, rfl, rfl, rfl⟩, d, rfl⟩
theorem kp_all (W : World) (xa : Option Addr) (xs : List Int) (xc : Nat) (hxn : xs.length ≤ 17592186044415) (hx : LsR (.slice xa xs.length xc) xs W) (ta : Option Addr) (n0 tc tb toff : Nat) (oa : Nat → Option Addr) (ln oc : Nat → Nat) (ops : Nat → List OpV) (K : ThK W tb toff n0 oa ln oc ops) (hta : 0 < n0 → ta = some ⟨tb, toff, none⟩) (had : ta = none ∧ tc = 0 ∨ ∃ p, ta = some p) (hcap : n0 ≤ tc) (hn0 : n0 ≤ 5864062014805) (sa : Option Addr) (sc : Nat) (sl : List Int) (hsl : sl.length ≤ 17592186044415) (hs : LsR (.slice sa sl.length sc) sl W) (most : Int)
    (xa2 : Option Addr) (xs2 : List Int) (xc2 : Nat) (hxn2 : xs2.length ≤ 17592186044415) (hx2 : LsR (.slice xa2 xs2.length xc2) xs2 W) (ta2 : Option Addr) (n2 tc2 tb2 toff2 : Nat) (oa2 : Nat → Option Addr) (ln2 oc2 : Nat → Nat) (ops2 : Nat → List OpV) (K2 : ThK W tb2 toff2 n2 oa2 ln2 oc2 ops2) (hta2 : 0 < n2 → ta2 = some ⟨tb2, toff2, none⟩) (had2 : ta2 = none ∧ tc2 = 0 ∨ ∃ p, ta2 = some p) (hcap2 : n2 ≤ tc2) (sa2 : Option Addr) (sc2 : Nat) (sl2 : List Int) (hsl2 : sl2.length ≤ 17592186044415) (hs2 : LsR (.slice sa2 sl2.length sc2) sl2 W) (most2 : Int) :
    Runs (fun g w' => Closing 11 4 (.bool true) g ∧ ∀ b, b < W.heap.size → w'.heap[b]? = W.heap[b]?) (G (Frame.enter Try.prog 11 #[.agg #[.slice xa xs.length xc, .slice ta n0 tc, .slice sa sl.length sc, .int .i64 most], .agg #[.slice xa2 xs2.length xc2, .slice ta2 n2 tc2, .slice sa2 sl2.length sc2, .int .i64 most2]] .normal) []) W := by
  refine Runs.walk (kp_in xa sa xs.length xc sl.length sc (.slice ta n0 tc) most (xs.map fun z => .int .i64 z) (sl.map fun z => .int .i64 z) #[.slice xa2 xs2.length xc2, .slice ta2 n2 tc2, .slice sa2 sl2.length sc2, .int .i64 most2] rfl (by simp [Value.oneCell']) (by simp [Value.oneCell']) hxn hsl (by simp) (by simp) (fun u hu => by obtain ⟨y, _, rfl⟩ := List.mem_map.1 hu; rfl) (fun u hu => by obtain ⟨y, _, rfl⟩ := List.mem_map.1 hu; rfl) W) ?_
  rintro _ _ ⟨fr1, rfl, ⟨d1, rfl⟩, hB1⟩
  have zA : (W.alloc (.cells #[.slice xa xs.length xc, .slice ta n0 tc, .slice sa sl.length sc, .int .i64 most] 71)).heap.size = W.heap.size + 1 := by simp
  have dX := heap_alloc_new W (.cells #[.slice xa xs.length xc, .slice ta n0 tc, .slice sa sl.length sc, .int .i64 most] 71)
  have oA : ∀ b, b < W.heap.size → (W.alloc (.cells #[.slice xa xs.length xc, .slice ta n0 tc, .slice sa sl.length sc, .int .i64 most] 71)).heap[b]? = W.heap[b]? := fun b hb => heap_new_lt _ _ hb
  generalize W.alloc (.cells #[.slice xa xs.length xc, .slice ta n0 tc, .slice sa sl.length sc, .int .i64 most] 71) = wA at *
  have zB : (wA.alloc (.cells #[.slice xa2 xs2.length xc2, .slice ta2 n2 tc2, .slice sa2 sl2.length sc2, .int .i64 most2] 71)).heap.size = wA.heap.size + 1 := by simp
  have dY := heap_alloc_new wA (.cells #[.slice xa2 xs2.length xc2, .slice ta2 n2 tc2, .slice sa2 sl2.length sc2, .int .i64 most2] 71)
  have oB : ∀ b, b < wA.heap.size → (wA.alloc (.cells #[.slice xa2 xs2.length xc2, .slice ta2 n2 tc2, .slice sa2 sl2.length sc2, .int .i64 most2] 71)).heap[b]? = wA.heap[b]? := fun b hb => heap_new_lt _ _ hb
  generalize wA.alloc (.cells #[.slice xa2 xs2.length xc2, .slice ta2 n2 tc2, .slice sa2 sl2.length sc2, .int .i64 most2] 71) = wB at *
  refine Runs.then (fixed_run fr1 [] (wB.at d1)) ?_
  rintro _ w1 ⟨rfl, O1, Z1⟩
  have O1 : ∀ b, b < wB.heap.size → w1.heap[b]? = wB.heap[b]? := O1
  have Z1 : wB.heap.size ≤ w1.heap.size := Z1
  have old1 : ∀ b, b < W.heap.size → w1.heap[b]? = W.heap[b]? := fun b hb => (O1 b (by omega)).trans ((oB b (by omega)).trans (oA b hb))
  have bX : w1.heap[W.heap.size]? = some (.cells #[.slice xa xs.length xc, .slice ta n0 tc, .slice sa sl.length sc, .int .i64 most] 71) := (O1 _ (by omega)).trans ((oB _ (by omega)).trans dX)
  have bY : w1.heap[W.heap.size + 1]? = some (.cells #[.slice xa2 xs2.length xc2, .slice ta2 n2 tc2, .slice sa2 sl2.length sc2, .int .i64 most2] 71) := by
    rw [← zA]
    exact (O1 _ (by omega)).trans dY
  refine Runs.walk (hB1 w1 bX ((hx.same old1).rwK) ((hs.same old1).rwK)) ?_
  rintro _ w2 ⟨k1, c1, k2, c2, ⟨u2, rfl⟩, O2, Z2, R1, R2⟩
  clear hB1 O1 oB oA dX dY
  generalize hT : w2.heap.size = T at *
  have lX : W.heap.size < T := by omega
  have lY : W.heap.size + 1 < T := by omega
  have old2 : ∀ w : World, (∀ b, b < T → w.heap[b]? = w2.heap[b]?) → ∀ b, b < W.heap.size → w.heap[b]? = W.heap[b]? := fun w h b hb => (h b (by omega)).trans ((O2 b (by omega)).trans (old1 b hb))
  have X2 : ∀ w : World, (∀ b, b < T → w.heap[b]? = w2.heap[b]?) → w.heap[W.heap.size]? = some (.cells #[.slice xa xs.length xc, .slice ta n0 tc, .slice sa sl.length sc, .int .i64 most] 71) := fun w h => (h _ lX).trans ((O2 _ (by omega)).trans bX)
  have Y2 : ∀ w : World, (∀ b, b < T → w.heap[b]? = w2.heap[b]?) → w.heap[W.heap.size + 1]? = some (.cells #[.slice xa2 xs2.length xc2, .slice ta2 n2 tc2, .slice sa2 sl2.length sc2, .int .i64 most2] 71) := fun w h => (h _ lY).trans ((O2 _ (by omega)).trans bY)
  obtain ⟨C1, h77, hk1, _, lk1⟩ := copy_k R1
  obtain ⟨C2, h88, hk2, _, lk2⟩ := copy_k R2
  rw [hT] at lk1 lk2
  have self2 : ∀ b, b < T → w2.heap[b]? = w2.heap[b]? := fun _ _ => rfl
  have cellW : ∀ w : World, (∀ b, b < T → w.heap[b]? = w2.heap[b]?) → ∀ {b j : Nat} {v : Value}, W.cell? ⟨b, j, none⟩ = some v → w.cell? ⟨b, j, none⟩ = some v := fun w h {b j v} e => (World.cell?_of_block (a := ⟨b, j, none⟩) (old2 w h b (cell_lt' e))).trans e
  have cX1 : ∀ w : World, (∀ b, b < T → w.heap[b]? = w2.heap[b]?) → w.cell? ⟨W.heap.size, 1, none⟩ = some (.slice ta n0 tc) := fun w h => (cell_of (X2 w h) 1).trans rfl
  refine Runs.walk (ks0_all (main := true) (.slice (some ⟨k1, 0, none⟩) (xs.length + 1) c1) (.slice (some ⟨k2, 0, none⟩) (sl.length + 1) c2) W.heap.size (W.heap.size + 1) n0 T tc tb toff oa ln oc (fun i => (ops i).flatMap opL) [] w2 hn0 (fun i hi => (K.len i hi).2) (fun h => by rw [← hta h]; exact cX1 w2 self2) (fun i hi => cellW w2 self2 (K.hd i hi)) (fun i hi => ⟨oa i, oc i, rfl, fun j v hv => by
    obtain ⟨k, o, m, h1, h2, rfl⟩ := flat_of _ j v hv
    obtain ⟨b, off, e, h3⟩ := K.ops i hi k o h1
    exact ⟨b, off, e, by rw [← Nat.add_assoc]; exact cellW w2 self2 (h3 m v h2)⟩⟩) (fun i hi => by rw [flat_len, (K.len i hi).1]) (fun i _ => flat_one _) hT n0 0 (.slice none 0 0) (fun _ => 0) (fun _ => 0) u2 w2 (by omega) ⟨by omega, self2, ⟨_, _, rfl⟩, ⟨rfl, .inl ⟨rfl, rfl⟩⟩, fun j h => absurd h (Nat.not_lt_zero _), fun j k h => absurd h (Nat.not_lt_zero _)⟩) ?_
  rintro _ w3 ⟨tv, g, cp, ⟨u3, rfl⟩, C⟩
  obtain ⟨ta', tb', tcap, hdrs, rfl, hta', had', hcap', hhdr, hcells, I3⟩ := copy_ops (tc := tc) C fun i hi => (K.len i hi).1
  refine Runs.walk (k10_in k1 k2 xs.length sl.length c1 c2 W.heap.size (W.heap.size + 1) n0 tcap ta' tc tb toff ta u3 w3 (cX1 w3 C.old)) ?_
  rintro _ _ ⟨⟨u4, rfl⟩, d4, rfl⟩
  have s3 : ∀ w, OldK (w3.at d4) w → ∀ b, b < T → w.heap[b]? = w2.heap[b]? := fun w h b hb => (h.2 b (Nat.lt_of_lt_of_le hb C.size)).trans (C.old b hb)
  have z3 := C.size
  refine kr10 k1 k2 xs.length sl.length c1 c2 W.heap.size (W.heap.size + 1) xc sc xa sa (.slice ta' n0 tcap) (.slice ta n0 tc) most (w3.at d4) (X2 w3 C.old) (by omega) (by omega) (TrK w3.heap.size xs (fun i => (ops i).take 65536) (min n0 64) most sl) (fun cells w w' h hb => TrO.far h fun b cur t _ => hb b cur t) (fun cells w h => TrO.four h) (fun w hw d fr => ?_) u4 kx10 fun u5 cellsA A wa h9 oldA zA1 zA2 hAc TA => ?_
  · have hw2 := s3 w hw
    refine Runs.then (play_k (some ⟨k1, 0, none⟩) xs c1 (by omega) ta' n0 tcap tb' 0 most hta' had' hcap' _ ln cp _ (some ⟨k2, 0, none⟩) c2 sl (by omega) (w.at d) (C1.same fun b hb => hw2 b (by omega)) (I3.old fun b hb => hw.2 b hb) (fun j z hz => LsR.capK (C2.same fun b hb => hw2 b (by omega)) j z hz) fr) ?_
    rintro _ w' ⟨cells, rfl, hT', hO⟩
    exact .now ⟨cells, rfl, TrO.low hT' hw.1, hO⟩
  have wa2 := s3 wa oldA
  refine Runs.walk (k11 k1 k2 xs.length sl.length c1 c2 W.heap.size (W.heap.size + 1) A _ _ _ _ _ u5 wa h9 (X2 wa wa2)) ?_
  rintro _ _ ⟨frb, rfl, ⟨d5, rfl⟩, hB2⟩
  have hl64 : ∀ i, ((ops i).take 65536).length ≤ 65536 := fun i => by rw [List.length_take]; omega
  have hPK := PK_len xs (fun i => (ops i).take 65536) (min n0 64) most sl
  have hFl : ∀ i, i < min n0 64 → ((PK xs (fun i => (ops i).take 65536) (min n0 64) most sl).an i).length ≤ 65536 := fun i _ => Nat.le_trans (hPK.1 i) (hl64 i)
  refine Runs.then (play_k xa xs xc (by omega) ta n0 tc tb toff most hta had hcap oa ln oc _ sa sc sl (by omega) (wa.at d5) (hx.same (old2 wa wa2)) (K.some.old (old2 wa wa2)) (fun j z hz => LsR.capK (hs.same (old2 wa wa2)) j z hz) frb) ?_
  rintro _ w5 ⟨cellsB, rfl, TB, OB⟩
  have OB : OldK wa w5 := OB
  obtain ⟨fourB, oneB⟩ := TrO.four TB
  refine Runs.walk (hB2 cellsB w5 fourB oneB) ?_
  rintro _ _ ⟨⟨u6, rfl⟩, d6, rfl⟩
  clear hB2
  have dB0 := heap_alloc_new w5 zTk
  have sB0 : (w5.alloc zTk).heap.size = w5.heap.size + 1 := by simp
  have oB0 : ∀ b, b < w5.heap.size → (w5.alloc zTk).heap[b]? = w5.heap[b]? := fun b hb => heap_new_lt _ _ hb
  unfold zTk at dB0
  have dB := setRow_self (cells := cellsB) dB0
  have sB : ((w5.alloc zTk).setRow w5.heap.size cellsB).heap.size = w5.heap.size + 1 := (setRow_size _ _ _).trans sB0
  have oB : ∀ b, b < w5.heap.size → ((w5.alloc zTk).setRow w5.heap.size cellsB).heap[b]? = w5.heap[b]? := fun b hb => (setRow_other _ _ (by omega)).trans (oB0 b hb)
  have dB : ((w5.alloc zTk).setRow w5.heap.size cellsB).heap[w5.heap.size]? = some (.cells cellsB 63) := dB
  generalize hwz : ((w5.alloc zTk).setRow w5.heap.size cellsB).at d6 = wz
  have sB : wz.heap.size = w5.heap.size + 1 := by rw [← hwz]; exact sB
  have oB : ∀ b, b < w5.heap.size → wz.heap[b]? = w5.heap[b]? := fun b hb => by rw [← hwz]; exact oB b hb
  have dB : wz.heap[w5.heap.size]? = some (.cells cellsB 63) := by rw [← hwz]; exact dB
  clear dB0 sB0 oB0 hwz
  have OB1 := OB.1
  have hwzA : ∀ b, b < wa.heap.size → wz.heap[b]? = wa.heap[b]? := fun b hb => (oB b (by omega)).trans (OB.2 b hb)
  have oldA1 : w3.heap.size ≤ wa.heap.size := oldA.1
  have hwz2 : ∀ b, b < T → wz.heap[b]? = w2.heap[b]? := fun b hb => (hwzA b (by omega)).trans (wa2 b hb)
  have hwz3 : ∀ b, b < w3.heap.size → wz.heap[b]? = w3.heap[b]? := fun b hb => (hwzA b (by omega)).trans (oldA.2 b hb)
  obtain ⟨ab, hdA, ra, rn, rc, slA, oo, ok, sva, svc, eA, Z, oR, sR⟩ := kz_of (wz := wz) (A1 := wa.heap.size) (TrO.low TA z3) hFl (by omega) rfl (by omega) hwzA (by omega) ((hwzA A zA2).trans hAc)
  have ZT : KT T wa.heap.size W.heap.size n0 tb' tb toff tc hdrs g cp ln oa oc ops wz := by
    refine ⟨hn0, fun h => ⟨(hwz3 tb' (Array.getElem?_eq_some_iff.1 (hhdr h).1).1).trans (hhdr h).1, (hhdr h).2⟩, fun i hi => ⟨_, row_same (C.row i hi) fun b hb => hwz3 b ((C.row i hi).lt b hb).2, fun b hb => by have := ((C.row i hi).lt b hb).2; omega⟩, fun i hi k o ho j v hv => ?_, C.one, fun i hi => K.len i hi, fun h => ⟨lX, by rw [← hta h]; exact cX1 wz hwz2⟩, fun i hi => ⟨by have := cell_lt' (K.hd i hi); omega, cellW wz hwz2 (K.hd i hi)⟩, fun i hi k o ho => ?_⟩
    · have hc := hcells i hi k o ho j v hv
      exact (World.cell?_of_block (a := ⟨g i, k * 4 + j, none⟩) (hwz3 _ (cell_lt' hc))).trans hc
    · obtain ⟨b, off, e, h⟩ := K.ops i hi k o ho
      exact ⟨b, off, e, by have := cell_lt' (h 0 _ rfl); omega, fun j v hv => cellW wz hwz2 (h j v hv)⟩
  refine Runs.walk (ks1_all (main := true) hta' ZT n0 0 u6 wz (by omega) (KP.refl T wa.heap.size wz) (fun _ _ _ => rfl) (TI.start ZT)) ?_
  rintro _ w6 ⟨⟨u7, rfl⟩, H6, Q6⟩
  have hsl20 : (PK xs (fun i => (ops i).take 65536) (min n0 64) most sl).st.length ≤ 1048576 := PK_st xs (by omega) _ _ _ _
  refine Runs.walk (ks3_w (main := true) (by omega) Z.hA (by decide) (by rw [eA]; rfl) sR _ 0 u7 w6 (Nat.zero_add _) H6 Q6) ?_
  rintro _ w7 ⟨⟨u8, rfl⟩, H7, Q7⟩
  have hord := hPK.2
  refine Runs.walk (ks4_w (main := true) (by omega) Z.hA (by decide) (by rw [eA]; rfl) oR _ 0 u8 w7 (Nat.zero_add _) H7 Q7) ?_
  rintro _ w8 ⟨⟨u9, rfl⟩, H8, Q8⟩
  refine Runs.walk (ks5_all (main := true) Z _ 0 u9 w8 (Nat.zero_add _) H8 (RZ.far Z (KP.refl T wa.heap.size wz) (RZ.start Z) fun b cur hb _ => Q8 b cur hb)) ?_
  rintro _ w9 ⟨⟨u10, rfl⟩, H9, R9⟩
  refine Runs.walk (ks9_all (main := true) Z _ 0 u10 w9 (Nat.zero_add _) H9 R9) ?_
  rintro _ w10 ⟨⟨u11, rfl⟩, H10⟩
  have z10 := H10.size
  have hw10 : ∀ b, b < T → w10.heap[b]? = w2.heap[b]? := fun b hb => (H10.low (by omega) (.inl hb)).trans (hwz2 b hb)
  refine Runs.walk (k55 _ _ _ W.heap.size (W.heap.size + 1) A w5.heap.size _ ab _ _ _ _ (.slice xa xs.length xc) (.slice ta n0 tc) (.slice sa sl.length sc) (.int .i64 most) u11 w10 (Z.c0 H10) (Y2 w10 hw10)) ?_
  rintro _ _ ⟨frc, rfl, ⟨d10, rfl⟩, hB3⟩
  refine Runs.then (play_k xa2 xs2 xc2 (by omega) ta2 n2 tc2 tb2 toff2 most2 hta2 had2 hcap2 oa2 ln2 oc2 _ sa2 sc2 sl2 (by omega) (w10.at d10) (hx2.same (old2 w10 hw10)) (K2.some.old (old2 w10 hw10)) (fun j z hz => LsR.capK (hs2.same (old2 w10 hw10)) j z hz) frc) ?_
  rintro _ w11 ⟨cellsO, rfl, _, OO⟩
  have OO : OldK w10 w11 := OO
  have hw11 : ∀ b, b < T → w11.heap[b]? = w2.heap[b]? := fun b hb => (OO.2 b (by omega)).trans (hw10 b hb)
  refine Runs.walk (hB3 (.agg cellsO) w11 (X2 w11 hw11)) ?_
  rintro _ _ ⟨frd, rfl, ⟨d11, rfl⟩, hB4⟩
  refine Runs.then (play_k xa xs xc (by omega) ta n0 tc tb toff most hta had hcap oa ln oc _ sa sc sl (by omega) (w11.at d11) (hx.same (old2 w11 hw11)) (K.some.old (old2 w11 hw11)) (fun j z hz => LsR.capK (hs.same (old2 w11 hw11)) j z hz) frd) ?_
  rintro _ w12 ⟨cellsC, rfl, TC, OC⟩
  have OC : OldK w11 w12 := OC
  have TC : TrK w11.heap.size xs (fun i => (ops i).take 65536) (min n0 64) most sl cellsC w12 := TC
  obtain ⟨fourC, oneC⟩ := TrO.four TC
  refine Runs.walk (hB4 cellsC w12 fourC oneC) ?_
  rintro _ _ ⟨⟨u12, rfl⟩, d12, rfl⟩
  clear hB3 hB4
  have OO1 := OO.1
  have OC1 := OC.1
  have dC0 := heap_alloc_new w12 zTk
  have sC0 : (w12.alloc zTk).heap.size = w12.heap.size + 1 := by simp
  have oC0 : ∀ b, b < w12.heap.size → (w12.alloc zTk).heap[b]? = w12.heap[b]? := fun b hb => heap_new_lt _ _ hb
  unfold zTk at dC0
  have dC := setRow_self (cells := cellsC) dC0
  have oC : ∀ b, b < w12.heap.size → ((w12.alloc zTk).setRow w12.heap.size cellsC).heap[b]? = w12.heap[b]? := fun b hb => (setRow_other _ _ (by omega)).trans (oC0 b hb)
  have sC : ((w12.alloc zTk).setRow w12.heap.size cellsC).heap.size = w12.heap.size + 1 := (setRow_size _ _ _).trans sC0
  have dC : ((w12.alloc zTk).setRow w12.heap.size cellsC).heap[w12.heap.size]? = some (.cells cellsC 63) := dC
  generalize hwy : ((w12.alloc zTk).setRow w12.heap.size cellsC).at d12 = wy
  have sC : wy.heap.size = w12.heap.size + 1 := by rw [← hwy]; exact sC
  have oC : ∀ b, b < w12.heap.size → wy.heap[b]? = w12.heap[b]? := fun b hb => by rw [← hwy]; exact oC b hb
  have dC : wy.heap[w12.heap.size]? = some (.cells cellsC 63) := by rw [← hwy]; exact dC
  clear dC0 sC0 oC0 hwy
  have hwyT : ∀ b, b < T → wy.heap[b]? = w2.heap[b]? := fun b hb => (oC b (by omega)).trans ((OC.2 b (by omega)).trans (hw11 b hb))
  have hwyB : ∀ b, wa.heap.size ≤ b → b < wz.heap.size → wy.heap[b]? = wz.heap[b]? := fun b h1 h2 => (oC b (by omega)).trans ((OC.2 b (by omega)).trans ((OO.2 b (by omega)).trans (H10.low h2 (.inr h1))))
  have TBy : TrK wa.heap.size xs (fun i => (ops i).take 65536) (min n0 64) most sl cellsB wy := TrO.far TB fun b cur t hb hc _ => by
    have hl := (Array.getElem?_eq_some_iff.1 hc).1
    exact (hwyB b hb (by omega)).trans (oB b hl)
  have TCy : TrK w11.heap.size xs (fun i => (ops i).take 65536) (min n0 64) most sl cellsC wy := TrO.far TC fun b cur t hb hc _ => oC b (Array.getElem?_eq_some_iff.1 hc).1
  have dBy : wy.heap[w5.heap.size]? = some (.cells cellsB 63) := (hwyB _ (by omega) (by omega)).trans dB
  obtain ⟨x0, x1, x2, x3, rfl⟩ : ∃ x0 x1 x2 x3, cellsB = #[x0, x1, x2, x3] := by
    obtain ⟨l⟩ := cellsB
    match l, fourB with
    | [x0, x1, x2, x3], _ => exact ⟨x0, x1, x2, x3, rfl⟩
  obtain ⟨y0, y1, y2, y3, rfl⟩ : ∃ y0 y1 y2 y3, cellsC = #[y0, y1, y2, y3] := by
    obtain ⟨l⟩ := cellsC
    match l, fourC with
    | [x0, x1, x2, x3], _ => exact ⟨x0, x1, x2, x3, rfl⟩
  have cell2 : ∀ {b j : Nat} {v : Value}, w2.cell? ⟨b, j, none⟩ = some v → b < T → wy.cell? ⟨b, j, none⟩ = some v := fun {b j v} e hb => (World.cell?_of_block (a := ⟨b, j, none⟩) (hwyT b hb)).trans e
  have C1y := C1.same (w' := wy) fun b hb => hwyT b (by omega)
  have C2y := C2.same (w' := wy) fun b hb => hwyT b (by omega)
  refine Runs.walk (Stop := fun g w' => Closing 11 4 (.bool true) g ∧ OldK wy w') (kr57 k1 k2 c1 c2 W.heap.size w5.heap.size w12.heap.size xc sc (min n0 64) xa sa (.slice ta n0 tc) (.int .i64 most) x0 x1 x2 x3 y0 y1 y2 y3 xs sl _ _ _ _ wy (X2 wy hwyT) (by omega) (by omega) dBy dC (by omega) hord hsl20 hFl (TrO.tr TBy) (TrO.tr TCy) (cell2 h77 lk1) (cell2 h88 lk2) C1y.numK (hx.same (old2 wy hwyT)).numK C2y.numK (hs.same (old2 wy hwyT)).numK hxn hsl hk1 hk2 u12 [.code .ret] fun u w hu hO => (k57_out _ _ _ _ _ u hu w).mono fun g w' ⟨hC, d, e⟩ => ⟨hC, by rw [e]; exact hO⟩) ?_
  rintro g w' ⟨hC, hO⟩
  exact .now ⟨hC, old2 w' fun b hb => (hO.2 b (by omega)).trans (hwyT b hb)⟩
section
open Go.ChangeShapes Go.WideShapes Go.ChangeAt Go.Joins Go.Deep
theorem gateKeeps_lifted (os : Os) (started : os.Started) (H : Type) (enc : TypeId × Value → H) :
    ReturnsInLeavingWide {} Try.checked os 11 .any (Rows.gateKeepsSpec.pre6 enc Try.prog Try.f11 Rows.gateKeepsRow.domain false) (Rows.gateKeepsSpec.post enc Try.prog Try.f11 false true false false) := by
  refine returnsInLeavingWide_of_change_sized (C := Try.checked) prog_own started Try.func11
    (ChangeSpec.witness6 (enc := enc) (C := Try.checked) false ⟨#[], #[.agg #[.slice none 0 0, .slice none 0 0, .slice none 0 0, .int .i64 0], .agg #[.slice none 0 0, .slice none 0 0, .slice none 0 0, .int .i64 0]], []⟩ 8 (by kernel_rfl) (by kernel_rfl) (by kernel_rfl) (by kernel_rfl)) ?_
  intro W base args ds gs before hval0 hW _ hsz0 _
  have hval : ∀ (j : Nat) t v, Try.f11.params[j]? = some t → args[j]? = some v → Value.okWide Try.prog W .any base t v := hval0
  have hW' := hW
  obtain ⟨p, q, hA0, hV, rfl, _, _⟩ := hW
  have hA : DataW.TrodAll enc Try.prog W 0 (fun _ => true) true Try.f11.params.toList args.toList ds p := hA0
  rw [Try.params11] at hA hval
  have hsz : (DataW.weightsEach Try.prog (Try.f11.params.toList ++ Rows.gateKeepsSpec.plain.varTypes Try.prog) (ds ++ gs)).all (· ≤ reachBytes) = true := hsz0
  rw [Try.params11] at hsz
  obtain ⟨v0, v1, d0, d1, p0, p1, rfl, rfl, rfl, h0, h1⟩ := trodAll_two hA
  obtain ⟨rfl, rfl⟩ := trodVars_none hV
  have hlt := hW'.lt
  obtain ⟨xa, xc, xs, ta, n0, tc, tb, toff, oa, ln, oc, ops, sa, sc, sl, most, rfl, g1, g2, g3, g4, g5, g6, g7, g8, g9⟩ := open_scriptK (hval 0 71 v0 rfl rfl) h0 (j := 0) hsz rfl rfl
  obtain ⟨xa2, xc2, xs2, ta2, n2, tc2, tb2, toff2, oa2, ln2, oc2, ops2, sa2, sc2, sl2, most2, rfl, f1, f2, f3, f4, f5, f6, f7, f8, f9⟩ := open_scriptK (hval 1 71 v1 rfl rfl) h1 (j := 1) hsz rfl rfl
  clear hA0 hval0 hsz0 hsz
  simp only [List.append_nil] at hW' hlt
  obtain ⟨M, last, o, w', t', r1, r2, r3, r4⟩ := run_claim (Post := Left W) (t := 4) Try.func11 rfl (by kernel_rfl) (Runs.then (kp_all W xa xs xc g1 g2 ta n0 tc tb toff oa ln oc ops g3 g4 g5 g6 g7 sa sc sl g8 g9 most xa2 xs2 xc2 f1 f2 ta2 n2 tc2 tb2 toff2 oa2 ln2 oc2 ops2 f3 f4 f5 f6 sa2 sc2 sl2 f8 f9 most2) fun g w' ⟨hC, hO⟩ => .now ⟨hC, fun ho d => ⟨rfl, ho.1, ho.2, hO⟩⟩)
  refine ⟨M, last, o, w', t', r1, r2, r3, r4.mono fun v hF => ?_⟩
  have hk : Left W (.bool true) w' := ⟨rfl, hF.2⟩
  obtain rfl : v = .bool true := hF.1
  exact ⟨_, _, _, [], _, [], hW', trodAll_mk1 (shut_bool und4_is true), trodAll_mk2 (hk.stays (by kernel_rfl) (of_decide_eq_true (by kernel_rfl)) h0 fun x hx => hlt x (by simp [hx])) (hk.stays (by kernel_rfl) (of_decide_eq_true (by kernel_rfl)) h1 fun x hx => hlt x (by simp [hx])), rfl, hk.kept _, fun h => by cases h⟩
theorem gateKeeps_holds : Rows.GateKeepsSaid :=
  OpenClaim.holds_of_wide_leaving 11 Try.f11 rfl rfl rfl rfl rfl rfl rfl ⟨rfl, rfl, rfl, rfl, rfl⟩ rfl rfl rfl rfl rfl (by kernel_rfl) Try.func11 (by kernel_rfl)
    (of_decide_eq_true (by kernel_rfl)) (by unfold Func.isWrapper; first | (rw [if_pos (by decide +kernel)]; kernel_rfl) | (rw [if_neg (by decide +kernel)]; exact ⟨rfl, rfl⟩))
    (fun os started H enc _ => gateKeeps_lifted os started H enc)
end
end Go.Proofs.Ytgfajibjedfkdaa
