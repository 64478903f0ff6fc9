/-
For all numbers of stripes, lists of numbers and schedules: StripeBounds returns true on every schedule of the goroutines, without a data race, and what was there stands. Conditions: none beyond the statement's own.
-/
import Derived.Test.YtnnakajldnaldaaM11
import Derived.Test.YtnnakajldnaldaaM12
set_option linter.unusedSimpArgs false
set_option linter.unusedVariables false
set_option maxHeartbeats 8000000
set_option maxRecDepth 100000
namespace Go.Proofs.Ytnnakajldnaldaa
open Go.Conc Go.RowKit Go.Relay
open Go.ConcN (upd upd_ne upd_same)
section
open Go.ChangeShapes Go.WideShapes Go.ChangeAt Go.Joins Go.Deep
section
variable {H : Type} {enc : TypeId × Value → H} {W : World}
theorem open_numsI {t e : TypeId} {n : Nat} {v : Value} {x : DataW H × List MemPlace} (hu : Try.prog.underlying t = some (.slice e)) (he : Try.prog.underlying e = some (.int .i64)) (hc3 : Try.prog.cellsOf e = 1) (h : DataW.trod enc Try.prog W 0 (fun _ => true) true n t [v] = some x) :
    ∃ q : (Option Addr × Nat) × List Int, v = .slice q.1.1 q.2.length q.1.2 ∧ ∀ (i : Nat) (z : Int), q.2[i]? = some z → ∃ s so, q.1.1 = some ⟨s, so, none⟩ ∧ W.cell? ⟨s, so + i, none⟩ = some (.int .i64 z) := by
  rcases open_ints hu he hc3 h with ⟨e, _⟩ | ⟨a', len', cap', zs, e, _, hl, _, hzl, hx, hcell, hwf⟩
  · have e : [v] = [.slice none 0 0] := e
    injection e with e _
    subst e
    exact ⟨((none, 0), []), rfl, fun i z h => by simp at h⟩
  · have e : [v] = [.slice (some a') len' cap'] := e
    injection e with e _
    subst e
    have hzl : zs.length = cap' := by simpa using hzl
    have htl : (zs.take len').length = len' := by rw [List.length_take]; omega
    refine ⟨((some a', cap'), zs.take len'), by show _ = Value.slice (some a') (zs.take len').length cap'; rw [htl], fun i z hz => ?_⟩
    have hz : (zs.take len')[i]? = some z := hz
    have hi : i < len' := by have := (List.getElem?_eq_some_iff.1 hz).1; omega
    have h0 := hcell 0 (by omega)
    have ha : a'.add 0 = a' := by simp [Addr.add]
    rw [ha] at h0
    have hform := addr_form h0
    have hci := hcell i (by omega)
    rw [hform] at hci
    have hz' : zs[i]? = some z := by
      rw [List.getElem?_take, if_pos hi] at hz
      exact hz
    refine ⟨_, _, congrArg some hform, ?_⟩
    rw [add_none] at hci
    rw [hci]
    rw [List.getD_eq_getElem?_getD, hz']
    rfl
theorem open_lists {t : TypeId} {base : Nat} {v : Value} {d : DataW H} {ps : List MemPlace} (hu : Try.prog.underlying t = some (.slice 22)) (hval : Value.okWide Try.prog W .any base t v) (h : DataW.Trod enc Try.prog W 0 (fun _ => true) true t v d ps) :
    ∃ (a : Option Addr) (n0 cap lb lo : Nat) (xa : Nat → Option Addr) (xc : Nat → Nat) (xs : Nat → List Int), v = .slice a n0 cap ∧ (0 < n0 → a = some ⟨lb, lo, none⟩) ∧ LsIn lb lo (min n0 63) xa xc xs W := by
  obtain ⟨sa, sl, sc, rfl⟩ := okWide_slice hu hval
  obtain ⟨fuel, hf⟩ := h
  have hf : DataW.trod enc Try.prog W 0 (fun _ => true) true fuel t [.slice sa sl sc] = some (d, ps) := hf
  have hC : Try.prog.cellsOf 22 = 1 := by kernel_rfl
  rcases open_slice1 hu hC hf with ⟨e, _⟩ | ⟨a', len, cap, m, n', V, D, Pl, e, _, hl, _, hm, hx, hel⟩
  · have e : [Value.slice sa sl sc] = [.slice none 0 0] := e
    injection e with e _
    cases e
    exact ⟨none, 0, 0, 0, 0, fun _ => none, fun _ => 0, fun _ => [], rfl, fun h => absurd h (Nat.lt_irrefl _), fun i h => absurd h (by omega), fun i h => absurd h (by omega)⟩
  · have e : [Value.slice sa sl sc] = [.slice (some a') len cap] := e
    injection e with e _
    cases e
    have hm : m = sc := by simpa using hm
    have key : ∀ i, i < sl → ∃ q : (Option Addr × Nat) × List Int, V i = .slice q.1.1 q.2.length q.1.2 ∧ ∀ (k : Nat) (z : Int), q.2[k]? = some z → ∃ s so, q.1.1 = some ⟨s, so, none⟩ ∧ W.cell? ⟨s, so + k, none⟩ = some (.int .i64 z) := fun i hi => open_numsI (e := 2) (by kernel_rfl) und2_is (by kernel_rfl) (hel i (by omega)).2
    have hI : Inhabited ((Option Addr × Nat) × List Int) := ⟨((none, 0), [])⟩
    obtain ⟨f, hf'⟩ := choose_lt (α := (Option Addr × Nat) × List Int) key
    have hform : 0 < sl → a' = ⟨a'.block, a'.off, none⟩ := fun h => by
      have h0 := (hel 0 (by omega)).1
      have ha : a'.add 0 = a' := by simp [Addr.add]
      rw [ha] at h0
      exact addr_form h0
    refine ⟨some a', sl, sc, a'.block, a'.off, fun i => (f i).1.1, fun i => (f i).1.2, fun i => (f i).2, rfl, fun h => congrArg some (hform h), fun i hi => ?_, fun i hi k x hx => (hf' i (by omega)).2 k x hx⟩
    have hci := (hel i (by omega)).1
    rw [(hf' i (by omega)).1, hform (by omega), add_none] at hci
    exact hci
end
theorem und_u8 : Try.prog.underlying 5 = some (.int .u8) := by kernel_rfl
theorem stripeBounds_lifted (os : Os) (started : os.Started) (H : Type) (enc : TypeId × Value → H) :
    ReturnsInLeavingWide {} Try.checked os 5 .any (Rows.stripeBoundsSpec.pre6 enc Try.prog Try.f5 Rows.stripeBoundsRow.domain false) (Rows.stripeBoundsSpec.post enc Try.prog Try.f5 false true false false) := by
  refine returnsInLeavingWide_of_change_sized (C := Try.checked) prog_own started Try.func5
    (ChangeSpec.witness6 (enc := enc) (C := Try.checked) false ⟨#[], #[.int .u8 0, .slice none 0 0, .slice none 0 0], []⟩ 8 (by kernel_rfl) (by kernel_rfl) (by kernel_rfl) (by kernel_rfl)) ?_
  intro W base args ds gs before hval0 hW _ hsz0 _
  have hval : ∀ (j : Nat) t v, Try.f5.params[j]? = some t → args[j]? = some v → Value.okWide Try.prog W .any base t v := hval0
  have hW' := hW
  obtain ⟨p, q, hA0, hV, rfl, _, _⟩ := hW
  have hA : DataW.TrodAll enc Try.prog W 0 (fun _ => true) true Try.f5.params.toList args.toList ds p := hA0
  rw [Try.params5] at hA hval
  have hsz : (DataW.weightsEach Try.prog (Try.f5.params.toList ++ Rows.stripeBoundsSpec.plain.varTypes Try.prog) (ds ++ gs)).all (· ≤ reachBytes) = true := hsz0
  rw [Try.params5] at hsz
  obtain ⟨v0, v1, v2, d0, d1, d2, p0, p1, p2, rfl, rfl, rfl, h0, h1, h2⟩ := trodAll_three hA
  obtain ⟨rfl, rfl⟩ := trodVars_none hV
  have hlt := hW'.lt
  obtain ⟨sz, rfl, rfl, rfl, wsz⟩ := open_int und_u8 (hval 0 5 v0 rfl rfl) h0
  obtain ⟨la, n0, lc, lb, lo, xa, xc, xs, rfl, hla, hL⟩ := open_lists (t := 52) (by kernel_rfl) (hval 1 52 v1 rfl rfl) h1
  obtain ⟨a2, n2, c2, rfl⟩ := okWide_slice (show Try.prog.underlying 24 = some (.slice 3) by kernel_rfl) (hval 2 24 v2 rfl rfl)
  have h2' := h2
  obtain ⟨fuel, hf⟩ := h2
  have hf : DataW.trod enc Try.prog W 0 (fun _ => true) true fuel 24 [.slice a2 n2 c2] = some (d2, p2) := hf
  obtain ⟨sa, sc, sl, e2, g9, g10, g11, g12⟩ := open_numsT (e := 3) (by kernel_rfl) und3_is (by kernel_rfl) (by kernel_rfl) hf (j := 2) hsz rfl rfl
  rw [e2] at h2' hval hW' ⊢
  have hce : 0 ≤ sz := by
    have h := wsz
    simp [Lit.wf, IntKind.min, IntKind.signed] at h
    omega
  clear hA0 hval0 hsz0 hsz hA hf e2
  simp only [List.append_nil, List.nil_append] at hW' hlt
  obtain ⟨M, last, o, w', t', r1, r2, r3, r4⟩ := run_claim (Post := Left W) (t := 6) Try.func5 rfl (by kernel_rfl) (Runs.then (bo_whole sz hce la n0 lc lb lo hla xa xc xs sa sc sl W hL g9 fun i z hz => (g10 i z hz).2) fun g w' ⟨hC, hO⟩ => .now ⟨hC, fun ho d => ⟨rfl, ho.1, ho.2, hO⟩⟩)
  refine ⟨M, last, o, w', t', r1, r2, r3, r4.mono fun v hF => ?_⟩
  have hk : Left W (.bool true) w' := ⟨rfl, hF.2⟩
  obtain rfl : v = .bool true := hF.1
  exact ⟨_, _, _, [], _, [], hW', trodAll_mk1 (shut_bool und4_is true), trodAll_mk3 (shut_int und_u8 wsz) (hk.stays (by kernel_rfl) (of_decide_eq_true (by kernel_rfl)) h1 fun x hx => hlt x (by simp [hx])) (hk.stays (by kernel_rfl) (of_decide_eq_true (by kernel_rfl)) h2' fun x hx => hlt x (by simp [hx])), rfl, hk.kept _, fun h => by cases h⟩
theorem stripeBounds_holds : Rows.StripeBoundsSaid :=
  OpenClaim.holds_of_wide_leaving 5 Try.f5 rfl rfl rfl rfl rfl rfl rfl ⟨rfl, rfl, rfl, rfl, rfl⟩ rfl rfl rfl rfl rfl (by kernel_rfl) Try.func5 (by kernel_rfl)
    (of_decide_eq_true (by kernel_rfl)) (by unfold Func.isWrapper; first | (rw [if_pos (by decide +kernel)]; kernel_rfl) | (rw [if_neg (by decide +kernel)]; exact ⟨rfl, rfl⟩))
    (fun os started H enc _ => stripeBounds_lifted os started H enc)
end
end Go.Proofs.Ytnnakajldnaldaa
