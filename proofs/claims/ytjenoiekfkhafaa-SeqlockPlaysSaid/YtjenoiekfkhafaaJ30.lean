/-
For all numbers to begin with, for all threads of operations, schedules and every most: SeqlockPlays returns true on every schedule of the goroutines, without a data race, and what was there stands. Conditions: none beyond the statement's own.
-/
import Derived.Test.YtjenoiekfkhafaaJ12
import Derived.Test.YtjenoiekfkhafaaJ29
set_option linter.unusedSimpArgs false
set_option linter.unusedVariables false
set_option linter.unusedVariables false
set_option maxHeartbeats 8000000
set_option maxRecDepth 100000
namespace Go.Proofs.Ytjenoiekfkhafaa
open Go.Conc Go.RowKit Go.Relay
open Go.ConcN (upd upd_ne upd_same)
section
open Go.ChangeShapes Go.WideShapes Go.ChangeAt Go.Joins Go.Deep
section
variable {H : Type} {enc : TypeId × Value → H} {W : World} {base : Nat} {spare : Nat → Bool} {held : Bool}
theorem open_threadsT {t : TypeId} {n : Nat} {v : Value} {x : DataW H × List MemPlace} (hu : Try.prog.underlying t = some (.slice 34)) (hu2 : Try.prog.underlying 34 = some (.slice 47)) (h : DataW.trod enc Try.prog W 0 (fun _ => true) true n t [v] = some x) :
  ∃ (a : Option Addr) (n0 cap tb toff : Nat) (oa : Nat → Option Addr) (ln oc : Nat → Nat) (ops : Nat → List OpV), v = .slice a n0 cap ∧ OpsIn tb toff (min n0 64) oa ln oc ops W ∧ (0 < n0 → a = some ⟨tb, toff, none⟩) ∧ (a = none ∧ cap = 0 ∨ ∃ p, a = some p) ∧ n0 ≤ cap := by
 have hC : Try.prog.cellsOf 34 = 1 := by kernel_rfl
 rcases open_slice1 hu hC h with ⟨e, _⟩ | ⟨a', len, cap, m, n', V, D, Pl, e, _, hl, _, hm, hx, hel⟩
 ·have e : [v] = [.slice none 0 0] := e
  injection e with e _
  subst e
  exact ⟨none, 0, 0, 0, 0, fun _ => none, fun _ => 0, fun _ => 0, fun _ => [], rfl, ⟨fun i h => absurd h (by omega), fun i h => absurd h (by omega), fun i h => absurd h (by omega), fun i h => absurd h (by omega), fun i h => absurd h (by omega)⟩, fun h => absurd h (Nat.lt_irrefl _), .inl ⟨rfl, rfl⟩, Nat.le_refl _⟩
 ·have e : [v] = [.slice (some a') len cap] := e
  injection e with e _
  subst e
  have hm : m = cap := by simpa using hm
  have key : ∀ i, i < len → ∃ q : (Option Addr × Nat × Nat) × List OpV, ThIn W (V i) q.1.1 q.1.2.1 q.1.2.2 q.2 := fun i hi => open_ops hu2 (hel i (by omega)).2
  have hI : Inhabited ((Option Addr × Nat × Nat) × List OpV) := ⟨((none, 0, 0), [])⟩
  obtain ⟨f, hf'⟩ := choose_lt (α := (Option Addr × Nat × Nat) × List OpV) key
  have hform : 0 < len → a' = ⟨a'.block, a'.off, none⟩ := fun h => by
   have h0 := (hel 0 (by omega)).1
   have ha : a'.add 0 = a' := by simp [Addr.add]
   rw [ha] at h0
   exact addr_form h0
  refine ⟨some a', len, cap, a'.block, a'.off, fun i => (f i).1.1, fun i => (f i).1.2.1, fun i => (f i).1.2.2, fun i => (f i).2.take 65536, rfl, ⟨fun i hi => ?_, fun i hi => (hf' i (by omega)).cap, fun i hi => (hf' i (by omega)).ad, fun i hi => ?_, fun i hi j o ho => ?_⟩, fun h => congrArg some (hform h), .inr ⟨_, rfl⟩, hl⟩
  ·have hci := (hel i (by omega)).1
   rw [(hf' i (by omega)).is, hform (by omega), add_none] at hci
   exact hci
  ·rw [List.length_take, (hf' i (by omega)).len]
   omega
  ·refine (hf' i (by omega)).ops j o ?_
   rw [List.getElem?_take] at ho
   split at ho
   ·exact ho
   ·cases ho
theorem trod_struct4x {P : Program} {t : TypeId} {f0 f1 f2 f3 : Field} {fuel : Nat} {cs : List Value} {x : DataW H × List MemPlace} (ht : P.underlying t = some (.struct #[f0, f1, f2, f3])) (h : DataW.trod enc P W base spare held fuel t cs = some x) :
  ∃ y0 y1 y2 y3 n, x.1 = .agg [y0.1, y1.1, y2.1, y3.1] ∧ cs.length = P.cellsOf t ∧ DataW.trod enc P W base spare held n f0.type ((cs.drop f0.offset).take (P.cellsOf f0.type)) = some y0 ∧
   DataW.trod enc P W base spare held n f1.type ((cs.drop f1.offset).take (P.cellsOf f1.type)) = some y1 ∧ DataW.trod enc P W base spare held n f2.type ((cs.drop f2.offset).take (P.cellsOf f2.type)) = some y2 ∧
   DataW.trod enc P W base spare held n f3.type ((cs.drop f3.offset).take (P.cellsOf f3.type)) = some y3 := by
 obtain ⟨xs, n, _, rfl, hl, hlen, hf⟩ := DataW.trod_struct ht h
 match xs, hlen with
 | [y0, y1, y2, y3], _ => exact ⟨y0, y1, y2, y3, n, rfl, hl, by simpa using hf 0 f0 rfl, by simpa using hf 1 f1 rfl, by simpa using hf 2 f2 rfl, by simpa using hf 3 f3 rfl⟩
end
noncomputable def fldsSc : Array Field := match Try.prog.underlying 26 with | some (.struct fs) => fs | _ => #[]
theorem undSc_is : Try.prog.underlying 26 = some (.struct fldsSc) := by kernel_rfl
theorem fldsSc_four : ∃ f0 f1 f2 f3, fldsSc = #[f0, f1, f2, f3] ∧ f0.type = 22 ∧ f1.type = 23 ∧ f2.type = 24 ∧ f3.type = 3 := by
 have hs : fldsSc.size = 4 := by kernel_rfl
 have h0 : (fldsSc[0]?).map (·.type) = some 22 := by kernel_rfl
 have h1 : (fldsSc[1]?).map (·.type) = some 23 := by kernel_rfl
 have h2 : (fldsSc[2]?).map (·.type) = some 24 := by kernel_rfl
 have h3 : (fldsSc[3]?).map (·.type) = some 3 := by kernel_rfl
 generalize fldsSc = F at *
 obtain ⟨l⟩ := F
 match l, hs with
 | [f0, f1, f2, f3], _ => exact ⟨f0, f1, f2, f3, rfl, by simpa using h0, by simpa using h1, by simpa using h2, by simpa using h3⟩
section
variable {H : Type} {enc : TypeId × Value → H} {W : World}
theorem open_script {base : Nat} {v : Value} {d : DataW H} {ps : List MemPlace} (hval : Value.okWide Try.prog W .any base 26 v) (h : DataW.Trod enc Try.prog W 0 (fun _ => true) true 26 v d ps) {ts : List TypeId} {ds : List (DataW H)} {j : Nat} (hsz : (DataW.weightsEach Try.prog ts ds).all (· ≤ reachBytes) = true) (ht : ts[j]? = some 26) (hd : ds[j]? = some d) :
  ∃ (xa : Option Addr) (xc : Nat) (xs : List Int) (ta : Option Addr) (n0 tc tb toff : Nat) (oa : Nat → Option Addr) (ln oc : Nat → Nat) (ops : Nat → List OpV) (sa : Option Addr) (sc : Nat) (sl : List Int) (most : Int), v = .agg #[.slice xa xs.length xc, .slice ta n0 tc, .slice sa sl.length sc, .int .i64 most] ∧
   xs.length ≤ 17592186044416 ∧ (∀ (i : Nat) (z : Int), xs[i]? = some z → ∃ s so, xa = some ⟨s, so, none⟩ ∧ W.cell? ⟨s, so + i, none⟩ = some (.int .i64 z)) ∧ LsR (.slice xa xs.length xc) xs W ∧ OpsIn tb toff (min n0 64) oa ln oc ops W ∧ (0 < n0 → ta = some ⟨tb, toff, none⟩) ∧ (ta = none ∧ tc = 0 ∨ ∃ p, ta = some p) ∧ n0 ≤ tc ∧ sl.length ≤ 17592186044416 ∧ ∀ (i : Nat) (z : Int), sl[i]? = some z → ∃ s so, sa = some ⟨s, so, none⟩ ∧ W.cell? ⟨s, so + i, none⟩ = some (.int .i64 z) := by
 obtain ⟨f0, f1, f2, f3, ef, t0, t1, t2, t3⟩ := fldsSc_four
 have hst : Try.prog.underlying 26 = some (.struct #[f0, f1, f2, f3]) := by rw [undSc_is, ef]
 have hone : oneCellFields Try.prog #[f0, f1, f2, f3] = true := by rw [← ef]; kernel_rfl
 have hC : Try.prog.cellsOf 26 = 4 := by kernel_rfl
 obtain ⟨cs, rfl, hcs⟩ := okWide_struct hst hval
 rw [hC] at hcs
 obtain ⟨fuel, hf⟩ := h
 have hf : DataW.trod enc Try.prog W 0 (fun _ => true) true fuel 26 cs.toList = some (d, ps) := hf
 obtain ⟨y0, y1, y2, y3, n, hag, _, u0, u1, u2, u3⟩ := trod_struct4x hst hf
 obtain ⟨o0, k0⟩ := hone_of hone 0 f0 rfl
 obtain ⟨o1, k1⟩ := hone_of hone 1 f1 rfl
 obtain ⟨o2, k2⟩ := hone_of hone 2 f2 rfl
 obtain ⟨o3, k3⟩ := hone_of hone 3 f3 rfl
 have hag : d = .agg [y0.1, y1.1, y2.1, y3.1] := hag
 subst hag
 have hsz2 : (DataW.weightsEach Try.prog [22, 23, 24, 3] [y0.1, y1.1, y2.1, y3.1]).all (· ≤ reachBytes) = true := by
  rw [List.all_eq_true] at hsz ⊢
  intro m hm
  refine hsz m (DataW.weights_mem_each ht hd m ?_)
  rw [DataW.weights, hst]
  simp only [List.map_cons, List.map_nil, t0, t1, t2, t3]
  exact hm
 obtain ⟨cl⟩ := cs
 match cl, hcs with
 | [c0, c1, c2, c3], _ =>
  rw [o0, k0, t0] at u0
  rw [o1, k1, t1] at u1
  rw [o2, k2, t2] at u2
  rw [o3, k3, t3] at u3
  have u0 : DataW.trod enc Try.prog W 0 (fun _ => true) true n 22 [c0] = some y0 := u0
  have u1 : DataW.trod enc Try.prog W 0 (fun _ => true) true n 23 [c1] = some y1 := u1
  have u2 : DataW.trod enc Try.prog W 0 (fun _ => true) true n 24 [c2] = some y2 := u2
  have u3 : DataW.trod enc Try.prog W 0 (fun _ => true) true n 3 [c3] = some y3 := u3
  obtain ⟨xa, xc, xs, rfl, g1, g2, g3, g4⟩ := open_numsT (e := 2) (by kernel_rfl) und2_is (by kernel_rfl) (by kernel_rfl) u0 (j := 0) hsz2 rfl rfl
  obtain ⟨ta, n0, tc, tb, toff, oa, ln, oc, ops, rfl, g5, g6, g7, g8⟩ := open_threadsT (by kernel_rfl) (by kernel_rfl) u1
  obtain ⟨sa, sc, sl, rfl, g9, g10, g11, g12⟩ := open_numsT (e := 3) (by kernel_rfl) und3_is (by kernel_rfl) (by kernel_rfl) u2 (j := 2) hsz2 rfl rfl
  obtain ⟨z, e, _, _⟩ := DataW.trod_int und3_is u3
  simp at e
  subst e
  exact ⟨xa, xc, xs, ta, n0, tc, tb, toff, oa, ln, oc, ops, sa, sc, sl, z, rfl, g1, (fun i z hz => (g2 i z hz).2), numsT_lsR g2 g3 g4, g5, g6, g7, g8, g9, fun i z hz => (g10 i z hz).2⟩
end
end
section
open Go.ChangeShapes Go.WideShapes Go.ChangeAt Go.Joins Go.Deep
theorem seqlockPlays_lifted (os : Os) (started : os.Started) (H : Type) (enc : TypeId × Value → H) :
  ReturnsInLeavingWide {} Try.checked os 3 .any (Rows.seqlockPlaysSpec.pre6 enc Try.prog Try.f3 Rows.seqlockPlaysRow.domain false) (Rows.seqlockPlaysSpec.post enc Try.prog Try.f3 false true false false) := by
 refine returnsInLeavingWide_of_change_sized (C := Try.checked) prog_own started Try.func3
  (ChangeSpec.witness6 (enc := enc) (C := Try.checked) false ⟨#[], #[.agg #[.slice none 0 0, .slice none 0 0, .slice none 0 0, .int .i64 0]], []⟩ 8 (by kernel_rfl) (by kernel_rfl) (by kernel_rfl) (by kernel_rfl)) ?_
 intro W base args ds gs before hval0 hW _ hsz0 _
 have hval : ∀ (j : Nat) t v, Try.f3.params[j]? = some t → args[j]? = some v → Value.okWide Try.prog W .any base t v := hval0
 have hW' := hW
 obtain ⟨p, q, hA0, hV, rfl, _, _⟩ := hW
 have hA : DataW.TrodAll enc Try.prog W 0 (fun _ => true) true Try.f3.params.toList args.toList ds p := hA0
 rw [Try.params3] at hA hval
 have hsz : (DataW.weightsEach Try.prog (Try.f3.params.toList ++ Rows.seqlockPlaysSpec.plain.varTypes Try.prog) (ds ++ gs)).all (· ≤ reachBytes) = true := hsz0
 rw [Try.params3] at hsz
 obtain ⟨v0, d0, rfl, rfl, h0⟩ := trodAll_one hA
 obtain ⟨rfl, rfl⟩ := trodVars_none hV
 have hlt := hW'.lt
 obtain ⟨xa, xc, xs, ta, n0, tc, tb, toff, oa, ln, oc, ops, sa, sc, sl, most, rfl, g1, g2, g3, g5, g6, g7, g8, g9, g10⟩ := open_script (hval 0 26 v0 rfl rfl) h0 (j := 0) hsz rfl rfl
 clear hA0 hval0 hsz0 hsz
 simp only [List.append_nil] at hW' hlt
 obtain ⟨M, last, o, w', t', r1, r2, r3, r4⟩ := run_claim (Post := Left W) (t := 2) Try.func3 rfl (by kernel_rfl) (Runs.then (spp_all xa xs xc g1 most ta n0 tc tb toff oa ln oc ops sa sc sl W g2 g3 g5 g6 g7 g8 g9 g10) fun g w' ⟨hC, hO⟩ => .now ⟨hC, fun ho d => ⟨rfl, ho.1, ho.2, hO⟩⟩)
 refine ⟨M, last, o, w', t', r1, r2, r3, r4.mono fun v hF => ?_⟩
 have hk : Left W (.bool true) w' := ⟨rfl, hF.2⟩
 obtain rfl : v = .bool true := hF.1
 exact ⟨_, _, _, [], _, [], hW', trodAll_mk1 (shut_bool und4_is true), trodAll_mk1 (hk.stays (by kernel_rfl) (of_decide_eq_true (by kernel_rfl)) h0 fun x hx => hlt x (by simp [hx])), rfl, hk.kept _, fun h => by cases h⟩
theorem seqlockPlays_holds : Rows.SeqlockPlaysSaid :=
 OpenClaim.holds_of_wide_leaving 3 Try.f3 rfl rfl rfl rfl rfl rfl rfl ⟨rfl, rfl, rfl, rfl, rfl⟩ rfl rfl rfl rfl rfl (by kernel_rfl) Try.func3 (by kernel_rfl)
  (of_decide_eq_true (by kernel_rfl)) (by unfold Func.isWrapper; first | (rw [if_pos (by decide +kernel)]; kernel_rfl) | (rw [if_neg (by decide +kernel)]; exact ⟨rfl, rfl⟩))
  (fun os started H enc _ => seqlockPlays_lifted os started H enc)
end
end Go.Proofs.Ytjenoiekfkhafaa
