/-
For all lists of operations: StripeNone returns true on every schedule of the goroutines, without a data race, and what was there stands. Conditions: none beyond the statement's own.
-/
import Derived.Test.YtnnakajldnaldaaZ8
import Derived.Test.YtnnakajldnaldaaZ9
set_option linter.unusedSimpArgs false
set_option linter.unusedVariables false
set_option maxHeartbeats 8000000
set_option maxRecDepth 100000
namespace Go.Proofs.Ytnnakajldnaldaa
open Go.Conc Go.RowKit Go.Relay
open Go.ConcN (upd upd_ne upd_same)
section
open Go.ChangeShapes Go.WideShapes Go.ChangeAt Go.Joins Go.Deep
section
variable {H : Type} {enc : TypeId × Value → H} {W : World}
theorem open_opsN {base : Nat} {v : Value} {d : DataW H} {ps : List MemPlace} (hu : Try.prog.underlying 34 = some (.slice 46)) (hval : Value.okWide Try.prog W .any base 34 v) (h : DataW.Trod enc Try.prog W 0 (fun _ => true) true 34 v d ps)
    {ts : List TypeId} {ds : List (DataW H)} {j : Nat} (hsz : (DataW.weightsEach Try.prog ts ds).all (· ≤ reachBytes) = true) (ht : ts[j]? = some 34) (hd : ds[j]? = some d) :
    ∃ (a : Option Addr) (n0 tc : Nat) (ops : List OpV), v = .slice a n0 tc ∧ ops.length = n0 ∧ n0 ≤ tc ∧ (a = none ∧ tc = 0 ∨ ∃ p, a = some p) ∧ n0 ≤ 17592186044416 ∧
      ∀ (j : Nat) (o : OpV), ops[j]? = some o → ∃ b off, a = some ⟨b, off, none⟩ ∧ W.cell? ⟨b, off + j * 4, none⟩ = some (.int .i64 o.k) ∧ W.cell? ⟨b, off + j * 4 + 1, none⟩ = some (.int .i64 o.a) ∧ W.cell? ⟨b, off + j * 4 + 2, none⟩ = some (.int .i64 o.b) ∧ W.cell? ⟨b, off + j * 4 + 3, none⟩ = some (.int .i64 o.c) := by
  obtain ⟨sa, sl, sc, rfl⟩ := okWide_slice hu hval
  obtain ⟨fuel, hf⟩ := h
  have hf : DataW.trod enc Try.prog W 0 (fun _ => true) true fuel 34 [.slice sa sl sc] = some (d, ps) := hf
  generalize hv : Value.slice sa sl sc = v at *
  obtain ⟨⟨⟨a, n0, tc⟩, l⟩, I⟩ := open_ops hu hf
  have hb : n0 ≤ 17592186044416 := by
    have hB : Try.prog.bytesOf 46 = 32 := by kernel_rfl
    have hr := reachBytes_lt
    rcases open_slice hu hf with ⟨e, _⟩ | ⟨a', len', cap', m, n', D, Pl, e, _, hl, _, hm, hx, _⟩
    · have e : [v] = [.slice none 0 0] := e
      injection e with e _
      rw [I.is] at e
      injection e with _ e _
      have e : n0 = 0 := e
      omega
    · have e : [v] = [.slice (some a') len' cap'] := e
      injection e with e _
      rw [I.is] at e
      injection e with _ e _
      have e : n0 = len' := e
      injection hx with hx _
      subst hx
      have hs := sized_slice hsz ht hd hu
      rw [hB] at hs
      simp only [List.length_map, List.length_range] at hs
      omega
  exact ⟨a, n0, tc, l, I.is, I.len, I.cap, I.ad, hb, fun j o ho => I.ops j o ho⟩
end
theorem stripeNone_lifted (os : Os) (started : os.Started) (H : Type) (enc : TypeId × Value → H) :
    ReturnsInLeavingWide {} Try.checked os 10 .any (Rows.stripeNoneSpec.pre6 enc Try.prog Try.f10 Rows.stripeNoneRow.domain false) (Rows.stripeNoneSpec.post enc Try.prog Try.f10 false true false false) := by
  refine returnsInLeavingWide_of_change_sized (C := Try.checked) prog_own started Try.func10
    (ChangeSpec.witness6 (enc := enc) (C := Try.checked) false ⟨#[], #[.slice none 0 0], []⟩ 8 (by kernel_rfl) (by kernel_rfl) (by kernel_rfl) (by kernel_rfl)) ?_
  intro W base args ds gs before hval0 hW _ hsz0 _
  have hval : ∀ (j : Nat) t v, Try.f10.params[j]? = some t → args[j]? = some v → Value.okWide Try.prog W .any base t v := hval0
  have hW' := hW
  obtain ⟨p, q, hA0, hV, rfl, _, _⟩ := hW
  have hA : DataW.TrodAll enc Try.prog W 0 (fun _ => true) true Try.f10.params.toList args.toList ds p := hA0
  rw [Try.params10] at hA hval
  have hsz : (DataW.weightsEach Try.prog (Try.f10.params.toList ++ Rows.stripeNoneSpec.plain.varTypes Try.prog) (ds ++ gs)).all (· ≤ reachBytes) = true := hsz0
  rw [Try.params10] at hsz
  obtain ⟨v0, d0, rfl, rfl, h0⟩ := trodAll_one hA
  obtain ⟨rfl, rfl⟩ := trodVars_none hV
  have hlt := hW'.lt
  obtain ⟨ta, n0, tc, ops, rfl, hlen, hcap, had, hn0, hop⟩ := open_opsN (by kernel_rfl) (hval 0 34 v0 rfl rfl) h0 (j := 0) hsz rfl rfl
  clear hA0 hval0 hsz0 hsz
  simp only [List.append_nil] at hW' hlt
  obtain ⟨M, last, o, w', t', r1, r2, r3, r4⟩ := run_claim (Post := Left W) (t := 2) Try.func10 rfl (by kernel_rfl) (Runs.then (none_all ta n0 tc hn0 ops hlen W hop) fun g w' ⟨hC, hO⟩ => .now ⟨hC, fun ho d => ⟨rfl, ho.1, ho.2, hO⟩⟩)
  refine ⟨M, last, o, w', t', r1, r2, r3, r4.mono fun v hF => ?_⟩
  have hk : Left W (.bool true) w' := ⟨rfl, hF.2⟩
  obtain rfl : v = .bool true := hF.1
  exact ⟨_, _, _, [], _, [], hW', trodAll_mk1 (shut_bool und4_is true), trodAll_mk1 (hk.stays (by kernel_rfl) (of_decide_eq_true (by kernel_rfl)) h0 fun x hx => hlt x (by simp [hx])), rfl, hk.kept _, fun h => by cases h⟩
theorem stripeNone_holds : Rows.StripeNoneSaid :=
  OpenClaim.holds_of_wide_leaving 10 Try.f10 rfl rfl rfl rfl rfl rfl rfl ⟨rfl, rfl, rfl, rfl, rfl⟩ rfl rfl rfl rfl rfl (by kernel_rfl) Try.func10 (by kernel_rfl)
    (of_decide_eq_true (by kernel_rfl)) (by unfold Func.isWrapper; first | (rw [if_pos (by decide +kernel)]; kernel_rfl) | (rw [if_neg (by decide +kernel)]; exact ⟨rfl, rfl⟩))
    (fun os started H enc _ => stripeNone_lifted os started H enc)
end
end Go.Proofs.Ytnnakajldnaldaa
