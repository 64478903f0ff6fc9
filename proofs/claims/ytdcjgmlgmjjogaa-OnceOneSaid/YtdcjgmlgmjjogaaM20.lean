/-
For all numbers of Onces, for all threads of operations, schedules and every most: OnceOne returns true on every schedule of the goroutines, without a data race, and what was there stands. Conditions: none beyond the statement's own.
-/
import Derived.Test.YtdcjgmlgmjjogaaM17
import Derived.Test.YtdcjgmlgmjjogaaM19
set_option linter.unusedSimpArgs false
set_option linter.unusedVariables false
set_option maxHeartbeats 8000000
set_option maxRecDepth 100000
namespace Go.Proofs.Ytdcjgmlgmjjogaa
open Go.Conc Go.RowKit Go.Relay
open Go.ConcN (upd upd_ne upd_same)
section
open Go.ChangeShapes Go.WideShapes Go.ChangeAt Go.Joins Go.Deep
theorem one_facts (cb n : Nat) (hn : 0 < n) (n4 : Nat) (ops : Nat → List OpV) (hl : ∀ k, k < n4 → (ops k).length ≤ 6) (most : Int) (sl : List Int) (F : OX (onLa cb n) × List Nat) (hF : playO (onLa cb n) oz0 (fun k => (ops k).map (fewO n)) n4 most sl = F) :
    OnF (fun k => (ops k).map (fewO n)) n4 (fun i => (F.1.th i).ans) F.1.s ∧ goodZ F.1.s F.2.length ∧ (F.2.length : Int) ≤ min (max most 0) 1048576 := by
  have hfine : ∀ k, k < n4 → ∀ o ∈ (ops k).map (fewO n), fineZ n o := fun k _ o ho => by
    obtain ⟨o', _, rfl⟩ := List.mem_map.1 ho
    exact fewO_fine hn o'
  obtain ⟨A, hL⟩ := all_play (cb := cb) (m := n) (fun k => (ops k).map (fewO n)) n4 most sl hfine
  rw [hF] at A hL
  refine ⟨⟨fun k hk => ⟨?_, ?_⟩, fun k hk i o ho => ?_, fun k hk i o a ho ha => (A.th k hk).ans i o a ho ha, fun c k k' i i' hk hk' h1 h2 => A.win c k k' i i' hk hk' ?_ ?_⟩, A.good, hL⟩
  · have ht := (A.th k hk).tail
    cases hd : (F.1.th k).d with
    | none =>
      rw [hd] at ht
      exact Nat.le_of_eq ht.symm
    | some d =>
      rw [hd] at ht
      obtain ⟨o, e, _⟩ := ht
      have := congrArg List.length e
      simp only [List.length_drop, List.length_cons] at this
      show (F.1.th k).ans.length ≤ ((ops k).map (fewO n)).length
      omega
  · show ((ops k).map (fewO n)).length ≤ 65536
    rw [List.length_map]
    have := hl k hk
    omega
  · exact (hfine k hk o (List.mem_of_getElem? ho)).1
  · obtain ⟨o, a, e1, e2, e3⟩ := h1
    simp only [winB, Bool.and_eq_true, decide_eq_true_eq] at e3
    exact ⟨o, a, e1, e2, e3.1.1, e3.1.2, e3.2⟩
  · obtain ⟨o, a, e1, e2, e3⟩ := h2
    simp only [winB, Bool.and_eq_true, decide_eq_true_eq] at e3
    exact ⟨o, a, e1, e2, e3.1.1, e3.1.2, e3.2⟩
theorem oo_all (ce mo : Int) (hce : 0 ≤ ce) (hmo : 0 ≤ mo) (ta : Option Addr) (n0 tc tb toff : Nat) (oa : Nat → Option Addr) (ln oc : Nat → Nat) (ops : Nat → List OpV) (sa : Option Addr) (sc : Nat) (sl : List Int) (W : World)
    (I : OpsIn tb toff (min n0 64) oa ln oc ops W) (hta : 0 < n0 → ta = some ⟨tb, toff, none⟩) (had : ta = none ∧ tc = 0 ∨ ∃ p, ta = some p) (hcap : n0 ≤ tc)
    (hsl : sl.length ≤ 17592186044416) (hs : ∀ (j : Nat) (z : Int), sl[j]? = some z → ∃ s so, sa = some ⟨s, so, none⟩ ∧ W.cell? ⟨s, so + j, none⟩ = some (.int .i64 z)) :
    Runs (fun g w' => Closing 5 8 (.bool true) g ∧ ∀ b, b < W.heap.size → w'.heap[b]? = W.heap[b]?) (G (Frame.enter Try.prog 5 #[.int .u8 ce, .slice ta n0 tc, .slice sa sl.length sc, .int .u16 mo] .normal) []) W := by
  have c1 := Int.tmod_nonneg 3 hce
  have c2 := Int.tmod_lt_of_pos ce (show (0 : Int) < 3 by decide)
  have m1 := Int.tmod_nonneg 200 hmo
  have m2 := Int.tmod_lt_of_pos mo (show (0 : Int) < 200 by decide)
  obtain ⟨n, hn⟩ : ∃ n : Nat, 1 + ce.tmod 3 = n := ⟨(1 + ce.tmod 3).toNat, by omega⟩
  obtain ⟨M, hM⟩ : ∃ M : Nat, mo.tmod 200 = M := ⟨(mo.tmod 200).toNat, by omega⟩
  have hn1 : 1 ≤ n := by omega
  have hn3 : n ≤ 3 := by omega
  have hcn : cellsN (n : Int) = n := by unfold cellsN; omega
  refine Runs.walk (oo_in ce mo n M _ _ hn hn3 hn1 hM (by omega) W) ?_
  rintro _ _ ⟨fr1, rfl, ⟨d1, rfl⟩, hB1⟩
  refine Runs.then (sets_run fr1 [] (W.at d1)) ?_
  rintro _ w1 ⟨rfl, O1, Z1⟩
  have Z1' : W.heap.size ≤ w1.heap.size := Z1
  have O1' : ∀ b, b < W.heap.size → w1.heap[b]? = W.heap[b]? := O1
  have I1 : OpsIn tb toff (min n0 64) oa ln oc ops w1 := I.old O1'
  refine Runs.walk (hB1 w1 _ (few_w n hn1 (by omega) ta tb toff n0 tc hta had hcap oa ln oc ops w1 I1)) ?_
  rintro _ _ ⟨own, w2, fr2, rfl, ⟨xa, xc, ra, rc, rfl, H2⟩, ⟨d2, rfl⟩, hB2⟩
  have hl6 : ∀ k, k < min n0 4 → ((ops k).take 6).length ≤ 6 := fun k _ => by rw [List.length_take]; omega
  obtain ⟨xb, hxa, I2⟩ := H2.ops hl6
  have O2 : ∀ b, b < W.heap.size → w2.heap[b]? = W.heap[b]? := fun b hb => (H2.old b (by omega)).trans (O1' b hb)
  have Z2 : w1.heap.size ≤ w2.heap.size := H2.size
  have xad : xa = none ∧ xc = 0 ∨ ∃ p, xa = some p := by
    rcases H2.row.2 with ⟨e, h⟩ | ⟨g, cap, cur, e, h1, h2, h3, _⟩
    · injection e with e1 _ e3
      exact .inl ⟨e1, e3⟩
    · injection e with e1 _ _
      exact .inr ⟨_, e1⟩
  have xcap : min n0 4 ≤ xc := by
    rcases H2.row.2 with ⟨e, h⟩ | ⟨g, cap, cur, e, h1, h2, h3, _⟩
    · omega
    · injection e with _ _ e3
      omega
  have hmin : min (min n0 4) 64 = min n0 4 := by omega
  have hs2 : ∀ (w' : World), (∀ b, b < W.heap.size → w'.heap[b]? = W.heap[b]?) → ∀ (j : Nat) (z : Int), sl[j]? = some z → ∃ s so, sa = some ⟨s, so, none⟩ ∧ w'.cell? ⟨s, so + j, none⟩ = some (.int .i64 z) := fun w' ho j z hz => by
    obtain ⟨s, so, e, hc⟩ := hs j z hz
    exact ⟨s, so, e, (World.cell?_of_block (a := ⟨s, so + j, none⟩) (ho s (cell_lt' hc))).trans hc⟩
  have hfs : ∀ w' : World, CallV Try.prog true (fun _ => none) 80 #[.slice xa (min n0 4) xc] w' (.slice xa (min n0 4) xc) w' := fun w' => by
    have := firstOps_some (main := true) (V := fun _ => none) xa (min n0 4) xc w' xcap xad
    rwa [hmin] at this
  clear H2 I1
  generalize hOps : (fun k => ((ops k).take 6).map (fewO n)) = own at *
  have I2' : OpsIn xb 0 (min n0 4) ra (fun k => ((ops k).take 6).length) rc own (w2.at d2) := I2.old fun b hb => rfl
  refine Runs.then (oplay_any (n : Int) (.slice xa (min n0 4) xc) (M : Int) xa xb 0 xc (min n0 4) hxa (by omega) ra _ rc own sa sc sl hsl fr2 [] (w2.at d2) I2' (hs2 _ O2) fun w' _ => hfs w') ?_
  rintro _ w3 ⟨cells, P3, rfl⟩
  have O3 : ∀ b, b < w2.heap.size → w3.heap[b]? = w2.heap[b]? := P3.old
  have Z3 : w2.heap.size ≤ w3.heap.size := P3.size
  have T3 := P3.tr
  rw [hcn] at T3
  obtain ⟨X3, G3, L3⟩ := one_facts ((w2.at d2).heap.size + 1) n hn1 (min n0 4) (fun k => (ops k).take 6) hl6 (M : Int) sl _ rfl
  have eOps : (fun k => ((ops k).take 6).map (fewO n)) = own := hOps
  rw [eOps] at X3 G3 L3
  generalize playO (onLa ((w2.at d2).heap.size + 1) n) oz0 own (min n0 4) (M : Int) sl = F at *
  obtain ⟨ba, bc, oa', oc', sa', sc', rfl, n1, n2, n3⟩ := T3.all
  refine Runs.walk (hB2 ba oa' sa' (min n0 4) bc F.2.length oc' (ozState F.1.s n).length sc' (stuckO (min n0 4) F.1) w3 (by omega) fun w4 C4 => ?_) ?_
  · have I4 : OpsIn xb 0 (min n0 4) ra (fun k => ((ops k).take 6).length) rc own w4 := I2.old fun b hb => (C4.same b (by omega) id).trans (O3 b hb)
    exact one_w X3 (by omega) (by omega) G3 xa hxa xc _ F.2 _ w4 I4 (T3.chg C4)
  rintro _ w5 ⟨fr3, rfl, C5, hB3⟩
  have O5 : ∀ b, b < w2.heap.size → w5.heap[b]? = w2.heap[b]? := fun b hb => (C5.same b (by omega) id).trans (O3 b hb)
  have Z5 := C5.size
  have I5 : OpsIn xb 0 (min n0 4) ra (fun k => ((ops k).take 6).length) rc own w5 := I2.old O5
  refine Runs.then (oplay_any (n : Int) (.slice xa (min n0 4) xc) 1048576 xa xb 0 xc (min n0 4) hxa (by omega) ra _ rc own sa sc sl hsl fr3 [] w5 I5 (hs2 _ fun b hb => (O5 b (by omega)).trans (O2 b hb)) fun w' _ => hfs w') ?_
  rintro _ w6 ⟨cells6, P6, rfl⟩
  have T6 := P6.tr
  rw [hcn] at T6
  obtain ⟨X6, G6, L6⟩ := one_facts (w5.heap.size + 1) n hn1 (min n0 4) (fun k => (ops k).take 6) hl6 1048576 sl _ rfl
  rw [eOps] at X6 G6 L6
  generalize playO (onLa (w5.heap.size + 1) n) oz0 own (min n0 4) 1048576 sl = F6 at *
  have O6 : ∀ b, b < w5.heap.size → w6.heap[b]? = w5.heap[b]? := P6.old
  have Z6 : w5.heap.size ≤ w6.heap.size := P6.size
  have I6 : OpsIn xb 0 (min n0 4) ra (fun k => ((ops k).take 6).length) rc own w6 := I5.old O6
  refine Runs.walk (hB3 cells6 w6 (one_w X6 (by omega) (by omega) G6 xa hxa xc cells6 F6.2 _ w6 I6 T6)) ?_
  rintro g w7 ⟨hC, C7⟩
  exact .now ⟨hC, fun b hb => (C7.same b (by omega) id).trans ((O6 b (by omega)).trans ((O5 b (by omega)).trans (O2 b hb)))⟩
theorem und_u8 : Try.prog.underlying 5 = some (.int .u8) := by kernel_rfl
theorem und_u16 : Try.prog.underlying 57 = some (.int .u16) := by kernel_rfl
theorem onceOne_lifted (os : Os) (started : os.Started) (H : Type) (enc : TypeId × Value → H) :
    ReturnsInLeavingWide {} Try.checked os 5 .any (Rows.onceOneSpec.pre6 enc Try.prog Try.f5 Rows.onceOneRow.domain false) (Rows.onceOneSpec.post enc Try.prog Try.f5 false true false false) := by
  refine returnsInLeavingWide_of_change_sized (C := Try.checked) prog_own started Try.func5
    (ChangeSpec.witness6 (enc := enc) (C := Try.checked) false ⟨#[], #[.int .u8 0, .slice none 0 0, .slice none 0 0, .int .u16 0], []⟩ 8 (by kernel_rfl) (by kernel_rfl) (by kernel_rfl) (by kernel_rfl)) ?_
  intro W base args ds gs before hval0 hW _ hsz0 _
  have hval : ∀ (j : Nat) t v, Try.f5.params[j]? = some t → args[j]? = some v → Value.okWide Try.prog W .any base t v := hval0
  have hW' := hW
  obtain ⟨p, q, hA0, hV, rfl, _, _⟩ := hW
  have hA : DataW.TrodAll enc Try.prog W 0 (fun _ => true) true Try.f5.params.toList args.toList ds p := hA0
  rw [Try.params5] at hA hval
  have hsz : (DataW.weightsEach Try.prog (Try.f5.params.toList ++ Rows.onceOneSpec.plain.varTypes Try.prog) (ds ++ gs)).all (· ≤ reachBytes) = true := hsz0
  rw [Try.params5] at hsz
  obtain ⟨v0, v1, v2, v3, d0, d1, d2, d3, p0, p1, p2, p3, rfl, rfl, rfl, h0, h1, h2, h3⟩ := trodAll_four hA
  obtain ⟨rfl, rfl⟩ := trodVars_none hV
  have hlt := hW'.lt
  obtain ⟨sz, rfl, rfl, rfl, wsz⟩ := open_int und_u8 (hval 0 5 v0 rfl rfl) h0
  obtain ⟨ta, n0, tc, tb, toff, oa, ln, oc, ops, rfl, hI, hta, had, hcap⟩ := open_threads (t := 22) (by kernel_rfl) (by kernel_rfl) (hval 1 22 v1 rfl rfl) h1
  obtain ⟨sa, sc, sl, rfl, hsl, hs, hnil⟩ := open_nums (t := 23) (by kernel_rfl) (hval 2 23 v2 rfl rfl) h2 (j := 2) hsz rfl rfl
  obtain ⟨most, rfl, rfl, rfl, wm⟩ := open_int und_u16 (hval 3 57 v3 rfl rfl) h3
  have hce : 0 ≤ sz := by
    have h := wsz
    simp [Lit.wf, IntKind.min, IntKind.signed] at h
    omega
  have hmo : 0 ≤ most := by
    have h := wm
    simp [Lit.wf, IntKind.min, IntKind.signed] at h
    omega
  clear hA0 hval0 hsz0 hsz
  simp only [List.append_nil, List.nil_append] at hW' hlt
  obtain ⟨M, last, o, w', t', r1, r2, r3, r4⟩ := run_claim (Post := Left W) (t := 8) Try.func5 rfl (by kernel_rfl) (Runs.then (oo_all sz most hce hmo ta n0 tc tb toff oa ln oc ops sa sc sl W hI hta had hcap hsl hs) fun g w' ⟨hC, hO⟩ => .now ⟨hC, fun ho d => ⟨rfl, ho.1, ho.2, hO⟩⟩)
  refine ⟨M, last, o, w', t', r1, r2, r3, r4.mono fun v hF => ?_⟩
  have hk : Left W (.bool true) w' := ⟨rfl, hF.2⟩
  obtain rfl : v = .bool true := hF.1
  exact ⟨_, _, _, [], _, [], hW', trodAll_mk1 (shut_bool und4_is true), trodAll_mk4 (shut_int und_u8 wsz) (hk.stays (by kernel_rfl) (of_decide_eq_true (by kernel_rfl)) h1 fun x hx => hlt x (by simp [hx])) (hk.stays (by kernel_rfl) (of_decide_eq_true (by kernel_rfl)) h2 fun x hx => hlt x (by simp [hx])) (shut_int und_u16 wm), rfl, hk.kept _, fun h => by cases h⟩
theorem onceOne_holds : Rows.OnceOneSaid :=
  OpenClaim.holds_of_wide_leaving 5 Try.f5 rfl rfl rfl rfl rfl rfl rfl ⟨rfl, rfl, rfl, rfl, rfl⟩ rfl rfl rfl rfl rfl (by kernel_rfl) Try.func5 (by kernel_rfl)
    (of_decide_eq_true (by kernel_rfl)) (by unfold Func.isWrapper; first | (rw [if_pos (by decide +kernel)]; kernel_rfl) | (rw [if_neg (by decide +kernel)]; exact ⟨rfl, rfl⟩))
    (fun os started H enc _ => onceOne_lifted os started H enc)
end
end Go.Proofs.Ytdcjgmlgmjjogaa
