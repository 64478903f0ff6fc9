/- Part 6. -/
import Derived.Test.YtgfajibjedfkdaaJK3
import Derived.Test.YtgfajibjedfkdaaJK4
import Derived.Test.YtgfajibjedfkdaaJK5
import Derived.Deep.AppendLies
import Derived.Deep.Heap
set_option linter.unusedSimpArgs false
set_option linter.unusedVariables false
set_option maxHeartbeats 8000000
set_option maxRecDepth 100000
namespace Go.Proofs.Ytgfajibjedfkdaa
open Go.Conc Go.RowKit Go.Relay
open Go.ConcN (upd upd_ne upd_same)
section
variable {main : Bool} {V : Nat → Option Wait}
noncomputable def ops79 : Array Oper := match Try.f138.body with | some (.seq (.region _ ops _) _) => ops | _ => #[]
noncomputable def rest79 : Code := match Try.f138.body with | some (.seq _ c) => c | _ => .skip
noncomputable def fr79 (B p : Nat) : Frame :=
  (base 138).at { tmps := #[.pointer (some ⟨B, 0, none⟩), .pointer (some ⟨p, 0, none⟩), undef, undef, .pointer (some ⟨p, 0, none⟩), undef, undef, undef, undef, undef, undef, undef, undef, undef, undef, undef, undef], defers := [] } [.inRegion ops79 [1], .code rest79]
theorem way79 (B p r : Nat) (cs : List Frame) (v : Wait) (hch : v.ch = r) (hz : v.z = .agg #[]) (hok : v.ok = true) (hf : v.f ⟨p, 1, none⟩ = some (.chan (some r))) (hh : v.home (rec107 p r (fr79 B p :: cs))) :
    Yonder Try.prog main v (G (Frame.enter Try.prog 138 #[.pointer (some ⟨B, 0, none⟩), .pointer (some ⟨p, 0, none⟩)] .normal) cs) := by
  rw [enter_at _ Try.func138 rfl]
  simp only [Try.f138, Option.getD_some, List.size_toArray, List.length_cons, List.length_nil, Nat.reduceAdd, Nat.reduceSub, Array.replicate_succ, Array.replicate_zero, List.push_toArray, List.append_toArray, List.nil_append, List.cons_append]
  iterate 3 (try (first | refine Yonder.c rfl ?_ | refine Yonder.cR ?_ | refine Yonder.cE ?_ | refine Yonder.cT ?_ | (refine Yonder.oq ?_; try walk_nrm)))
  refine Yonder.callE rfl (by rfl) (by decide) rfl Try.func149 (by kernel_rfl) (by rfl) ?_
  walk_nrm
  refine way107 p r _ v hch hz hok hf ?_
  simp only [fr79, ops79, rest79, Try.f138] at hh
  exact hh
def awaitW (w : World) (B p : Nat) (going : Int) (ok : Bool) : World :=
  if ok then (w.alloc (.cells #[] 46)).setCell ⟨p, 2, none⟩ (.bool false) else ((w.alloc (.cells #[] 46)).setCell ⟨p, 2, none⟩ (.bool true)).setCell ⟨B, 1, none⟩ (.int .i64 (going - 1))
theorem serve79 (B p r : Nat) (c : Frame) (cs : List Frame) (ok e0 : Bool) (going : Int) (w : World) (hg1 : 1 ≤ going) (hg2 : going ≤ 64) (hBp : B ≠ p) (h2 : w.cell? ⟨p, 2, none⟩ = some (.bool e0)) (hz2 : w.frozen? ⟨p, 2, none⟩ = false) (hfr : Free V ⟨p, 2, none⟩)
    (h1 : w.cell? ⟨B, 1, none⟩ = some (.int .i64 going)) (hz1 : w.frozen? ⟨B, 1, none⟩ = false) (hfr1 : Free V ⟨B, 1, none⟩) :
    Walk Try.prog main (DR V) (fun g w' => g = G (c.finish (.tuple #[])) cs ∧ ∃ d, w' = (awaitW w B p going ok).at d) (Go.Conc.served (rec107 p r (fr79 B p :: c :: cs)) (recvd true (.agg #[]) ok)) w := by
  refine (serve107 p r (fr79 B p) (c :: cs) ok e0 w h2 hz2 hfr).then ?_
  rintro g w' ⟨rfl, d, rfl⟩
  refine Walk.back ?_ d
  have ha := cell_alloc w (.cells #[] 46) h2
  have hb := cell_alloc w (.cells #[] 46) h1
  have hbz := frozen_alloc w (.cells #[] 46) h1 hz1
  have hne : (⟨p, 2, none⟩ : Addr) ≠ ⟨B, 1, none⟩ := fun e => by cases e
  have g2 := World.cell?_setCell_same (w.alloc (.cells #[] 46)) ⟨p, 2, none⟩ (.bool (!ok)) ha
  have g1 := (World.cell?_setCell_other (w.alloc (.cells #[] 46)) ⟨p, 2, none⟩ ⟨B, 1, none⟩ (.bool (!ok)) hne).trans hb
  have g1z : ((w.alloc (.cells #[] 46)).setCell ⟨p, 2, none⟩ (.bool (!ok))).frozen? ⟨B, 1, none⟩ = false := by rw [World.frozen?_setCell]; exact hbz
  generalize hW : (w.alloc (.cells #[] 46)).setCell ⟨p, 2, none⟩ (.bool (!ok)) = W at g1 g2 g1z ⊢
  unfold fr79
  rw [Frame.finish_at]
  simp only [ops79, rest79, Try.f138]
  walk_nrm
  cases ok with
  | true =>
    simp only [Bool.not_true] at g2 hW
    repeat (first | refine Walk.cx ?_ | refine Walk.cR ?_ | (refine Walk.oq ?_; try walk_nrm) | (refine Walk.un ?_; walk_nrm))
    exact Walk.ctl rfl (fun w => stepG_leave rfl rfl Try.func138 (results_none rfl _ _ w) (events_results_none rfl _ _)) (.stop fun d => ⟨rfl, d, by rw [← hW]; rfl⟩)
  | false =>
    simp only [Bool.not_false] at g2 hW
    have hw1 : IntKind.wrap .i64 (going - 1) = going - 1 := by rw [IntKind.wrap_i64]; omega
    repeat (first | refine Walk.cx ?_ | refine Walk.cR ?_ | (refine Walk.oq ?_; try walk_nrm) | (refine Walk.un ?_; walk_nrm))
    (refine Walk.os hfr1 g1 ?_; try walk_nrm)
    repeat (first | refine Walk.cx ?_ | refine Walk.cR ?_ | (refine Walk.oq ?_; try walk_nrm) | (refine Walk.un ?_; walk_nrm))
    exact Walk.ctl rfl (fun w => stepG_leave rfl rfl Try.func138 (results_none rfl _ _ w) (events_results_none rfl _ _)) (.stop fun d => ⟨rfl, d, by rw [← hW]; rfl⟩)
end
section
variable {main : Bool} {V : Nat → Option Wait}
noncomputable def rest81a : Code := match Try.f140.body with | some (.seq _ (.seq _ c)) => c | _ => .skip
noncomputable def ops81s : Array Oper := match rest81a with | .seq (.region _ ops _) _ => ops | _ => #[]
noncomputable def rest81 : Code := match rest81a with | .seq _ c => c | _ => .skip
noncomputable def ops81w : Array Oper := match rest81 with | .region _ ops _ => ops | _ => #[]
noncomputable def rec81s (B sb n scap i p ct N : Nat) (old new : Value) (cs : List Frame) : Goroutine :=
  G ((base 140).at { tmps := #[.pointer (some ⟨B, 0, none⟩), .int .i64 i, undef, undef, .int .i64 i, .bool false, .bool false, .int .i64 i, .pointer (some ⟨B, 0, none⟩), .pointer (some ⟨B, 0, none⟩), .pointer (some ⟨B, 0, none⟩), .slice (some ⟨sb, 0, none⟩) n scap, .int .i64 n, .bool false, .bool false, .bool false, .pointer (some ⟨B, 0, none⟩), .pointer (some ⟨B, 0, none⟩), .pointer (some ⟨B, 0, none⟩), .slice (some ⟨sb, 0, none⟩) n scap, .int .i64 i, .pointer (some ⟨sb, i, none⟩), .pointer (some ⟨p, 0, none⟩), .pointer (some ⟨p, 0, none⟩), .pointer (some ⟨p, 2, none⟩), .bool false, .bool false, .bool false, .pointer (some ⟨B, 0, none⟩), .bool false, .bool false, .pointer (some ⟨B, 0, none⟩), .pointer (some ⟨B, 0, none⟩), .pointer (some ⟨B, 0, none⟩), .pointer (some ⟨B, 3, none⟩), old, .int .i64 i, .slice (some ⟨N, 0, none⟩) 1 1, new, .pointer (some ⟨B, 0, none⟩), .pointer (some ⟨B, 3, none⟩), .pointer (some ⟨B, 0, none⟩), .pointer (some ⟨B, 0, none⟩), .pointer (some ⟨B, 0, none⟩), .slice (some ⟨sb, 0, none⟩) n scap, .int .i64 i, .pointer (some ⟨sb, i, none⟩), .pointer (some ⟨p, 0, none⟩), .pointer (some ⟨p, 0, none⟩), .pointer (some ⟨p, 0, none⟩), .chan (some ct), .agg #[], undef, undef, undef, undef, undef, undef, undef, undef, undef], defers := [] } [.inRegion ops81s [11], .code rest81]) cs
noncomputable def fr81 (B sb n scap i p ct N : Nat) (old new : Value) : Frame :=
  (base 140).at { tmps := #[.pointer (some ⟨B, 0, none⟩), .int .i64 i, undef, undef, .int .i64 i, .bool false, .bool false, .int .i64 i, .pointer (some ⟨B, 0, none⟩), .pointer (some ⟨B, 0, none⟩), .pointer (some ⟨B, 0, none⟩), .slice (some ⟨sb, 0, none⟩) n scap, .int .i64 n, .bool false, .bool false, .bool false, .pointer (some ⟨B, 0, none⟩), .pointer (some ⟨B, 0, none⟩), .pointer (some ⟨B, 0, none⟩), .slice (some ⟨sb, 0, none⟩) n scap, .int .i64 i, .pointer (some ⟨sb, i, none⟩), .pointer (some ⟨p, 0, none⟩), .pointer (some ⟨p, 0, none⟩), .pointer (some ⟨p, 2, none⟩), .bool false, .bool false, .bool false, .pointer (some ⟨B, 0, none⟩), .bool false, .bool false, .pointer (some ⟨B, 0, none⟩), .pointer (some ⟨B, 0, none⟩), .pointer (some ⟨B, 0, none⟩), .pointer (some ⟨B, 3, none⟩), old, .int .i64 i, .slice (some ⟨N, 0, none⟩) 1 1, new, .pointer (some ⟨B, 0, none⟩), .pointer (some ⟨B, 3, none⟩), .pointer (some ⟨B, 0, none⟩), .pointer (some ⟨B, 0, none⟩), .pointer (some ⟨B, 0, none⟩), .slice (some ⟨sb, 0, none⟩) n scap, .int .i64 i, .pointer (some ⟨sb, i, none⟩), .pointer (some ⟨p, 0, none⟩), .pointer (some ⟨p, 0, none⟩), .pointer (some ⟨p, 0, none⟩), .chan (some ct), .agg #[], .pointer (some ⟨B, 0, none⟩), .pointer (some ⟨B, 0, none⟩), .pointer (some ⟨B, 0, none⟩), .pointer (some ⟨B, 0, none⟩), .slice (some ⟨sb, 0, none⟩) n scap, .int .i64 i, .pointer (some ⟨sb, i, none⟩), .pointer (some ⟨p, 0, none⟩), undef], defers := [] } [.inRegion ops81w [8]]
theorem way81 (B sb n scap i p ct r N : Nat) (old new : Value) (cs : List Frame) (v : Wait) (hin : i < n) (hch : v.ch = r) (hz : v.z = .agg #[]) (hok : v.ok = true) (hf0 : v.f ⟨B, 0, none⟩ = some (.slice (some ⟨sb, 0, none⟩) n scap)) (hfi : v.f ⟨sb, i, none⟩ = some (.pointer (some ⟨p, 0, none⟩)))
    (hf1 : v.f ⟨p, 1, none⟩ = some (.chan (some r))) (hh : v.home (rec107 p r (fr79 B p :: fr81 B sb n scap i p ct N old new :: cs))) : Yonder Try.prog main v (Go.Conc.served (rec81s B sb n scap i p ct N old new cs) undef) := by
  unfold rec81s
  rw [served_fr, Frame.finish_at]
  simp only [ops81s, rest81, rest81a, Try.f140]
  walk_nrm
  have hi0 : (0 : Int) ≤ i := by omega
  have hi1 : decide ((i : Int) < 0) = false := by simp
  have hi2 : decide (n ≤ i) = false := by simp; omega
  iterate 7 (try (first | refine Yonder.c rfl ?_ | refine Yonder.cR ?_ | refine Yonder.cE ?_ | refine Yonder.cT ?_ | (refine Yonder.oq ?_; try walk_nrm)))
  co_applyP Yonder.ld _ hf0 rfl (by rfl) (by decide) ?krun1 ?kev1 ?krest1; (case krun1 => (intro w hw K hK; have hcx := hw _ _ hf0; go_simp; exact hK)); (case kev1 => (intro w hw e he; have hcx := hw _ _ hf0; simp [go_sem, *] at he; exact he)); try walk_nrm
  iterate 2 (try (first | refine Yonder.c rfl ?_ | refine Yonder.cR ?_ | refine Yonder.cE ?_ | refine Yonder.cT ?_ | (refine Yonder.oq ?_; try walk_nrm)))
  co_applyP Yonder.ld _ hfi rfl (by rfl) (by decide) ?krun2 ?kev2 ?krest2; (case krun2 => (intro w hw K hK; have hcx := hw _ _ hfi; go_simp; exact hK)); (case kev2 => (intro w hw e he; have hcx := hw _ _ hfi; simp [go_sem, *] at he; exact he)); try walk_nrm
  refine Yonder.callE rfl (by rfl) (by decide) rfl Try.func138 (by kernel_rfl) (by rfl) ?_
  walk_nrm
  refine way79 B p r _ v hch hz hok hf1 ?_
  simp only [fr81, ops81w, rest81, rest81a, Try.f140] at hh
  exact hh
theorem serve81 (B sb n scap i p ct r N : Nat) (old new : Value) (c : Frame) (cs : List Frame) (ok e0 : Bool) (going : Int) (w : World) (hg1 : 1 ≤ going) (hg2 : going ≤ 64) (hBp : B ≠ p) (h2 : w.cell? ⟨p, 2, none⟩ = some (.bool e0)) (hz2 : w.frozen? ⟨p, 2, none⟩ = false) (hfr : Free V ⟨p, 2, none⟩)
    (h1 : w.cell? ⟨B, 1, none⟩ = some (.int .i64 going)) (hz1 : w.frozen? ⟨B, 1, none⟩ = false) (hfr1 : Free V ⟨B, 1, none⟩) :
    Walk Try.prog main (DR V) (fun g w' => g = G (c.finish (.tuple #[])) cs ∧ ∃ d, w' = (awaitW w B p going ok).at d) (Go.Conc.served (rec107 p r (fr79 B p :: fr81 B sb n scap i p ct N old new :: c :: cs)) (recvd true (.agg #[]) ok)) w := by
  refine (serve79 B p r (fr81 B sb n scap i p ct N old new) (c :: cs) ok e0 going w hg1 hg2 hBp h2 hz2 hfr h1 hz1 hfr1).then ?_
  rintro g w' ⟨rfl, d, rfl⟩
  refine Walk.back ?_ d
  unfold fr81
  rw [Frame.finish_at]
  simp only [ops81w, rest81, rest81a, Try.f140]
  walk_nrm
  repeat (first | refine Walk.cx ?_ | refine Walk.cR ?_ | (refine Walk.oq ?_; try walk_nrm) | (refine Walk.un ?_; walk_nrm))
  exact Walk.ctl rfl (fun w => stepG_leave rfl rfl Try.func140 (results_none rfl _ _ w) (events_results_none rfl _ _)) (.stop fun d => ⟨rfl, d, rfl⟩)
end
section
section
variable {S : Stile} {n0 : Nat} {D D' : Dyn} {w w' : World} {j : Nat}
theorem Sys.flag (H : Sys S n0 D w) (hj : j < S.n) (x : Bool) : Sys S n0 { D with f := upd D.f j x } (w.setCell ⟨S.p j, 2, none⟩ (.bool x)) := by
  refine H.put rfl rfl rfl rfl rfl rfl (Nat.le_of_eq (size_set ..).symm) (fun b y hy h => ?_) fun b hb => ?_
  · by_cases e : b = S.p j
    · subst e
      rw [H.op j hj] at hy
      cases hy
      rw [heap_set_self w _ (H.pp hj)]
      simp [Good, upd_same]
    · rw [heap_set_other w _ b _ e]
      refine h.of_same (fun i hi => ⟨upd_ne _ _ fun ei => e ?_, rfl⟩) (fun _ => ⟨rfl, rfl, rfl, rfl⟩) fun i _ z => z
      subst hi; subst ei; exact (H.ids b _ hy).2
  · exact heap_set_other w _ b _ (H.two hb (H.op j hj) (by simp))
theorem Sys.gcell (H : Sys S n0 D w) (k : Nat) : Sys S n0 { D with gg := k } (w.setCell ⟨S.B, 1, none⟩ (.int .i64 k)) := by
  refine H.put rfl rfl rfl rfl rfl rfl (Nat.le_of_eq (size_set ..).symm) (fun b y hy h => ?_) fun b hb => ?_
  · by_cases e : b = S.B
    · subst e
      rw [H.oB] at hy
      cases hy
      obtain ⟨arr, ty, fr, h, h0, h1, h2, h3, hz⟩ := h
      have hl : 1 < arr.size := (Array.getElem?_eq_some_iff.1 h1).1
      rw [heap_set_self w _ h]
      refine ⟨_, _, _, rfl, ?_, ?_, ?_, ?_, hz⟩
      · rw [Array.getElem?_setIfInBounds_ne (by omega)]; exact h0
      · rw [Array.getElem?_setIfInBounds_self_of_lt hl]
      · rw [Array.getElem?_setIfInBounds_ne (by omega)]; exact h2
      · rw [Array.getElem?_setIfInBounds_ne (by omega)]; exact h3
    · rw [heap_set_other w _ b _ e]
      refine h.of_same (fun i hi => ⟨rfl, rfl⟩) (fun hB => absurd (show b = S.B from H.ids b .tB (hB ▸ hy)) e) fun i _ z => z
  · exact heap_set_other w _ b _ (H.two hb H.oB (by simp))
theorem Sys.note (H : Sys S n0 D w) (hj : j < S.n) (hg : 1 ≤ D.gg) (ok : Bool) :
    Sys S n0 { D with f := upd D.f j (!ok), gg := if ok then D.gg else D.gg - 1 } (awaitW w S.B (S.p j) D.gg ok) ∧ Keeps D.own D.own w (awaitW w S.B (S.p j) D.gg ok) := by
  have h1 := H.alloc (.cells #[] 46)
  have k1 := Keeps.alloc D.own w (.cells #[] 46)
  cases ok
  · have e : ((D.gg : Int) - 1) = ((D.gg - 1 : Nat) : Int) := by omega
    refine ⟨?_, ?_⟩
    · have := (h1.flag hj true).gcell (D.gg - 1)
      simpa only [awaitW, e, Bool.not_false, Bool.false_eq_true, if_false] using this
    · simp only [awaitW, Bool.false_eq_true, if_false]
      exact k1.trans ((Keeps.set _ (H.op j hj)).trans (Keeps.set _ H.oB))
  · refine ⟨?_, ?_⟩
    · have := h1.flag hj false
      simpa only [awaitW, Bool.not_true, if_true] using this
    · simp only [awaitW, if_true]
      exact k1.trans (Keeps.set _ (H.op j hj))
theorem Sys.order {i gr cap : Nat} (H : Sys S n0 D w) (hrow : w'.ownsRow n0 3 1 (.slice (some ⟨gr, 0, none⟩) (D.ord.length + 1) cap) (D.ord.length + 1) (D.ord.map (fun i => Value.int .i64 (i : Nat)) ++ [.int .i64 i]))
    (hat : (Value.slice D.oa D.ord.length D.oc).ownBlock = some gr ∨ w.heap.size ≤ gr) (hlt : gr < w'.heap.size) (hs : w.heap.size ≤ w'.heap.size)
    (hb : ∀ b, b < w.heap.size → b ≠ S.B → some b ≠ (Value.slice D.oa D.ord.length D.oc).ownBlock → w'.heap[b]? = w.heap[b]?) (hB : w'.heap[S.B]? = (w.setCell ⟨S.B, 3, none⟩ (.slice (some ⟨gr, 0, none⟩) (D.ord.length + 1) cap)).heap[S.B]?) :
    Sys S n0 { D with ord := D.ord ++ [i], oa := some ⟨gr, 0, none⟩, oc := cap, own := upd D.own gr (some .ord) } w' ∧ Keeps D.own (upd D.own gr (some .ord)) w w' := by
  have hgr : ∀ b x, D.own b = some x → x ≠ .ord → b ≠ gr := fun b x hx hne e => by
    subst e
    rcases hat with h | h
    · rw [H.oo b h] at hx; exact hne (Option.some.inj hx).symm
    · have := (H.lt b x hx).2; omega
  have hold : ∀ b x, D.own b = some x → upd D.own gr (some .ord) b = some x := fun b x hx => by
    by_cases e : b = gr
    · subst e
      rw [upd_same]
      refine congrArg some (Classical.byContradiction fun h => ?_)
      exact hgr b x hx (fun z => h z.symm) rfl
    · rw [upd_ne _ _ e]; exact hx
  have hnew : ∀ b x, upd D.own gr (some .ord) b = some x → (b = gr ∧ x = .ord) ∨ (b ≠ gr ∧ D.own b = some x) := fun b x hx => by
    by_cases e : b = gr
    · subst e; rw [upd_same] at hx; exact .inl ⟨rfl, (Option.some.inj hx).symm⟩
    · rw [upd_ne _ _ e] at hx; exact .inr ⟨e, hx⟩
  have hn0 : n0 ≤ w.heap.size := Nat.le_of_lt (Nat.lt_of_le_of_lt (H.lt _ _ H.oB).1 (H.lt _ _ H.oB).2)
  refine ⟨⟨fun b x hx => ?_, fun b x hx => ?_, fun b x hx => ?_, hold _ _ H.oB, hold _ _ H.oS, fun i hi => hold _ _ (H.op i hi), fun i hi => hold _ _ (H.ot i hi), fun i hi => hold _ _ (H.or i hi), fun i hi => hold _ _ (H.oN i hi), fun b e => ?_, ?_, H.n64, H.kn, H.hg0⟩, hs, fun b hb' ho => ?_⟩
  · rcases hnew b x hx with ⟨rfl, rfl⟩ | ⟨hne, hx⟩
    · trivial
    · by_cases eB : b = S.B
      · subst eB
        rw [H.oB] at hx
        cases hx
        obtain ⟨arr, ty, fr, h, h0, h1, h2, h3, hz⟩ := H.good _ _ H.oB
        have hl : 3 < arr.size := (Array.getElem?_eq_some_iff.1 h3).1
        rw [hB, heap_set_self w _ h]
        refine ⟨_, _, _, rfl, ?_, ?_, ?_, ?_, hz⟩
        · rw [Array.getElem?_setIfInBounds_ne (by omega)]; exact h0
        · rw [Array.getElem?_setIfInBounds_ne (by omega)]; exact h1
        · rw [Array.getElem?_setIfInBounds_ne (by omega)]; exact h2
        · rw [Array.getElem?_setIfInBounds_self_of_lt hl]; simp
      · by_cases ho : some b = (Value.slice D.oa D.ord.length D.oc).ownBlock
        · rw [H.oo b ho.symm] at hx; cases hx; trivial
        · rw [hb b (H.lt b x hx).2 eB ho]
          exact (H.good b x hx).of_same (fun i _ => ⟨rfl, rfl⟩) (fun e => absurd (show b = S.B from H.ids b .tB (e ▸ hx)) eB) fun i _ z => z
  · rcases hnew b x hx with ⟨rfl, rfl⟩ | ⟨hne, hx⟩
    · refine ⟨?_, hlt⟩
      rcases hat with h | h
      · exact (H.lt b _ (H.oo b h)).1
      · omega
    · have := H.lt b x hx; omega
  · rcases hnew b x hx with ⟨rfl, rfl⟩ | ⟨hne, hx⟩
    · trivial
    · have h := H.ids b x hx
      cases x <;> exact h
  · simp only [Value.ownBlock, Option.some.injEq] at e
    subst e
    exact upd_same _ _ _
  · simpa using hrow
  · have hne : b ≠ gr := fun e => by
      subst e
      rcases hat with h | h
      · rw [H.oo b h] at ho; cases ho
      · omega
    refine ⟨by rw [upd_ne _ _ hne]; exact ho, hb b hb' (fun e => ?_) fun e => ?_⟩
    · subst e; rw [H.oB] at ho; cases ho
    · rw [H.oo b e.symm] at ho; cases ho
theorem free_main (H : Sys S n0 D w) {b i : Nat} {r : Role} (hb : D.own b = some r) (hr : (∀ a, r ≠ .p a) ∨ i ≠ 0) : Free (VV S D none none) ⟨b, i, none⟩ :=
  VV_free (fun v h => by cases h) fun i' hi' e => by
    rcases hr with h | h
    · exact H.two hb (H.op i' (Nat.lt_of_lt_of_le hi' H.kn)) (h _) (congrArg Addr.block e)
    · exact h (congrArg Addr.off e)
theorem apart_ord (H : Sys S n0 D w) {b : Nat} (hb : D.own b = some .ord) : Apart (VV S D none none) b := by
  refine ⟨fun a ha => VV_free (fun v h => by cases h) fun i hi e => ?_, fun g u h => ?_⟩
  · subst e; subst ha
    exact H.two hb (H.op i (Nat.lt_of_lt_of_le hi H.kn)) (by simp) rfl
  · rcases VV_some h with ⟨_, h⟩ | ⟨i, hi, _, _, _, rfl⟩
    · cases h
    · exact (H.two hb (H.ot i (Nat.lt_of_lt_of_le hi H.kn)) (by simp)).symm
theorem going_le (n : Nat) (f : Nat → Bool) : going n f ≤ n := by
  unfold going
  exact Nat.le_trans List.countP_le_length (by simp)
theorem going_pos {n : Nat} {f : Nat → Bool} {i : Nat} (hi : i < n) (h : f i = false) : 1 ≤ going n f := by
  unfold going
  exact List.countP_pos_iff.2 ⟨i, by simpa using hi, by simp [h]⟩
theorem going_ended {n : Nat} {f : Nat → Bool} {i : Nat} (hi : i < n) (h : f i = false) : going n (upd f i true) = going n f - 1 := by
  unfold going
  induction n with
  | zero => omega
  | succ n ih =>
    rw [List.range_succ, List.countP_append, List.countP_append]
    by_cases e : i = n
    · subst e
      have : (List.range i).countP (fun j => !upd f i true j) = (List.range i).countP (fun j => !f j) := List.countP_congr fun j hj => by
        have : j ≠ i := by have := List.mem_range.1 hj; omega
        simp [upd_ne _ _ this]
      rw [this]
      simp [upd_same, h]
    · have hp := going_pos (n := n) (by omega) h
      unfold going at hp
      have := ih (by omega)
      rw [this]
      simp only [List.countP_singleton, upd_ne _ _ (Ne.symm e)]
      omega
end
end
section
variable {main : Bool} {V : Nat → Option Wait}
theorem send81 (B sb n scap i p ct N : Nat) (old new : Value) (cs : List Frame) (w : World) : ∃ z' es, (∀ e ∈ es, EvR V e) ∧ ∀ d, stepG Try.prog main (rec81s B sb n scap i p ct N old new cs) (w.at d) = .comm (rec81s B sb n scap i p ct N old new cs) #[scase ct (.agg #[]) z'] true .send (w.at d) es := by
  refine ⟨.tuple #[], #[], by simp, fun d => ?_⟩
  unfold rec81s
  simp only [ops81s, rest81, rest81a, Try.f140]
  rw [stepG_comm (cases := #[scase ct (.agg #[]) (.tuple #[])]) (blocking := true) (shape := .send) (w' := w.at d) rfl (by rfl) (by decide) (by simp [execOp, scase, Act.eval]), listed_none (by simp [go_sem, execOp, Act.eval])]
end
section
variable {main : Bool} {V : Nat → Option Wait}
theorem step_world {w w' : World} {B n0 on oc g cap : Nat} {oa : Option Addr} {xs : List Value} {i : Nat} (hgB : g ≠ B)
    (hown2 : w'.ownsRow n0 3 1 (.slice (some ⟨g, 0, none⟩) (on + 1) cap) (on + 1) (xs ++ [.int .i64 i])) (hg : (w.alloc (.cells #[.int .i64 i] 3)).grownBy w' (Value.slice oa on oc).ownBlock)
    (hat : (Value.slice oa on oc).ownBlock = some g ∨ g = (w.alloc (.cells #[.int .i64 i] 3)).heap.size) (hlt : g < w'.heap.size) :
    (w'.setCell ⟨B, 3, none⟩ (.slice (some ⟨g, 0, none⟩) (on + 1) cap)).ownsRow n0 3 1 (.slice (some ⟨g, 0, none⟩) (on + 1) cap) (on + 1) (xs ++ [.int .i64 i]) ∧
    ((Value.slice oa on oc).ownBlock = some g ∨ w.heap.size ≤ g) ∧ g < (w'.setCell ⟨B, 3, none⟩ (.slice (some ⟨g, 0, none⟩) (on + 1) cap)).heap.size ∧ w.heap.size ≤ (w'.setCell ⟨B, 3, none⟩ (.slice (some ⟨g, 0, none⟩) (on + 1) cap)).heap.size ∧
    (∀ a u, w.cell? a = some u → a ≠ ⟨B, 3, none⟩ → some a.block ≠ (Value.slice oa on oc).ownBlock → (w'.setCell ⟨B, 3, none⟩ (.slice (some ⟨g, 0, none⟩) (on + 1) cap)).cell? a = some u ∧ (w'.setCell ⟨B, 3, none⟩ (.slice (some ⟨g, 0, none⟩) (on + 1) cap)).frozen? a = w.frozen? a) ∧
    (∀ b, b < w.heap.size → b ≠ B → some b ≠ (Value.slice oa on oc).ownBlock → (w'.setCell ⟨B, 3, none⟩ (.slice (some ⟨g, 0, none⟩) (on + 1) cap)).heap[b]? = w.heap[b]?) := by
  have hal : (w.alloc (.cells #[.int .i64 i] 3)).heap.size = w.heap.size + 1 := by simp
  have hsz := hg.size
  have hlb : ∀ b, b < w.heap.size → b < (w.alloc (.cells #[.int .i64 i] 3)).heap.size := fun b hb => by omega
  have hn := Go.Deep.nblk_setCell w' ⟨B, 3, none⟩ (.slice (some ⟨g, 0, none⟩) (on + 1) cap)
  refine ⟨hown2.kept (row := some B) ⟨rfl, rfl, rfl, by rw [hn]; exact Nat.le_refl _, fun b _ hb => Go.Deep.blk_setCell_other _ _ _ b (fun e => hb (by rw [e]))⟩ (.inr (by simp [Value.ownBlock, hgB])), ?_, by rw [hn]; exact hlt, by rw [hn]; omega, fun a u ha hne' hr => ⟨?_, ?_⟩, fun b hb hbB hr => ?_⟩
  · rcases hat with h | h
    · exact .inl h
    · exact .inr (by omega)
  · exact (World.cell?_setCell_other w' ⟨B, 3, none⟩ a _ (Ne.symm hne')).trans ((hg.cell_far _ (hlb _ (cell_lt w ha)) hr).trans (cell_alloc w _ ha))
  · rw [World.frozen?_setCell]; exact (hg.frozen_far _ (hlb _ (cell_lt w ha)) hr).trans (frozen_alloc w _ ha rfl)
  · exact (Go.Deep.blk_setCell_other _ _ _ b hbB).trans ((hg.block b (hlb b hb) hr).trans (Below.heap_alloc _ _ _ hb))
theorem step_block {w w' : World} {B : Nat} {row : Option Nat} {o : Obj} (hB : B < w.heap.size) (hr : some B ≠ row) (hg : (w.alloc o).grownBy w' row) (x : Value) : (w'.setCell ⟨B, 3, none⟩ x).heap[B]? = (w.setCell ⟨B, 3, none⟩ x).heap[B]? := by
  have h : w'.heap[B]? = w.heap[B]? := (hg.block B (by simp; omega) hr).trans (Below.heap_alloc _ _ _ hB)
  simp only [World.setCell]
  rw [Array.getElem?_modify, Array.getElem?_modify, h]
theorem step_go {Stop : Goroutine → World → Prop} (B sb n scap i p ct n0 : Nat) (going most : Int) (oa : Option Addr) (on oc : Nat) (xs : List Value) (cs : List Frame) (w : World) (hin : i < n)
    (h0 : w.cell? ⟨B, 0, none⟩ = some (.slice (some ⟨sb, 0, none⟩) n scap)) (h1 : w.cell? ⟨B, 1, none⟩ = some (.int .i64 going)) (h2 : w.cell? ⟨B, 2, none⟩ = some (.int .i64 most)) (h3 : w.cell? ⟨B, 3, none⟩ = some (.slice oa on oc)) (h3z : w.frozen? ⟨B, 3, none⟩ = false) (hf3 : Free V ⟨B, 3, none⟩)
    (hp : w.cell? ⟨sb, i, none⟩ = some (.pointer (some ⟨p, 0, none⟩))) (hpe : w.cell? ⟨p, 2, none⟩ = some (.bool false)) (hpt : w.cell? ⟨p, 0, none⟩ = some (.chan (some ct))) (hov : (decide (going = 0) || decide (most ≤ on)) = false)
    (hown : w.ownsRow n0 3 1 (.slice oa on oc) on xs) (hbase : n0 ≤ w.heap.size) (hlen : on ≤ 1048576) (hap : ∀ g, (Value.slice oa on oc).ownBlock = some g → Apart V g ∧ g ≠ B ∧ g ≠ sb ∧ g ≠ p) (hsB : sb ≠ B) (hpB : p ≠ B)
    (hk : ∀ g cap w', w'.ownsRow n0 3 1 (.slice (some ⟨g, 0, none⟩) (on + 1) cap) (on + 1) (xs ++ [.int .i64 i]) → w'.cell? ⟨B, 3, none⟩ = some (.slice (some ⟨g, 0, none⟩) (on + 1) cap) → ((Value.slice oa on oc).ownBlock = some g ∨ w.heap.size ≤ g) → g < w'.heap.size → w.heap.size ≤ w'.heap.size →
      (∀ a u, w.cell? a = some u → a ≠ ⟨B, 3, none⟩ → some a.block ≠ (Value.slice oa on oc).ownBlock → w'.cell? a = some u ∧ w'.frozen? a = w.frozen? a) → (∀ b, b < w.heap.size → b ≠ B → some b ≠ (Value.slice oa on oc).ownBlock → w'.heap[b]? = w.heap[b]?) → (w'.heap[B]? = (w.setCell ⟨B, 3, none⟩ (.slice (some ⟨g, 0, none⟩) (on + 1) cap)).heap[B]?) →
      Walk Try.prog main (DR V) Stop (rec81s B sb n scap i p ct w.heap.size (.slice oa on oc) (.slice (some ⟨g, 0, none⟩) (on + 1) cap) cs) w') :
    Walk Try.prog main (DR V) Stop (G (Frame.enter Try.prog 140 #[.pointer (some ⟨B, 0, none⟩), .int .i64 i] .normal) cs) w := by
  rw [enter_at _ Try.func140 rfl]
  simp only [Try.f140, ez, Nat.reduceAdd, Nat.reduceSub]
  have hi0 : (0 : Int) ≤ i := by omega
  have hi1 : decide ((i : Int) < 0) = false := by simp
  have hi2 : decide (n ≤ i) = false := by simp; omega
  repeat (first | refine Walk.cx ?_ | refine Walk.cR ?_ | (refine Walk.oq ?_; try walk_nrm) | (refine Walk.un ?_; walk_nrm))
  refine Walk.callV (x := .bool false) (W := w) ?_ rfl (by rfl) (by decide) rfl Try.func139 (by kernel_rfl) (by rfl) ?_
  · walk_nrm
    have := over_w (main := main) (V := V) B going most oa on oc w h1 h2 h3
    rwa [hov] at this
  walk_nrm
  repeat (first | refine Walk.cx ?_ | refine Walk.cR ?_ | (refine Walk.oq ?_; try walk_nrm) | (refine Walk.un ?_; walk_nrm))
  (refine Walk.oa ?_; try walk_nrm)
  have hi24 : Try.prog.underlying 57 = some (.slice 3) := by kernel_rfl
  have hi3 := Option.some_get (show (Try.prog.info? 3).isSome = true by kernel_rfl)
  have hown' := hown.kept (World.grownBy_alloc w (.cells #[.int .i64 i] 3) none) (by cases (Value.slice oa on oc).ownBlock <;> simp)
  have c0 := cell_alloc w (.cells #[.int .i64 i] 3) h0
  have c3 := cell_alloc w (.cells #[.int .i64 i] 3) h3
  have c3z := frozen_alloc w (.cells #[.int .i64 i] 3) h3 h3z
  have cp := cell_alloc w (.cells #[.int .i64 i] 3) hp
  have cpt := cell_alloc w (.cells #[.int .i64 i] 3) hpt
  refine Walk.append (.tmp 35) (.tmp 37) 57 rfl (by rfl) (by decide) rfl n0 3 _ (.int .i64 0) 1 8 hi24 hi3.symm (by rfl) (by rfl) (by rfl) (by rfl) (by decide) (.slice oa on oc) on xs rfl hown' ⟨w.heap.size, 0, none⟩ 1 1 [.int .i64 i] rfl (by rfl) (fun j u hu => ?_) (by simp [Value.oneCell']) (by decide) (by simp [maxLen]; omega) (by omega) (by simp; omega) (fun g hg => (hap g hg).1) (fun g cap w' hown2 hg hat hlt => ?_)
  · obtain rfl : j = 0 := by rcases j with _ | j <;> simp at hu ⊢
    simp at hu; subst hu; simp [Addr.add]
  have hne : ∀ b, (b = B ∨ b = sb ∨ b = p) → some b ≠ (Value.slice oa on oc).ownBlock := fun b hb e => by
    obtain ⟨_, h1, h2, h3⟩ := hap b e.symm
    rcases hb with h | h | h <;> contradiction
  have d0 := (hg.cell_far _ (cell_lt _ c0) (hne _ (by simp))).trans c0
  have d3 := (hg.cell_far _ (cell_lt _ c3) (hne _ (by simp))).trans c3
  have d3z := (hg.frozen_far _ (cell_lt _ c3) (hne _ (by simp))).trans c3z
  have dp := (hg.cell_far _ (cell_lt _ cp) (hne _ (by simp))).trans cp
  have dpt := (hg.cell_far _ (cell_lt _ cpt) (hne _ (by simp))).trans cpt
  have hgB : g ≠ B := fun e => by
    rcases hat with h | h
    · exact (hap g h).2.1 e
    · have := cell_lt w h3; simp only at this; have hal : (w.alloc (.cells #[.int .i64 i] 3)).heap.size = w.heap.size + 1 := by simp
      omega
  walk_nrm
  repeat (first | refine Walk.cx ?_ | refine Walk.cR ?_ | (refine Walk.oq ?_; try walk_nrm) | (refine Walk.un ?_; walk_nrm))
  (refine Walk.os hf3 d3 ?_; try walk_nrm)
  have e0 := (World.cell?_setCell_other w' ⟨B, 3, none⟩ ⟨B, 0, none⟩ (.slice (some ⟨g, 0, none⟩) (on + 1) cap) (by simp)).trans d0
  have e3 := World.cell?_setCell_same w' ⟨B, 3, none⟩ (.slice (some ⟨g, 0, none⟩) (on + 1) cap) d3
  have ep := (World.cell?_setCell_other w' ⟨B, 3, none⟩ ⟨sb, i, none⟩ (.slice (some ⟨g, 0, none⟩) (on + 1) cap) (by simp [Ne.symm hsB])).trans dp
  have ept := (World.cell?_setCell_other w' ⟨B, 3, none⟩ ⟨p, 0, none⟩ (.slice (some ⟨g, 0, none⟩) (on + 1) cap) (by simp [Ne.symm hpB])).trans dpt
  repeat (first | refine Walk.cx ?_ | refine Walk.cR ?_ | (refine Walk.oq ?_; try walk_nrm) | (refine Walk.un ?_; walk_nrm))
  unfold rec81s at hk
  simp only [ops81s, rest81, rest81a, Try.f140] at hk
  obtain ⟨k1, k2, k3, k4, k5, k6⟩ := step_world hgB hown2 hg hat hlt
  exact hk g cap _ k1 e3 k2 k3 k4 k5 k6 (step_block (cell_lt w h3) (hne B (by simp)) hg _)
end
section
open Classical in
noncomputable def mwOf (S : Stile) (j : Nat) (home : Goroutine → Prop) : Wait where
  ch := S.r j
  z := .agg #[]
  ok := true
  home := home
  f := fun a => if a = ⟨S.B, 0, none⟩ then some (.slice (some ⟨S.sb, 0, none⟩) S.n S.scap) else if a = ⟨S.sb, j, none⟩ then some (.pointer (some ⟨S.p j, 0, none⟩)) else
    if a = ⟨S.p j, 1, none⟩ then some (.chan (some (S.r j))) else if a = ⟨S.p j, 2, none⟩ then some (.bool false) else none
structure Drv {S : Stile} {X : Type} (C : Crew S X) (n0 : Nat) (D : Dyn) (x : X) (w : World) : Prop where
  sys : Sys S n0 D w
  inv : C.inv D.k D.own x D.cs w
  fe : ∀ i, D.f i = D.e i
  out : ∀ i, i < D.k → D.e i = (C.out x i).isSome ∧ D.b i = (C.out x i == some true)
  fresh : ∀ i, D.k ≤ i → D.e i = false ∧ D.b i = false
  gg : D.gg = going S.n D.f
  most : S.most ≤ 1048576
  cnt : C.cnt x = D.ord.length
def noted (D : Dyn) (j : Nat) (ok : Bool) : Dyn := { D with f := upd D.f j (!ok), gg := if ok then D.gg else D.gg - 1 }
section
variable {S : Stile} {X : Type} {C : Crew S X} {n0 : Nat} {D D' : Dyn} {w w' : World} {i j nG : Nat} {m : Machine} {T : Trace} {l : List Frame} {x : X} {home : Goroutine → Prop}
theorem mwOf_MW (S : Stile) (j : Nat) (home : Goroutine → Prop) : MW S j (mwOf S j home) := by
  refine ⟨rfl, rfl, rfl, fun a h => ?_⟩
  simp only [mwOf] at h
  by_cases h1 : a = ⟨S.B, 0, none⟩
  · exact .inl h1
  by_cases h2 : a = ⟨S.sb, j, none⟩
  · exact .inr (.inl ⟨j, h2⟩)
  by_cases h3 : a = ⟨S.p j, 1, none⟩
  · exact .inr (.inr (.inl h3))
  by_cases h4 : a = ⟨S.p j, 2, none⟩
  · exact .inr (.inr (.inr h4))
  rw [if_neg h1, if_neg h2, if_neg h3, if_neg h4] at h
  exact absurd rfl h
theorem mwOf_K (H : Sys S n0 D w) (hj : j < S.n) (hf : D.f j = false) : (mwOf S j home).K w := by
  intro a y h
  simp only [mwOf] at h
  by_cases h1 : a = ⟨S.B, 0, none⟩
  · rw [if_pos h1] at h; cases h; subst h1; exact H.tB.1
  rw [if_neg h1] at h
  by_cases h2 : a = ⟨S.sb, j, none⟩
  · rw [if_pos h2] at h; cases h; subst h2; exact H.ss hj
  rw [if_neg h2] at h
  by_cases h3 : a = ⟨S.p j, 1, none⟩
  · rw [if_pos h3] at h; cases h; subst h3; exact H.p1 hj
  rw [if_neg h3] at h
  by_cases h4 : a = ⟨S.p j, 2, none⟩
  · rw [if_pos h4] at h; cases h; subst h4; exact hf ▸ H.p2 hj
  rw [if_neg h4] at h; cases h
theorem mwOf_f (H : Sys S n0 D w) (hj : j < S.n) : (mwOf S j home).f ⟨S.B, 0, none⟩ = some (.slice (some ⟨S.sb, 0, none⟩) S.n S.scap) ∧ (mwOf S j home).f ⟨S.sb, j, none⟩ = some (.pointer (some ⟨S.p j, 0, none⟩)) ∧
    (mwOf S j home).f ⟨S.p j, 1, none⟩ = some (.chan (some (S.r j))) ∧ (mwOf S j home).f ⟨S.p j, 2, none⟩ = some (.bool false) := by
  have hBs : S.sb ≠ S.B := H.two H.oS H.oB (by simp)
  have hBp : S.p j ≠ S.B := H.two (H.op j hj) H.oB (by simp)
  have hsp : S.p j ≠ S.sb := H.two (H.op j hj) H.oS (by simp)
  refine ⟨by simp [mwOf], by simp [mwOf, hBs], by simp [mwOf, hBp, hsp], by simp [mwOf, hBp, hsp]⟩
theorem mwOf_then (H : Sys S n0 D w) (hj : j < S.n) (he : D.e j = false) (hf : D.f j = false) {but : Nat → Prop} {o : Option Nat} {g : Goroutine} (hW : ∀ main, Yonder Try.prog main (mwOf S j home) g) : Then Try.prog (VV S D none o) 0 but g w (some (mwOf S j home)) :=
  ⟨mwOf_K H hj hf, H.good _ _ (H.or j hj) he, fun i u _ hu => by
    rcases VV_some hu with ⟨_, h⟩ | ⟨i', hi', _, _, _, rfl⟩
    · cases h
    · exact H.two (H.ot i' (Nat.lt_of_lt_of_le hi' H.kn)) (H.or j hj) (by simp), (hW _).waits⟩
theorem drv_noted {D1 : Dyn} (hfe : ∀ i, D1.f i = D1.e i) (hout : ∀ i, i < D1.k → i ≠ j → D1.e i = (C.out x i).isSome ∧ D1.b i = (C.out x i == some true)) (hfr : ∀ i, D1.k ≤ i → D1.e i = false ∧ D1.b i = false) (hgg : D1.gg = going S.n D1.f) (hmost : S.most ≤ 1048576) (hcnt : C.cnt x = D1.ord.length)
    (hj : j < D1.k) (he : D1.e j = false) (l : List Frame) {w5 w6 : World} (H5 : Sys S n0 (handed D1 j l (C.out x j)) w5) (I5 : C.inv D1.k D1.own x (upd D1.cs j l) w5) (h6 : ∃ d, w6 = (awaitW w5 S.B (S.p j) D1.gg (C.out x j).isNone).at d) :
    Drv C n0 (noted (handed D1 j l (C.out x j)) j (C.out x j).isNone) x w6 := by
  obtain ⟨d, rfl⟩ := h6
  have hjn : j < S.n := Nat.lt_of_lt_of_le hj H5.kn
  have hf : D1.f j = false := (hfe j).trans he
  have hg1 : 1 ≤ D1.gg := by rw [hgg]; exact going_pos hjn hf
  have hn := H5.note hjn hg1 (C.out x j).isNone
  have hns : ∀ o : Option Bool, (!o.isNone) = o.isSome := fun o => by cases o <;> rfl
  refine ⟨hn.1.at d, C.keep I5 (hn.2.at d), fun i => ?_, fun i hi => ?_, fun i hi => ?_, ?_, hmost, hcnt⟩
  · simp only [noted, handed, hns]
    by_cases e : i = j
    · subst e; rw [upd_same, upd_same]
    · rw [upd_ne _ _ e, upd_ne _ _ e]; exact hfe i
  · simp only [noted, handed]
    by_cases e : i = j
    · subst e; rw [upd_same, upd_same]; exact ⟨rfl, rfl⟩
    · rw [upd_ne _ _ e, upd_ne _ _ e]; exact hout i hi e
  · have e : i ≠ j := fun e => by
      subst e
      simp only [noted, handed] at hi
      omega
    simp only [noted, handed]
    rw [upd_ne _ _ e, upd_ne _ _ e]
    exact hfr i hi
  · simp only [noted, handed, hgg]
    cases ho : C.out x j with
    | none => simp only [Option.isNone_none, if_true, Bool.not_true]; rw [upd_eq _ hf]
    | some b => simp only [Option.isNone_some, Bool.false_eq_true, if_false, Bool.not_false]; rw [going_ended hjn hf]
theorem step_turn {c : Frame} {cs0 : List Frame} (hD : Drv C n0 D x w) (hi : i < D.k) (he : D.e i = false) (hov : (decide ((D.gg : Int) = 0) || decide (S.most ≤ D.ord.length)) = false)
    (A : At Try.prog (VV S D none none) 0 (S.g0 + D.k) (G (Frame.enter Try.prog 140 #[.pointer (some ⟨S.B, 0, none⟩), .int .i64 i] .normal) (c :: cs0)) w m T) :
    Relay.Comes Try.prog (fun m' T' => ∃ D' w', At Try.prog (VV S D' none none) 0 (S.g0 + D'.k) (G (c.finish (.tuple #[])) cs0) w' m' T' ∧ Drv C n0 D' (C.next x i) w' ∧ D'.ord = D.ord ++ [i] ∧ D'.k = D.k) m T := by
  have hs := hD.sys
  have hin : i < S.n := Nat.lt_of_lt_of_le hi hs.kn
  have hf : D.f i = false := (hD.fe i).trans he
  obtain ⟨t0, t1, t2, t3, z1, z3⟩ := hs.tB
  have hlen : D.ord.length ≤ 1048576 := by
    have := hD.most
    simp only [Bool.or_eq_false_iff, decide_eq_false_iff_not] at hov
    omega
  have hn0 : n0 ≤ w.heap.size := Nat.le_of_lt (Nat.lt_of_le_of_lt (hs.lt _ _ hs.oB).1 (hs.lt _ _ hs.oB).2)
  have hsB : S.sb ≠ S.B := hs.two hs.oS hs.oB (by simp)
  have hpB : S.p i ≠ S.B := hs.two (hs.op i hin) hs.oB (by simp)
  refine (At.walk (h := 0) (Stop := fun g w' => ∃ N gr cap, g = rec81s S.B S.sb S.n S.scap i (S.p i) (S.t i) N (.slice D.oa D.ord.length D.oc) (.slice (some ⟨gr, 0, none⟩) (D.ord.length + 1) cap) (c :: cs0) ∧
      Sys S n0 { D with ord := D.ord ++ [i], oa := some ⟨gr, 0, none⟩, oc := cap, own := upd D.own gr (some .ord) } w' ∧ Keeps D.own (upd D.own gr (some .ord)) w w')
    (step_go S.B S.sb S.n S.scap i (S.p i) (S.t i) n0 D.gg S.most D.oa D.ord.length D.oc _ (c :: cs0) w hin t0 t1 t2 t3 z3 (free_main hs hs.oB (.inl (by simp))) (hs.ss hin) (hf ▸ hs.p2 hin) (hs.p0 hin) hov hs.row hn0 hlen
      (fun g hg => ⟨apart_ord hs (hs.oo g hg), hs.two (hs.oo g hg) hs.oB (by simp), hs.two (hs.oo g hg) hs.oS (by simp), hs.two (hs.oo g hg) (hs.op i hin) (by simp)⟩) hsB hpB
      (fun g cap w' k1 e3 k2 k3 k4 k5 k6 k7 => .stop fun d => ⟨w.heap.size, g, cap, rfl, (hs.order k1 k2 k3 k4 k6 k7).1.at d, (hs.order k1 k2 k3 k4 k6 k7).2.at d⟩)) A).bind ?_
  rintro m1 T1 ⟨_, w1, ⟨N, gr, cap, rfl, H1, K1⟩, A1⟩
  generalize hD1 : ({ D with ord := D.ord ++ [i], oa := some ⟨gr, 0, none⟩, oc := cap, own := upd D.own gr (some .ord) } : Dyn) = D1 at H1
  have h1k : D1.k = D.k := by rw [← hD1]
  have h1e : D1.e = D.e := by rw [← hD1]
  have h1b : D1.b = D.b := by rw [← hD1]
  have h1f : D1.f = D.f := by rw [← hD1]
  have h1g : D1.gg = D.gg := by rw [← hD1]
  have h1c : D1.cs = D.cs := by rw [← hD1]
  have h1N : D1.N = D.N := by rw [← hD1]
  have h1o : D1.own = upd D.own gr (some .ord) := by rw [← hD1]
  have h1r : D1.ord = D.ord ++ [i] := by rw [← hD1]
  have hi1 : i < D1.k := h1k ▸ hi
  have he1 : D1.e i = false := h1e ▸ he
  have hf1 : D1.f i = false := h1f ▸ hf
  rw [← VV_eq (D' := D1) (D := D) h1k (fun i _ _ => by rw [h1e, h1c, h1N]; exact ⟨rfl, rfl, rfl⟩)] at A1
  generalize hmw : mwOf S i (fun g => g = rec107 (S.p i) (S.r i) (fr79 S.B (S.p i) :: fr81 S.B S.sb S.n S.scap i (S.p i) (S.t i) N (.slice D.oa D.ord.length D.oc) (.slice (some ⟨gr, 0, none⟩) (D.ord.length + 1) cap) :: c :: cs0)) = mw
  have hm : MW S i mw := hmw ▸ mwOf_MW _ _ _
  obtain ⟨z', es, hes, hsd⟩ := send81 (main := (0 == 0)) (V := VV S D1 none none) S.B S.sb S.n S.scap i (S.p i) (S.t i) N (.slice D.oa D.ord.length D.oc) (.slice (some ⟨gr, 0, none⟩) (D.ord.length + 1) cap) (c :: cs0) w1
  have hg0 := hs.hg0
  refine (A1.give (v := wT S D1 i) (x := .agg #[]) (j := S.g0 + i) (new := some mw) (by omega) (by omega) (VV_at hg0 hi1 he1 (by simp)) rfl hsd hes ?_).bind ?_
  · rw [← hmw]
    refine mwOf_then H1 hin he1 hf1 fun main => way81 _ _ _ _ _ _ _ _ _ _ _ _ _ hin rfl rfl rfl (mwOf_f H1 hin).1 (mwOf_f H1 hin).2.1 (mwOf_f H1 hin).2.2.1 rfl
  rintro m2 T2 ⟨_, d2, k, rfl, hc, A2⟩
  rw [after_main.resolve_right (by omega)] at A2
  simp only [wT] at A2 hc
  have H2 := (H1.at d2).chan (k' := k + 1) hc ⟨i, .inl (H1.ot i hin)⟩
  have I2 := C.keep hD.inv (K1.trans ((Keeps.at (Keeps.refl _ w1) d2).trans (Keeps.chan (h1o ▸ H1.ot i hin) false (k + 1))))
  rw [← h1o] at I2
  generalize (w1.at d2).setChan (S.t i) 0 #[] false (k + 1) (k + 1) false = w2 at A2 H2 I2
  obtain ⟨⟨c', l', hcs⟩, _⟩ := C.shape I2 hi (by have := (hD.out i hi).1; rw [he] at this; exact Option.not_isSome_iff_eq_none.1 (by rw [← this]; simp))
  have hout : C.out x i = none := by have := (hD.out i hi).1; rw [he] at this; exact Option.not_isSome_iff_eq_none.1 (by rw [← this]; simp)
  rw [h1c, hcs, List.cons_append] at A2
  have I3 := C.keep I2 (Keeps.alloc _ w2 (.cells #[] 46))
  have hmain := thr_main hs i
  refine (At.walk (Stop := Fin C.inv C.out S D.k D1.own (C.next x i) D.cs i (fr60 (D1.N i) (S.F i) (.iface 230 (.pointer (some ⟨S.p i, 0, none⟩)))) [fr78 (S.p i) (S.r i) (S.F i), bornfr] (w2.alloc (.cells #[] 46))) (by
    rw [hmain]
    refine (serve139 (S.p i) (S.r i) (S.t i) c' (l' ++ bot S (D1.N i) i) w2).then ?_
    rintro _ _ ⟨rfl, d, rfl⟩
    refine Walk.back ?_ d
    exact C.go _ _ I3 hi hout hcs (by rw [hD.cnt]; have := hD.most; simp only [Bool.or_eq_false_iff, decide_eq_false_iff_not] at hov; omega) (fun b hb => VV_apart H2 hin (fun v hv => by cases hv; exact hm) hb) (fun b r hb => ((H2.alloc (.cells #[] 46)).lt b r hb).2)) A2).bind ?_
  rintro m3 T3 ⟨g4, w4, hF, A3⟩
  have H4 : Sys S n0 D1 w4 := (H2.alloc (.cells #[] 46)).same hF.1 hF.2.1
  rw [← h1k, ← h1c] at hF
  refine (fin_back H4 hi1 he1 (by rw [h1b]; have := (hD.out i hi).2; rw [hout] at this; exact this) (by omega) hm hF A3).bind ?_
  rintro m5 T5 ⟨g₂, w5, l, hh, A5, H5, I5⟩
  rw [← hmw] at hh
  simp only [mwOf] at hh
  subst hh
  have hg1 : 1 ≤ D.gg := by rw [hD.gg]; exact going_pos hin hf
  have hg64 : D.gg ≤ 64 := by rw [hD.gg]; exact Nat.le_trans (going_le _ _) hs.n64
  have tB5 := H5.tB
  simp only [handed, h1g] at tB5
  refine (At.walk (h := 0) (serve81 S.B S.sb S.n S.scap i (S.p i) (S.t i) (S.r i) N _ _ c cs0 (C.out (C.next x i) i).isNone (D1.f i) D.gg w5 (by omega) (by omega) (Ne.symm hpB) (H5.p2 hin) (H5.pz hin 2) (free_main H5 (H5.op i hin) (.inr (by omega)))
    tB5.2.1 tB5.2.2.2.2.1 (free_main H5 H5.oB (.inl (by simp)))) A5).mono ?_
  rintro m6 T6 ⟨_, w6, ⟨rfl, d6, rfl⟩, A6⟩
  refine ⟨noted (handed D1 i l (C.out (C.next x i) i)) i (C.out (C.next x i) i).isNone, _, ?_, drv_noted (by rw [h1f, h1e]; exact hD.fe) (fun j hj hne => by rw [h1e, h1b, C.nextOut x i j hne]; exact hD.out j (h1k ▸ hj)) (fun j hj => by rw [h1e, h1b]; exact hD.fresh j (h1k ▸ hj)) (by rw [h1g, h1f]; exact hD.gg) hD.most (by rw [C.cntNext, hD.cnt, h1r]; simp) hi1 he1 l H5 I5 ⟨d6, by rw [h1g]⟩, h1r, h1k⟩
  have hV : VV S (noted (handed D1 i l (C.out (C.next x i) i)) i (C.out (C.next x i) i).isNone) none none = VV S (handed D1 i l (C.out (C.next x i) i)) none none := VV_eq rfl (fun _ _ _ => ⟨rfl, rfl, rfl⟩)
  have : S.g0 + (noted (handed D1 i l (C.out (C.next x i) i)) i (C.out (C.next x i) i).isNone).k = S.g0 + D.k := congrArg (S.g0 + ·) h1k
  rw [this, hV]
  exact A6
end
end
section
variable {main : Bool} {V : Nat → Option Wait}
noncomputable def body54 : Code := match Try.f113.body with | some (.seq _ (.block _ (.loop c))) => c | _ => .skip
noncomputable def body54a : Code := match body54 with | .seq _ (.seq _ (.seq (.block _ (.seq _ c)) _)) => c | _ => .skip
noncomputable def ops54g : Array Oper := match body54a with | .seq (.region _ ops _) _ => ops | _ => #[]
noncomputable def rest54 : Code := match body54a with | .seq _ c => c | _ => .skip
noncomputable def ops54w : Array Oper := match rest54 with | .region _ ops _ => ops | _ => #[]
noncomputable def post54 : Code := match body54 with | .seq _ (.seq _ (.seq _ c)) => c | _ => .skip
noncomputable def hd54 (B sb n scap tb tcap j : Nat) (u : Nat → Value) : Frame :=
  (base 113).at { tmps := #[.pointer (some ⟨B, 0, none⟩), .slice (some ⟨tb, 0, none⟩) n tcap, undef, undef, u 4, u 5, .pointer (some ⟨B, 0, none⟩), .pointer (some ⟨B, 0, none⟩), .pointer (some ⟨B, 0, none⟩), .slice (some ⟨sb, 0, none⟩) n scap, .int .i64 n, .int .i64 j, u 12, u 13, u 14, u 15, u 16, u 17, u 18, u 19, u 20, u 21, u 22, u 23, u 24], defers := [] } [.code body54, .inLoop body54, .inBlock 0]
noncomputable def rec54g (B sb n scap tb tcap j p : Nat) (F : Value) (u : Nat → Value) (cs : List Frame) : Goroutine :=
  G ((base 113).at { tmps := #[.pointer (some ⟨B, 0, none⟩), .slice (some ⟨tb, 0, none⟩) n tcap, undef, undef, .int .i64 j, .pointer (some ⟨p, 0, none⟩), .pointer (some ⟨B, 0, none⟩), .pointer (some ⟨B, 0, none⟩), .pointer (some ⟨B, 0, none⟩), .slice (some ⟨sb, 0, none⟩) n scap, .int .i64 n, .int .i64 j, .bool true, .int .i64 j, .pointer (some ⟨sb, j, none⟩), .pointer (some ⟨p, 0, none⟩), .pointer (some ⟨p, 0, none⟩), .slice (some ⟨tb, 0, none⟩) n tcap, .int .i64 j, .pointer (some ⟨tb, j, none⟩), F, u 21, u 22, u 23, u 24], defers := [] } [.inRegion ops54g [5], .code rest54, .inBlock 1, .code post54, .inLoop body54, .inBlock 0]) cs
noncomputable def rec54a (B sb n scap tb tcap j p : Nat) (F : Value) (u : Nat → Value) (cs : List Frame) : Goroutine :=
  G ((base 113).at { tmps := #[.pointer (some ⟨B, 0, none⟩), .slice (some ⟨tb, 0, none⟩) n tcap, undef, undef, .int .i64 j, .pointer (some ⟨p, 0, none⟩), .pointer (some ⟨B, 0, none⟩), .pointer (some ⟨B, 0, none⟩), .pointer (some ⟨B, 0, none⟩), .slice (some ⟨sb, 0, none⟩) n scap, .int .i64 n, .int .i64 j, .bool true, .int .i64 j, .pointer (some ⟨sb, j, none⟩), .pointer (some ⟨p, 0, none⟩), .pointer (some ⟨p, 0, none⟩), .slice (some ⟨tb, 0, none⟩) n tcap, .int .i64 j, .pointer (some ⟨tb, j, none⟩), F, u 21, u 22, u 23, u 24], defers := [] } [.inRegion ops54g [], .code rest54, .inBlock 1, .code post54, .inLoop body54, .inBlock 0]) cs
noncomputable def fr54 (B sb n scap tb tcap j p : Nat) (F : Value) (u : Nat → Value) : Frame :=
  (base 113).at { tmps := #[.pointer (some ⟨B, 0, none⟩), .slice (some ⟨tb, 0, none⟩) n tcap, undef, undef, .int .i64 j, .pointer (some ⟨p, 0, none⟩), .pointer (some ⟨B, 0, none⟩), .pointer (some ⟨B, 0, none⟩), .pointer (some ⟨B, 0, none⟩), .slice (some ⟨sb, 0, none⟩) n scap, .int .i64 n, .int .i64 j, .bool true, .int .i64 j, .pointer (some ⟨sb, j, none⟩), .pointer (some ⟨p, 0, none⟩), .pointer (some ⟨p, 0, none⟩), .slice (some ⟨tb, 0, none⟩) n tcap, .int .i64 j, .pointer (some ⟨tb, j, none⟩), F, .pointer (some ⟨B, 0, none⟩), .pointer (some ⟨p, 0, none⟩), u 23, u 24], defers := [] } [.inRegion ops54w [2], .inBlock 1, .code post54, .inLoop body54, .inBlock 0]
theorem begin_in (B sb n scap tb tcap : Nat) (cs : List Frame) (w : World) (h0 : w.cell? ⟨B, 0, none⟩ = some (.slice (some ⟨sb, 0, none⟩) n scap)) :
    Walk Try.prog main (DR V) (fun g w' => g = G (hd54 B sb n scap tb tcap 0 (fun _ => undef)) cs ∧ ∃ d, w' = w.at d) (G (Frame.enter Try.prog 113 #[.pointer (some ⟨B, 0, none⟩), .slice (some ⟨tb, 0, none⟩) n tcap] .normal) cs) w := by
  rw [enter_at _ Try.func113 rfl]
  simp only [Try.f113, ez, Nat.reduceAdd, Nat.reduceSub]
  repeat (first | refine Walk.cx ?_ | refine Walk.cR ?_ | (refine Walk.oq ?_; try walk_nrm) | (refine Walk.un ?_; walk_nrm))
  refine Walk.ctl rfl (fun w => stepG_loop) ?_
  refine .stop fun d => ⟨?_, d, rfl⟩
  simp only [hd54, body54, Try.f113]
  rfl
theorem begin_go (B sb n scap tb tcap j p : Nat) (F : Value) (u : Nat → Value) (cs : List Frame) (w : World) (hj : j < n) (hp : w.cell? ⟨sb, j, none⟩ = some (.pointer (some ⟨p, 0, none⟩))) (hF : w.cell? ⟨tb, j, none⟩ = some F) :
    Walk Try.prog main (DR V) (fun g w' => g = rec54g B sb n scap tb tcap j p F u cs ∧ ∃ d, w' = w.at d) (G (hd54 B sb n scap tb tcap j u) cs) w := by
  unfold hd54
  simp only [body54, Try.f113]
  have hi0 : (0 : Int) ≤ j := by omega
  have hi1 : decide ((j : Int) < n) = true := by simp; omega
  have hi2 : decide (n ≤ j) = false := by simp; omega
  have hi3 : decide (j < n) = true := by simp; omega
  repeat (first | refine Walk.cx ?_ | refine Walk.cR ?_ | (refine Walk.oq ?_; try walk_nrm) | (refine Walk.un ?_; walk_nrm))
  refine .stop fun d => ⟨?_, d, rfl⟩
  simp only [rec54g, ops54g, rest54, body54a, post54, body54, Try.f113]
theorem spawn54 (B sb n scap tb tcap j p : Nat) (F : Value) (u : Nat → Value) (cs : List Frame) (w : World) :
    stepG Try.prog main (rec54g B sb n scap tb tcap j p F u cs) w = .spawn (rec54a B sb n scap tb tcap j p F u cs) (born Try.prog { target := .fn (.func 137) #[], args := #[.pointer (some ⟨p, 0, none⟩), F] }) w #[] := by
  unfold rec54g rec54a
  simp only [ops54g, rest54, body54a, body54, Try.f113]
  rw [stepG_spawn (d := { target := .fn (.func 137) #[], args := #[.pointer (some ⟨p, 0, none⟩), F] }) (w' := w) (f := .func 137) (c := #[]) rfl (by rfl) (by decide) (by simp [go_sem, execOp, Act.eval, Deferred.ofValue]) rfl, listed_none (by simp [go_sem, execOp, Act.eval])]
  rfl
theorem begin_way (B sb n scap tb tcap j p r : Nat) (F : Value) (u : Nat → Value) (cs : List Frame) (v : Wait) (hch : v.ch = r) (hz : v.z = .agg #[]) (hok : v.ok = true) (hf : v.f ⟨p, 1, none⟩ = some (.chan (some r))) (hh : v.home (rec107 p r (fr79 B p :: fr54 B sb n scap tb tcap j p F u :: cs))) :
    Yonder Try.prog main v (rec54a B sb n scap tb tcap j p F u cs) := by
  unfold rec54a
  simp only [ops54g, rest54, body54a, body54, Try.f113]
  iterate 5 (try (first | refine Yonder.c rfl ?_ | refine Yonder.cR ?_ | refine Yonder.cE ?_ | refine Yonder.cT ?_ | (refine Yonder.oq ?_; try walk_nrm)))
  refine Yonder.callE rfl (by rfl) (by decide) rfl Try.func138 (by kernel_rfl) (by rfl) ?_
  walk_nrm
  refine way79 B p r _ v hch hz hok hf ?_
  simp only [fr54, ops54w, rest54, body54a, body54, Try.f113] at hh
  exact hh
theorem begin_back (B sb n scap tb tcap j p r : Nat) (F : Value) (u : Nat → Value) (cs : List Frame) (ok e0 : Bool) (going : Int) (w : World) (hj : j < 64) (hg1 : 1 ≤ going) (hg2 : going ≤ 64) (hBp : B ≠ p) (h2 : w.cell? ⟨p, 2, none⟩ = some (.bool e0)) (hz2 : w.frozen? ⟨p, 2, none⟩ = false) (hfr : Free V ⟨p, 2, none⟩)
    (h1 : w.cell? ⟨B, 1, none⟩ = some (.int .i64 going)) (hz1 : w.frozen? ⟨B, 1, none⟩ = false) (hfr1 : Free V ⟨B, 1, none⟩) :
    Walk Try.prog main (DR V) (fun g w' => (∃ u', g = G (hd54 B sb n scap tb tcap (j + 1) u') cs) ∧ ∃ d, w' = (awaitW w B p going ok).at d) (Go.Conc.served (rec107 p r (fr79 B p :: fr54 B sb n scap tb tcap j p F u :: cs)) (recvd true (.agg #[]) ok)) w := by
  refine (serve79 B p r (fr54 B sb n scap tb tcap j p F u) cs ok e0 going w hg1 hg2 hBp h2 hz2 hfr h1 hz1 hfr1).then ?_
  rintro g w' ⟨rfl, d, rfl⟩
  refine Walk.back ?_ d
  have hw1 : IntKind.wrap .i64 ((j : Int) + 1) = (j : Int) + 1 := by rw [IntKind.wrap_i64]; omega
  unfold fr54
  rw [Frame.finish_at]
  simp only [ops54w, rest54, body54a, body54, post54, Try.f113]
  walk_nrm
  repeat (first | refine Walk.cx ?_ | refine Walk.cR ?_ | (refine Walk.oq ?_; try walk_nrm) | (refine Walk.un ?_; walk_nrm))
  refine Walk.ctl rfl (fun w => stepG_inLoop) ?_
  refine .stop fun d' => ⟨⟨fun k => ([undef, undef, undef, undef, .int .i64 j, .pointer (some ⟨p, 0, none⟩), undef, undef, undef, undef, undef, undef, .bool true, .int .i64 j, .pointer (some ⟨sb, j, none⟩), .pointer (some ⟨p, 0, none⟩), .pointer (some ⟨p, 0, none⟩), .slice (some ⟨tb, 0, none⟩) n tcap, .int .i64 j, .pointer (some ⟨tb, j, none⟩), F, .pointer (some ⟨B, 0, none⟩), .pointer (some ⟨p, 0, none⟩), .tuple #[], .int .i64 ((j : Int) + 1)] : List Value).getD k undef, ?_⟩, d', rfl⟩
  have hc : ((j + 1 : Nat) : Int) = (j : Int) + 1 := by simp
  simp only [hd54, body54, Try.f113, hc]
  rfl
theorem begin_out (B sb n scap tb tcap : Nat) (u : Nat → Value) (c : Frame) (cs : List Frame) (w : World) :
    Walk Try.prog main (DR V) (fun g w' => g = G (c.finish (.tuple #[])) cs ∧ ∃ d, w' = w.at d) (G (hd54 B sb n scap tb tcap n u) (c :: cs)) w := by
  unfold hd54
  simp only [body54, Try.f113]
  have hi1 : decide ((n : Int) < n) = false := by simp
  have hi3 : decide (n < n) = false := by simp
  repeat (first | refine Walk.cx ?_ | refine Walk.cR ?_ | (refine Walk.oq ?_; try walk_nrm) | (refine Walk.un ?_; walk_nrm))
  exact Walk.ctl rfl (fun w => stepG_leave rfl rfl Try.func113 (results_none rfl _ _ w) (events_results_none rfl _ _)) (.stop fun d => ⟨rfl, d, rfl⟩)
end
end Go.Proofs.Ytgfajibjedfkdaa
