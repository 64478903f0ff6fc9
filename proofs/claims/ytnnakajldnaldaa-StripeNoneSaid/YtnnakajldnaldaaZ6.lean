/- Part 6. -/
import Derived.Test.YtnnakajldnaldaaZ1
import Derived.Test.YtnnakajldnaldaaZ3
set_option linter.unusedSimpArgs false
set_option linter.unusedVariables false
set_option maxHeartbeats 8000000
set_option maxRecDepth 100000
namespace Go.Proofs.Ytnnakajldnaldaa
open Go.Conc Go.RowKit Go.Relay
open Go.ConcN (upd upd_ne upd_same)
theorem act_slots {A : Array Value} {T : (Nat → Value) → Array Value} (h : A = T (fun k => A.getD k undef)) : ∃ u, (⟨A, []⟩ : Act) = ⟨T u, []⟩ := ⟨_, congrArg (fun x => (⟨x, []⟩ : Act)) h⟩
section
section
variable {kb kr : Nat} {kra : Option Addr} {krc lb lr : Nat} {lra : Option Addr} {lrc m p : Nat} {S : Sp} {c : Nat} {W : World} {main : Bool}
theorem Told.numA {w : World} {B : Nat} {l : List Int} (h : Told w B m l) : NumA (some ⟨B, 0, none⟩) l w := fun j x hx => ⟨B, 0, rfl, by rw [Nat.zero_add]; exact h.cell j x hx⟩
end
end
structure Closing (f : FuncId) (t : Tmp) (v : Value) (g : Goroutine) : Prop where
  all : ∃ fr, g = G fr [] ∧ fr.mode = .returning ∧ fr.kind = .normal ∧ fr.defers = [] ∧ fr.fn = f ∧ fr.tmps.getD t undef = v
theorem fx_in {T : Nat} {w : World} (h : w.heap[T]? = some (.cells fxZ 2)) : SlIn (some ⟨T, 0, none⟩) [0, 0] w := fun j z hz => by
  match j, hz with
  | 0, hz => cases hz; exact ⟨by decide, T, 0, rfl, (cell_of h _).trans rfl⟩
  | 1, hz => cases hz; exact ⟨by decide, T, 0, rfl, (cell_of h _).trans rfl⟩
theorem fixed_run (c : Frame) (cs : List Frame) (w : World) : Runs (fun g w' => g = G (c.finish (.bool true)) cs ∧ (∀ b, b < w.heap.size → w'.heap[b]? = w.heap[b]?) ∧ w.heap.size ≤ w'.heap.size) (G (Frame.enter Try.prog 12 #[] .normal) (c :: cs)) w := by
  have e2 : stN (([0, 0] : List Int).length : Int) = 2 := stN2
  refine Runs.walk (fixed_in c cs w) ?_
  rintro _ w1 ⟨fr, rfl, O1, Z1, hz1, hb1, I1, hs1, hB⟩
  refine Runs.then (splay_any (some ⟨w.heap.size, 0, none⟩) [0, 0] 2 (Nat.le_refl _) (.inr ⟨_, rfl⟩) (by decide) (.slice (some ⟨w.heap.size + 3, 0, none⟩) 2 2) 99 (some ⟨w.heap.size + 3, 0, none⟩) (w.heap.size + 3) 0 2 2 (fun _ => rfl) (by decide) (fxOa (w.heap.size + 2) (w.heap.size + 1)) fxL fxL (fkOps 2) (some ⟨w.heap.size + 4, 0, none⟩) 4 fxSl (by decide) fr (c :: cs) w1 (fx_in hz1) I1 (fun j z hz => ⟨_, _, rfl, hs1 j z hz⟩) fun w' _ => firstOps_some (some ⟨w.heap.size + 3, 0, none⟩) 2 2 w' (Nat.le_refl _) (.inr ⟨_, rfl⟩)) ?_
  rintro _ w2 ⟨cells, H, rfl⟩
  have O2 := H.old
  have Z2 := H.size
  have hT := H.tr
  rw [e2] at hT
  have l1 := (Array.getElem?_eq_some_iff.1 hz1).1
  have l2 := (Array.getElem?_eq_some_iff.1 hb1).1
  refine Runs.walk (hB cells _ _ _ _ w2 hT (fx_run _ _ _ _) ((O2 _ l1).trans hz1) ((O2 _ l2).trans hb1)) ?_
  rintro _ w3 ⟨fr2, b, o, ac, b0, o0, tc0, v1, v2, rfl, O3, Z3, C3, hz3, I3, hs3, hB3⟩
  refine Runs.then (splay_any (some ⟨w.heap.size, 0, none⟩) [0, 0] 2 (Nat.le_refl _) (.inr ⟨_, rfl⟩) (by decide) (.slice (some ⟨w2.heap.size + 2, 0, none⟩) 2 2) 99 (some ⟨w2.heap.size + 2, 0, none⟩) (w2.heap.size + 2) 0 2 2 (fun _ => rfl) (by decide) (fxOa (w2.heap.size + 1) (w.heap.size + 1)) fxL fxL (fkOps 5) (some ⟨w2.heap.size + 3, 0, none⟩) 5 fySl (by decide) fr2 (c :: cs) w3 (fx_in hz3) I3 (fun j z hz => ⟨_, _, rfl, hs3 j z hz⟩) fun w' _ => firstOps_some (some ⟨w2.heap.size + 2, 0, none⟩) 2 2 w' (Nat.le_refl _) (.inr ⟨_, rfl⟩)) ?_
  rintro _ w4 ⟨cells4, H4, rfl⟩
  have O4 := H4.old
  have Z4 := H4.size
  have hT4 := H4.tr
  rw [e2] at hT4
  refine Runs.walk (hB3 cells4 _ _ _ _ w4 (C3.old O4) hT4 (fy_run _ _ _ _)) ?_
  rintro _ w5 ⟨rfl, O5, Z5⟩
  exact .now ⟨rfl, fun b hb => (O5 b (by omega)).trans ((O4 b (by omega)).trans ((O3 b (by omega)).trans ((O2 b (by omega)).trans (O1 b hb)))), by omega⟩
section
section
variable {main : Bool} {V : Nat → Option Wait} {cb rb m : Nat} {ra : Option Addr} {rc : Nat}
theorem stripesN_w (s : Sp) (w : World) (I : SpI cb rb m ra rc s w) : CallV Try.prog main V 17 #[.pointer (some ⟨cb, 0, none⟩)] w (.int .i64 (m : Nat)) w := by
  have hm := I.pos
  obtain ⟨k, hk⟩ : ∃ k, m = k + 1 := ⟨m - 1, by omega⟩
  have c1 : w.cell? ⟨cb, 1, none⟩ = some (.slice ra k rc) := by
    have h := (cell_of I.hd 1).trans rfl
    rw [hk, Nat.add_sub_cancel] at h
    exact h
  have hw1 : IntKind.wrap .i64 (1 + (k : Int)) = (k : Int) + 1 := by rw [IntKind.wrap_i64]; omega
  have hcc : ((k + 1 : Nat) : Int) = (k : Int) + 1 := by simp
  have hp1 := fun w => run_eql_ptr (P := Try.prog) 35 undCnt (some ⟨cb, 0, none⟩) w
  have hp2 := fun w es => ev_eql_ptr (P := Try.prog) 35 undCnt (some ⟨cb, 0, none⟩) w es
  simp only [Option.isNone_some] at hp1
  subst hk
  rw [hcc]
  clear I hcc
  refine callW_in Try.func17 code17_is fun fr cs => ?_
  simp only [Try.ntmps17, List.size_toArray, List.length_cons, List.length_nil, Nat.reduceAdd, Nat.reduceSub, Array.replicate_succ, Array.replicate_zero, List.push_toArray, List.append_toArray, List.nil_append, List.cons_append]
  repeat (first | refine Walk.c rfl ?_ | refine Walk.cRet ?_ | refine Walk.cEnd ?_ | (refine Walk.cReg ?_; simp only [size17_0, size17_1, size17_2, size17_3, List.range, List.range.loop]) | (refine Walk.oq ?_; try walk_nrm) | (refine Walk.un ?_; walk_nrm))
  exact Walk.ret1 rfl rfl Try.func17 rfl fun d => ⟨rfl, d, rfl⟩
end
end
end Go.Proofs.Ytnnakajldnaldaa
