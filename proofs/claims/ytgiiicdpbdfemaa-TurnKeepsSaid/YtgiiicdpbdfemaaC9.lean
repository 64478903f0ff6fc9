/- Part 9. -/
import Derived.Test.YtgiiicdpbdfemaaC8
import Derived.Conc.LeavingOf
import Derived.Laws.OwnMore
set_option linter.unusedSimpArgs false
set_option maxHeartbeats 8000000
set_option maxRecDepth 100000
namespace Go.Proofs.Ytgiiicdpbdfemaa
open Go.Conc Go.RowKit Go.Relay
open Go.ConcN (upd upd_ne upd_same)
theorem two_src (w : World) : Src (some ⟨w.heap.size + 2, 0, none⟩) [(some ⟨w.heap.size, 0, none⟩, 5, 5), (some ⟨w.heap.size + 1, 0, none⟩, 5, 5)] [adderL, adderL]
    (((w.alloc (.cells adderCells 96)).alloc (.cells adderCells 96)).alloc (.cells #[.slice (some ⟨w.heap.size, 0, none⟩) 5 5, .slice (some ⟨w.heap.size + 1, 0, none⟩) 5 5] 85)) := by
  have h1 : (w.alloc (.cells adderCells 96)).heap.size = w.heap.size + 1 := by simp
  have h2 : ((w.alloc (.cells adderCells 96)).alloc (.cells adderCells 96)).heap.size = w.heap.size + 2 := by simp
  have b0 : (((w.alloc (.cells adderCells 96)).alloc (.cells adderCells 96)).alloc (.cells #[.slice (some ⟨w.heap.size, 0, none⟩) 5 5, .slice (some ⟨w.heap.size + 1, 0, none⟩) 5 5] 85)).heap[w.heap.size]? = some (.cells adderCells 96) :=
    (heap_new_lt _ _ (by omega)).trans ((heap_new_lt _ _ (by omega)).trans (heap_alloc_new w _))
  have b1 : (((w.alloc (.cells adderCells 96)).alloc (.cells adderCells 96)).alloc (.cells #[.slice (some ⟨w.heap.size, 0, none⟩) 5 5, .slice (some ⟨w.heap.size + 1, 0, none⟩) 5 5] 85)).heap[w.heap.size + 1]? = some (.cells adderCells 96) :=
    (heap_new_lt _ _ (by omega)).trans (by rw [← h1]; exact heap_alloc_new _ _)
  have b2 : (((w.alloc (.cells adderCells 96)).alloc (.cells adderCells 96)).alloc (.cells #[.slice (some ⟨w.heap.size, 0, none⟩) 5 5, .slice (some ⟨w.heap.size + 1, 0, none⟩) 5 5] 85)).heap[w.heap.size + 2]? = some (.cells #[.slice (some ⟨w.heap.size, 0, none⟩) 5 5, .slice (some ⟨w.heap.size + 1, 0, none⟩) 5 5] 85) := by
    rw [← h2]; exact heap_alloc_new _ _
  generalize ((w.alloc (.cells adderCells 96)).alloc (.cells adderCells 96)).alloc (.cells #[.slice (some ⟨w.heap.size, 0, none⟩) 5 5, .slice (some ⟨w.heap.size + 1, 0, none⟩) 5 5] 85) = w3 at b0 b1 b2 ⊢
  have hcs : ∀ (b : Nat), w3.heap[b]? = some (.cells adderCells 96) → ∀ (k : Nat) (d : Cd), adderL[k]? = some d → ∀ m v, (cdCells d)[m]? = some v → w3.cell? ⟨b, 0 + k * 5 + m, none⟩ = some v := fun b hb k d hd m v hv => by
    have hm : m < 5 := (List.getElem?_eq_some_iff.1 hv).1
    have := flat_get adderL k m d hd hm
    rw [hv] at this
    rw [Nat.zero_add]
    refine (cell_of hb _).trans ?_
    have e : adderCells = (flatC adderL).toArray := rfl
    rw [e, List.getElem?_toArray]
    exact this
  refine ⟨rfl, fun i p hp => ⟨w.heap.size + 2, 0, rfl, (cell_of b2 _).trans ?_⟩, fun i p c hp hc => ?_⟩
  · rw [Nat.zero_add]
    match i, hp with
    | 0, hp => cases hp; rfl
    | 1, hp => cases hp; rfl
    | i + 2, hp => cases hp
  · match i, hp, hc with
    | 0, hp, hc => cases hp; cases hc; exact ⟨rfl, fun k d hd => ⟨_, 0, rfl, hcs _ b0 k d hd⟩⟩
    | 1, hp, hc => cases hp; cases hc; exact ⟨rfl, fun k d hd => ⟨_, 0, rfl, hcs _ b1 k d hd⟩⟩
    | i + 2, hp, hc => cases hp
theorem ints_new (w : World) (l : List Int) (ty : TypeId) : IntsAt (some ⟨w.heap.size, 0, none⟩) l (w.alloc (.cells (l.map (Value.int .i64 ·)).toArray ty)) := fun j x hx => ⟨_, 0, rfl, by rw [Nat.zero_add]; exact (cell_of (heap_alloc_new w _) j).trans (by simp [hx])⟩
theorem out_a {b0 : Nat} {cells : Array Value} {w' : World} (H : PlayOut b0 ([adderL, adderL].take 64) [0] 100 [0, 1, 0, 1] cells w') : ∃ a oa oc s, cells = #[.slice (some ⟨a, 0, none⟩) 2 2, .slice oa 4 oc, .slice (some ⟨s, 0, none⟩) 1 1, .bool false] ∧ w'.cell? ⟨s, 0, none⟩ = some (.int .i64 1) := by
  obtain ⟨oa, oc, a, s, tas, tcs, h1, _, h3, _⟩ := H
  have e : ([adderL, adderL] : List (List Cd)).take 64 = [adderL, adderL] := rfl
  rw [e] at h1 h3
  obtain ⟨e1, e2, e3⟩ := awake_a
  rw [e2, e3] at h1
  refine ⟨a, oa, oc, s, h1, ?_⟩
  have := h3 0 (by simp)
  rw [e1] at this
  exact this
theorem out_b {b0 : Nat} {cells : Array Value} {w' : World} (H : PlayOut b0 ([adderL, adderL].take 64) [0] 100 [0, 0, 1, 1] cells w') : ∃ a oa on oc s st, cells = #[.slice (some ⟨a, 0, none⟩) 2 2, .slice oa on oc, .slice (some ⟨s, 0, none⟩) 1 1, .bool st] ∧ w'.cell? ⟨s, 0, none⟩ = some (.int .i64 2) := by
  obtain ⟨oa, oc, a, s, tas, tcs, h1, _, h3, _⟩ := H
  have e : ([adderL, adderL] : List (List Cd)).take 64 = [adderL, adderL] := rfl
  rw [e] at h1 h3
  refine ⟨a, oa, _, oc, s, _, h1, ?_⟩
  have := h3 0 (by simp)
  rw [awake_b] at this
  exact this
theorem out_c {b0 : Nat} {cells : Array Value} {w' : World} (H : PlayOut b0 ([adderL, adderL].take 64) [0] 3 [] cells w') : ∃ a oa oc s, cells = #[.slice (some ⟨a, 0, none⟩) 2 2, .slice oa 3 oc, .slice (some ⟨s, 0, none⟩) 1 1, .bool true] := by
  obtain ⟨oa, oc, a, s, tas, tcs, h1, _, _, _⟩ := H
  have e : ([adderL, adderL] : List (List Cd)).take 64 = [adderL, adderL] := rfl
  rw [e] at h1
  obtain ⟨e2, e3⟩ := awake_c
  rw [e2, e3] at h1
  exact ⟨a, oa, oc, s, h1⟩
def TrIs (T : Nat) (x0 x1 x2 x3 : Value) (w : World) : Prop := w.cell? ⟨T, 0, none⟩ = some x0 ∧ w.cell? ⟨T, 1, none⟩ = some x1 ∧ w.cell? ⟨T, 2, none⟩ = some x2 ∧ w.cell? ⟨T, 3, none⟩ = some x3
theorem tr_new (w : World) (x0 x1 x2 x3 : Value) : TrIs w.heap.size x0 x1 x2 x3 (w.alloc (.cells #[x0, x1, x2, x3] 28)) := by
  have h := heap_alloc_new w (.cells #[x0, x1, x2, x3] 28)
  exact ⟨(cell_of h 0).trans rfl, (cell_of h 1).trans rfl, (cell_of h 2).trans rfl, (cell_of h 3).trans rfl⟩
theorem TrIs.old {T : Nat} {x0 x1 x2 x3 : Value} {w w' : World} (h : TrIs T x0 x1 x2 x3 w) (O : Old w w') : TrIs T x0 x1 x2 x3 w' := ⟨old_cell O h.1, old_cell O h.2.1, old_cell O h.2.2.1, old_cell O h.2.2.2⟩
theorem awake_run (c : Frame) (cs : List Frame) (w : World) : Runs (fun g w' => Old w w' ∧ g = G (c.finish (.bool true)) cs) (G (Frame.enter Try.prog 13 #[] .normal) (c :: cs)) w := by
  refine Runs.go ?_
  rw [enter_at _ Try.func13 rfl]
  simp only [Try.f13, List.size_toArray, List.length_cons, List.length_nil, Nat.reduceAdd, Nat.reduceSub, Array.replicate_succ, Array.replicate_zero, List.push_toArray, List.append_toArray, List.nil_append, List.cons_append]
  repeat (first | refine Walk.c rfl ?_ | refine Walk.cR ?_ | refine Walk.cRet ?_ | refine Walk.cEnd ?_ | (refine Walk.oq ?_; try walk_nrm) | (refine Walk.un ?_; walk_nrm))
  refine Walk.callV (x := .slice (some ⟨w.heap.size, 0, none⟩) 5 5) (W := w.alloc (.cells adderCells 96)) ?_ rfl (by rfl) (by decide) rfl Try.func38 (by kernel_rfl) (by rfl) ?_
  · walk_nrm
    exact adder_w w
  walk_nrm
  refine Walk.callV (x := .slice (some ⟨w.heap.size + 1, 0, none⟩) 5 5) (W := (w.alloc (.cells adderCells 96)).alloc (.cells adderCells 96)) ?_ rfl (by rfl) (by decide) rfl Try.func38 (by kernel_rfl) (by rfl) ?_
  · have := adder_w (main := true) (V := fun _ => none) (w.alloc (.cells adderCells 96))
    have h1 : (w.alloc (.cells adderCells 96)).heap.size = w.heap.size + 1 := by simp
    rw [h1] at this
    walk_nrm
    exact this
  walk_nrm
  have hS := two_src w
  have O1 := (old_alloc w (.cells adderCells 96)).trans ((old_alloc _ (.cells adderCells 96)).trans (old_alloc _ (.cells #[.slice (some ⟨w.heap.size, 0, none⟩) 5 5, .slice (some ⟨w.heap.size + 1, 0, none⟩) 5 5] 85)))
  have hsz : ((w.alloc (.cells adderCells 96)).alloc (.cells adderCells 96)).heap.size = w.heap.size + 2 := by simp
  (refine Walk.oa ?_; try walk_nrm)
  generalize ((w.alloc (.cells adderCells 96)).alloc (.cells adderCells 96)).alloc (.cells #[.slice (some ⟨w.heap.size, 0, none⟩) 5 5, .slice (some ⟨w.heap.size + 1, 0, none⟩) 5 5] 85) = w3 at hS O1 ⊢
  refine Walk.callW (Post := fun v w' => ∃ fa fc ls, v = .slice fa 2 fc ∧ Coded w3 w' [adderL, adderL] fa fc 2 ls) ?_ rfl (by rfl) (by decide) rfl Try.func15 (by kernel_rfl) (by rfl) ?_
  · walk_nrm
    exact codes_w (some ⟨w.heap.size + 2, 0, none⟩) 2 _ [adderL, adderL] w3 hS (by simp) (by simp [adderL]) (fun b _ => apart0 b)
  rintro v w4 ⟨fa, fc, ls, rfl, M⟩
  have O4 := O1.trans M.old
  walk_nrm
  repeat (first | refine Walk.c rfl ?_ | refine Walk.cR ?_ | refine Walk.cRet ?_ | refine Walk.cEnd ?_ | (refine Walk.oq ?_; try walk_nrm) | (refine Walk.un ?_; walk_nrm))
  (refine Walk.oa ?_; try walk_nrm)
  repeat (first | refine Walk.c rfl ?_ | refine Walk.cR ?_ | refine Walk.cRet ?_ | refine Walk.cEnd ?_ | (refine Walk.oq ?_; try walk_nrm) | (refine Walk.un ?_; walk_nrm))
  (refine Walk.oa ?_; try walk_nrm)
  have hsz4 : (w4.alloc (.cells #[.int .i64 0] 2)).heap.size = w4.heap.size + 1 := by simp
  have O6 := (old_alloc w4 (.cells #[.int .i64 0] 2)).trans (old_alloc _ (.cells #[.int .i64 0, .int .i64 1, .int .i64 0, .int .i64 1] 3))
  have I1 : IntsAt (some ⟨w4.heap.size, 0, none⟩) [0] ((w4.alloc (.cells #[.int .i64 0] 2)).alloc (.cells #[.int .i64 0, .int .i64 1, .int .i64 0, .int .i64 1] 3)) := (ints_new w4 [0] 2).old (old_alloc _ _).same
  have I2 : IntsAt (some ⟨w4.heap.size + 1, 0, none⟩) [0, 1, 0, 1] ((w4.alloc (.cells #[.int .i64 0] 2)).alloc (.cells #[.int .i64 0, .int .i64 1, .int .i64 0, .int .i64 1] 3)) := by
    have := ints_new (w4.alloc (.cells #[.int .i64 0] 2)) [0, 1, 0, 1] 3
    rw [hsz4] at this
    exact this
  have L2 : w4.heap.size + 1 < ((w4.alloc (.cells #[.int .i64 0] 2)).alloc (.cells #[.int .i64 0, .int .i64 1, .int .i64 0, .int .i64 1] 3)).heap.size := by simp
  generalize (w4.alloc (.cells #[.int .i64 0] 2)).alloc (.cells #[.int .i64 0, .int .i64 1, .int .i64 0, .int .i64 1] 3) = w6 at O6 I1 I2 L2 ⊢
  refine Walk.callE rfl (by rfl) (by decide) rfl Try.func14 (by kernel_rfl) (by rfl) ?_
  refine .stop fun d => ?_
  walk_nrm
  refine Runs.then (play_coded M (by simp) (by simp [adderL]) (some ⟨w4.heap.size, 0, none⟩) 1 (some ⟨w4.heap.size + 1, 0, none⟩) 4 100 [0] [0, 1, 0, 1] (w6.at d) (O6.at d) (by simp) (by simp) I1 I2 _ _) ?_
  rintro _ w7 ⟨cells, hP, O7, rfl⟩
  obtain ⟨a1, oa1, oc1, s1, rfl, hs1⟩ := out_a hP
  have O7' := O6.trans (Old.un d O7)
  clear O6 I1 I2 L2 hP O7
  refine Runs.go ?_
  rw [Frame.finish_at]
  walk_nrm
  (refine Walk.oa ?_; try walk_nrm)
  refine Walk.storeS 28 (.tmp 2) (.tmp 12) rfl (by rfl) (by decide) rfl w7.heap.size #[.slice (some ⟨a1, 0, none⟩) 2 2, .slice oa1 4 oc1, .slice (some ⟨s1, 0, none⟩) 1 1, .bool false] _ 28 rfl rfl (heap_alloc_new w7 _) (by kernel_rfl) (by rfl) (by simp [Value.oneCell']) (apart0 _) ?_
  rw [setRow_alloc]
  have T1 := tr_new w7 (.slice (some ⟨a1, 0, none⟩) 2 2) (.slice oa1 4 oc1) (.slice (some ⟨s1, 0, none⟩) 1 1) (.bool false)
  have hs1 := old_cell (old_alloc w7 (.cells #[.slice (some ⟨a1, 0, none⟩) 2 2, .slice oa1 4 oc1, .slice (some ⟨s1, 0, none⟩) 1 1, .bool false] 28)) hs1
  have O8 := O7'.trans (old_alloc w7 (.cells #[.slice (some ⟨a1, 0, none⟩) 2 2, .slice oa1 4 oc1, .slice (some ⟨s1, 0, none⟩) 1 1, .bool false] 28))
  clear O7'
  generalize w7.heap.size = TA at *
  generalize w7.alloc (.cells #[.slice (some ⟨a1, 0, none⟩) 2 2, .slice oa1 4 oc1, .slice (some ⟨s1, 0, none⟩) 1 1, .bool false] 28) = w8 at *
  walk_nrm
  repeat (first | refine Walk.c rfl ?_ | refine Walk.cR ?_ | refine Walk.cRet ?_ | refine Walk.cEnd ?_ | (refine Walk.oq ?_; try walk_nrm) | (refine Walk.un ?_; walk_nrm))
  (refine Walk.oa ?_; try walk_nrm)
  repeat (first | refine Walk.c rfl ?_ | refine Walk.cR ?_ | refine Walk.cRet ?_ | refine Walk.cEnd ?_ | (refine Walk.oq ?_; try walk_nrm) | (refine Walk.un ?_; walk_nrm))
  (refine Walk.oa ?_; try walk_nrm)
  have hsz8 : (w8.alloc (.cells #[.int .i64 0] 2)).heap.size = w8.heap.size + 1 := by simp
  have P6 := (old_alloc w8 (.cells #[.int .i64 0] 2)).trans (old_alloc _ (.cells #[.int .i64 0, .int .i64 0, .int .i64 1, .int .i64 1] 3))
  have I1 : IntsAt (some ⟨w8.heap.size, 0, none⟩) [0] ((w8.alloc (.cells #[.int .i64 0] 2)).alloc (.cells #[.int .i64 0, .int .i64 0, .int .i64 1, .int .i64 1] 3)) := (ints_new w8 [0] 2).old (old_alloc _ _).same
  have I2 : IntsAt (some ⟨w8.heap.size + 1, 0, none⟩) [0, 0, 1, 1] ((w8.alloc (.cells #[.int .i64 0] 2)).alloc (.cells #[.int .i64 0, .int .i64 0, .int .i64 1, .int .i64 1] 3)) := by
    have := ints_new (w8.alloc (.cells #[.int .i64 0] 2)) [0, 0, 1, 1] 3
    rw [hsz8] at this
    exact this
  have L2 : w8.heap.size + 1 < ((w8.alloc (.cells #[.int .i64 0] 2)).alloc (.cells #[.int .i64 0, .int .i64 0, .int .i64 1, .int .i64 1] 3)).heap.size := by simp
  generalize (w8.alloc (.cells #[.int .i64 0] 2)).alloc (.cells #[.int .i64 0, .int .i64 0, .int .i64 1, .int .i64 1] 3) = w9 at P6 I1 I2 L2 ⊢
  refine Walk.callE rfl (by rfl) (by decide) rfl Try.func14 (by kernel_rfl) (by rfl) ?_
  refine .stop fun d9 => ?_
  walk_nrm
  refine Runs.then (play_coded M (by simp) (by simp [adderL]) (some ⟨w8.heap.size, 0, none⟩) 1 (some ⟨w8.heap.size + 1, 0, none⟩) 4 100 [0] [0, 0, 1, 1] (w9.at d9) ((O8.trans P6).at d9) (by simp) (by simp) I1 I2 _ _) ?_
  rintro _ w10 ⟨cells, hP, O10, rfl⟩
  obtain ⟨a2, oa2, on2, oc2, s2, st2, rfl, hs2⟩ := out_b hP
  have Q8 := P6.trans (Old.un d9 O10)
  have O11 := O8.trans Q8
  have T1 := T1.old Q8
  have hs1 := old_cell Q8 hs1
  clear P6 I1 I2 L2 hP O10 Q8 O8
  refine Runs.go ?_
  rw [Frame.finish_at]
  walk_nrm
  (refine Walk.oa ?_; try walk_nrm)
  refine Walk.storeS 28 (.tmp 3) (.tmp 16) rfl (by rfl) (by decide) rfl w10.heap.size #[.slice (some ⟨a2, 0, none⟩) 2 2, .slice oa2 on2 oc2, .slice (some ⟨s2, 0, none⟩) 1 1, .bool st2] _ 28 rfl rfl (heap_alloc_new w10 _) (by kernel_rfl) (by rfl) (by simp [Value.oneCell']) (apart0 _) ?_
  rw [setRow_alloc]
  have T2 := tr_new w10 (.slice (some ⟨a2, 0, none⟩) 2 2) (.slice oa2 on2 oc2) (.slice (some ⟨s2, 0, none⟩) 1 1) (.bool st2)
  have R8 := old_alloc w10 (.cells #[.slice (some ⟨a2, 0, none⟩) 2 2, .slice oa2 on2 oc2, .slice (some ⟨s2, 0, none⟩) 1 1, .bool st2] 28)
  have hs2 := old_cell R8 hs2
  have hs1 := old_cell R8 hs1
  have T1 := T1.old R8
  have O12 := O11.trans R8
  clear O11 R8
  generalize w10.heap.size = TB at *
  generalize w10.alloc (.cells #[.slice (some ⟨a2, 0, none⟩) 2 2, .slice oa2 on2 oc2, .slice (some ⟨s2, 0, none⟩) 1 1, .bool st2] 28) = w12 at *
  walk_nrm
  repeat (first | refine Walk.c rfl ?_ | refine Walk.cR ?_ | refine Walk.cRet ?_ | refine Walk.cEnd ?_ | (refine Walk.oq ?_; try walk_nrm) | (refine Walk.un ?_; walk_nrm))
  (refine Walk.oa ?_; try walk_nrm)
  repeat (first | refine Walk.c rfl ?_ | refine Walk.cR ?_ | refine Walk.cRet ?_ | refine Walk.cEnd ?_ | (refine Walk.oq ?_; try walk_nrm) | (refine Walk.un ?_; walk_nrm))
  have P6 := old_alloc w12 (.cells #[.int .i64 0] 2)
  have I1 : IntsAt (some ⟨w12.heap.size, 0, none⟩) [0] (w12.alloc (.cells #[.int .i64 0] 2)) := ints_new w12 [0] 2
  have I2 : IntsAt none [] (w12.alloc (.cells #[.int .i64 0] 2)) := fun j x h => by simp at h
  generalize w12.alloc (.cells #[.int .i64 0] 2) = w13 at P6 I1 I2 ⊢
  refine Walk.callE rfl (by rfl) (by decide) rfl Try.func14 (by kernel_rfl) (by rfl) ?_
  refine .stop fun d13 => ?_
  walk_nrm
  refine Runs.then (play_coded M (by simp) (by simp [adderL]) (some ⟨w12.heap.size, 0, none⟩) 1 none 0 3 [0] [] (w13.at d13) ((O12.trans P6).at d13) (by simp) (by simp) I1 I2 _ _) ?_
  rintro _ w14 ⟨cells, hP, O14, rfl⟩
  obtain ⟨a3, oa3, oc3, s3, rfl⟩ := out_c hP
  have Q8 := P6.trans (Old.un d13 O14)
  have O15 := O12.trans Q8
  have T1 := T1.old Q8
  have T2 := T2.old Q8
  have hs1 := old_cell Q8 hs1
  have hs2 := old_cell Q8 hs2
  clear P6 I1 I2 hP O14 Q8 O12
  refine Runs.go ?_
  rw [Frame.finish_at]
  walk_nrm
  (refine Walk.oa ?_; try walk_nrm)
  refine Walk.storeS 28 (.tmp 4) (.tmp 19) rfl (by rfl) (by decide) rfl w14.heap.size #[.slice (some ⟨a3, 0, none⟩) 2 2, .slice oa3 3 oc3, .slice (some ⟨s3, 0, none⟩) 1 1, .bool true] _ 28 rfl rfl (heap_alloc_new w14 _) (by kernel_rfl) (by rfl) (by simp [Value.oneCell']) (apart0 _) ?_
  rw [setRow_alloc]
  have T3 := tr_new w14 (.slice (some ⟨a3, 0, none⟩) 2 2) (.slice oa3 3 oc3) (.slice (some ⟨s3, 0, none⟩) 1 1) (.bool true)
  have R8 := old_alloc w14 (.cells #[.slice (some ⟨a3, 0, none⟩) 2 2, .slice oa3 3 oc3, .slice (some ⟨s3, 0, none⟩) 1 1, .bool true] 28)
  have hs2 := old_cell R8 hs2
  have hs1 := old_cell R8 hs1
  have T1 := T1.old R8
  have T2 := T2.old R8
  have O16 := O4.trans (O15.trans R8)
  clear R8 O15 O4 O1 M hS
  generalize w14.heap.size = TC at *
  generalize w14.alloc (.cells #[.slice (some ⟨a3, 0, none⟩) 2 2, .slice oa3 3 oc3, .slice (some ⟨s3, 0, none⟩) 1 1, .bool true] 28) = w16 at *
  obtain ⟨u10, u11, u12, u13⟩ := T1
  obtain ⟨u20, u21, u22, u23⟩ := T2
  obtain ⟨u30, u31, u32, u33⟩ := T3
  walk_nrm
  refine Walk.ctl rfl (fun w => stepG_region_end) ?_
  refine Walk.slots (F := fun u => G (hd13 (.slice fa 2 fc) TA TB TC u) (c :: cs)) (fun u => (awake_tail (.slice fa 2 fc) TA TB TC a1 a2 s1 s2 oc1 oc3 oa1 oa3 u c cs w16 u10 u11 u12 u13 u20 u22 u31 u33 hs1 hs2).mono ?_) ?_
  · rintro g w' ⟨rfl, d, rfl⟩
    exact .now ⟨O16.at d, rfl⟩
  · simp only [hd13, tail13, Try.f13]
    rfl
structure Closing (f : FuncId) (t : Tmp) (v : Value) (g : Goroutine) : Prop where
  all : ∃ fr, g = G fr [] ∧ fr.mode = .returning ∧ fr.kind = .normal ∧ fr.defers = [] ∧ fr.fn = f ∧ fr.tmps.getD t undef = v
theorem stepG_done {P : Program} {fr : Frame} {w : World} {fn : Func} {v : Value} (hm : fr.mode = .returning) (hn : fr.kind = .normal) (hd : fr.defers = []) (hf : P.funcs[fr.fn]? = some fn) (hr : (results fn fr.tmps).run P w = .ok v w) (he : (results fn fr.tmps).events P w #[] = #[]) (hi : P.inits.idxOf? fr.fn = none) :
    stepG P true (G fr []) w = .ended (.done v) w #[] := by
  simp [G, stepG, unwind, doReturn, hm, hd, hn, hf, hr, he, hi, GStep.after, seen_none]
theorem run_claim {f : FuncId} {fn : Func} {args : Array Value} {W : World} {Post : Value → World → Prop} {v : Value} {t : Tmp} (hf : Try.prog.funcs[f]? = some fn) (hres : fn.results = #[.tmp t]) (hi : Try.prog.inits.idxOf? f = none)
    (h : Runs (fun g w' => Closing f t v g ∧ (OsSame W w' → ∀ d, Post v (w'.at d))) (G (Frame.enter Try.prog f args .normal) []) W) :
    ∃ M last o w' t', runNT Try.prog (M + 1) (solo (G (Frame.enter Try.prog f args .normal) []) W) #[] = (.ended o w', t') ∧ runN Try.prog M (solo (G (Frame.enter Try.prog f args .normal) []) W) = .next last ∧ step Try.prog last = .ended o w' ∧ Go.Conc.Good Try.prog Post last o w' t' := by
  rw [solo_eq_crowd]
  have A0 := at_begin (P := Try.prog) (gs := #[G (Frame.enter Try.prog f args .normal) []]) (a := G (Frame.enter Try.prog f args .normal) []) (sl := none) (w := W) rfl (leavers_one Try.prog _) past_nil
  obtain ⟨N1, m1, T1, r1, ⟨nG, g1, w1, _, ⟨⟨fr, rfl, hm, hn, hd, hfn, hv⟩, hP⟩, A1⟩, ho⟩ := h 1 _ _ (Nat.le_refl _) A0
  obtain ⟨gs, sl, q, B, rfl, _, hg0, hL, hPast⟩ := A1.ends (fun _ => rfl)
  have hP := hP ho
  have hs : ∀ d, stepG Try.prog true (G fr []) (w1.at d) = .ended (.done v) (w1.at d) #[] := fun d =>
    stepG_done hm hn hd (by rw [hfn]; exact hf) (by rw [results_tmp hres, hv]) (events_results_tmp hres _ _) (by rw [hfn]; exact hi)
  have hG : Goes Try.prog true AtRel (fun _ _ es => ∀ e ∈ es, EvL (fun _ => False) B e) (AtEnd Try.prog (fun _ => False) B Post) 0 (G fr []) w1 := by
    rintro _ ⟨d, rfl⟩
    exact ⟨rfl, v, #[], hs d, by simp, hP d⟩
  obtain ⟨M8, last, o, w', t', e1, e2, e3, e4⟩ := beside_ends (P := Try.prog) (Post := Post) (sl := sl) (fun _ _ _ h => h) hg0 hL hPast hG
  refine ⟨N1 + M8, last, o, w', t', ?_, ?_, e3, e4⟩
  · rw [Nat.add_assoc, runNT_add, r1]; exact e1
  · rw [runN_add, ← runNT_fst Try.prog _ _ #[], r1]; exact e2
theorem Walk.finish {P : Program} {main : Bool} {D : World → World → Array Event → Prop} {Stop : Goroutine → World → Prop} {w : World} {b : Frame} {a : Act} {k : List Item} {cs : List Frame} {ops : Array Oper} {i : Nat} {rest : List Nat} {o : Oper} {v : Value} (ho : ops[i]? = some o)
    (h : Walk P main D Stop (G (b.at (a.put o.dst v) (.inRegion ops rest :: k)) cs) w) : Walk P main D Stop (G ((b.at a (.inRegion ops (i :: rest) :: k)).finish v) cs) w := by
  rw [Frame.finish_at, ho]
  exact h
section
variable {main : Bool} {V : Nat → Option Wait}
theorem slots_walk {P : Program} {D : World → World → Array Event → Prop} {Stop : Goroutine → World → Prop} {b : Frame} {A : Array Value} {todo : List Item} {cs : List Frame} {w : World} {F : (Nat → Value) → Goroutine} (h : ∀ u, Walk P main D Stop (F u) w) (e : G (b.at ⟨A, []⟩ todo) cs = F (fun k => A.getD k undef)) : Walk P main D Stop (G (b.at ⟨A, []⟩ todo) cs) w := e ▸ h _
def badW (steps after : Int) : Bool := decide (0 ≤ after) && decide (after ≤ steps)
def numW (steps after : Int) : Int := if badW steps after then after else steps
end
section
variable {main : Bool} {V : Nat → Option Wait}
def NumsAt (a : Option Addr) (n : Nat) (f : Nat → Int) (w : World) : Prop := ∀ i, i < n → ∃ b o, a = some ⟨b, o, none⟩ ∧ w.cell? ⟨b, o + i, none⟩ = some (.int .i64 (f i))
end
section
variable {main : Bool} {V : Nat → Option Wait}
noncomputable def reg57_1 : Array Oper := match Try.f57.body with | some (.seq (.seq _ (.block _ (.loop (.seq (.seq (.region _ ops _) _) _)))) _) => ops | _ => #[]
noncomputable def reg57_3 : Array Oper := match Try.f57.body with | some (.seq (.seq _ (.block _ (.loop (.seq _ (.seq (.block _ (.seq (.seq (.region _ ops _) _) _)) _))))) _) => ops | _ => #[]
noncomputable def reg57_4 : Array Oper := match Try.f57.body with | some (.seq (.seq _ (.block _ (.loop (.seq _ (.seq (.block _ (.seq (.seq _ (.cond _ (.region _ ops _) _)) _)) _))))) _) => ops | _ => #[]
noncomputable def reg57_5 : Array Oper := match Try.f57.body with | some (.seq (.seq _ (.block _ (.loop (.seq _ (.seq (.block _ (.seq _ (.seq (.region _ ops _) _))) _))))) _) => ops | _ => #[]
noncomputable def reg57_6 : Array Oper := match Try.f57.body with | some (.seq (.seq _ (.block _ (.loop (.seq _ (.seq (.block _ (.seq _ (.seq _ (.cond _ (.seq (.region _ ops _) _) _)))) _))))) _) => ops | _ => #[]
noncomputable def reg57_7 : Array Oper := match Try.f57.body with | some (.seq (.seq _ (.block _ (.loop (.seq _ (.seq (.block _ (.seq _ (.seq _ (.cond _ (.seq _ (.region _ ops _)) _)))) _))))) _) => ops | _ => #[]
noncomputable def reg57_2 : Array Oper := match Try.f57.body with | some (.seq (.seq _ (.block _ (.loop (.seq _ (.seq _ (.region _ ops _)))))) _) => ops | _ => #[]
noncomputable def reg57_8 : Array Oper := match Try.f57.body with | some (.seq _ (.seq (.region _ ops _) _)) => ops | _ => #[]
noncomputable def reg57_9 : Array Oper := match Try.f57.body with | some (.seq _ (.seq _ (.cond _ (.region _ ops _) _))) => ops | _ => #[]
structure Note (V : Nat → Option Wait) (W B n0 : Nat) (n : Int) (la : Option Addr) (len cap : Nat) (xs : List Value) (w : World) : Prop where
  w0 : w.cell? ⟨W, 0, none⟩ = some (.pointer (some ⟨B, 0, none⟩))
  w1 : w.cell? ⟨W, 1, none⟩ = some (.int .i64 n)
  b0 : w.cell? ⟨B, 0, none⟩ = some (.slice la len cap)
  bz : w.frozen? ⟨B, 0, none⟩ = false
  row : w.ownsRow n0 3 1 (.slice la len cap) len xs
  free : Free V ⟨B, 0, none⟩
  ap : ∀ g, (Value.slice la len cap).ownBlock = some g → Apart V g
  rW : (Value.slice la len cap).ownBlock ≠ some W
  rB : (Value.slice la len cap).ownBlock ≠ some B
  len : len ≤ 1099511627776
  base : n0 ≤ w.heap.size
structure Noted (n0 : Nat) (n : Int) (la : Option Addr) (len cap : Nat) (xs : List Value) (w : World) (g cap' : Nat) (w3 : World) : Prop where
  row : w3.ownsRow n0 3 1 (.slice (some ⟨g, 0, none⟩) (len + 1) cap') (len + 1) (xs ++ [.int .i64 n])
  grown : (w.alloc (.cells #[.int .i64 n] 3)).grownBy w3 (Value.slice la len cap).ownBlock
  at_ : (Value.slice la len cap).ownBlock = some g ∨ g = (w.alloc (.cells #[.int .i64 n] 3)).heap.size
  lt : g < w3.heap.size
def Ph57 (B n0 : Nat) (n : Int) (la : Option Addr) (len cap : Nat) (xs : List Value) (w : World) (f15 f16 f19 : Bool) (v : Value) (w' : World) : Prop :=
  (f15 = false ∧ f16 = false ∧ f19 = false ∧ ∃ d, w' = w.at d) ∨
  (f15 = true ∧ f16 = false ∧ f19 = false ∧ ∃ d, w' = (w.alloc (.cells #[.int .i64 n] 3)).at d) ∨
  (f16 = true ∧ f15 = true ∧ f19 = false ∧ ∃ g cap' w3 d, Noted n0 n la len cap xs w g cap' w3 ∧ v = .slice (some ⟨g, 0, none⟩) (len + 1) cap' ∧ w' = w3.at d) ∨
  (f19 = true ∧ f15 = true ∧ f16 = true ∧ ∃ g cap' w3 d, Noted n0 n la len cap xs w g cap' w3 ∧ w' = (w3.setCell ⟨B, 0, none⟩ (.slice (some ⟨g, 0, none⟩) (len + 1) cap')).at d)
section
variable {W B n0 : Nat} {n : Int} {la : Option Addr} {len cap : Nat} {xs : List Value} {w : World}
theorem Note.keep (H : Note V W B n0 n la len cap xs w) {g cap' : Nat} {w3 : World} (A : Noted n0 n la len cap xs w g cap' w3) {b : Nat} (hb : b < w.heap.size) (hne : (Value.slice la len cap).ownBlock ≠ some b) : w3.heap[b]? = w.heap[b]? := by
  have hs1 : (w.alloc (.cells #[.int .i64 n] 3)).heap.size = w.heap.size + 1 := by simp
  have := H.base
  exact (A.grown.block b (by omega) (fun e => hne e.symm)).trans (heap_new_lt w _ hb)
theorem Note.grown (H : Note V W B n0 n la len cap xs w) {g cap' : Nat} {w3 : World} (A : Noted n0 n la len cap xs w g cap' w3) : w3.cell? ⟨W, 0, none⟩ = some (.pointer (some ⟨B, 0, none⟩)) ∧ w3.cell? ⟨W, 1, none⟩ = some (.int .i64 n) ∧ w3.cell? ⟨B, 0, none⟩ = some (.slice la len cap) ∧ w3.frozen? ⟨B, 0, none⟩ = false := by
  have hW := H.keep A (cell_lt w H.w0) H.rW
  have hB := H.keep A (cell_lt w H.b0) H.rB
  refine ⟨(World.cell?_of_block (a := ⟨W, 0, none⟩) hW).trans H.w0, (World.cell?_of_block (a := ⟨W, 1, none⟩) hW).trans H.w1, (World.cell?_of_block (a := ⟨B, 0, none⟩) hB).trans H.b0, ?_⟩
  have := H.bz
  unfold World.frozen? at this ⊢
  rw [hB]; exact this
theorem Note.reads (H : Note V W B n0 n la len cap xs w) {f15 f16 f19 : Bool} {v : Value} {w' : World} (hp : Ph57 B n0 n la len cap xs w f15 f16 f19 v w') (h19 : f19 ≠ true) : w'.cell? ⟨W, 0, none⟩ = some (.pointer (some ⟨B, 0, none⟩)) ∧ w'.cell? ⟨W, 1, none⟩ = some (.int .i64 n) ∧ w'.cell? ⟨B, 0, none⟩ = some (.slice la len cap) := by
  rcases hp with ⟨_, _, _, d, rfl⟩ | ⟨_, _, _, d, rfl⟩ | ⟨_, _, _, g, cap', w3, d, A, _, rfl⟩ | ⟨h, _⟩
  · exact ⟨H.w0, H.w1, H.b0⟩
  · exact ⟨old_cell (⟨by simp, fun _ hb => heap_new_lt w _ hb⟩) H.w0, old_cell (⟨by simp, fun _ hb => heap_new_lt w _ hb⟩) H.w1, old_cell (⟨by simp, fun _ hb => heap_new_lt w _ hb⟩) H.b0⟩
  · exact ⟨(H.grown A).1, (H.grown A).2.1, (H.grown A).2.2.1⟩
  · exact absurd h h19
end
end
section
variable {main : Bool} {V : Nat → Option Wait}
noncomputable def at57 (W : Nat) (S : Value) (i : Int) (u : Nat → Value) : Act := ⟨#[.pointer (some ⟨W, 0, none⟩), S, u 2, u 3, .int .i64 i, u 5, u 6, u 7, u 8, u 9, u 10, u 11, u 12, u 13, u 14, u 15, u 16, u 17, u 18, u 19, u 20, u 21, u 22, u 23, u 24, u 25, u 26, u 27, u 28, S, u 30, u 31, u 32, u 33, u 34, u 35, u 36, u 37, u 38, u 39, u 40, u 41, u 42, u 43, u 44, u 45, u 46, u 47, u 48, u 49, u 50, u 51, u 52, u 53, u 54, u 55, u 56, u 57, u 58, u 59, u 60, u 61, u 62, u 63, u 64, u 65, u 66], []⟩
noncomputable def todo57 : List Item := [.code (.seq (.seq (.region 1 reg57_1 false) (.cond (.tmp 10 ) (.skip) (.exit 0))) (.seq (.block 1 (.seq (.seq (.region 3 reg57_3 false) (.cond (.tmp 18 ) (.region 4 reg57_4 false) (.skip))) (.seq (.region 5 reg57_5 false) (.cond (.tmp 28 ) (.seq (.region 6 reg57_6 false) (.region 7 reg57_7 true)) (.skip))))) (.region 2 reg57_2 false))), .inLoop (.seq (.seq (.region 1 reg57_1 false) (.cond (.tmp 10 ) (.skip) (.exit 0))) (.seq (.block 1 (.seq (.seq (.region 3 reg57_3 false) (.cond (.tmp 18 ) (.region 4 reg57_4 false) (.skip))) (.seq (.region 5 reg57_5 false) (.cond (.tmp 28 ) (.seq (.region 6 reg57_6 false) (.region 7 reg57_7 true)) (.skip))))) (.region 2 reg57_2 false))), .inBlock 0, .code (.seq (.region 8 reg57_8 true) (.cond (.tmp 58 ) (.region 9 reg57_9 false) (.skip)))]
noncomputable def k57 : List Item := [.code (.region 7 reg57_7 true), .inBlock 1, .code (.region 2 reg57_2 false)] ++ todo57.drop 1
end
section
structure Wlk where
  nl : Nat → Bool
  st : Nat → Int
  af : Nat → Int
structure WG where
  n : Nat
  B : Nat
  W : Nat → Nat
  s : Wlk
  ro : Nat → Option Obj
structure WX where
  dn : Nat → Nat
  out : Nat → Option Bool
  cnt : Nat
  list : List Nat
inductive WR where
  | wk (i : Nat)
  | bd
  | bl
  | ro
structure WInv (g : WG) (S : Stile) (h : Option Nat) (k : Nat) (o : Nat → Option Role) (x : WX) (cs : Nat → List Frame) (w : World) (κ : Nat → Option WR) (la : Option Addr) (cap : Nat) (us : Nat → Nat → Value) : Prop where
  lt : ∀ b r, κ b = some r → o b = none ∧ b < w.heap.size
  n : S.n = g.n
  wk : ∀ i, i < g.n → g.s.nl i = false → w.heap[g.W i]? = some (.cells #[.pointer (some ⟨g.B, 0, none⟩), .int .i64 i, .int .i64 (g.s.st i), .int .i64 (g.s.af i)] 127)
  bd : w.heap[g.B]? = some (.cells #[.slice la x.list.length cap] 49)
  row : w.ownsRow 0 3 1 (.slice la x.list.length cap) x.list.length (x.list.map fun i => .int .i64 (i : Nat))
  rW : ∀ i, i < g.n → g.s.nl i = false → κ (g.W i) = some (.wk i)
  rB : κ g.B = some .bd
  rL : ∀ b, (Value.slice la x.list.length cap).ownBlock = some b → κ b = some .bl
  rT : κ S.tb = some .ro
  tb : ∀ i, i < g.n → w.cell? ⟨S.tb, i, none⟩ = some (S.F i)
  sch : ∀ (j : Nat) (z : Int), S.sl[j]? = some z → ∃ s so, S.sa = some ⟨s, so, none⟩ ∧ κ s = some .ro ∧ w.cell? ⟨s, so + j, none⟩ = some (.int .i64 z)
  F : ∀ i, i < g.n → S.F i = if g.s.nl i then .nilFunc else .func (.func 57) #[.pointer (some ⟨g.W i, 0, none⟩)] #[]
  st0 : ∀ i, 0 ≤ g.s.st i ∧ g.s.st i < 32
  len : x.list.length = x.cnt
  stands : ∀ i, h ≠ some i → i < k → i < g.n → x.out i = none → g.s.nl i = false ∧ (x.dn i : Int) < numW (g.s.st i) (g.s.af i) ∧
    cs i = [(base 57).at (at57 (g.W i) (.iface 161 (.pointer (some ⟨S.p i, 0, none⟩))) (x.dn i) (us i)) (.inRegion reg57_6 [1] :: k57)]
  fresh : ∀ i, k ≤ i → h ≠ some i → x.dn i = 0
  kn : k ≤ g.n
  rr : ∀ b ob, g.ro b = some ob → κ b = some .ro ∧ w.heap[b]? = some ob
section
variable {V : Nat → Option Wait} {g : WG} {S : Stile} {h : Option Nat} {k : Nat} {o : Nat → Option Role} {x : WX} {cs : Nat → List Frame} {w : World} {κ : Nat → Option WR} {la : Option Addr} {cap : Nat} {us : Nat → Nat → Value}
theorem WInv.two (_ : WInv g S h k o x cs w κ la cap us) {b b' : Nat} {r r' : WR} (h : κ b = some r) (h' : κ b' = some r') (hr : r ≠ r') : b ≠ b' := by
  rintro rfl
  rw [h] at h'
  exact hr (Option.some.inj h')
theorem WInv.at (P : WInv g S h k o x cs w κ la cap us) (d : Nat) : WInv g S h k o x cs (w.at d) κ la cap us :=
  ⟨P.lt, P.n, P.wk, P.bd, P.row, P.rW, P.rB, P.rL, P.rT, P.tb, P.sch, P.F, P.st0, P.len, P.stands, P.fresh, P.kn, P.rr⟩
end
end
section
open Go.ConcN (sumTo sumTo_le upd sumTo_upd upd_ne upd_same)
structure PW (s : Wlk) (n : Nat) (st : WX × List Nat) : Prop where
  list : st.1.list = st.2
  run : ∀ i, i < n → st.1.out i = none → s.nl i = false ∧ (st.1.dn i : Int) < numW (s.st i) (s.af i)
  le : ∀ i, i < n → st.1.dn i ≤ 31
  len : st.2.length = sumTo n st.1.dn
  lt : ∀ i, i ∈ st.2 → i < n
section
variable {s : Wlk} {n : Nat}
theorem PW.short {st : WX × List Nat} (P : PW s n st) (hn : n ≤ 64) : st.2.length ≤ 1984 := by
  have := sumTo_le (f := st.1.dn) (c := 31) (j := n) P.le
  have := P.len
  omega
end
end
section
variable {main : Bool} {V : Nat → Option Wait}
def wkr (B i : Nat) (st af : Int) : Array Value := #[.pointer (some ⟨B, 0, none⟩), .int .i64 i, .int .i64 (st % 32), .int .i64 af]
def thrV (W : Nat) : Value := .func (.func 57) #[.pointer (some ⟨W, 0, none⟩)] #[]
end
def WalksAt (a : Option Addr) (n : Nat) (st af : Nat → Int) (nl : Nat → Bool) (w : World) : Prop := ∀ i, i < n → ∃ b o, a = some ⟨b, o, none⟩ ∧ w.cell? ⟨b, o + i * 3, none⟩ = some (.int .i64 (st i)) ∧ w.cell? ⟨b, o + i * 3 + 1, none⟩ = some (.int .i64 (af i)) ∧ w.cell? ⟨b, o + i * 3 + 2, none⟩ = some (.bool (nl i))
theorem WalksAt.old {a : Option Addr} {n : Nat} {st af : Nat → Int} {nl : Nat → Bool} {w w' : World} (h : WalksAt a n st af nl w) (O : Old w w') : WalksAt a n st af nl w' := fun i hi => by
  obtain ⟨b, o, e, h1, h2, h3⟩ := h i hi
  exact ⟨b, o, e, old_cell O h1, old_cell O h2, old_cell O h3⟩
def thrOf (nl : Nat → Bool) (W : Nat → Nat) (i : Nat) : Value := if nl i then .nilFunc else thrV (W i)
structure Mde (B : Nat) (st af : Nat → Int) (nl : Nat → Bool) (w0 w : World) (oa : Option Addr) (oc i : Nat) (W : Nat → Nat) : Prop where
  old : Old w0 w
  row : w.ownsRow w0.heap.size 67 1 (.slice oa i oc) i ((List.range i).map (thrOf nl W))
  wk : ∀ j, j < i → nl j = false → w.heap[W j]? = some (.cells (wkr B j (st j) (af j)) 127) ∧ w0.heap.size ≤ W j
  inj : ∀ j k, j < i → k < i → nl j = false → nl k = false → W j = W k → j = k
  z : i = 0 → oa = none ∧ oc = 0
theorem Mde.ne {B : Nat} {st af : Nat → Int} {nl : Nat → Bool} {w0 w : World} {oa : Option Addr} {oc i : Nat} {W : Nat → Nat} (M : Mde B st af nl w0 w oa oc i W) {j b : Nat} (hj : j < i) (hn : nl j = false) (hb : (Value.slice oa i oc).ownBlock = some b) : W j ≠ b := by
  rintro rfl
  obtain ⟨_, _, cur, h⟩ := row_at M.row hb
  rw [(M.wk j hj hn).1] at h
  injection h with h
  injection h with _ h _
  cases h
section
def numbs (l : List Nat) : List Value := l.map fun i => .int .i64 (i : Nat)
section
variable {B : Nat} {st af : Nat → Int} {nl : Nat → Bool}
theorem Mde.grow {w0 w w' : World} {oa : Option Addr} {oc i : Nat} {W : Nat → Nat} (M : Mde B st af nl w0 w oa oc i W) (O : Old w w') : Mde B st af nl w0 w' oa oc i W :=
  ⟨M.old.trans O, row_same M.row fun g hg => O.same g (row_at M.row hg).2.1, fun j hj hn => ⟨(O.same _ (Array.getElem?_eq_some_iff.1 (M.wk j hj hn).1).1).trans (M.wk j hj hn).1, (M.wk j hj hn).2⟩, M.inj, M.z⟩
end
theorem numb_get {l : List Nat} {i x : Nat} (h : l[i]? = some x) : (numbs l)[i]? = some (.int .i64 (x : Nat)) := by
  unfold numbs
  rw [List.getElem?_map, h]; rfl
theorem nums_row {w : World} {base : Nat} {a : Option Addr} {n cap X : Nat} {l : List Nat} (h : w.ownsRow base 3 1 (.slice a n cap) n (numbs l)) (f : Nat → Int) (hX : ∀ i, i < X → ∃ x : Nat, l[i]? = some x ∧ f i = x) : NumsAt a X f w := fun i hi => by
  obtain ⟨x, hx, hf⟩ := hX i hi
  obtain ⟨g, cap', e, _, _, _, hc⟩ := row_cell h (numb_get hx)
  injection e with e _ _
  rw [hf]
  exact ⟨g, 0, e, by rw [Nat.zero_add]; exact hc⟩
end
section
section
variable {P : Program}
theorem eqIn_bool (d : Nat) (t : TypeId) (x y : Bool) (w : World) (es : Array Event) (hu : P.underlying t = some .bool) : (Op.equalIn (d + 1) t (.bool x) (.bool y)).run P w = .ok (x == y) w ∧ (Op.equalIn (d + 1) t (.bool x) (.bool y)).events P w es = es := by
  constructor <;> simp [Op.equalIn, run_underlying hu]
theorem run_neq_bool (t : TypeId) (hu : P.underlying t = some .bool) (x y : Bool) (w : World) : (binOp .neq t (.bool x) (.bool y)).run P w = .ok (.bool (x != y)) w := by
  simp only [binOp]
  simp [Op.equal, Op.maxDepth, (eqIn_bool 9999 t x y w #[] hu).1, bne]
theorem ev_neq_bool (t : TypeId) (hu : P.underlying t = some .bool) (x y : Bool) (w : World) (es : Array Event) : (binOp .neq t (.bool x) (.bool y)).events P w es = es := by
  simp only [binOp]
  simp [Op.equal, Op.maxDepth, (eqIn_bool 9999 t x y w #[] hu).1, (eqIn_bool 9999 t x y w es hu).2]
end
theorem und4 : Try.prog.underlying 4 = some .bool := by kernel_rfl
end
end Go.Proofs.Ytgiiicdpbdfemaa
namespace Go.Relay
section
open Go.Conc Go.RowKit
section
variable {P : Program} {main : Bool} {V : Nat → Option Wait} {Stop : Goroutine → World → Prop} {w : World} {b : Frame} {a : Act} {k : List Item} {cs : List Frame} {ops : Array Oper} {i : Nat} {rest : List Nat} {o : Oper}
theorem Walk.appendAny (s x : Operand) (t : TypeId) (ho : ops[i]? = some o) (hw : Region.wanted o (yielded ops a.tmps) = true) (hk : b.kind ≠ .early) (hop : o.op = .call { callee := .builtin .append, args := #[s, x], argTypes := #[t, t] })
    (base : Nat) (e : TypeId) (ti : TypeInfo) (z : Value) (size bytes : Nat) (ht : P.underlying t = some (.slice e)) (hi : P.info? e = some ti) (hz : ti.zero = some z) (hsize : ti.size = size) (hby : ti.bytes = bytes) (hzs : z.cells.size = size) (hsz : 0 < size)
    (v : Value) (n : Nat) (xs : List Value) (hs : a.eval s = v) (hown : w.ownsRow base e size v n xs)
    (ad : Addr) (m c : Nat) (news : List Value) (hx : a.eval x = .slice (some ad) m c) (hl : news.length = m * size) (hnews : ∀ j u, news[j]? = some u → w.cell? (ad.add j) = some u) (h1 : ∀ u ∈ news, u.oneCell' = true)
    (h63 : n + m ≤ maxLen) (hbytes : (n + m) * bytes ≤ 140737488355328) (hbase : base ≤ w.heap.size) (hap : ∀ g, v.ownBlock = some g → Apart V g)
    (h : ∀ v' w', w'.ownsRow base e size v' (n + m) (xs ++ news) → w.grownBy w' v.ownBlock → (v'.ownBlock = v.ownBlock ∨ v'.ownBlock = some w.heap.size) → Walk P main (DR V) Stop (G (b.at (a.put o.dst v') (.inRegion ops rest :: k)) cs) w') :
    Walk P main (DR V) Stop (G (b.at a (.inRegion ops (i :: rest) :: k)) cs) w := by
  refine Walk.go rfl fun d => goes_oper_k ho hw hk fun K hK => ?_
  obtain ⟨v', w', hr, hown', hg, _, hat⟩ := run_append_own_at (P := P) (w.at d) base t o.type e ti z size bytes ht hi hz hsize hby hzs hsz v n xs hown ad m c news hl hnews h1 h63 hbytes hbase
  refine uponK_append s x t hop hs hx hr (hK _ _ ⟨DR.grown hg hap fun ev hev => ?_, h v' w' hown' ⟨hg.os, hg.tape, hg.output, hg.size, hg.block⟩ hat⟩)
  have hm' := mem_listed hev
  rw [events_append_op s x t hop hs hx] at hm'
  rcases events_append_own (w.at d) base t o.type e ti z size bytes ht hi hz hsize hby v n xs hown ad m c news hl hnews h1 h63 hbytes ev hm' with h' | ⟨ad', h', hb⟩ | ⟨mk, h', hn⟩
  · exact evR_isRead h'
  · exact evR_cell h' ((hap _ hb.symm).1 ad' rfl)
  · rw [h', show mk = .noRoom from hn]; exact evR_noRoom
theorem events_append_owned_none (w : World) (base : Nat) (t ty e : TypeId) (ti : TypeInfo) (size : Nat) (ht : P.underlying t = some (.slice e)) (hi : P.info? e = some ti) (v : Value) (n : Nat) (xs : List Value) (hown : w.ownsRow base e size v n xs) (es : Array Event) :
    (Builtin.append_ #[t, t] ty #[v, .slice none 0 0]).events P w es = es := by
  rcases hown.2 with ⟨rfl, rfl⟩ | ⟨g, cap, cur, rfl, _, _, hnc, _⟩
  · simp [Builtin.append_, run_underlying ht, sizeOf, typeInfo, hi, Builtin.lenOf, Builtin.firstCells]
  · simp [Builtin.append_, run_underlying ht, sizeOf, typeInfo, hi, Builtin.lenOf, Builtin.firstCells, hnc, storeCells]
theorem Walk.appendNone (s x : Operand) (t : TypeId) (ho : ops[i]? = some o) (hw : Region.wanted o (yielded ops a.tmps) = true) (hk : b.kind ≠ .early) (hop : o.op = .call { callee := .builtin .append, args := #[s, x], argTypes := #[t, t] })
    (base : Nat) (e : TypeId) (ti : TypeInfo) (size : Nat) (ht : P.underlying t = some (.slice e)) (hi : P.info? e = some ti)
    (v : Value) (n : Nat) (xs : List Value) (hs : a.eval s = v) (hown : w.ownsRow base e size v n xs) (hx : a.eval x = .slice none 0 0)
    (h : Walk P main (DR V) Stop (G (b.at (a.put o.dst v) (.inRegion ops rest :: k)) cs) w) :
    Walk P main (DR V) Stop (G (b.at a (.inRegion ops (i :: rest) :: k)) cs) w := by
  refine Walk.go rfl fun d => goes_oper_k ho hw hk fun K hK => ?_
  have hr := run_append_owned_none (P := P) (w := w.at d) base t o.type e ti size ht hi v n xs hown
  refine uponK_append s x t hop hs hx hr (hK _ _ ⟨⟨fun i v e hK => hK, fun i v o e ho _ => ho, fun ev hev => ?_, OsSame.refl _⟩, h.back d⟩)
  have hm' := mem_listed hev
  rw [events_append_op s x t hop hs hx, events_append_owned_none (w.at d) base t o.type e ti size ht hi v n xs hown] at hm'
  simp at hm'
theorem Walk.appendSl (s x : Operand) (t : TypeId) (ho : ops[i]? = some o) (hw : Region.wanted o (yielded ops a.tmps) = true) (hk : b.kind ≠ .early) (hop : o.op = .call { callee := .builtin .append, args := #[s, x], argTypes := #[t, t] })
    (base : Nat) (e : TypeId) (ti : TypeInfo) (z : Value) (size bytes : Nat) (ht : P.underlying t = some (.slice e)) (hi : P.info? e = some ti) (hz : ti.zero = some z) (hsize : ti.size = size) (hby : ti.bytes = bytes) (hzs : z.cells.size = size) (hsz : 0 < size)
    (v : Value) (n : Nat) (xs : List Value) (hs : a.eval s = v) (hown : w.ownsRow base e size v n xs)
    (xa : Option Addr) (m c : Nat) (news : List Value) (hx : a.eval x = .slice xa m c) (hnil : xa = none → m = 0 ∧ c = 0) (hl : news.length = m * size) (hnews : ∀ ad, xa = some ad → ∀ j u, news[j]? = some u → w.cell? (ad.add j) = some u) (h1 : ∀ u ∈ news, u.oneCell' = true)
    (h63 : n + m ≤ maxLen) (hbytes : (n + m) * bytes ≤ 140737488355328) (hbase : base ≤ w.heap.size) (hap : ∀ g, v.ownBlock = some g → Apart V g)
    (h : ∀ v' w', w'.ownsRow base e size v' (n + m) (xs ++ news) → w.grownBy w' v.ownBlock → (v'.ownBlock = v.ownBlock ∨ v'.ownBlock = some w.heap.size) → Walk P main (DR V) Stop (G (b.at (a.put o.dst v') (.inRegion ops rest :: k)) cs) w') :
    Walk P main (DR V) Stop (G (b.at a (.inRegion ops (i :: rest) :: k)) cs) w := by
  cases xa with
  | none =>
    obtain ⟨rfl, rfl⟩ := hnil rfl
    have hn : news = [] := List.eq_nil_of_length_eq_zero (by simpa using hl)
    subst hn
    refine Walk.appendNone s x t ho hw hk hop base e ti size ht hi v n xs hs hown hx (h v w ?_ ⟨rfl, rfl, rfl, Nat.le_refl _, fun _ _ _ => rfl⟩ (.inl rfl))
    rw [Nat.add_zero, List.append_nil]; exact hown
  | some ad => exact Walk.appendAny s x t ho hw hk hop base e ti z size bytes ht hi hz hsize hby hzs hsz v n xs hs hown ad m c news hx hl (hnews ad rfl) h1 h63 hbytes hbase hap h
theorem row_shape {w : World} {base : Nat} {e : TypeId} {size : Nat} {v : Value} {n : Nat} {xs : List Value} (h : w.ownsRow base e size v n xs) : ∃ a cap, v = .slice a n cap := by
  rcases h.2 with ⟨rfl, rfl⟩ | ⟨g, cap, cur, rfl, _⟩
  · exact ⟨none, 0, rfl⟩
  · exact ⟨_, _, rfl⟩
end
end
end Go.Relay
namespace Go.Proofs.Ytgiiicdpbdfemaa
open Go.Conc Go.RowKit Go.Relay
open Go.ConcN (upd upd_ne upd_same)
theorem Mde.at' {B : Nat} {st af : Nat → Int} {nl : Nat → Bool} {w0 w : World} {oa : Option Addr} {oc i : Nat} {W : Nat → Nat} (M : Mde B st af nl w0 w oa oc i W) (d : Nat) : Mde B st af nl w0 (w.at d) oa oc i W := ⟨⟨M.old.size, M.old.same⟩, M.row, M.wk, M.inj, M.z⟩
def ints (l : List Int) : List Value := l.map fun z => .int .i64 z
section
variable {main : Bool} {V : Nat → Option Wait}
noncomputable def reg76_0 : Array Oper := match Try.f76.body with | some (.seq (.region _ ops _) _) => ops | _ => #[]
theorem size76_0 : reg76_0.size = 1 := by kernel_rfl
noncomputable def reg76_1 : Array Oper := match Try.f76.body with | some (.seq _ (.seq (.region _ ops _) _)) => ops | _ => #[]
theorem size76_1 : reg76_1.size = 5 := by kernel_rfl
theorem code76_is : Try.f76.body = some (.seq (.region 0 reg76_0 false) (.seq (.region 1 reg76_1 false) (.ret))) := by kernel_rfl
noncomputable def reg21_0 : Array Oper := match Try.f21.body with | some (.seq (.region _ ops _) _) => ops | _ => #[]
theorem size21_0 : reg21_0.size = 1 := by kernel_rfl
noncomputable def reg21_1 : Array Oper := match Try.f21.body with | some (.seq _ (.seq (.region _ ops _) _)) => ops | _ => #[]
theorem size21_1 : reg21_1.size = 3 := by kernel_rfl
theorem code21_is : Try.f21.body = some (.seq (.region 0 reg21_0 false) (.seq (.region 1 reg21_1 false) (.ret))) := by kernel_rfl
noncomputable def reg47_0 : Array Oper := match Try.f47.body with | some (.seq (.region _ ops _) _) => ops | _ => #[]
theorem size47_0 : reg47_0.size = 1 := by kernel_rfl
noncomputable def reg47_1 : Array Oper := match Try.f47.body with | some (.seq _ (.seq (.region _ ops _) _)) => ops | _ => #[]
theorem size47_1 : reg47_1.size = 1 := by kernel_rfl
noncomputable def reg47_2 : Array Oper := match Try.f47.body with | some (.seq _ (.seq _ (.seq (.region _ ops _) _))) => ops | _ => #[]
theorem size47_2 : reg47_2.size = 4 := by kernel_rfl
noncomputable def reg47_3 : Array Oper := match Try.f47.body with | some (.seq _ (.seq _ (.seq _ (.seq (.region _ ops _) _)))) => ops | _ => #[]
theorem size47_3 : reg47_3.size = 7 := by kernel_rfl
theorem code47_is : Try.f47.body = some (.seq (.region 0 reg47_0 false) (.seq (.region 1 reg47_1 false) (.seq (.region 2 reg47_2 false) (.seq (.region 3 reg47_3 false) (.ret))))) := by kernel_rfl
theorem rem4 (n : Int) : (IntKind.i64.wrap (n.tmod 4 + 4)).tmod 4 = n % 4 := by
  have h1 := Int.tmod_lt_of_pos n (show (0 : Int) < 4 by decide)
  have h2 := Int.lt_tmod_of_pos n (show (0 : Int) < 4 by decide)
  have h3 := Int.mul_tdiv_add_tmod n 4
  generalize n.tmod 4 = r at *
  generalize n.tdiv 4 = q at *
  have e2 : IntKind.i64.wrap (r + 4) = r + 4 := by rw [IntKind.wrap_i64]; omega
  rw [e2, Int.tmod_eq_emod_of_nonneg (by omega)]
  omega
theorem reg76_w (n : Int) (w : World) : CallV Try.prog main V 76 #[.int .i64 n] w (.int .i64 (n % 4)) w := by
  refine callW_in Try.func76 code76_is fun fr cs => ?_
  simp only [Try.ntmps76, List.size_toArray, List.length_cons, List.length_nil, Nat.reduceAdd, Nat.reduceSub, Array.replicate_succ, Array.replicate_zero, List.push_toArray, List.append_toArray, List.nil_append, List.cons_append]
  repeat (first | refine Walk.c rfl ?_ | refine Walk.cRet ?_ | refine Walk.cEnd ?_ | (refine Walk.cReg ?_; simp only [size76_0, size76_1, List.range, List.range.loop]) | (refine Walk.oq ?_; try walk_nrm) | (refine Walk.un ?_; walk_nrm))
  exact Walk.ret1 rfl rfl Try.func76 rfl fun d => ⟨by simp [rem4], d, rfl⟩
theorem threads21_w (n : Int) (w : World) : CallV Try.prog main V 21 #[.int .i64 n] w (.int .i64 (min n 64)) w := by
  have hmn := @events_min_ints Try.prog
  refine callW_in Try.func21 code21_is fun fr cs => ?_
  simp only [Try.ntmps21, List.size_toArray, List.length_cons, List.length_nil, Nat.reduceAdd, Nat.reduceSub, Array.replicate_succ, Array.replicate_zero, List.push_toArray, List.append_toArray, List.nil_append, List.cons_append]
  repeat (first | refine Walk.c rfl ?_ | refine Walk.cRet ?_ | refine Walk.cEnd ?_ | (refine Walk.cReg ?_; simp only [size21_0, size21_1, List.range, List.range.loop]) | (refine Walk.oq ?_; try walk_nrm) | (refine Walk.un ?_; walk_nrm))
  exact Walk.ret1 rfl rfl Try.func21 rfl fun d => ⟨by simp, d, rfl⟩
structure Kept (B : Nat) (sl : List Int) (most : Int) (w w' : World) : Prop where
  all : ∃ la lc, w'.heap[B]? = some (.cells #[.slice la sl.length lc, .int .i64 (min (max most 0) 1048576), .int .i64 0, .int .i64 0, .slice none 0 0] 112) ∧ w'.ownsRow w.heap.size 3 1 (.slice la sl.length lc) sl.length (ints sl) ∧ (Value.slice la sl.length lc).ownBlock ≠ some B
  lt : w.heap.size ≤ B
  old : Old w w'
theorem newTurns47_w (sa : Option Addr) (sc : Nat) (sl : List Int) (most : Int) (w : World) (hsl : sl.length ≤ 17592186044416) (hnil : sa = none → sl = [] ∧ sc = 0) (hs : ∀ (j : Nat) (z : Int), sl[j]? = some z → ∃ s so, sa = some ⟨s, so, none⟩ ∧ w.cell? ⟨s, so + j, none⟩ = some (.int .i64 z)) :
    CallW Try.prog main (fun _ => none) 47 #[.slice sa sl.length sc, .int .i64 most] w (fun v w' => ∃ B, v = .pointer (some ⟨B, 0, none⟩) ∧ Kept B sl most w w') := by
  have hmx := @events_max_ints Try.prog
  have hmn := @events_min_ints Try.prog
  refine callW_in Try.func47 code47_is fun fr cs => ?_
  simp only [Try.ntmps47, List.size_toArray, List.length_cons, List.length_nil, Nat.reduceAdd, Nat.reduceSub, Array.replicate_succ, Array.replicate_zero, List.push_toArray, List.append_toArray, List.nil_append, List.cons_append]
  repeat (first | refine Walk.c rfl ?_ | refine Walk.cRet ?_ | refine Walk.cEnd ?_ | (refine Walk.cReg ?_; simp only [size47_0, size47_1, size47_2, size47_3, List.range, List.range.loop]) | (refine Walk.oq ?_; try walk_nrm) | (refine Walk.un ?_; walk_nrm))
  have hi3 := Option.some_get (show (Try.prog.info? 3).isSome = true by kernel_rfl)
  refine Walk.appendSl (.tmp 6) (.tmp 7) 24 (ho_of (by conv => lhs; whnf) (by kernel_rfl)) (by rfl) (by decide) rfl w.heap.size 3 _ (.int .i64 0) 1 8 (by kernel_rfl) hi3.symm (by rfl) (by rfl) (by rfl) (by rfl) (by decide) (.slice none 0 0) 0 [] rfl (row_nil w _ _ _) sa sl.length sc (ints sl) rfl (fun e => ⟨by rw [(hnil e).1]; rfl, (hnil e).2⟩) (by simp [ints]) (fun ad e j u hu => ?_) (by simp [ints, Value.oneCell']) (by simp [maxLen]; omega) (by omega) (Nat.le_refl _) (fun g hg => by simp [Value.ownBlock] at hg) fun v w1 hown hg hat => ?_
  · unfold ints at hu
    rw [List.getElem?_map] at hu
    obtain ⟨z, hz, rfl⟩ := Option.map_eq_some_iff.1 hu
    obtain ⟨s, so, e', hc⟩ := hs j z hz
    rw [e] at e'
    cases e'
    rw [add_none]
    exact hc
  clear hi3
  rw [Nat.zero_add, List.nil_append] at hown
  obtain ⟨la, lc, rfl⟩ := row_shape hown
  have hO : Old w w1 := ⟨hg.size, fun b hb => hg.block b hb (by simp [Value.ownBlock])⟩
  clear hg hat
  walk_nrm
  repeat (first | refine Walk.c rfl ?_ | refine Walk.cRet ?_ | refine Walk.cEnd ?_ | (refine Walk.cReg ?_; simp only [size47_0, size47_1, size47_2, size47_3, List.range, List.range.loop]) | (refine Walk.oq ?_; try walk_nrm) | (refine Walk.un ?_; walk_nrm))
  (refine Walk.oa ?_; try walk_nrm)
  have hB := heap_alloc_new w1 (.cells #[.slice la sl.length lc, .int .i64 (min (max most 0) 1048576), .int .i64 0, .int .i64 0, .slice none 0 0] 112)
  have hO2 := hO.trans (old_alloc w1 (.cells #[.slice la sl.length lc, .int .i64 (min (max most 0) 1048576), .int .i64 0, .int .i64 0, .slice none 0 0] 112))
  have hK : Kept w1.heap.size sl most w (w1.alloc (.cells #[.slice la sl.length lc, .int .i64 (min (max most 0) 1048576), .int .i64 0, .int .i64 0, .slice none 0 0] 112)) := by
    refine ⟨⟨la, lc, hB, row_same hown fun g hg => heap_new_lt w1 _ (hown.lt g hg).2, fun e => ?_⟩, hO.size, hO2⟩
    exact absurd (hown.lt _ e).2 (Nat.lt_irrefl _)
  clear hB hO2 hO hown
  generalize w1.alloc _ = w2 at *
  repeat (first | refine Walk.c rfl ?_ | refine Walk.cRet ?_ | refine Walk.cEnd ?_ | (refine Walk.cReg ?_; simp only [size47_0, size47_1, size47_2, size47_3, List.range, List.range.loop]) | (refine Walk.oq ?_; try walk_nrm) | (refine Walk.un ?_; walk_nrm))
  exact Walk.ret1 rfl rfl Try.func47 rfl fun d => ⟨w1.heap.size, by simp, hK.all, hK.lt, ⟨hK.old.size, hK.old.same⟩⟩
end
section
variable {main : Bool}
def CodesIn (a : Option Addr) (codes : List Cd) (w : World) : Prop := ∀ j c, codes[j]? = some c → ∃ cb co, a = some ⟨cb, co, none⟩ ∧ ∀ m v, (cdCells c)[m]? = some v → w.cell? ⟨cb, co + j * 5 + m, none⟩ = some v
theorem CodesIn.old {a : Option Addr} {codes : List Cd} {w w' : World} (h : CodesIn a codes w) (hO : Old w w') : CodesIn a codes w' := fun j c e => by
  obtain ⟨cb, co, e1, h1⟩ := h j c e
  exact ⟨cb, co, e1, fun m v hv => old_cell hO (h1 m v hv)⟩
def rtArr (cv : Value) (pc : Int) (R : Nat → Int) (tv : Value) (e : Bool) : Array Value := #[cv, .int .i64 pc, .int .i64 (R 0), .int .i64 (R 1), .int .i64 (R 2), .int .i64 (R 3), tv, .bool e]
theorem rt_get (cv : Value) (pc : Int) (R : Nat → Int) (tv : Value) (e : Bool) {k : Nat} (hk : k < 4) : (rtArr cv pc R tv e)[2 + k]? = some (.int .i64 (R k)) := by
  match k, hk with
  | 0, _ => rfl
  | 1, _ => rfl
  | 2, _ => rfl
  | 3, _ => rfl
theorem rt_set (cv : Value) (pc : Int) (R : Nat → Int) (tv : Value) (e : Bool) {k : Nat} (hk : k < 4) (v : Int) : (rtArr cv pc R tv e).setIfInBounds (2 + k) (.int .i64 v) = rtArr cv pc (upd R k v) tv e := by
  match k, hk with
  | 0, _ => simp [rtArr, upd]
  | 1, _ => simp [rtArr, upd]
  | 2, _ => simp [rtArr, upd]
  | 3, _ => simp [rtArr, upd]
noncomputable def reg74_0 : Array Oper := match Try.f74.body with | some (.seq (.region _ ops _) _) => ops | _ => #[]
theorem size74_0 : reg74_0.size = 1 := by kernel_rfl
noncomputable def reg74_1 : Array Oper := match Try.f74.body with | some (.seq _ (.seq (.region _ ops _) _)) => ops | _ => #[]
theorem size74_1 : reg74_1.size = 12 := by kernel_rfl
noncomputable def reg74_2 : Array Oper := match Try.f74.body with | some (.seq _ (.seq _ (.seq (.region _ ops _) _))) => ops | _ => #[]
theorem size74_2 : reg74_2.size = 20 := by kernel_rfl
theorem code74_is : Try.f74.body = some (.seq (.region 0 reg74_0 false) (.seq (.region 1 reg74_1 true) (.seq (.region 2 reg74_2 false) (.ret)))) := by kernel_rfl
noncomputable def at74 (tv xv : Value) (nw : Nat) (u : Nat → Value) : Frame :=
  (base 74).at { tmps := #[tv, .int .i64 nw, u 2, u 3, .bool false, xv, u 6, u 7, u 8, u 9, u 10, u 11, u 12, u 13, u 14, u 15, u 16, u 17, u 18, u 19, u 20, u 21, u 22, u 23, u 24, u 25, u 26, u 27, u 28, u 29, u 30, u 31, u 32, u 33, u 34], defers := [] } [.code (.seq (.region 2 reg74_2 false) (.ret))]
def cdArr (c : Cd) : Array Value := #[.int .i64 c.d, .int .i64 c.r, .int .i64 c.a, .int .i64 c.b, .int .i64 c.v]
def zeros5 : Obj := .cells #[.int .i64 0, .int .i64 0, .int .i64 0, .int .i64 0, .int .i64 0] 96
theorem stands74_in (p cb co L cc k nw : Nat) (c : Cd) (cs : List Frame) (w : World) (h0 : w.cell? ⟨p, 0, none⟩ = some (.slice (some ⟨cb, co, none⟩) L cc)) (h1 : w.cell? ⟨p, 1, none⟩ = some (.int .i64 (k : Nat))) (hk : k < L)
    (hc : ∀ m v, (cdCells c)[m]? = some v → w.cell? ⟨cb, co + k * 5 + m, none⟩ = some v) :
    Walk Try.prog main (DR (fun _ => none)) (fun g w' => (∃ u, g = G (at74 (.pointer (some ⟨p, 0, none⟩)) (.pointer (some ⟨w.heap.size, 0, none⟩)) nw u) cs) ∧ ∃ d, w' = (w.alloc (.cells (cdArr c) 96)).at d) (G (Frame.enter Try.prog 74 #[.pointer (some ⟨p, 0, none⟩), .int .i64 nw] .normal) cs) w := by
  have h0' := cell_alloc w zeros5 h0
  have h1' := cell_alloc w zeros5 h1
  have hc' : ∀ w', w' = w ∨ w' = w.alloc zeros5 → ∀ m v, (cdCells c)[m]? = some v → w'.cell? ⟨cb, co + k * 5 + m, none⟩ = some v := fun w' e m v hv => by
    rcases e with rfl | rfl
    · exact hc m v hv
    · exact cell_alloc w _ (hc m v hv)
  obtain ⟨t96, hu96⟩ : ∃ t96, Try.prog.underlying 96 = some (.struct t96) := by
    have h : (match Try.prog.underlying 96 with | some (.struct _) => true | _ => false) = true := by kernel_rfl
    cases e : Try.prog.underlying 96 with
    | none => rw [e] at h; cases h
    | some x => rw [e] at h; cases x <;> first | exact ⟨_, rfl⟩ | cases h
  rw [enter_at _ Try.func74 code74_is]
  simp only [Try.ntmps74, List.size_toArray, List.length_cons, List.length_nil, Nat.reduceAdd, Nat.reduceSub, Array.replicate_succ, Array.replicate_zero, List.push_toArray, List.append_toArray, List.nil_append, List.cons_append]
  repeat (first | refine Walk.c rfl ?_ | refine Walk.cRet ?_ | refine Walk.cEnd ?_ | (refine Walk.cReg ?_; simp only [size74_0, size74_1, size74_2, List.range, List.range.loop]) | (refine Walk.oq ?_; try walk_nrm) | (refine Walk.un ?_; walk_nrm))
  refine Walk.drawnB (w1 := w.alloc (zeros5)) (vm := .pointer (some ⟨w.heap.size, 0, none⟩)) (by kernel_rfl) size74_1 (by kernel_rfl) (by kernel_rfl) (by kernel_rfl) (by decide) (ho_of (by conv => lhs; whnf) (by kernel_rfl)) ?_ ?_
  · intro x rest hr
    (refine Walk.oa ?_; try walk_nrm)
    exact hr _ _ ⟨rfl, _, rfl⟩
  simp only [List.range, List.range.loop]
  repeat (first | (refine Cm.opqB (ho_of (by conv => lhs; whnf) (by kernel_rfl)) (by rfl) (fun dd e he => ?_) (fun dd e he => ?_) ?_; (· (simp [go_sem, *] at he; try (subst he; exact evR_read _ _))); (· (simp [go_sem, *] at he; try (subst he; exact evR_read _ _))); apply Exists.intro; apply And.intro; (· (intro dd K hK; go_simp; exact hK)); apply And.intro; (· (intro dd K hK; go_simp; exact hK))) | (refine Cm.unw (ho_of (by conv => lhs; whnf) (by kernel_rfl)) (by rfl) ?_; walk_nrm))
  refine Cm.loadS 96 (.tmp 14) (ho_of (by conv => lhs; whnf) (by kernel_rfl)) (by rfl) rfl cb (co + k * 5) (cdCells c) _ rfl hc' hu96 rfl (by kernel_rfl) ?_
  clear hc' hc h0 h1 h0' h1'
  walk_nrm
  refine Cm.done ?_
  intro rest hr
  refine Walk.storeS 96 (.tmp 5) (.tmp 15) (ho_of (by conv => lhs; whnf) (by kernel_rfl)) (by rfl) (by decide) rfl w.heap.size (cdArr c) #[.int .i64 0, .int .i64 0, .int .i64 0, .int .i64 0, .int .i64 0] 96 rfl rfl (heap_alloc_new _ _) (by kernel_rfl) rfl (by simp [cdArr, Value.oneCell']) (apart0 _) ?_
  refine hr _ _ ?_
  unfold zeros5
  rw [setRow_alloc]
  walk_nrm
  generalize w.alloc (.cells (cdArr c) 96) = w1 at *
  refine Walk.ctl rfl (fun w => stepG_region_end) ?_
  refine .stop fun d => ⟨at_slots ?_, d, rfl⟩
  simp only [at74]
  rfl
theorem stands74_out (p X nw : Nat) (c : Cd) (u : Nat → Value) (fr : Frame) (cs : List Frame) (w : World) (hX : w.heap[X]? = some (.cells (cdArr c) 96)) :
    Walk Try.prog main (DR (fun _ => none)) (fun g w' => g = G (fr.finish (.bool (isStepX nw c))) cs ∧ ∃ d, w' = w.at d) (G (at74 (.pointer (some ⟨p, 0, none⟩)) (.pointer (some ⟨X, 0, none⟩)) nw u) (fr :: cs)) w := by
  have x0 : w.cell? ⟨X, 0, none⟩ = some (.int .i64 c.d) := (cell_of hX 0).trans rfl
  have x2 : w.cell? ⟨X, 2, none⟩ = some (.int .i64 c.a) := (cell_of hX 2).trans rfl
  clear hX
  unfold at74
  by_cases k1 : 7 ≤ c.d
  · by_cases k2 : c.d ≤ 11
    · by_cases k3 : 0 ≤ c.a
      · by_cases k4 : c.a < nw
        · have e : isStepX nw c = true := by simp [isStepX, k1, k2, k3, k4]
          rw [e]
          repeat (first | refine Walk.c rfl ?_ | refine Walk.cRet ?_ | refine Walk.cEnd ?_ | (refine Walk.cReg ?_; simp only [size74_0, size74_1, size74_2, List.range, List.range.loop]) | (refine Walk.oq ?_; try walk_nrm) | (refine Walk.un ?_; walk_nrm))
          exact (Walk.ret1 (Post := fun v w' => v = .bool true ∧ ∃ d, w' = w.at d) rfl rfl Try.func74 rfl fun d => ⟨by simp [k1, k2, k3, k4], d, rfl⟩).mono fun g w' ⟨v, ⟨hv, hd⟩, hg⟩ => ⟨by rw [hg, hv], hd⟩
        · have e : isStepX nw c = false := by simp [isStepX, k4]
          rw [e]
          repeat (first | refine Walk.c rfl ?_ | refine Walk.cRet ?_ | refine Walk.cEnd ?_ | (refine Walk.cReg ?_; simp only [size74_0, size74_1, size74_2, List.range, List.range.loop]) | (refine Walk.oq ?_; try walk_nrm) | (refine Walk.un ?_; walk_nrm))
          exact (Walk.ret1 (Post := fun v w' => v = .bool false ∧ ∃ d, w' = w.at d) rfl rfl Try.func74 rfl fun d => ⟨by simp [k4], d, rfl⟩).mono fun g w' ⟨v, ⟨hv, hd⟩, hg⟩ => ⟨by rw [hg, hv], hd⟩
      · have e : isStepX nw c = false := by simp [isStepX, k3]
        rw [e]
        repeat (first | refine Walk.c rfl ?_ | refine Walk.cRet ?_ | refine Walk.cEnd ?_ | (refine Walk.cReg ?_; simp only [size74_0, size74_1, size74_2, List.range, List.range.loop]) | (refine Walk.oq ?_; try walk_nrm) | (refine Walk.un ?_; walk_nrm))
        exact (Walk.ret1 (Post := fun v w' => v = .bool false ∧ ∃ d, w' = w.at d) rfl rfl Try.func74 rfl fun d => ⟨by simp [k3], d, rfl⟩).mono fun g w' ⟨v, ⟨hv, hd⟩, hg⟩ => ⟨by rw [hg, hv], hd⟩
    · have e : isStepX nw c = false := by simp [isStepX, k2]
      rw [e]
      repeat (first | refine Walk.c rfl ?_ | refine Walk.cRet ?_ | refine Walk.cEnd ?_ | (refine Walk.cReg ?_; simp only [size74_0, size74_1, size74_2, List.range, List.range.loop]) | (refine Walk.oq ?_; try walk_nrm) | (refine Walk.un ?_; walk_nrm))
      exact (Walk.ret1 (Post := fun v w' => v = .bool false ∧ ∃ d, w' = w.at d) rfl rfl Try.func74 rfl fun d => ⟨by simp [k2], d, rfl⟩).mono fun g w' ⟨v, ⟨hv, hd⟩, hg⟩ => ⟨by rw [hg, hv], hd⟩
  · have e : isStepX nw c = false := by simp [isStepX, k1]
    rw [e]
    repeat (first | refine Walk.c rfl ?_ | refine Walk.cRet ?_ | refine Walk.cEnd ?_ | (refine Walk.cReg ?_; simp only [size74_0, size74_1, size74_2, List.range, List.range.loop]) | (refine Walk.oq ?_; try walk_nrm) | (refine Walk.un ?_; walk_nrm))
    exact (Walk.ret1 (Post := fun v w' => v = .bool false ∧ ∃ d, w' = w.at d) rfl rfl Try.func74 rfl fun d => ⟨by simp [k1], d, rfl⟩).mono fun g w' ⟨v, ⟨hv, hd⟩, hg⟩ => ⟨by rw [hg, hv], hd⟩
theorem stands74_w (p cb co L cc k nw : Nat) (c : Cd) (w : World) (h0 : w.cell? ⟨p, 0, none⟩ = some (.slice (some ⟨cb, co, none⟩) L cc)) (h1 : w.cell? ⟨p, 1, none⟩ = some (.int .i64 (k : Nat))) (hk : k < L)
    (hc : ∀ m v, (cdCells c)[m]? = some v → w.cell? ⟨cb, co + k * 5 + m, none⟩ = some v) : CallV Try.prog main (fun _ => none) 74 #[.pointer (some ⟨p, 0, none⟩), .int .i64 nw] w (.bool (isStepX nw c)) (w.alloc (.cells (cdArr c) 96)) := by
  intro fr cs
  refine (stands74_in p cb co L cc k nw c (fr :: cs) w h0 h1 hk hc).then ?_
  rintro g w1 ⟨⟨u, rfl⟩, d, rfl⟩
  refine Walk.back ?_ d
  refine (stands74_out p w.heap.size nw c u fr cs _ (heap_alloc_new w _)).mono ?_
  rintro g w' ⟨rfl, d, rfl⟩
  exact ⟨_, ⟨rfl, d, rfl⟩, rfl⟩
end
section
variable {main : Bool}
theorem reg76_k (n : Int) (w : World) : CallV Try.prog main (fun _ => none) 76 #[.int .i64 n] w (.int .i64 ((regN n : Nat) : Int)) w := by
  have h : ((regN n : Nat) : Int) = n % 4 := by unfold regN; omega
  rw [h]
  exact reg76_w n w
noncomputable def reg75_0 : Array Oper := match Try.f75.body with | some (.seq (.region _ ops _) _) => ops | _ => #[]
theorem size75_0 : reg75_0.size = 1 := by kernel_rfl
noncomputable def reg75_1 : Array Oper := match Try.f75.body with | some (.seq _ (.seq (.region _ ops _) _)) => ops | _ => #[]
theorem size75_1 : reg75_1.size = 8 := by kernel_rfl
noncomputable def reg75_2 : Array Oper := match Try.f75.body with | some (.seq _ (.seq _ (.seq (.region _ ops _) _))) => ops | _ => #[]
theorem size75_2 : reg75_2.size = 4 := by kernel_rfl
noncomputable def reg75_3 : Array Oper := match Try.f75.body with | some (.seq _ (.seq _ (.seq _ (.seq (.region _ ops _) _)))) => ops | _ => #[]
theorem size75_3 : reg75_3.size = 9 := by kernel_rfl
noncomputable def reg75_4 : Array Oper := match Try.f75.body with | some (.seq _ (.seq _ (.seq _ (.seq _ (.seq (.region _ ops _) _))))) => ops | _ => #[]
theorem size75_4 : reg75_4.size = 9 := by kernel_rfl
noncomputable def reg75_5 : Array Oper := match Try.f75.body with | some (.seq _ (.seq _ (.seq _ (.seq _ (.seq _ (.seq (.region _ ops _) _)))))) => ops | _ => #[]
theorem size75_5 : reg75_5.size = 1 := by kernel_rfl
noncomputable def reg75_6 : Array Oper := match Try.f75.body with | some (.seq _ (.seq _ (.seq _ (.seq _ (.seq _ (.seq _ (.seq (.seq (.region _ ops _) _) _))))))) => ops | _ => #[]
theorem size75_6 : reg75_6.size = 2 := by kernel_rfl
noncomputable def reg75_7 : Array Oper := match Try.f75.body with | some (.seq _ (.seq _ (.seq _ (.seq _ (.seq _ (.seq _ (.seq (.seq _ (.block _ (.seq (.region _ ops _) _))) _))))))) => ops | _ => #[]
theorem size75_7 : reg75_7.size = 2 := by kernel_rfl
noncomputable def reg75_8 : Array Oper := match Try.f75.body with | some (.seq _ (.seq _ (.seq _ (.seq _ (.seq _ (.seq _ (.seq (.seq _ (.block _ (.seq _ (.cond _ (.region _ ops _) _)))) _))))))) => ops | _ => #[]
theorem size75_8 : reg75_8.size = 8 := by kernel_rfl
noncomputable def reg75_9 : Array Oper := match Try.f75.body with | some (.seq _ (.seq _ (.seq _ (.seq _ (.seq _ (.seq _ (.seq (.seq _ (.block _ (.seq _ (.cond _ _ (.seq (.region _ ops _) _))))) _))))))) => ops | _ => #[]
theorem size75_9 : reg75_9.size = 2 := by kernel_rfl
noncomputable def reg75_10 : Array Oper := match Try.f75.body with | some (.seq _ (.seq _ (.seq _ (.seq _ (.seq _ (.seq _ (.seq (.seq _ (.block _ (.seq _ (.cond _ _ (.seq _ (.cond _ (.region _ ops _) _)))))) _))))))) => ops | _ => #[]
theorem size75_10 : reg75_10.size = 7 := by kernel_rfl
noncomputable def reg75_11 : Array Oper := match Try.f75.body with | some (.seq _ (.seq _ (.seq _ (.seq _ (.seq _ (.seq _ (.seq (.seq _ (.block _ (.seq _ (.cond _ _ (.seq _ (.cond _ _ (.seq (.region _ ops _) _))))))) _))))))) => ops | _ => #[]
theorem size75_11 : reg75_11.size = 2 := by kernel_rfl
noncomputable def reg75_12 : Array Oper := match Try.f75.body with | some (.seq _ (.seq _ (.seq _ (.seq _ (.seq _ (.seq _ (.seq (.seq _ (.block _ (.seq _ (.cond _ _ (.seq _ (.cond _ _ (.seq _ (.cond _ (.region _ ops _) _)))))))) _))))))) => ops | _ => #[]
theorem size75_12 : reg75_12.size = 9 := by kernel_rfl
noncomputable def reg75_13 : Array Oper := match Try.f75.body with | some (.seq _ (.seq _ (.seq _ (.seq _ (.seq _ (.seq _ (.seq (.seq _ (.block _ (.seq _ (.cond _ _ (.seq _ (.cond _ _ (.seq _ (.cond _ _ (.seq (.region _ ops _) _))))))))) _))))))) => ops | _ => #[]
theorem size75_13 : reg75_13.size = 2 := by kernel_rfl
noncomputable def reg75_14 : Array Oper := match Try.f75.body with | some (.seq _ (.seq _ (.seq _ (.seq _ (.seq _ (.seq _ (.seq (.seq _ (.block _ (.seq _ (.cond _ _ (.seq _ (.cond _ _ (.seq _ (.cond _ _ (.seq _ (.cond _ (.region _ ops _) _)))))))))) _))))))) => ops | _ => #[]
theorem size75_14 : reg75_14.size = 4 := by kernel_rfl
noncomputable def reg75_15 : Array Oper := match Try.f75.body with | some (.seq _ (.seq _ (.seq _ (.seq _ (.seq _ (.seq _ (.seq (.seq _ (.block _ (.seq _ (.cond _ _ (.seq _ (.cond _ _ (.seq _ (.cond _ _ (.seq _ (.cond _ _ (.seq (.region _ ops _) _))))))))))) _))))))) => ops | _ => #[]
theorem size75_15 : reg75_15.size = 2 := by kernel_rfl
noncomputable def reg75_16 : Array Oper := match Try.f75.body with | some (.seq _ (.seq _ (.seq _ (.seq _ (.seq _ (.seq _ (.seq (.seq _ (.block _ (.seq _ (.cond _ _ (.seq _ (.cond _ _ (.seq _ (.cond _ _ (.seq _ (.cond _ _ (.seq _ (.cond _ (.region _ ops _) _)))))))))))) _))))))) => ops | _ => #[]
theorem size75_16 : reg75_16.size = 4 := by kernel_rfl
noncomputable def reg75_17 : Array Oper := match Try.f75.body with | some (.seq _ (.seq _ (.seq _ (.seq _ (.seq _ (.seq _ (.seq (.seq _ (.block _ (.seq _ (.cond _ _ (.seq _ (.cond _ _ (.seq _ (.cond _ _ (.seq _ (.cond _ _ (.seq _ (.cond _ _ (.seq (.region _ ops _) _))))))))))))) _))))))) => ops | _ => #[]
theorem size75_17 : reg75_17.size = 2 := by kernel_rfl
noncomputable def reg75_18 : Array Oper := match Try.f75.body with | some (.seq _ (.seq _ (.seq _ (.seq _ (.seq _ (.seq _ (.seq (.seq _ (.block _ (.seq _ (.cond _ _ (.seq _ (.cond _ _ (.seq _ (.cond _ _ (.seq _ (.cond _ _ (.seq _ (.cond _ _ (.seq _ (.cond _ (.region _ ops _) _)))))))))))))) _))))))) => ops | _ => #[]
theorem size75_18 : reg75_18.size = 17 := by kernel_rfl
noncomputable def reg75_19 : Array Oper := match Try.f75.body with | some (.seq _ (.seq _ (.seq _ (.seq _ (.seq _ (.seq _ (.seq _ (.seq (.region _ ops _) _)))))))) => ops | _ => #[]
theorem size75_19 : reg75_19.size = 1 := by kernel_rfl
noncomputable def reg75_20 : Array Oper := match Try.f75.body with | some (.seq _ (.seq _ (.seq _ (.seq _ (.seq _ (.seq _ (.seq _ (.seq _ (.cond _ (.seq (.region _ ops _) _) _))))))))) => ops | _ => #[]
theorem size75_20 : reg75_20.size = 4 := by kernel_rfl
noncomputable def reg75_21 : Array Oper := match Try.f75.body with | some (.seq _ (.seq _ (.seq _ (.seq _ (.seq _ (.seq _ (.seq _ (.seq _ (.cond _ (.seq _ (.seq (.region _ ops _) _)) _))))))))) => ops | _ => #[]
theorem size75_21 : reg75_21.size = 13 := by kernel_rfl
noncomputable def reg75_22 : Array Oper := match Try.f75.body with | some (.seq _ (.seq _ (.seq _ (.seq _ (.seq _ (.seq _ (.seq _ (.seq _ (.cond _ (.seq _ (.seq _ (.cond _ (.region _ ops _) _))) _))))))))) => ops | _ => #[]
theorem size75_22 : reg75_22.size = 6 := by kernel_rfl
theorem code75_is : Try.f75.body = some (.seq (.region 0 reg75_0 false) (.seq (.region 1 reg75_1 false) (.seq (.region 2 reg75_2 false) (.seq (.region 3 reg75_3 true) (.seq (.region 4 reg75_4 true) (.seq (.region 5 reg75_5 false) (.seq (.seq (.region 6 reg75_6 false) (.block 0 (.seq (.region 7 reg75_7 false) (.cond (.tmp 36 ) (.region 8 reg75_8 true) (.seq (.region 9 reg75_9 false) (.cond (.tmp 45 ) (.region 10 reg75_10 false) (.seq (.region 11 reg75_11 false) (.cond (.tmp 53 ) (.region 12 reg75_12 false) (.seq (.region 13 reg75_13 false) (.cond (.tmp 63 ) (.region 14 reg75_14 false) (.seq (.region 15 reg75_15 false) (.cond (.tmp 68 ) (.region 16 reg75_16 false) (.seq (.region 17 reg75_17 false) (.cond (.tmp 73 ) (.region 18 reg75_18 true) (.skip))))))))))))))) (.seq (.region 19 reg75_19 false) (.cond (.tmp 91 ) (.seq (.region 20 reg75_20 false) (.seq (.region 21 reg75_21 true) (.cond (.tmp 107 ) (.region 22 reg75_22 false) (.skip)))) (.skip)))))))))) := by kernel_rfl
noncomputable def at75 (p X : Nat) (r a b : Int) (u : Nat → Value) : Frame :=
  (base 75).at { tmps := #[.pointer (some ⟨p, 0, none⟩), u 1, u 2, .pointer (some ⟨X, 0, none⟩), .int .i64 r, .int .i64 a, .int .i64 b, .bool false, u 8, u 9, u 10, u 11, u 12, u 13, u 14, u 15, u 16, u 17, u 18, u 19, u 20, u 21, u 22, u 23, u 24, u 25, u 26, u 27, u 28, u 29, u 30, u 31, u 32, u 33, u 34, u 35, u 36, u 37, u 38, u 39, u 40, u 41, u 42, u 43, u 44, u 45, u 46, u 47, u 48, u 49, u 50, u 51, u 52, u 53, u 54, u 55, u 56, u 57, u 58, u 59, u 60, u 61, u 62, u 63, u 64, u 65, u 66, u 67, u 68, u 69, u 70, u 71, u 72, u 73, u 74, u 75, u 76, u 77, u 78, u 79, u 80, u 81, u 82, u 83, u 84, u 85, u 86, u 87, u 88, u 89, u 90, u 91, u 92, u 93, u 94, u 95, u 96, u 97, u 98, u 99, u 100, u 101, u 102, u 103, u 104, u 105, u 106, u 107, u 108, u 109, u 110, u 111, u 112], defers := [] } [.code (.seq (.seq (.region 6 reg75_6 false) (.block 0 (.seq (.region 7 reg75_7 false) (.cond (.tmp 36 ) (.region 8 reg75_8 true) (.seq (.region 9 reg75_9 false) (.cond (.tmp 45 ) (.region 10 reg75_10 false) (.seq (.region 11 reg75_11 false) (.cond (.tmp 53 ) (.region 12 reg75_12 false) (.seq (.region 13 reg75_13 false) (.cond (.tmp 63 ) (.region 14 reg75_14 false) (.seq (.region 15 reg75_15 false) (.cond (.tmp 68 ) (.region 16 reg75_16 false) (.seq (.region 17 reg75_17 false) (.cond (.tmp 73 ) (.region 18 reg75_18 true) (.skip))))))))))))))) (.seq (.region 19 reg75_19 false) (.cond (.tmp 91 ) (.seq (.region 20 reg75_20 false) (.seq (.region 21 reg75_21 true) (.cond (.tmp 107 ) (.region 22 reg75_22 false) (.skip)))) (.skip))))]
theorem own75_in (p k : Nat) (cv : Value) (R : Nat → Int) (tv : Value) (e : Bool) (c : Cd) (cs : List Frame) (w : World) (hp : w.heap[p]? = some (.cells (rtArr cv (k : Nat) R tv e) 105)) (hk : k < 4398046511104) :
    Walk Try.prog main (DR (fun _ => none)) (fun g w' => (∃ u, g = G (at75 p w.heap.size (regN c.r : Nat) (R (regN c.a)) (R (regN c.b)) u) cs) ∧ ∃ d, w' = ((w.alloc (.cells (cdArr c) 96)).setCell ⟨p, 1, none⟩ (.int .i64 ((k + 1 : Nat) : Int))).at d)
      (G (Frame.enter Try.prog 75 #[.pointer (some ⟨p, 0, none⟩), .agg (cdArr c)] .normal) cs) w := by
  have hw1 : IntKind.wrap .i64 ((k : Int) + 1) = (k : Int) + 1 := by rw [IntKind.wrap_i64]; omega
  have hck : ((k + 1 : Nat) : Int) = (k : Int) + 1 := by simp
  rw [hck]
  have hl := (Array.getElem?_eq_some_iff.1 hp).1
  obtain ⟨cd, cr, ca, cb, cvv⟩ := c
  simp only [cdArr] at *
  have hf : Free (fun _ => none) ⟨p, 1, none⟩ := (apart0 p).1 _ rfl
  rw [enter_at _ Try.func75 code75_is]
  simp only [Try.ntmps75, List.size_toArray, List.length_cons, List.length_nil, Nat.reduceAdd, Nat.reduceSub, Array.replicate_succ, Array.replicate_zero, List.push_toArray, List.append_toArray, List.nil_append, List.cons_append]
  repeat (first | refine Walk.c rfl ?_ | refine Walk.cRet ?_ | refine Walk.cEnd ?_ | (refine Walk.cReg ?_; simp only [size75_0, size75_1, size75_2, size75_3, size75_4, size75_5, size75_6, size75_7, size75_8, size75_9, size75_10, size75_11, size75_12, size75_13, size75_14, size75_15, size75_16, size75_17, size75_18, size75_19, size75_20, size75_21, size75_22, List.range, List.range.loop]) | (refine Walk.oq ?_; try walk_nrm) | (refine Walk.un ?_; walk_nrm))
  (refine Walk.oa ?_; try walk_nrm)
  have hp1 : (w.alloc (.cells #[.int .i64 cd, .int .i64 cr, .int .i64 ca, .int .i64 cb, .int .i64 cvv] 96)).heap[p]? = some (.cells (rtArr cv (k : Nat) R tv e) 105) := (heap_new_lt w _ hl).trans hp
  have hX := heap_alloc_new w (.cells #[.int .i64 cd, .int .i64 cr, .int .i64 ca, .int .i64 cb, .int .i64 cvv] 96)
  generalize w.alloc (.cells #[.int .i64 cd, .int .i64 cr, .int .i64 ca, .int .i64 cb, .int .i64 cvv] 96) = w1 at *
  generalize w.heap.size = X at *
  have hXp : X ≠ p := by omega
  have h1 : w1.cell? ⟨p, 1, none⟩ = some (.int .i64 (k : Nat)) := (cell_of hp1 1).trans rfl
  have hz1 := frozen_of hp1 1
  repeat (first | refine Walk.c rfl ?_ | refine Walk.cRet ?_ | refine Walk.cEnd ?_ | (refine Walk.cReg ?_; simp only [size75_0, size75_1, size75_2, size75_3, size75_4, size75_5, size75_6, size75_7, size75_8, size75_9, size75_10, size75_11, size75_12, size75_13, size75_14, size75_15, size75_16, size75_17, size75_18, size75_19, size75_20, size75_21, size75_22, List.range, List.range.loop]) | (refine Walk.oq ?_; try walk_nrm) | (refine Walk.un ?_; walk_nrm))
  (refine Walk.os hf h1 ?_; try walk_nrm)
  have hp2 : (w1.setCell ⟨p, 1, none⟩ (.int .i64 ((k : Int) + 1))).heap[p]? = some (.cells (rtArr cv ((k : Int) + 1) R tv e) 105) := by
    rw [heap_set_self _ _ hp1]
    rfl
  have hX2 : (w1.setCell ⟨p, 1, none⟩ (.int .i64 ((k : Int) + 1))).heap[X]? = some (.cells #[.int .i64 cd, .int .i64 cr, .int .i64 ca, .int .i64 cb, .int .i64 cvv] 96) := (heap_set_other _ _ _ _ hXp).trans hX
  clear h1 hz1 hp1 hX hp hl
  generalize w1.setCell ⟨p, 1, none⟩ (.int .i64 ((k : Int) + 1)) = w2 at *
  have x1 : w2.cell? ⟨X, 1, none⟩ = some (.int .i64 cr) := (cell_of hX2 1).trans rfl
  have x2 : w2.cell? ⟨X, 2, none⟩ = some (.int .i64 ca) := (cell_of hX2 2).trans rfl
  have x3 : w2.cell? ⟨X, 3, none⟩ = some (.int .i64 cb) := (cell_of hX2 3).trans rfl
  have ra : w2.cell? ⟨p, 2 + regN ca, none⟩ = some (.int .i64 (R (regN ca))) := (cell_of hp2 _).trans (rt_get _ _ _ _ _ (regN_lt ca))
  have rb : w2.cell? ⟨p, 2 + regN cb, none⟩ = some (.int .i64 (R (regN cb))) := (cell_of hp2 _).trans (rt_get _ _ _ _ _ (regN_lt cb))
  have la : ((regN ca : Nat) : Int) < 4 := by have := regN_lt ca; omega
  have lb : ((regN cb : Nat) : Int) < 4 := by have := regN_lt cb; omega
  repeat (first | refine Walk.c rfl ?_ | refine Walk.cRet ?_ | refine Walk.cEnd ?_ | (refine Walk.cReg ?_; simp only [size75_0, size75_1, size75_2, size75_3, size75_4, size75_5, size75_6, size75_7, size75_8, size75_9, size75_10, size75_11, size75_12, size75_13, size75_14, size75_15, size75_16, size75_17, size75_18, size75_19, size75_20, size75_21, size75_22, List.range, List.range.loop]) | (refine Walk.oq ?_; try walk_nrm) | (refine Walk.un ?_; walk_nrm))
  refine Walk.callV (x := .int .i64 ((regN cr : Nat) : Int)) (W := w2) ?_ (ho_of (by conv => lhs; whnf) (by kernel_rfl)) (by rfl) (by decide) rfl Try.func76 (by kernel_rfl) (by rfl) ?_
  · walk_nrm
    exact reg76_k cr w2
  walk_nrm
  have qa := reg76_k (main := main) ca w2
  have qb := reg76_k (main := main) cb w2
  generalize regN cr = kr at *
  generalize regN ca = ka at *
  generalize regN cb = kb at *
  have hia := fun (a : Addr) (w : World) (es : Array Event) => events_indexAt_array (P := Try.prog) (w := w) (es := es) 103 2 4 a .i64 (ka : Int) (by kernel_rfl) ⟨by omega, la⟩
  have hib := fun (a : Addr) (w : World) (es : Array Event) => events_indexAt_array (P := Try.prog) (w := w) (es := es) 103 2 4 a .i64 (kb : Int) (by kernel_rfl) ⟨by omega, lb⟩
  repeat (first | refine Walk.c rfl ?_ | refine Walk.cRet ?_ | refine Walk.cEnd ?_ | (refine Walk.cReg ?_; simp only [size75_0, size75_1, size75_2, size75_3, size75_4, size75_5, size75_6, size75_7, size75_8, size75_9, size75_10, size75_11, size75_12, size75_13, size75_14, size75_15, size75_16, size75_17, size75_18, size75_19, size75_20, size75_21, size75_22, List.range, List.range.loop]) | (refine Walk.oq ?_; try walk_nrm) | (refine Walk.un ?_; walk_nrm))
  (refine Walk.drawnC (by kernel_rfl) size75_3 (by kernel_rfl) (by kernel_rfl) (by decide) ?_; simp only [List.range, List.range.loop]; repeat (first | (refine Cm.opqA (ho_of (by conv => lhs; whnf) (by kernel_rfl)) (by rfl) (fun dd e he => ?_) ?_; (· (simp [go_sem, *] at he; try (subst he; exact evR_read _ _))); apply Exists.intro; apply And.intro; (· (intro dd K hK; go_simp; exact hK))) | (refine Cm.unw (ho_of (by conv => lhs; whnf) (by kernel_rfl)) (by rfl) ?_; walk_nrm)))
  refine Cm.callV (x := .int .i64 ((ka : Nat) : Int)) ?_ (ho_of (by conv => lhs; whnf) (by kernel_rfl)) (by rfl) rfl Try.func76 (by kernel_rfl) (by rfl) ?_
  · intro w' e
    subst e
    walk_nrm
    exact qa
  walk_nrm
  repeat (first | (refine Cm.opqA (ho_of (by conv => lhs; whnf) (by kernel_rfl)) (by rfl) (fun dd e he => ?_) ?_; (· (simp [go_sem, *] at he; try (subst he; exact evR_read _ _))); apply Exists.intro; apply And.intro; (· (intro dd K hK; go_simp; exact hK))) | (refine Cm.unw (ho_of (by conv => lhs; whnf) (by kernel_rfl)) (by rfl) ?_; walk_nrm))
  refine Cm.done ?_
  repeat (first | refine Walk.c rfl ?_ | refine Walk.cRet ?_ | refine Walk.cEnd ?_ | (refine Walk.cReg ?_; simp only [size75_0, size75_1, size75_2, size75_3, size75_4, size75_5, size75_6, size75_7, size75_8, size75_9, size75_10, size75_11, size75_12, size75_13, size75_14, size75_15, size75_16, size75_17, size75_18, size75_19, size75_20, size75_21, size75_22, List.range, List.range.loop]) | (refine Walk.oq ?_; try walk_nrm) | (refine Walk.un ?_; walk_nrm))
  (refine Walk.drawnC (by kernel_rfl) size75_4 (by kernel_rfl) (by kernel_rfl) (by decide) ?_; simp only [List.range, List.range.loop]; repeat (first | (refine Cm.opqA (ho_of (by conv => lhs; whnf) (by kernel_rfl)) (by rfl) (fun dd e he => ?_) ?_; (· (simp [go_sem, *] at he; try (subst he; exact evR_read _ _))); apply Exists.intro; apply And.intro; (· (intro dd K hK; go_simp; exact hK))) | (refine Cm.unw (ho_of (by conv => lhs; whnf) (by kernel_rfl)) (by rfl) ?_; walk_nrm)))
  refine Cm.callV (x := .int .i64 ((kb : Nat) : Int)) ?_ (ho_of (by conv => lhs; whnf) (by kernel_rfl)) (by rfl) rfl Try.func76 (by kernel_rfl) (by rfl) ?_
  · intro w' e
    subst e
    walk_nrm
    exact qb
  walk_nrm
  repeat (first | (refine Cm.opqA (ho_of (by conv => lhs; whnf) (by kernel_rfl)) (by rfl) (fun dd e he => ?_) ?_; (· (simp [go_sem, *] at he; try (subst he; exact evR_read _ _))); apply Exists.intro; apply And.intro; (· (intro dd K hK; go_simp; exact hK))) | (refine Cm.unw (ho_of (by conv => lhs; whnf) (by kernel_rfl)) (by rfl) ?_; walk_nrm))
  refine Cm.done ?_
  refine Walk.ctl rfl (fun w => stepG_region_end) ?_
  refine Walk.c rfl ?_
  refine Walk.cReg ?_
  simp only [size75_5, List.range, List.range.loop]
  repeat (first | (refine Walk.oq ?_; try walk_nrm) | (refine Walk.un ?_; walk_nrm))
  refine Walk.ctl rfl (fun w => stepG_region_end) ?_
  refine .stop fun d => ⟨at_slots ?_, d, rfl⟩
  simp only [at75]
  rfl
end
section
variable {main : Bool}
theorem own75_set (p X k : Nat) (cv : Value) (R : Nat → Int) (tv : Value) (e : Bool) (kr : Nat) (hkr : kr < 4) (a b cvv : Int) (u : Nat → Value) (c : Frame) (cs : List Frame) (w : World) (hp : w.heap[p]? = some (.cells (rtArr cv (k : Nat) R tv e) 105)) (x0 : w.cell? ⟨X, 0, none⟩ = some (.int .i64 1)) (x4 : w.cell? ⟨X, 4, none⟩ = some (.int .i64 cvv)) :
    Walk Try.prog main (DR (fun _ => none)) (fun g w' => g = G (c.finish (.tuple #[])) cs ∧ ∃ d, w' = (w.setCell ⟨p, 2 + kr, none⟩ (.int .i64 cvv)).at d) (G (at75 p X (kr : Nat) a b u) (c :: cs)) w := by
  have hy := (cell_of hp _).trans (rt_get cv (k : Nat) R tv e hkr)
  have hz := frozen_of hp (2 + kr)
  have hf : Free (fun _ => none) ⟨p, 2 + kr, none⟩ := (apart0 p).1 _ rfl
  have hk4 : (kr : Int) < 4 := by omega
  have hia := fun (a : Addr) (w : World) (es : Array Event) => events_indexAt_array (P := Try.prog) (w := w) (es := es) 103 2 4 a .i64 (kr : Int) (by kernel_rfl) ⟨by omega, hk4⟩
  unfold at75
  repeat (first | refine Walk.c rfl ?_ | refine Walk.cRet ?_ | refine Walk.cEnd ?_ | (refine Walk.cReg ?_; simp only [size75_0, size75_1, size75_2, size75_3, size75_4, size75_5, size75_6, size75_7, size75_8, size75_9, size75_10, size75_11, size75_12, size75_13, size75_14, size75_15, size75_16, size75_17, size75_18, size75_19, size75_20, size75_21, size75_22, List.range, List.range.loop]) | (refine Walk.oq ?_; try walk_nrm) | (refine Walk.un ?_; walk_nrm))
  (refine Walk.drawnL (by kernel_rfl) size75_8 (by kernel_rfl) (by kernel_rfl) (by kernel_rfl) (by decide) ?_; simp only [List.range, List.range.loop]; repeat (first | (refine Cm.opqA (ho_of (by conv => lhs; whnf) (by kernel_rfl)) (by rfl) (fun dd e he => ?_) ?_; (· (simp [go_sem, *] at he; try (subst he; exact evR_read _ _))); apply Exists.intro; apply And.intro; (· (intro dd K hK; go_simp; exact hK))) | (refine Cm.unw (ho_of (by conv => lhs; whnf) (by kernel_rfl)) (by rfl) ?_; walk_nrm)))
  refine Cm.done ?_
  intro rest hr
  (refine Walk.os hf hy ?_; try walk_nrm)
  refine hr _ _ ?_
  generalize w.setCell ⟨p, 2 + kr, none⟩ (.int .i64 cvv) = w1 at *
  repeat (first | refine Walk.c rfl ?_ | refine Walk.cRet ?_ | refine Walk.cEnd ?_ | (refine Walk.cReg ?_; simp only [size75_0, size75_1, size75_2, size75_3, size75_4, size75_5, size75_6, size75_7, size75_8, size75_9, size75_10, size75_11, size75_12, size75_13, size75_14, size75_15, size75_16, size75_17, size75_18, size75_19, size75_20, size75_21, size75_22, List.range, List.range.loop]) | (refine Walk.oq ?_; try walk_nrm) | (refine Walk.un ?_; walk_nrm))
  exact (Walk.ret0 (Post := fun v w' => v = .tuple #[] ∧ ∃ d, w' = w1.at d) rfl rfl Try.func75 rfl fun d => ⟨rfl, d, rfl⟩).mono fun g w' ⟨v, ⟨hv, hd⟩, hg⟩ => ⟨by rw [hg, hv], hd⟩
theorem own75_move (p X k : Nat) (cv : Value) (R : Nat → Int) (tv : Value) (e : Bool) (kr : Nat) (hkr : kr < 4) (a b : Int) (u : Nat → Value) (c : Frame) (cs : List Frame) (w : World) (hp : w.heap[p]? = some (.cells (rtArr cv (k : Nat) R tv e) 105)) (x0 : w.cell? ⟨X, 0, none⟩ = some (.int .i64 2)) :
    Walk Try.prog main (DR (fun _ => none)) (fun g w' => g = G (c.finish (.tuple #[])) cs ∧ ∃ d, w' = (w.setCell ⟨p, 2 + kr, none⟩ (.int .i64 a)).at d) (G (at75 p X (kr : Nat) a b u) (c :: cs)) w := by
  have hy := (cell_of hp _).trans (rt_get cv (k : Nat) R tv e hkr)
  have hz := frozen_of hp (2 + kr)
  have hf : Free (fun _ => none) ⟨p, 2 + kr, none⟩ := (apart0 p).1 _ rfl
  have hk4 : (kr : Int) < 4 := by omega
  have hia := fun (a : Addr) (w : World) (es : Array Event) => events_indexAt_array (P := Try.prog) (w := w) (es := es) 103 2 4 a .i64 (kr : Int) (by kernel_rfl) ⟨by omega, hk4⟩
  unfold at75
  repeat (first | refine Walk.c rfl ?_ | refine Walk.cRet ?_ | refine Walk.cEnd ?_ | (refine Walk.cReg ?_; simp only [size75_0, size75_1, size75_2, size75_3, size75_4, size75_5, size75_6, size75_7, size75_8, size75_9, size75_10, size75_11, size75_12, size75_13, size75_14, size75_15, size75_16, size75_17, size75_18, size75_19, size75_20, size75_21, size75_22, List.range, List.range.loop]) | (refine Walk.oq ?_; try walk_nrm) | (refine Walk.un ?_; walk_nrm))
  (refine Walk.os hf hy ?_; try walk_nrm)
  generalize w.setCell ⟨p, 2 + kr, none⟩ (.int .i64 a) = w1 at *
  repeat (first | refine Walk.c rfl ?_ | refine Walk.cRet ?_ | refine Walk.cEnd ?_ | (refine Walk.cReg ?_; simp only [size75_0, size75_1, size75_2, size75_3, size75_4, size75_5, size75_6, size75_7, size75_8, size75_9, size75_10, size75_11, size75_12, size75_13, size75_14, size75_15, size75_16, size75_17, size75_18, size75_19, size75_20, size75_21, size75_22, List.range, List.range.loop]) | (refine Walk.oq ?_; try walk_nrm) | (refine Walk.un ?_; walk_nrm))
  exact (Walk.ret0 (Post := fun v w' => v = .tuple #[] ∧ ∃ d, w' = w1.at d) rfl rfl Try.func75 rfl fun d => ⟨rfl, d, rfl⟩).mono fun g w' ⟨v, ⟨hv, hd⟩, hg⟩ => ⟨by rw [hg, hv], hd⟩
theorem own75_sum (p X k : Nat) (cv : Value) (R : Nat → Int) (tv : Value) (e : Bool) (kr : Nat) (hkr : kr < 4) (a b : Int) (u : Nat → Value) (c : Frame) (cs : List Frame) (w : World) (hp : w.heap[p]? = some (.cells (rtArr cv (k : Nat) R tv e) 105)) (x0 : w.cell? ⟨X, 0, none⟩ = some (.int .i64 3)) :
    Walk Try.prog main (DR (fun _ => none)) (fun g w' => g = G (c.finish (.tuple #[])) cs ∧ ∃ d, w' = (w.setCell ⟨p, 2 + kr, none⟩ (.int .i64 (IntKind.i64.wrap (a + b)))).at d) (G (at75 p X (kr : Nat) a b u) (c :: cs)) w := by
  have hy := (cell_of hp _).trans (rt_get cv (k : Nat) R tv e hkr)
  have hz := frozen_of hp (2 + kr)
  have hf : Free (fun _ => none) ⟨p, 2 + kr, none⟩ := (apart0 p).1 _ rfl
  have hk4 : (kr : Int) < 4 := by omega
  have hia := fun (a : Addr) (w : World) (es : Array Event) => events_indexAt_array (P := Try.prog) (w := w) (es := es) 103 2 4 a .i64 (kr : Int) (by kernel_rfl) ⟨by omega, hk4⟩
  unfold at75
  repeat (first | refine Walk.c rfl ?_ | refine Walk.cRet ?_ | refine Walk.cEnd ?_ | (refine Walk.cReg ?_; simp only [size75_0, size75_1, size75_2, size75_3, size75_4, size75_5, size75_6, size75_7, size75_8, size75_9, size75_10, size75_11, size75_12, size75_13, size75_14, size75_15, size75_16, size75_17, size75_18, size75_19, size75_20, size75_21, size75_22, List.range, List.range.loop]) | (refine Walk.oq ?_; try walk_nrm) | (refine Walk.un ?_; walk_nrm))
  (refine Walk.os hf hy ?_; try walk_nrm)
  generalize w.setCell ⟨p, 2 + kr, none⟩ (.int .i64 (IntKind.i64.wrap (a + b))) = w1 at *
  repeat (first | refine Walk.c rfl ?_ | refine Walk.cRet ?_ | refine Walk.cEnd ?_ | (refine Walk.cReg ?_; simp only [size75_0, size75_1, size75_2, size75_3, size75_4, size75_5, size75_6, size75_7, size75_8, size75_9, size75_10, size75_11, size75_12, size75_13, size75_14, size75_15, size75_16, size75_17, size75_18, size75_19, size75_20, size75_21, size75_22, List.range, List.range.loop]) | (refine Walk.oq ?_; try walk_nrm) | (refine Walk.un ?_; walk_nrm))
  exact (Walk.ret0 (Post := fun v w' => v = .tuple #[] ∧ ∃ d, w' = w1.at d) rfl rfl Try.func75 rfl fun d => ⟨rfl, d, rfl⟩).mono fun g w' ⟨v, ⟨hv, hd⟩, hg⟩ => ⟨by rw [hg, hv], hd⟩
theorem own75_none (p X : Nat) (kr : Nat) (a b cd : Int) (u : Nat → Value) (c : Frame) (cs : List Frame) (w : World) (x0 : w.cell? ⟨X, 0, none⟩ = some (.int .i64 cd)) (h1 : ¬ cd = 1) (h2 : ¬ cd = 2) (h3 : ¬ cd = 3) (h6 : ¬ cd = 6)
    (h : (cd = 4 ∧ ¬ a = b) ∨ (cd = 5 ∧ ¬ a < b) ∨ (¬ cd = 4 ∧ ¬ cd = 5)) :
    Walk Try.prog main (DR (fun _ => none)) (fun g w' => g = G (c.finish (.tuple #[])) cs ∧ ∃ d, w' = w.at d) (G (at75 p X (kr : Nat) a b u) (c :: cs)) w := by
  unfold at75
  rcases h with ⟨rfl, h⟩ | ⟨rfl, h⟩ | ⟨h4, h5⟩
  · have hab : (a == b) = false := by simpa using h
    repeat (first | refine Walk.c rfl ?_ | refine Walk.cRet ?_ | refine Walk.cEnd ?_ | (refine Walk.cReg ?_; simp only [size75_0, size75_1, size75_2, size75_3, size75_4, size75_5, size75_6, size75_7, size75_8, size75_9, size75_10, size75_11, size75_12, size75_13, size75_14, size75_15, size75_16, size75_17, size75_18, size75_19, size75_20, size75_21, size75_22, List.range, List.range.loop]) | (refine Walk.oq ?_; try walk_nrm) | (refine Walk.un ?_; walk_nrm))
    try simp only [hab]
    repeat (first | refine Walk.c rfl ?_ | refine Walk.cRet ?_ | refine Walk.cEnd ?_ | (refine Walk.cReg ?_; simp only [size75_0, size75_1, size75_2, size75_3, size75_4, size75_5, size75_6, size75_7, size75_8, size75_9, size75_10, size75_11, size75_12, size75_13, size75_14, size75_15, size75_16, size75_17, size75_18, size75_19, size75_20, size75_21, size75_22, List.range, List.range.loop]) | (refine Walk.oq ?_; try walk_nrm) | (refine Walk.un ?_; walk_nrm))
    exact (Walk.ret0 (Post := fun v w' => v = .tuple #[] ∧ ∃ d, w' = w.at d) rfl rfl Try.func75 rfl fun d => ⟨rfl, d, rfl⟩).mono fun g w' ⟨v, ⟨hv, hd⟩, hg⟩ => ⟨by rw [hg, hv], hd⟩
  · have hab : decide (a < b) = false := by simpa using h
    repeat (first | refine Walk.c rfl ?_ | refine Walk.cRet ?_ | refine Walk.cEnd ?_ | (refine Walk.cReg ?_; simp only [size75_0, size75_1, size75_2, size75_3, size75_4, size75_5, size75_6, size75_7, size75_8, size75_9, size75_10, size75_11, size75_12, size75_13, size75_14, size75_15, size75_16, size75_17, size75_18, size75_19, size75_20, size75_21, size75_22, List.range, List.range.loop]) | (refine Walk.oq ?_; try walk_nrm) | (refine Walk.un ?_; walk_nrm))
    exact (Walk.ret0 (Post := fun v w' => v = .tuple #[] ∧ ∃ d, w' = w.at d) rfl rfl Try.func75 rfl fun d => ⟨rfl, d, rfl⟩).mono fun g w' ⟨v, ⟨hv, hd⟩, hg⟩ => ⟨by rw [hg, hv], hd⟩
  · have e1 : (cd == 1) = false := by simpa using h1
    have e2 : (cd == 2) = false := by simpa using h2
    have e3 : (cd == 3) = false := by simpa using h3
    have e4 : (cd == 4) = false := by simpa using h4
    have e5 : (cd == 5) = false := by simpa using h5
    have e6 : (cd == 6) = false := by simpa using h6
    repeat (first | refine Walk.c rfl ?_ | refine Walk.cRet ?_ | refine Walk.cEnd ?_ | (refine Walk.cReg ?_; simp only [size75_0, size75_1, size75_2, size75_3, size75_4, size75_5, size75_6, size75_7, size75_8, size75_9, size75_10, size75_11, size75_12, size75_13, size75_14, size75_15, size75_16, size75_17, size75_18, size75_19, size75_20, size75_21, size75_22, List.range, List.range.loop]) | (refine Walk.oq ?_; try walk_nrm) | (refine Walk.un ?_; walk_nrm))
    exact (Walk.ret0 (Post := fun v w' => v = .tuple #[] ∧ ∃ d, w' = w.at d) rfl rfl Try.func75 rfl fun d => ⟨rfl, d, rfl⟩).mono fun g w' ⟨v, ⟨hv, hd⟩, hg⟩ => ⟨by rw [hg, hv], hd⟩
theorem own75_jump (p X k L cc : Nat) (ca : Option Addr) (R : Nat → Int) (tv : Value) (e : Bool) (kr : Nat) (a b cd cvv : Int) (u : Nat → Value) (c : Frame) (cs : List Frame) (w : World) (hp : w.heap[p]? = some (.cells (rtArr (.slice ca L cc) (k : Nat) R tv e) 105)) (x0 : w.cell? ⟨X, 0, none⟩ = some (.int .i64 cd)) (x4 : w.cell? ⟨X, 4, none⟩ = some (.int .i64 cvv)) (hX : X ≠ p) (h : (cd = 4 ∧ a = b) ∨ (cd = 5 ∧ a < b)) :
    Walk Try.prog main (DR (fun _ => none)) (fun g w' => g = G (c.finish (.tuple #[])) cs ∧ ∃ d, w' = (if 0 ≤ cvv ∧ cvv < L then (w.setCell ⟨p, 1, none⟩ (.int .i64 (-1))).setCell ⟨p, 1, none⟩ (.int .i64 cvv) else w.setCell ⟨p, 1, none⟩ (.int .i64 (-1))).at d) (G (at75 p X (kr : Nat) a b u) (c :: cs)) w := by
  have hy : w.cell? ⟨p, 1, none⟩ = some (.int .i64 (k : Nat)) := (cell_of hp 1).trans rfl
  have hz := frozen_of hp 1
  have hf : Free (fun _ => none) ⟨p, 1, none⟩ := (apart0 p).1 _ rfl
  have hp1 : (w.setCell ⟨p, 1, none⟩ (.int .i64 (-1))).heap[p]? = some (.cells (rtArr (.slice ca L cc) (-1) R tv e) 105) := by
    rw [heap_set_self _ _ hp]
    rfl
  have x4' : (w.setCell ⟨p, 1, none⟩ (.int .i64 (-1))).cell? ⟨X, 4, none⟩ = some (.int .i64 cvv) := (World.cell?_of_block (a := ⟨X, 4, none⟩) (heap_set_other _ _ _ _ hX)).trans x4
  have hab : (cd = 4 → (a == b) = true) ∧ (cd = 5 → decide (a < b) = true) := by
    rcases h with ⟨rfl, h⟩ | ⟨rfl, h⟩
    · exact ⟨fun _ => by simpa using h, fun e => by cases e⟩
    · exact ⟨(fun e => by cases e), fun _ => by simpa using h⟩
  have two : ∀ (V0 V1 : Prop), (cd = 4 → V0) → (cd = 5 → V1) → (cd = 4 ∧ V0) ∨ (cd = 5 ∧ V1) := fun _ _ g1 g2 => h.imp (fun x => ⟨x.1, g1 x.1⟩) (fun x => ⟨x.1, g2 x.1⟩)
  clear h
  rcases two _ _ hab.1 hab.2 with ⟨rfl, hj⟩ | ⟨rfl, hj⟩
  · clear hab two
    unfold at75
    repeat (first | refine Walk.c rfl ?_ | refine Walk.cRet ?_ | refine Walk.cEnd ?_ | (refine Walk.cReg ?_; simp only [size75_0, size75_1, size75_2, size75_3, size75_4, size75_5, size75_6, size75_7, size75_8, size75_9, size75_10, size75_11, size75_12, size75_13, size75_14, size75_15, size75_16, size75_17, size75_18, size75_19, size75_20, size75_21, size75_22, List.range, List.range.loop]) | (refine Walk.oq ?_; try walk_nrm) | (refine Walk.un ?_; walk_nrm))
    try simp only [hj]
    repeat (first | refine Walk.c rfl ?_ | refine Walk.cRet ?_ | refine Walk.cEnd ?_ | (refine Walk.cReg ?_; simp only [size75_0, size75_1, size75_2, size75_3, size75_4, size75_5, size75_6, size75_7, size75_8, size75_9, size75_10, size75_11, size75_12, size75_13, size75_14, size75_15, size75_16, size75_17, size75_18, size75_19, size75_20, size75_21, size75_22, List.range, List.range.loop]) | (refine Walk.oq ?_; try walk_nrm) | (refine Walk.un ?_; walk_nrm))
    (refine Walk.os hf hy ?_; try walk_nrm)
    clear hy hz hf x0 x4 hp
    generalize w.setCell ⟨p, 1, none⟩ (.int .i64 (-1)) = w1 at *
    have hy : w1.cell? ⟨p, 1, none⟩ = some (.int .i64 (-1)) := (cell_of hp1 1).trans rfl
    have h0 : w1.cell? ⟨p, 0, none⟩ = some (.slice ca L cc) := (cell_of hp1 0).trans rfl
    have hz := frozen_of hp1 1
    have hf : Free (fun _ => none) ⟨p, 1, none⟩ := (apart0 p).1 _ rfl
    repeat (first | refine Walk.c rfl ?_ | refine Walk.cRet ?_ | refine Walk.cEnd ?_ | (refine Walk.cReg ?_; simp only [size75_0, size75_1, size75_2, size75_3, size75_4, size75_5, size75_6, size75_7, size75_8, size75_9, size75_10, size75_11, size75_12, size75_13, size75_14, size75_15, size75_16, size75_17, size75_18, size75_19, size75_20, size75_21, size75_22, List.range, List.range.loop]) | (refine Walk.oq ?_; try walk_nrm) | (refine Walk.un ?_; walk_nrm))
    by_cases h1 : 0 ≤ cvv
    · by_cases h2 : cvv < L
      · rw [if_pos ⟨h1, h2⟩]
        (refine Walk.drawnC (by kernel_rfl) size75_21 (by kernel_rfl) (by kernel_rfl) (by decide) ?_; simp only [List.range, List.range.loop]; repeat (first | (refine Cm.opqA (ho_of (by conv => lhs; whnf) (by kernel_rfl)) (by rfl) (fun dd e he => ?_) ?_; (· (simp [go_sem, *] at he; try (subst he; exact evR_read _ _))); apply Exists.intro; apply And.intro; (· (intro dd K hK; go_simp; exact hK))) | (refine Cm.unw (ho_of (by conv => lhs; whnf) (by kernel_rfl)) (by rfl) ?_; walk_nrm)))
        refine Cm.done ?_
        repeat (first | refine Walk.c rfl ?_ | refine Walk.cRet ?_ | refine Walk.cEnd ?_ | (refine Walk.cReg ?_; simp only [size75_0, size75_1, size75_2, size75_3, size75_4, size75_5, size75_6, size75_7, size75_8, size75_9, size75_10, size75_11, size75_12, size75_13, size75_14, size75_15, size75_16, size75_17, size75_18, size75_19, size75_20, size75_21, size75_22, List.range, List.range.loop]) | (refine Walk.oq ?_; try walk_nrm) | (refine Walk.un ?_; walk_nrm))
        (refine Walk.os hf hy ?_; try walk_nrm)
        generalize w1.setCell ⟨p, 1, none⟩ (.int .i64 cvv) = w2 at *
        repeat (first | refine Walk.c rfl ?_ | refine Walk.cRet ?_ | refine Walk.cEnd ?_ | (refine Walk.cReg ?_; simp only [size75_0, size75_1, size75_2, size75_3, size75_4, size75_5, size75_6, size75_7, size75_8, size75_9, size75_10, size75_11, size75_12, size75_13, size75_14, size75_15, size75_16, size75_17, size75_18, size75_19, size75_20, size75_21, size75_22, List.range, List.range.loop]) | (refine Walk.oq ?_; try walk_nrm) | (refine Walk.un ?_; walk_nrm))
        exact (Walk.ret0 (Post := fun v w' => v = .tuple #[] ∧ ∃ d, w' = w2.at d) rfl rfl Try.func75 rfl fun d => ⟨rfl, d, rfl⟩).mono fun g w' ⟨v, ⟨hv, hd⟩, hg⟩ => ⟨by rw [hg, hv], hd⟩
      · rw [if_neg (fun h => h2 h.2)]
        (refine Walk.drawnC (by kernel_rfl) size75_21 (by kernel_rfl) (by kernel_rfl) (by decide) ?_; simp only [List.range, List.range.loop]; repeat (first | (refine Cm.opqA (ho_of (by conv => lhs; whnf) (by kernel_rfl)) (by rfl) (fun dd e he => ?_) ?_; (· (simp [go_sem, *] at he; try (subst he; exact evR_read _ _))); apply Exists.intro; apply And.intro; (· (intro dd K hK; go_simp; exact hK))) | (refine Cm.unw (ho_of (by conv => lhs; whnf) (by kernel_rfl)) (by rfl) ?_; walk_nrm)))
        refine Cm.done ?_
        repeat (first | refine Walk.c rfl ?_ | refine Walk.cRet ?_ | refine Walk.cEnd ?_ | (refine Walk.cReg ?_; simp only [size75_0, size75_1, size75_2, size75_3, size75_4, size75_5, size75_6, size75_7, size75_8, size75_9, size75_10, size75_11, size75_12, size75_13, size75_14, size75_15, size75_16, size75_17, size75_18, size75_19, size75_20, size75_21, size75_22, List.range, List.range.loop]) | (refine Walk.oq ?_; try walk_nrm) | (refine Walk.un ?_; walk_nrm))
        exact (Walk.ret0 (Post := fun v w' => v = .tuple #[] ∧ ∃ d, w' = w1.at d) rfl rfl Try.func75 rfl fun d => ⟨rfl, d, rfl⟩).mono fun g w' ⟨v, ⟨hv, hd⟩, hg⟩ => ⟨by rw [hg, hv], hd⟩
    · rw [if_neg (fun h => h1 h.1)]
      (refine Walk.drawnC (by kernel_rfl) size75_21 (by kernel_rfl) (by kernel_rfl) (by decide) ?_; simp only [List.range, List.range.loop]; repeat (first | (refine Cm.opqA (ho_of (by conv => lhs; whnf) (by kernel_rfl)) (by rfl) (fun dd e he => ?_) ?_; (· (simp [go_sem, *] at he; try (subst he; exact evR_read _ _))); apply Exists.intro; apply And.intro; (· (intro dd K hK; go_simp; exact hK))) | (refine Cm.unw (ho_of (by conv => lhs; whnf) (by kernel_rfl)) (by rfl) ?_; walk_nrm)))
      refine Cm.done ?_
      repeat (first | refine Walk.c rfl ?_ | refine Walk.cRet ?_ | refine Walk.cEnd ?_ | (refine Walk.cReg ?_; simp only [size75_0, size75_1, size75_2, size75_3, size75_4, size75_5, size75_6, size75_7, size75_8, size75_9, size75_10, size75_11, size75_12, size75_13, size75_14, size75_15, size75_16, size75_17, size75_18, size75_19, size75_20, size75_21, size75_22, List.range, List.range.loop]) | (refine Walk.oq ?_; try walk_nrm) | (refine Walk.un ?_; walk_nrm))
      exact (Walk.ret0 (Post := fun v w' => v = .tuple #[] ∧ ∃ d, w' = w1.at d) rfl rfl Try.func75 rfl fun d => ⟨rfl, d, rfl⟩).mono fun g w' ⟨v, ⟨hv, hd⟩, hg⟩ => ⟨by rw [hg, hv], hd⟩
  · clear hab two
    unfold at75
    repeat (first | refine Walk.c rfl ?_ | refine Walk.cRet ?_ | refine Walk.cEnd ?_ | (refine Walk.cReg ?_; simp only [size75_0, size75_1, size75_2, size75_3, size75_4, size75_5, size75_6, size75_7, size75_8, size75_9, size75_10, size75_11, size75_12, size75_13, size75_14, size75_15, size75_16, size75_17, size75_18, size75_19, size75_20, size75_21, size75_22, List.range, List.range.loop]) | (refine Walk.oq ?_; try walk_nrm) | (refine Walk.un ?_; walk_nrm))
    try simp only [hj]
    repeat (first | refine Walk.c rfl ?_ | refine Walk.cRet ?_ | refine Walk.cEnd ?_ | (refine Walk.cReg ?_; simp only [size75_0, size75_1, size75_2, size75_3, size75_4, size75_5, size75_6, size75_7, size75_8, size75_9, size75_10, size75_11, size75_12, size75_13, size75_14, size75_15, size75_16, size75_17, size75_18, size75_19, size75_20, size75_21, size75_22, List.range, List.range.loop]) | (refine Walk.oq ?_; try walk_nrm) | (refine Walk.un ?_; walk_nrm))
    (refine Walk.os hf hy ?_; try walk_nrm)
    clear hy hz hf x0 x4 hp
    generalize w.setCell ⟨p, 1, none⟩ (.int .i64 (-1)) = w1 at *
    have hy : w1.cell? ⟨p, 1, none⟩ = some (.int .i64 (-1)) := (cell_of hp1 1).trans rfl
    have h0 : w1.cell? ⟨p, 0, none⟩ = some (.slice ca L cc) := (cell_of hp1 0).trans rfl
    have hz := frozen_of hp1 1
    have hf : Free (fun _ => none) ⟨p, 1, none⟩ := (apart0 p).1 _ rfl
    repeat (first | refine Walk.c rfl ?_ | refine Walk.cRet ?_ | refine Walk.cEnd ?_ | (refine Walk.cReg ?_; simp only [size75_0, size75_1, size75_2, size75_3, size75_4, size75_5, size75_6, size75_7, size75_8, size75_9, size75_10, size75_11, size75_12, size75_13, size75_14, size75_15, size75_16, size75_17, size75_18, size75_19, size75_20, size75_21, size75_22, List.range, List.range.loop]) | (refine Walk.oq ?_; try walk_nrm) | (refine Walk.un ?_; walk_nrm))
    by_cases h1 : 0 ≤ cvv
    · by_cases h2 : cvv < L
      · rw [if_pos ⟨h1, h2⟩]
        (refine Walk.drawnC (by kernel_rfl) size75_21 (by kernel_rfl) (by kernel_rfl) (by decide) ?_; simp only [List.range, List.range.loop]; repeat (first | (refine Cm.opqA (ho_of (by conv => lhs; whnf) (by kernel_rfl)) (by rfl) (fun dd e he => ?_) ?_; (· (simp [go_sem, *] at he; try (subst he; exact evR_read _ _))); apply Exists.intro; apply And.intro; (· (intro dd K hK; go_simp; exact hK))) | (refine Cm.unw (ho_of (by conv => lhs; whnf) (by kernel_rfl)) (by rfl) ?_; walk_nrm)))
        refine Cm.done ?_
        repeat (first | refine Walk.c rfl ?_ | refine Walk.cRet ?_ | refine Walk.cEnd ?_ | (refine Walk.cReg ?_; simp only [size75_0, size75_1, size75_2, size75_3, size75_4, size75_5, size75_6, size75_7, size75_8, size75_9, size75_10, size75_11, size75_12, size75_13, size75_14, size75_15, size75_16, size75_17, size75_18, size75_19, size75_20, size75_21, size75_22, List.range, List.range.loop]) | (refine Walk.oq ?_; try walk_nrm) | (refine Walk.un ?_; walk_nrm))
        (refine Walk.os hf hy ?_; try walk_nrm)
        generalize w1.setCell ⟨p, 1, none⟩ (.int .i64 cvv) = w2 at *
        repeat (first | refine Walk.c rfl ?_ | refine Walk.cRet ?_ | refine Walk.cEnd ?_ | (refine Walk.cReg ?_; simp only [size75_0, size75_1, size75_2, size75_3, size75_4, size75_5, size75_6, size75_7, size75_8, size75_9, size75_10, size75_11, size75_12, size75_13, size75_14, size75_15, size75_16, size75_17, size75_18, size75_19, size75_20, size75_21, size75_22, List.range, List.range.loop]) | (refine Walk.oq ?_; try walk_nrm) | (refine Walk.un ?_; walk_nrm))
        exact (Walk.ret0 (Post := fun v w' => v = .tuple #[] ∧ ∃ d, w' = w2.at d) rfl rfl Try.func75 rfl fun d => ⟨rfl, d, rfl⟩).mono fun g w' ⟨v, ⟨hv, hd⟩, hg⟩ => ⟨by rw [hg, hv], hd⟩
      · rw [if_neg (fun h => h2 h.2)]
        (refine Walk.drawnC (by kernel_rfl) size75_21 (by kernel_rfl) (by kernel_rfl) (by decide) ?_; simp only [List.range, List.range.loop]; repeat (first | (refine Cm.opqA (ho_of (by conv => lhs; whnf) (by kernel_rfl)) (by rfl) (fun dd e he => ?_) ?_; (· (simp [go_sem, *] at he; try (subst he; exact evR_read _ _))); apply Exists.intro; apply And.intro; (· (intro dd K hK; go_simp; exact hK))) | (refine Cm.unw (ho_of (by conv => lhs; whnf) (by kernel_rfl)) (by rfl) ?_; walk_nrm)))
        refine Cm.done ?_
        repeat (first | refine Walk.c rfl ?_ | refine Walk.cRet ?_ | refine Walk.cEnd ?_ | (refine Walk.cReg ?_; simp only [size75_0, size75_1, size75_2, size75_3, size75_4, size75_5, size75_6, size75_7, size75_8, size75_9, size75_10, size75_11, size75_12, size75_13, size75_14, size75_15, size75_16, size75_17, size75_18, size75_19, size75_20, size75_21, size75_22, List.range, List.range.loop]) | (refine Walk.oq ?_; try walk_nrm) | (refine Walk.un ?_; walk_nrm))
        exact (Walk.ret0 (Post := fun v w' => v = .tuple #[] ∧ ∃ d, w' = w1.at d) rfl rfl Try.func75 rfl fun d => ⟨rfl, d, rfl⟩).mono fun g w' ⟨v, ⟨hv, hd⟩, hg⟩ => ⟨by rw [hg, hv], hd⟩
    · rw [if_neg (fun h => h1 h.1)]
      (refine Walk.drawnC (by kernel_rfl) size75_21 (by kernel_rfl) (by kernel_rfl) (by decide) ?_; simp only [List.range, List.range.loop]; repeat (first | (refine Cm.opqA (ho_of (by conv => lhs; whnf) (by kernel_rfl)) (by rfl) (fun dd e he => ?_) ?_; (· (simp [go_sem, *] at he; try (subst he; exact evR_read _ _))); apply Exists.intro; apply And.intro; (· (intro dd K hK; go_simp; exact hK))) | (refine Cm.unw (ho_of (by conv => lhs; whnf) (by kernel_rfl)) (by rfl) ?_; walk_nrm)))
      refine Cm.done ?_
      repeat (first | refine Walk.c rfl ?_ | refine Walk.cRet ?_ | refine Walk.cEnd ?_ | (refine Walk.cReg ?_; simp only [size75_0, size75_1, size75_2, size75_3, size75_4, size75_5, size75_6, size75_7, size75_8, size75_9, size75_10, size75_11, size75_12, size75_13, size75_14, size75_15, size75_16, size75_17, size75_18, size75_19, size75_20, size75_21, size75_22, List.range, List.range.loop]) | (refine Walk.oq ?_; try walk_nrm) | (refine Walk.un ?_; walk_nrm))
      exact (Walk.ret0 (Post := fun v w' => v = .tuple #[] ∧ ∃ d, w' = w1.at d) rfl rfl Try.func75 rfl fun d => ⟨rfl, d, rfl⟩).mono fun g w' ⟨v, ⟨hv, hd⟩, hg⟩ => ⟨by rw [hg, hv], hd⟩
end
section
section
variable {X : Type} {A : Abs X} {F st : X × List Nat} {sl : List Int} {p rd : Nat}
structure Ahead (A : Abs X) (F : X × List Nat) (sl : List Int) (p rd : Nat) (st : X × List Nat) : Prop where
  run : ∃ f x, x ≤ A.n ∧ rd % A.n = x % A.n ∧ F = restA A f ((List.range' x (A.n - x)).foldl (fun st i => stepA A st (i : Nat)) ((sl.drop p).foldl (stepA A) st)) ∧
    A.most ≤ (((List.range' x (A.n - x)).foldl (fun st i => stepA A st (i : Nat)) ((sl.drop p).foldl (stepA A) st)).2.length + f : Nat)
  le : p ≤ sl.length
  short : (st.2.length : Int) ≤ A.most
theorem over_stay (h : overA A st = true) (z : Int) : stepA A st z = st := by
  unfold stepA
  rw [if_neg]
  rintro ⟨h', _⟩
  rw [h] at h'; cases h'
theorem over_folds (h : overA A st = true) : ∀ l : List Int, l.foldl (stepA A) st = st
  | [] => rfl
  | z :: l => by rw [List.foldl_cons, over_stay h]; exact over_folds h l
theorem over_foldn (h : overA A st = true) : ∀ l : List Nat, l.foldl (fun st i => stepA A st (i : Nat)) st = st
  | [] => rfl
  | z :: l => by rw [List.foldl_cons, over_stay h]; exact over_foldn h l
theorem step_yes (h : overA A st = false) {i : Nat} (hi : i < A.n) (ho : A.out st.1 i = none) : stepA A st (i : Nat) = (A.next st.1 i, st.2 ++ [i]) := by
  unfold stepA
  rw [if_pos ⟨h, by omega, by omega, by simpa using ho⟩]
  simp
theorem step_no {z : Int} (h : ¬ (0 ≤ z ∧ z < A.n ∧ A.out st.1 z.toNat = none)) : stepA A st z = st := by
  unfold stepA
  rw [if_neg]
  rintro ⟨_, h'⟩
  exact h h'
theorem over_len (h : overA A st = false) : (st.2.length : Int) < A.most ∧ ∃ j, j < A.n ∧ A.out st.1 j = none := by
  unfold overA at h
  simp only [Bool.or_eq_false_iff, decide_eq_false_iff_not] at h
  refine ⟨by omega, ?_⟩
  have : 0 < goingA A st.1 := by omega
  obtain ⟨j, hj, ho⟩ := List.countP_pos_iff.1 this
  exact ⟨j, List.mem_range.1 hj, by simpa using ho⟩
theorem step_short (h : (st.2.length : Int) ≤ A.most) (z : Int) : ((stepA A st z).2.length : Int) ≤ A.most := by
  unfold stepA
  split
  · next h' => have := (over_len h'.1).1; simp; omega
  · exact h
theorem ahead_start (h0 : 0 ≤ A.most) (x : X) : Ahead A (followA A (x, []) sl) sl 0 0 (x, []) := by
  refine ⟨⟨A.most.toNat, A.n, Nat.le_refl _, by simp, ?_, ?_⟩, Nat.zero_le _, by simpa using h0⟩
  · rw [Nat.sub_self]; rfl
  · rw [Nat.sub_self]
    show A.most ≤ ((_ + A.most.toNat : Nat) : Int)
    omega
theorem Ahead.done (H : Ahead A F sl p rd st) (h : overA A st = true) : F = st := by
  obtain ⟨f, x, _, _, h3, _⟩ := H.run
  rw [h3, over_folds h, over_foldn h]
  cases f with
  | zero => rfl
  | succ f => exact rest_off _ h
theorem Ahead.take (H : Ahead A F sl p rd st) {z : Int} (hz : sl[p]? = some z) : Ahead A F sl (p + 1) rd (stepA A st z) := by
  obtain ⟨f, x, h1, h2, h3, h4⟩ := H.run
  obtain ⟨hl, e⟩ := List.getElem?_eq_some_iff.1 hz
  have ed : sl.drop p = z :: sl.drop (p + 1) := by rw [← e]; exact List.drop_eq_getElem_cons hl
  rw [ed, List.foldl_cons] at h3 h4
  exact ⟨⟨f, x, h1, h2, h3, h4⟩, hl, step_short H.short z⟩
theorem Ahead.here (H : Ahead A F sl sl.length rd st) (h : overA A st = false) : ∃ f x, x < A.n ∧ rd % A.n = x ∧ F = restA A f ((List.range' x (A.n - x)).foldl (fun st i => stepA A st (i : Nat)) st) ∧
    A.most ≤ (((List.range' x (A.n - x)).foldl (fun st i => stepA A st (i : Nat)) st).2.length + f : Nat) := by
  obtain ⟨f, x, h1, h2, h3, h4⟩ := H.run
  have ed : sl.drop sl.length = [] := List.drop_length
  rw [ed] at h3 h4
  simp only [List.foldl_nil] at h3 h4
  obtain ⟨hm, j, hj, _⟩ := over_len h
  by_cases hx : x < A.n
  · exact ⟨f, x, hx, by rw [h2, Nat.mod_eq_of_lt hx], h3, h4⟩
  · have hx : x = A.n := by omega
    subst hx
    rw [Nat.sub_self] at h3 h4
    have h3 : F = restA A f st := h3
    have h4 : A.most ≤ (st.2.length + f : Nat) := h4
    obtain ⟨f', rfl⟩ : ∃ f', f = f' + 1 := ⟨f - 1, by omega⟩
    have e : (List.range' 0 (A.n - 0)).foldl (fun st i => stepA A st (i : Nat)) st = roundA A st := by
      unfold roundA
      rw [Nat.sub_zero, ← List.range_eq_range']
    refine ⟨f', 0, by omega, by rw [h2, Nat.mod_self], ?_, ?_⟩
    · rw [e, h3]; exact rest_on _ h
    · rw [e]
      have := roundA_one A h
      omega
theorem Ahead.turn (H : Ahead A F sl sl.length rd st) (h : overA A st = false) : Ahead A F sl sl.length (rd % A.n + 1) (stepA A st ((rd % A.n : Nat) : Int)) ∧ Ahead A F sl sl.length (rd + 1) (stepA A st ((rd % A.n : Nat) : Int)) := by
  obtain ⟨f, x, h1, h2, h3, h4⟩ := H.here h
  rw [h2]
  have e : List.range' x (A.n - x) = x :: List.range' (x + 1) (A.n - (x + 1)) := by
    obtain ⟨r, hr⟩ : ∃ r, A.n - x = r + 1 := ⟨A.n - x - 1, by omega⟩
    rw [hr, List.range'_succ]
    congr 2
    omega
  rw [e, List.foldl_cons] at h3 h4
  have ed : sl.drop sl.length = [] := List.drop_length
  refine ⟨⟨⟨f, x + 1, by omega, rfl, ?_, ?_⟩, Nat.le_refl _, step_short H.short _⟩, ⟨⟨f, x + 1, by omega, ?_, ?_, ?_⟩, Nat.le_refl _, step_short H.short _⟩⟩
  · rw [ed]; exact h3
  · rw [ed]; exact h4
  · rw [Nat.add_mod, h2, Nat.add_mod x 1, Nat.mod_eq_of_lt h1]
  · rw [ed]; exact h3
  · rw [ed]; exact h4
theorem over_far (h : overA A st = false) (rd : Nat) : ∃ k, k < A.n + A.n ∧ A.out st.1 ((rd + k) % A.n) = none := by
  obtain ⟨_, j, hj, ho⟩ := over_len h
  have hr := Nat.mod_lt rd (show 0 < A.n by omega)
  refine ⟨j + (A.n - rd % A.n), by omega, ?_⟩
  have e : rd + (j + (A.n - rd % A.n)) = j + A.n * (rd / A.n + 1) := by
    have := Nat.div_add_mod rd A.n
    rw [Nat.mul_add, Nat.mul_one]
    omega
  rw [e, Nat.add_mul_mod_self_left, Nat.mod_eq_of_lt hj]
  exact ho
end
end
end Go.Proofs.Ytgiiicdpbdfemaa
