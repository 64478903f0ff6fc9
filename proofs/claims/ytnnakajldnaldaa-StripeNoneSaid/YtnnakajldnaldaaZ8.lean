/- Part 8. -/
import Derived.Test.YtnnakajldnaldaaZ6
import Derived.Test.YtnnakajldnaldaaZ7
set_option linter.unusedSimpArgs false
set_option linter.unusedVariables false
set_option maxHeartbeats 8000000
set_option maxRecDepth 100000
namespace Go.Proofs.Ytnnakajldnaldaa
open Go.Conc Go.RowKit Go.Relay
open Go.ConcN (upd upd_ne upd_same)
section
theorem none_in (ov : Value) (w : World) : Walk Try.prog true (DR (fun _ => none)) (fun g w' => ∃ fr, g = G (Frame.enter Try.prog 12 #[] .normal) [fr] ∧ (∃ d, w' = w.at d) ∧ ∀ w1,
      Walk Try.prog true (DR (fun _ => none)) (fun g w' => (∃ u, g = G (hdNon ov w1.heap.size (w1.heap.size + 1 + 1) 0 u) []) ∧ NonI w1.heap.size 0 none 0 (w1.heap.size + 1 + 1) (w1.heap.size + 1) (some ⟨w1.heap.size + 1, 0, none⟩) 0 1 sp0 w1 w') (G (fr.finish (.bool true)) []) w1)
    (G (Frame.enter Try.prog 10 #[ov] .normal) []) w := by
  rw [enter_at _ Try.func10 code10_is]
  simp only [Try.ntmps10, List.size_toArray, List.length_cons, List.length_nil, Nat.reduceAdd, Nat.reduceSub, Array.replicate_succ, Array.replicate_zero, List.push_toArray, List.append_toArray, List.nil_append, List.cons_append]
  repeat (first | refine Walk.c rfl ?_ | refine Walk.cRet ?_ | refine Walk.cEnd ?_ | (refine Walk.cReg ?_; simp only [size10_0, size10_1, size10_2, size10_3, size10_4, size10_5, size10_6, size10_8, size10_9, size10_10, size10_11, size10_12, size10_13, size10_14, size10_7, size10_15, List.range, List.range.loop]) | (refine Walk.oq ?_; try walk_nrm) | (refine Walk.un ?_; walk_nrm))
  refine Walk.callE (ho_of (by conv => lhs; whnf) (by kernel_rfl)) (by rfl) (by decide) rfl Try.func12 (by kernel_rfl) (by rfl) ?_
  walk_nrm
  refine .stop fun d => ⟨_, rfl, ⟨d, rfl⟩, fun w1 => ?_⟩
  refine Walk.finish (ho_of (by conv => lhs; whnf) (by kernel_rfl)) ?_
  walk_nrm
  repeat (first | refine Walk.c rfl ?_ | refine Walk.cRet ?_ | refine Walk.cEnd ?_ | (refine Walk.cReg ?_; simp only [size10_0, size10_1, size10_2, size10_3, size10_4, size10_5, size10_6, size10_8, size10_9, size10_10, size10_11, size10_12, size10_13, size10_14, size10_7, size10_15, List.range, List.range.loop]) | (refine Walk.oq ?_; try walk_nrm) | (refine Walk.un ?_; walk_nrm))
  (refine Walk.oa ?_; try walk_nrm)
  have s2 : (w1.alloc (.cells #[.int .i64 0, .slice none 0 0] 69)).heap.size = w1.heap.size + 1 := by simp
  have o2 : ∀ b, b < w1.heap.size → (w1.alloc (.cells #[.int .i64 0, .slice none 0 0] 69)).heap[b]? = w1.heap[b]? := fun b hb => heap_new_lt _ _ hb
  have d2 := heap_alloc_new w1 (.cells #[.int .i64 0, .slice none 0 0] 69)
  generalize hT : w1.heap.size = T at *
  generalize w1.alloc (.cells #[.int .i64 0, .slice none 0 0] 69) = x2 at *
  have hn1 := new_w (main := true) (V := fun _ => none) 1 x2
  rw [show stN 1 = 1 from rfl, s2] at hn1
  repeat (first | (refine Walk.oq ?_; try walk_nrm) | (refine Walk.un ?_; walk_nrm))
  refine Walk.callW (Post := fun v w' => v = .pointer (some ⟨T + 1 + 1, 0, none⟩) ∧ SpI (T + 1 + 1) (T + 1) 1 (some ⟨T + 1, 0, none⟩) (1 - 1) sp0 w' ∧ (∀ b, b < T + 1 → w'.heap[b]? = x2.heap[b]?) ∧ w'.heap.size = T + 1 + 2) ?_ (ho_of (by conv => lhs; whnf) (by kernel_rfl)) (by rfl) (by decide) rfl Try.func16 (by kernel_rfl) (by rfl) ?_
  · walk_nrm
    exact hn1
  rintro v w3 ⟨rfl, I3, O3, Z3⟩
  clear hn1
  walk_nrm
  have IK : SpI T 0 1 none 0 sp0 w3 := ⟨(O3 T (by omega)).trans d2, fun h => absurd h (by decide), fun h => absurd h (by decide), by decide⟩
  have N3 : NonI T 0 none 0 (T + 1 + 1) (T + 1) (some ⟨T + 1, 0, none⟩) 0 1 sp0 w1 w3 := ⟨IK, I3, fun b hb _ => (O3 b (by omega)).trans (o2 b (by omega)), by omega⟩
  repeat (first | refine Walk.c rfl ?_ | refine Walk.cRet ?_ | refine Walk.cEnd ?_ | (refine Walk.cReg ?_; simp only [size10_0, size10_1, size10_2, size10_3, size10_4, size10_5, size10_6, size10_8, size10_9, size10_10, size10_11, size10_12, size10_13, size10_14, size10_7, size10_15, List.range, List.range.loop]) | (refine Walk.oq ?_; try walk_nrm) | (refine Walk.un ?_; walk_nrm))
  refine Walk.ctl rfl (fun w => stepG_loop) ?_
  refine .stop fun d => ⟨at_slots ?_, N3.at d⟩
  simp only [hdNon]
  rfl
section
variable {kb kr : Nat} {kra : Option Addr} {krc lb lr : Nat} {lra : Option Addr} {lrc : Nat}
theorem none_loop (oa0 : Option Addr) (n0 tc : Nat) (l : List OpV) (hl : l.length = n0) (hn0 : n0 ≤ 17592186044416) (W0 : World) (T : TwoN kb kr lb lr 1)
    (hop : ∀ (j : Nat) (o : OpV), l[j]? = some o → ∃ b off, oa0 = some ⟨b, off, none⟩ ∧ OffN kb kr lb lr 1 b ∧ W0.cell? ⟨b, off + j * 4, none⟩ = some (.int .i64 o.k) ∧ W0.cell? ⟨b, off + j * 4 + 1, none⟩ = some (.int .i64 o.a) ∧ W0.cell? ⟨b, off + j * 4 + 2, none⟩ = some (.int .i64 o.b) ∧ W0.cell? ⟨b, off + j * 4 + 3, none⟩ = some (.int .i64 o.c)) :
    ∀ (r i : Nat) (w : World) (u : Nat → Value) (S : Sp), i + r = n0 → NonI kb kr kra krc lb lr lra lrc 1 S W0 w →
    Walk Try.prog true (DR (fun _ => none)) (fun g w' => Closing 10 2 (.bool true) g ∧ ∀ b, b < W0.heap.size → OffN kb kr lb lr 1 b → w'.heap[b]? = W0.heap[b]?) (G (hdNon (.slice oa0 n0 tc) kb lb i u) []) w := by
  intro r
  induction r with
  | zero =>
    intro i w u S hi I
    have hi : i = n0 := hi
    subst hi
    refine (none_end (.slice oa0 i tc) oa0 i tc rfl w u).mono ?_
    rintro g w' ⟨hC, d, rfl⟩
    exact ⟨hC, I.old⟩
  | succ r ih =>
    intro i w u S hi I
    have hil : i < l.length := by omega
    have ho : l[i]? = some l[i] := List.getElem?_eq_getElem hil
    generalize l[i] = o at ho
    obtain ⟨b, off, rfl, hOb, o0, o1, o2, o3⟩ := hop i o ho
    have hcell : ∀ {x y : Nat} {v : Value}, OffN kb kr lb lr 1 x → W0.cell? ⟨x, y, none⟩ = some v → w.cell? ⟨x, y, none⟩ = some v := fun {x y v} e h => (World.cell?_of_block (a := ⟨x, y, none⟩) (I.old x (cell_lt' h) e)).trans h
    refine (none_round b off n0 tc i S o (by omega) hn0 W0 w I T hOb (hcell hOb o0) (hcell hOb o1) (hcell hOb o2) (hcell hOb o3) [] u).then ?_
    rintro g w' ⟨⟨u', rfl⟩, I'⟩
    exact ih (i + 1) w' u' _ (by omega) I'
end
theorem none_all (oa0 : Option Addr) (n0 tc : Nat) (hn0 : n0 ≤ 17592186044416) (l : List OpV) (hl : l.length = n0) (W : World)
    (hop : ∀ (j : Nat) (o : OpV), l[j]? = some o → ∃ b off, oa0 = some ⟨b, off, none⟩ ∧ W.cell? ⟨b, off + j * 4, none⟩ = some (.int .i64 o.k) ∧ W.cell? ⟨b, off + j * 4 + 1, none⟩ = some (.int .i64 o.a) ∧ W.cell? ⟨b, off + j * 4 + 2, none⟩ = some (.int .i64 o.b) ∧ W.cell? ⟨b, off + j * 4 + 3, none⟩ = some (.int .i64 o.c)) :
    Runs (fun g w' => Closing 10 2 (.bool true) g ∧ ∀ b, b < W.heap.size → w'.heap[b]? = W.heap[b]?) (G (Frame.enter Try.prog 10 #[.slice oa0 n0 tc] .normal) []) W := by
  refine Runs.walk (none_in (.slice oa0 n0 tc) W) ?_
  rintro _ _ ⟨fr, rfl, ⟨d, rfl⟩, hB⟩
  refine Runs.then (fixed_run fr [] (W.at d)) ?_
  rintro _ w1 ⟨rfl, O1, Z1⟩
  have O1 : ∀ b, b < W.heap.size → w1.heap[b]? = W.heap[b]? := O1
  have Z1 : W.heap.size ≤ w1.heap.size := Z1
  have hB := hB w1
  generalize hT : w1.heap.size = T at *
  have off : ∀ b, b < T → OffN T 0 (T + 1 + 1) (T + 1) 1 b := fun b hb => ⟨fun h => by omega, fun h => by omega⟩
  have two : TwoN T 0 (T + 1 + 1) (T + 1) 1 := ⟨by omega, fun h => absurd h (by decide)⟩
  have hlp := fun w u (I : NonI T 0 none 0 (T + 1 + 1) (T + 1) (some ⟨T + 1, 0, none⟩) 0 1 sp0 w1 w) => none_loop oa0 n0 tc l hl hn0 w1 two (fun j o ho => by
    obtain ⟨b, off', e, c0, c1, c2, c3⟩ := hop j o ho
    have hbW := cell_lt' c0
    have hb := O1 b hbW
    exact ⟨b, off', e, off b (by omega), (World.cell?_of_block (a := ⟨b, _, none⟩) hb).trans c0, (World.cell?_of_block (a := ⟨b, _, none⟩) hb).trans c1, (World.cell?_of_block (a := ⟨b, _, none⟩) hb).trans c2, (World.cell?_of_block (a := ⟨b, _, none⟩) hb).trans c3⟩) n0 0 w u sp0 (by omega) I
  refine Runs.walk (hB.then ?_) (Stop := fun g w' => Closing 10 2 (.bool true) g ∧ ∀ b, b < w1.heap.size → OffN T 0 (T + 1 + 1) (T + 1) 1 b → w'.heap[b]? = w1.heap[b]?) ?_
  · rintro g w2 ⟨⟨u, rfl⟩, I2⟩
    exact hlp w2 u I2
  · rintro g w3 ⟨hC, hO⟩
    exact .now ⟨hC, fun b hb => (hO b (by omega) (off b (by omega))).trans (O1 b hb)⟩
end
end Go.Proofs.Ytnnakajldnaldaa
