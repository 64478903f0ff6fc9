/- Part 20. -/
import Derived.Test.YtgfajibjedfkdaaJO13
import Derived.Test.YtgfajibjedfkdaaJO19
set_option linter.unusedSimpArgs false
set_option linter.unusedVariables false
set_option linter.unusedVariables false
set_option maxHeartbeats 8000000
set_option maxRecDepth 100000
namespace Go.Proofs.Ytgfajibjedfkdaa
open Go.Conc Go.RowKit Go.Relay
open Go.ConcN (upd upd_ne upd_same)
theorem cvU8 (k : Int) (w : World) (es : Array Event) : (convert 5 2 (.int .u8 k)).run Try.prog w = .ok (.int .i64 (IntKind.i64.wrap k)) w ∧ (convert 5 2 (.int .u8 k)).events Try.prog w es = es := by
  have h := run_convert_int (P := Try.prog) (w := w) 5 2 .u8 k (by kernel_rfl) (by kernel_rfl)
  have h2 := events_convert_int (P := Try.prog) (w := w) 5 2 .u8 k (by kernel_rfl) (by kernel_rfl) es
  exact ⟨h, h2⟩
theorem huI64 : Try.prog.underlying 28 = some (.slice 2) := by kernel_rfl
theorem tiI64 : ∃ ti, Try.prog.info? 2 = some ti ∧ ti.size = 1 ∧ ti.zero = some (.int .i64 0) ∧ ti.bytes = 8 := by
  obtain ⟨ti, h⟩ := Option.isSome_iff_exists.1 (show (Try.prog.info? 2).isSome = true by kernel_rfl)
  have h2 : (Try.prog.info? 2).map (·.size) = some 1 := by kernel_rfl
  have h3 : (Try.prog.info? 2).map (·.zero) = some (some (.int .i64 0)) := by kernel_rfl
  have h4 : (Try.prog.info? 2).map (·.bytes) = some 8 := by kernel_rfl
  rw [h] at h2 h3 h4
  exact ⟨ti, h, Option.some.inj h2, Option.some.inj h3, Option.some.inj h4⟩
structure GrI (W0 : World) (R : Nat) (l : List Int) (v : Value) (w : World) : Prop where
  src : w.heap[R]? = some (.cells #[v, .int .i64 0] 30)
  row : w.ownsRow (R + 1) 2 1 v l.length (l.map fun z => .int .i64 z)
  old : ∀ b, b < R → w.heap[b]? = W0.heap[b]?
  lt : R < w.heap.size
theorem GrI.at {W0 : World} {R : Nat} {l : List Int} {v : Value} {w : World} (h : GrI W0 R l v w) (d : Nat) : GrI W0 R l v (w.at d) := ⟨h.src, row_same h.row fun _ _ => rfl, h.old, h.lt⟩
theorem GrI.shape {W0 : World} {R : Nat} {l : List Int} {v : Value} {w : World} (h : GrI W0 R l v w) : ∃ a c, v = .slice a l.length c := by
  rcases h.row.2 with ⟨e, e0⟩ | ⟨g, cap, cur, e, _⟩
  · exact ⟨none, 0, by rw [e, e0]⟩
  · exact ⟨_, _, e⟩
theorem GrI.num {W0 : World} {R : Nat} {l : List Int} {v : Value} {w : World} (h : GrI W0 R l v w) (hl : l ≠ []) : ∃ (b : Nat) (arr : Array Value) (c : Nat), v = .slice (some ⟨b, 0, none⟩) l.length c ∧ R < b ∧ w.heap[b]? = some (.cells arr 2) ∧ ∀ (j : Nat) (z : Int), l[j]? = some z → arr[j]? = some (.int .i64 z) := by
  rcases h.row.2 with ⟨e, e0⟩ | ⟨g, cap, cur, e, hb, hg, hle, hmx, hsz, ht⟩
  · exact absurd (List.eq_nil_of_length_eq_zero e0) hl
  · refine ⟨g, cur, cap, e, hb, hg, fun j z hj => ?_⟩
    have hlt := (List.getElem?_eq_some_iff.1 hj).1
    have h2 : (cur.toList.take (l.length * 1))[j]? = some (.int .i64 z) := by
      rw [ht, List.getElem?_map, hj]
      rfl
    rw [List.getElem?_take, if_pos (by omega)] at h2
    simpa using h2
section
section
variable {main : Bool} {V : Nat → Option Wait}
theorem newB_g (o0 : Option Nat) (l : List (Option Nat)) (ba : Option Addr) (bc : Nat) (hl : l.length ≤ 500) (hA : ∀ b, Apart V b) (w : World) (hb : SrcA ba l w) :
    CallW Try.prog main V 13 #[srcO o0, .slice ba l.length bc] w (fun v w' => ∃ bb g sc, v = .pointer (some ⟨bb, 0, none⟩) ∧ NewB w (kept (o0 :: l) (o0 :: l).length) bb g sc w' ∧ w.heap.size ≤ g) := by
  generalize hcv : srcO o0 = cv
  have s1 : (w.alloc (.cells #[cv] 32)).heap.size = w.heap.size + 1 := by simp
  have d1 := heap_alloc_new w (.cells #[cv] 32)
  have o1 : ∀ b, b < w.heap.size → (w.alloc (.cells #[cv] 32)).heap[b]? = w.heap[b]? := fun b hb => heap_new_lt _ _ hb
  obtain ⟨w1, hw1⟩ : ∃ w1, w.alloc (.cells #[cv] 32) = w1 := ⟨_, rfl⟩
  rw [hw1] at s1 d1 o1
  have s2 : (w1.alloc (.cells #[.slice (some ⟨w.heap.size, 0, none⟩) 1 1, .slice ba l.length bc] 25)).heap.size = w.heap.size + 2 := by simp [s1]
  have d2 := heap_alloc_new w1 (.cells #[.slice (some ⟨w.heap.size, 0, none⟩) 1 1, .slice ba l.length bc] 25)
  have o2 : ∀ b, b < w1.heap.size → (w1.alloc (.cells #[.slice (some ⟨w.heap.size, 0, none⟩) 1 1, .slice ba l.length bc] 25)).heap[b]? = w1.heap[b]? := fun b hb => heap_new_lt _ _ hb
  obtain ⟨w2, hw2⟩ : ∃ w2, w1.alloc (.cells #[.slice (some ⟨w.heap.size, 0, none⟩) 1 1, .slice ba l.length bc] 25) = w2 := ⟨_, rfl⟩
  rw [hw2] at s2 d2 o2
  rw [s1] at d2 o2
  have n1 : SrcA (some ⟨w.heap.size, 0, none⟩) [o0] w2 := fun j z hj => by
    cases j with
    | zero =>
      cases hj
      exact ⟨w.heap.size, 0, rfl, (cell_of ((o2 w.heap.size (by omega)).trans d1) 0).trans (by rw [hcv]; rfl)⟩
    | succ j => simp at hj
  have n2 : SrcA ba l w2 := hb.same fun b h => (o2 b (by omega)).trans (o1 b h)
  have hc := concatS_w (main := main) (V := V) (w.heap.size + 1) (some ⟨w.heap.size, 0, none⟩) ba [o0] l 1 bc (by simp) hl (by simp; omega) w2 d2 n1 n2 (fun b _ => hA b)
  have key : CallW Try.prog main V 13 #[cv, .slice ba l.length bc] w (fun v w' => ∃ g cap w3 d, (∃ w0, SbI w2.heap.size w2 g (1 + l.length) cap (o0 :: l) w0 ∧ (∃ f, DsM g (kept (o0 :: l) (o0 :: l).length).length cap f w3 ∧ ∀ k, k < (kept (o0 :: l) (o0 :: l).length).length → (kept (o0 :: l) (o0 :: l).length)[k]? = some (f k)) ∧ (∀ b, b ≠ g → w3.heap[b]? = w0.heap[b]?) ∧ w3.heap.size = w0.heap.size) ∧ v = .pointer (some ⟨w3.heap.size, 0, none⟩) ∧ w' = (w3.alloc (.cells #[.slice (some ⟨g, 0, none⟩) (kept (o0 :: l) (o0 :: l).length).length cap, .int .u32 0] 54)).at d) := by
    have hdel : ∀ g cap w0, SbI w2.heap.size w2 g (1 + l.length) cap (o0 :: l) w0 → CallW Try.prog main V 39 #[.slice (some ⟨g, 0, none⟩) (1 + l.length) cap, .func (.func 40) #[] #[]] w0 (fun v w3 => v = .slice (some ⟨g, 0, none⟩) (kept (o0 :: l) (o0 :: l).length).length cap ∧ (∃ f, DsM g (kept (o0 :: l) (o0 :: l).length).length cap f w3 ∧ ∀ k, k < (kept (o0 :: l) (o0 :: l).length).length → (kept (o0 :: l) (o0 :: l).length)[k]? = some (f k)) ∧ (∀ b, b ≠ g → w3.heap[b]? = w0.heap[b]?) ∧ w3.heap.size = w0.heap.size) := fun g cap w0 I => by
      have h := deleteS_w (main := main) (V := V) g cap (o0 :: l) (by simp; omega) (hA g) w0 (fun k => (o0 :: l).getD k none) (fun k hk => by rw [List.getD_eq_getElem?_getD, List.getElem?_eq_getElem hk]; rfl) I.ds
      rw [show (o0 :: l).length = 1 + l.length by simp [Nat.add_comm]] at h ⊢
      exact h
    have hc' : CallW Try.prog main V 38 #[.slice (some ⟨w.heap.size + 1, 0, none⟩) 2 2] w2 (fun v w' => ∃ g cap, v = .slice (some ⟨g, 0, none⟩) (1 + l.length) cap ∧ SbI w2.heap.size w2 g (1 + l.length) cap (o0 :: l) w') := hc
    have h := newB_o (main := main) (V := V) o0 ba l.length bc (1 + l.length) (kept (o0 :: l) (o0 :: l).length).length w (fun g cap w0 => SbI w2.heap.size w2 g (1 + l.length) cap (o0 :: l) w0) (fun g cap w3 => ∃ w0, SbI w2.heap.size w2 g (1 + l.length) cap (o0 :: l) w0 ∧ (∃ f, DsM g (kept (o0 :: l) (o0 :: l).length).length cap f w3 ∧ ∀ k, k < (kept (o0 :: l) (o0 :: l).length).length → (kept (o0 :: l) (o0 :: l).length)[k]? = some (f k)) ∧ (∀ b, b ≠ g → w3.heap[b]? = w0.heap[b]?) ∧ w3.heap.size = w0.heap.size) (by rw [hcv, hw1, hw2]; exact hc') (fun g cap w0 I => cw_imp' (hdel g cap w0 I) fun v w3 ⟨e, h1, h2, h3⟩ => ⟨e, w0, I, h1, h2, h3⟩)
    rw [hcv] at h
    exact h
  intro fr cs
  refine (key fr cs).mono ?_
  rintro gr w' ⟨v, ⟨g, cap, w3, d, ⟨w0, I, ⟨f, M, hf⟩, hO, hS⟩, rfl, rfl⟩, rfl⟩
  have hlt := I.lt
  have o3 : ∀ b, b < w3.heap.size → (w3.alloc (.cells #[.slice (some ⟨g, 0, none⟩) (kept (o0 :: l) (o0 :: l).length).length cap, .int .u32 0] 54)).heap[b]? = w3.heap[b]? := fun b hb => heap_new_lt _ _ hb
  refine ⟨_, ⟨w3.heap.size, g, cap, rfl, ⟨heap_alloc_new w3 _, by omega, ?_, M.le.1, fun b hb => ?_, ?_⟩, by omega⟩, rfl⟩
  · obtain ⟨cur, x1, x2, x3⟩ := M.row
    refine ⟨cur, (o3 g (by omega)).trans x1, fun i r hi => ?_⟩
    have hil := (List.getElem?_eq_some_iff.1 hi).1
    have h1 := hf i hil
    rw [hi] at h1
    rw [x3 i hil, ← Option.some.inj h1]
    rfl
  · exact (o3 b (by omega)).trans ((hO b (by omega)).trans ((I.old b (by omega)).trans ((o2 b (by omega)).trans (o1 b hb))))
  · show w.heap.size ≤ (w3.alloc _).heap.size
    simp
    omega
end
end
section
noncomputable def reg3_0 := rg Try.f3.body [0]
noncomputable def reg3_1 := rg Try.f3.body [1, 0, 0]
noncomputable def reg3_2 := rg Try.f3.body [1, 0, 1, 0, 0]
noncomputable def reg3_3 := rg Try.f3.body [1, 1, 0]
noncomputable def reg3_4 := rg Try.f3.body [1, 1, 1, 0]
noncomputable def reg3_5 := rg Try.f3.body [1, 1, 1, 1, 0, 0]
noncomputable def reg3_6 := rg Try.f3.body [1, 1, 1, 1, 0, 1, 0, 0, 0]
noncomputable def reg3_7 := rg Try.f3.body [1, 1, 1, 1, 0, 1, 0, 0, 1, 1, 0, 0, 0]
noncomputable def reg3_8 := rg Try.f3.body [1, 1, 1, 1, 0, 1, 0, 0, 1, 1, 0, 0, 1, 0]
noncomputable def reg3_9 := rg Try.f3.body [1, 1, 1, 1, 0, 1, 0, 0, 1, 1, 0, 0, 1, 1, 0]
noncomputable def reg3_10 := rg Try.f3.body [1, 1, 1, 1, 0, 1, 0, 0, 1, 1, 0, 0, 1, 1, 1, 0, 0]
noncomputable def reg3_11 := rg Try.f3.body [1, 1, 1, 1, 0, 1, 0, 0, 1, 1, 0, 0, 1, 1, 1, 0, 1, 0, 0, 0]
noncomputable def reg3_12 := rg Try.f3.body [1, 1, 1, 1, 0, 1, 0, 0, 1, 1, 0, 0, 1, 1, 1, 0, 1, 0, 0, 1, 1, 0, 0, 0]
noncomputable def reg3_13 := rg Try.f3.body [1, 1, 1, 1, 0, 1, 0, 0, 1, 1, 0, 0, 1, 1, 1, 0, 1, 0, 0, 1, 1, 0, 0, 1, 0]
noncomputable def reg3_14 := rg Try.f3.body [1, 1, 1, 1, 0, 1, 0, 0, 1, 1, 0, 0, 1, 1, 1, 0, 1, 0, 0, 1, 1, 0, 0, 1, 1]
noncomputable def reg3_15 := rg Try.f3.body [1, 1, 1, 1, 0, 1, 0, 0, 1, 1, 0, 0, 1, 1, 1, 0, 1, 0, 0, 1, 1, 1]
noncomputable def reg3_16 := rg Try.f3.body [1, 1, 1, 1, 0, 1, 0, 0, 1, 1, 0, 0, 1, 1, 1, 1, 0]
noncomputable def reg3_17 := rg Try.f3.body [1, 1, 1, 1, 0, 1, 0, 0, 1, 1, 0, 0, 1, 1, 1, 1, 1]
noncomputable def reg3_18 := rg Try.f3.body [1, 1, 1, 1, 0, 1, 0, 0, 1, 1, 1]
noncomputable def reg3_19 := rg Try.f3.body [1, 1, 1, 1, 1, 0]
noncomputable def reg3_20 := rg Try.f3.body [1, 1, 1, 1, 1, 1, 0, 0]
noncomputable def reg3_21 := rg Try.f3.body [1, 1, 1, 1, 1, 1, 0, 1, 0]
theorem size3_21 : reg3_21.size = 8 := by kernel_rfl
noncomputable def reg3_22 := rg Try.f3.body [1, 1, 1, 1, 1, 1, 1, 0]
noncomputable def reg3_23 := rg Try.f3.body [1, 1, 1, 1, 1, 1, 1, 1, 0]
noncomputable def reg3_24 := rg Try.f3.body [1, 1, 1, 1, 1, 1, 1, 1, 1, 0, 0]
noncomputable def reg3_25 := rg Try.f3.body [1, 1, 1, 1, 1, 1, 1, 1, 1, 0, 1, 0, 0, 0]
noncomputable def reg3_26 := rg Try.f3.body [1, 1, 1, 1, 1, 1, 1, 1, 1, 0, 1, 0, 0, 1, 1, 0, 0, 0]
noncomputable def reg3_27 := rg Try.f3.body [1, 1, 1, 1, 1, 1, 1, 1, 1, 0, 1, 0, 0, 1, 1, 0, 0, 1, 0, 0]
noncomputable def reg3_28 := rg Try.f3.body [1, 1, 1, 1, 1, 1, 1, 1, 1, 0, 1, 0, 0, 1, 1, 0, 0, 1, 0, 1, 0, 0]
noncomputable def reg3_29 := rg Try.f3.body [1, 1, 1, 1, 1, 1, 1, 1, 1, 0, 1, 0, 0, 1, 1, 0, 0, 1, 0, 1, 0, 1, 0, 0]
noncomputable def reg3_30 := rg Try.f3.body [1, 1, 1, 1, 1, 1, 1, 1, 1, 0, 1, 0, 0, 1, 1, 0, 0, 1, 0, 1, 1, 0]
theorem size3_30 : reg3_30.size = 9 := by kernel_rfl
noncomputable def reg3_31 := rg Try.f3.body [1, 1, 1, 1, 1, 1, 1, 1, 1, 0, 1, 0, 0, 1, 1, 0, 0, 1, 0, 1, 1, 1, 0, 0]
noncomputable def reg3_32 := rg Try.f3.body [1, 1, 1, 1, 1, 1, 1, 1, 1, 0, 1, 0, 0, 1, 1, 0, 0, 1, 1]
noncomputable def reg3_33 := rg Try.f3.body [1, 1, 1, 1, 1, 1, 1, 1, 1, 0, 1, 0, 0, 1, 1, 1]
noncomputable def reg3_34 := rg Try.f3.body [1, 1, 1, 1, 1, 1, 1, 1, 1, 1, 0]
noncomputable def reg3_35 := rg Try.f3.body [1, 1, 1, 1, 1, 1, 1, 1, 1, 1, 1, 0]
noncomputable def reg3_36 := rg Try.f3.body [1, 1, 1, 1, 1, 1, 1, 1, 1, 1, 1, 1, 0]
noncomputable def reg3_37 := rg Try.f3.body [1, 1, 1, 1, 1, 1, 1, 1, 1, 1, 1, 1, 1, 0, 0]
noncomputable def reg3_38 := rg Try.f3.body [1, 1, 1, 1, 1, 1, 1, 1, 1, 1, 1, 1, 1, 0, 1, 0, 0, 0]
noncomputable def reg3_39 := rg Try.f3.body [1, 1, 1, 1, 1, 1, 1, 1, 1, 1, 1, 1, 1, 0, 1, 0, 0, 1, 1, 0, 0, 0]
noncomputable def reg3_40 := rg Try.f3.body [1, 1, 1, 1, 1, 1, 1, 1, 1, 1, 1, 1, 1, 0, 1, 0, 0, 1, 1, 0, 0, 1]
noncomputable def reg3_41 := rg Try.f3.body [1, 1, 1, 1, 1, 1, 1, 1, 1, 1, 1, 1, 1, 0, 1, 0, 0, 1, 1, 1]
noncomputable def reg3_42 := rg Try.f3.body [1, 1, 1, 1, 1, 1, 1, 1, 1, 1, 1, 1, 1, 1, 0, 0, 0]
noncomputable def reg3_43 := rg Try.f3.body [1, 1, 1, 1, 1, 1, 1, 1, 1, 1, 1, 1, 1, 1, 0, 0, 1, 0, 0]
noncomputable def reg3_44 := rg Try.f3.body [1, 1, 1, 1, 1, 1, 1, 1, 1, 1, 1, 1, 1, 1, 0, 0, 1, 1, 0]
noncomputable def reg3_45 := rg Try.f3.body [1, 1, 1, 1, 1, 1, 1, 1, 1, 1, 1, 1, 1, 1, 0, 0, 1, 1, 1, 0, 0]
noncomputable def reg3_46 := rg Try.f3.body [1, 1, 1, 1, 1, 1, 1, 1, 1, 1, 1, 1, 1, 1, 0, 0, 1, 1, 1, 1, 0]
noncomputable def reg3_47 := rg Try.f3.body [1, 1, 1, 1, 1, 1, 1, 1, 1, 1, 1, 1, 1, 1, 0, 0, 1, 1, 1, 1, 1, 0, 0]
noncomputable def reg3_48 := rg Try.f3.body [1, 1, 1, 1, 1, 1, 1, 1, 1, 1, 1, 1, 1, 1, 1, 0]
noncomputable def reg3_49 := rg Try.f3.body [1, 1, 1, 1, 1, 1, 1, 1, 1, 1, 1, 1, 1, 1, 1, 1, 0]
noncomputable def reg3_50 := rg Try.f3.body [1, 1, 1, 1, 1, 1, 1, 1, 1, 1, 1, 1, 1, 1, 1, 1, 1, 0, 0]
noncomputable def reg3_51 := rg Try.f3.body [1, 1, 1, 1, 1, 1, 1, 1, 1, 1, 1, 1, 1, 1, 1, 1, 1, 0, 1, 0, 0]
noncomputable def reg3_52 := rg Try.f3.body [1, 1, 1, 1, 1, 1, 1, 1, 1, 1, 1, 1, 1, 1, 1, 1, 1, 1, 0]
noncomputable def reg3_53 := rg Try.f3.body [1, 1, 1, 1, 1, 1, 1, 1, 1, 1, 1, 1, 1, 1, 1, 1, 1, 1, 1, 0, 0]
noncomputable def reg3_54 := rg Try.f3.body [1, 1, 1, 1, 1, 1, 1, 1, 1, 1, 1, 1, 1, 1, 1, 1, 1, 1, 1, 0, 1, 0, 0]
noncomputable def reg3_55 := rg Try.f3.body [1, 1, 1, 1, 1, 1, 1, 1, 1, 1, 1, 1, 1, 1, 1, 1, 1, 1, 1, 1, 0, 0]
noncomputable def reg3_56 := rg Try.f3.body [1, 1, 1, 1, 1, 1, 1, 1, 1, 1, 1, 1, 1, 1, 1, 1, 1, 1, 1, 1, 0, 1, 0, 0]
noncomputable def reg3_57 := rg Try.f3.body [1, 1, 1, 1, 1, 1, 1, 1, 1, 1, 1, 1, 1, 1, 1, 1, 1, 1, 1, 1, 1, 0]
theorem z3 : List.range reg3_0.size = [0] ∧ List.range reg3_1.size = [0, 1] ∧ List.range reg3_2.size = [0] ∧ List.range reg3_3.size = [0] ∧ List.range reg3_4.size = [0] ∧ List.range reg3_5.size = [0, 1, 2, 3, 4, 5, 6] ∧ List.range reg3_6.size = [0] ∧ List.range reg3_7.size = [0, 1, 2] ∧ List.range reg3_8.size = [0, 1, 2] ∧ List.range reg3_9.size = [0] ∧ List.range reg3_10.size = [0, 1, 2] ∧ List.range reg3_11.size = [0] ∧ List.range reg3_12.size = [0, 1, 2] ∧ List.range reg3_13.size = [0, 1, 2, 3, 4, 5] ∧ List.range reg3_14.size = [0, 1, 2, 3, 4, 5, 6, 7, 8, 9, 10] ∧ List.range reg3_15.size = [0, 1] ∧ List.range reg3_16.size = [0, 1, 2, 3, 4] ∧ List.range reg3_17.size = [0, 1, 2, 3, 4, 5] ∧ List.range reg3_18.size = [0, 1] ∧ List.range reg3_19.size = [0] ∧ List.range reg3_20.size = [0, 1, 2] ∧ List.range reg3_21.size = [0, 1, 2, 3, 4, 5, 6, 7] ∧ List.range reg3_22.size = [0, 1, 2, 3] ∧ List.range reg3_23.size = [0, 1, 2, 3] ∧ List.range reg3_24.size = [0, 1, 2] ∧ List.range reg3_25.size = [0] ∧ List.range reg3_26.size = [0, 1] ∧ List.range reg3_27.size = [0, 1, 2, 3, 4, 5, 6, 7, 8, 9, 10, 11] ∧ List.range reg3_28.size = [0, 1, 2, 3, 4, 5, 6, 7, 8, 9, 10, 11] ∧ List.range reg3_29.size = [0] ∧ List.range reg3_30.size = [0, 1, 2, 3, 4, 5, 6, 7, 8] ∧ List.range reg3_31.size = [0] ∧ List.range reg3_32.size = [0, 1, 2, 3, 4, 5, 6, 7] ∧ List.range reg3_33.size = [0, 1] ∧ List.range reg3_34.size = [0, 1, 2] ∧ List.range reg3_35.size = [0, 1, 2, 3, 4, 5, 6, 7, 8, 9, 10, 11] ∧ List.range reg3_36.size = [0] ∧ List.range reg3_37.size = [0, 1, 2] ∧ List.range reg3_38.size = [0] ∧ List.range reg3_39.size = [0, 1, 2] ∧ List.range reg3_40.size = [0, 1, 2, 3, 4, 5, 6] ∧ List.range reg3_41.size = [0, 1] ∧ List.range reg3_42.size = [0, 1, 2, 3, 4, 5, 6] ∧ List.range reg3_43.size = [0, 1, 2, 3, 4, 5, 6, 7, 8, 9, 10, 11, 12, 13] ∧ List.range reg3_44.size = [0, 1, 2, 3] ∧ List.range reg3_45.size = [0, 1, 2, 3, 4, 5, 6, 7, 8, 9, 10, 11, 12, 13, 14, 15, 16, 17, 18, 19, 20, 21, 22, 23, 24, 25, 26, 27] ∧ List.range reg3_46.size = [0, 1, 2, 3, 4, 5, 6, 7, 8, 9, 10, 11, 12, 13, 14, 15, 16, 17, 18, 19] ∧ List.range reg3_47.size = [0] ∧ List.range reg3_48.size = [0, 1, 2, 3] ∧ List.range reg3_49.size = [0, 1, 2, 3, 4, 5, 6] ∧ List.range reg3_50.size = [0, 1] ∧ List.range reg3_51.size = [0, 1, 2, 3, 4, 5, 6, 7, 8, 9, 10, 11, 12, 13, 14, 15, 16, 17] ∧ List.range reg3_52.size = [0, 1, 2, 3, 4] ∧ List.range reg3_53.size = [0, 1, 2, 3, 4, 5, 6, 7, 8, 9, 10, 11, 12, 13, 14, 15, 16, 17, 18, 19, 20, 21, 22] ∧ List.range reg3_54.size = [0] ∧ List.range reg3_55.size = [0, 1] ∧ List.range reg3_56.size = [0, 1, 2, 3, 4, 5] ∧ List.range reg3_57.size = [0, 1, 2, 3] := by refine ⟨?_, ?_, ?_, ?_, ?_, ?_, ?_, ?_, ?_, ?_, ?_, ?_, ?_, ?_, ?_, ?_, ?_, ?_, ?_, ?_, ?_, ?_, ?_, ?_, ?_, ?_, ?_, ?_, ?_, ?_, ?_, ?_, ?_, ?_, ?_, ?_, ?_, ?_, ?_, ?_, ?_, ?_, ?_, ?_, ?_, ?_, ?_, ?_, ?_, ?_, ?_, ?_, ?_, ?_, ?_, ?_, ?_, ?_⟩ <;> kernel_rfl
theorem code3_is : Try.f3.body = some (.seq (.region 0 reg3_0 false) (.seq (.seq (.region 1 reg3_1 false) (.cond (.tmp 31 ) (.seq (.region 2 reg3_2 false) (.ret)) (.skip))) (.seq (.region 3 reg3_3 false) (.seq (.region 4 reg3_4 false) (.seq (.seq (.region 5 reg3_5 false) (.block 0 (.loop (.seq (.region 6 reg3_6 false) (.seq (.cond (.tmp 39 ) (.skip) (.exit 0)) (.seq (.block 1 (.seq (.region 7 reg3_7 false) (.seq (.region 8 reg3_8 false) (.seq (.region 9 reg3_9 false) (.seq (.seq (.region 10 reg3_10 false) (.block 2 (.loop (.seq (.region 11 reg3_11 false) (.seq (.cond (.tmp 47 ) (.skip) (.exit 2)) (.seq (.block 3 (.seq (.region 12 reg3_12 false) (.seq (.region 13 reg3_13 false) (.region 14 reg3_14 false)))) (.region 15 reg3_15 false))))))) (.seq (.region 16 reg3_16 false) (.region 17 reg3_17 false))))))) (.region 18 reg3_18 false))))))) (.seq (.region 19 reg3_19 false) (.seq (.seq (.region 20 reg3_20 false) (.cond (.tmp 78 ) (.region 21 reg3_21 true) (.skip))) (.seq (.region 22 reg3_22 false) (.seq (.region 23 reg3_23 false) (.seq (.seq (.region 24 reg3_24 false) (.block 4 (.loop (.seq (.region 25 reg3_25 false) (.seq (.cond (.tmp 94 ) (.skip) (.exit 4)) (.seq (.block 5 (.seq (.region 26 reg3_26 false) (.seq (.seq (.region 27 reg3_27 false) (.cond (.tmp 107 ) (.seq (.region 28 reg3_28 false) (.cond (.tmp 119 ) (.seq (.region 29 reg3_29 false) (.ret)) (.skip))) (.seq (.region 30 reg3_30 true) (.cond (.tmp 128 ) (.seq (.region 31 reg3_31 false) (.ret)) (.skip))))) (.region 32 reg3_32 false)))) (.region 33 reg3_33 false))))))) (.seq (.region 34 reg3_34 false) (.seq (.region 35 reg3_35 false) (.seq (.region 36 reg3_36 false) (.seq (.seq (.region 37 reg3_37 false) (.block 6 (.loop (.seq (.region 38 reg3_38 false) (.seq (.cond (.tmp 152 ) (.skip) (.exit 6)) (.seq (.block 7 (.seq (.region 39 reg3_39 false) (.region 40 reg3_40 false))) (.region 41 reg3_41 false))))))) (.seq (.block 8 (.seq (.region 42 reg3_42 false) (.cond (.tmp 162 ) (.seq (.region 43 reg3_43 false) (.ret)) (.seq (.region 44 reg3_44 false) (.cond (.tmp 182 ) (.seq (.region 45 reg3_45 false) (.ret)) (.seq (.region 46 reg3_46 false) (.cond (.tmp 213 ) (.seq (.region 47 reg3_47 false) (.ret)) (.skip)))))))) (.seq (.region 48 reg3_48 false) (.seq (.region 49 reg3_49 false) (.seq (.seq (.region 50 reg3_50 false) (.cond (.tmp 243 ) (.seq (.region 51 reg3_51 false) (.ret)) (.skip))) (.seq (.region 52 reg3_52 false) (.seq (.seq (.region 53 reg3_53 false) (.cond (.tmp 287 ) (.seq (.region 54 reg3_54 false) (.ret)) (.skip))) (.seq (.seq (.region 55 reg3_55 false) (.cond (.tmp 289 ) (.seq (.region 56 reg3_56 false) (.ret)) (.skip))) (.seq (.region 57 reg3_57 false) (.ret))))))))))))))))))))))) := by kernel_rfl
def hsO (nv : Value) (q tries way : Int) : Value × Value × Value × Value := (nv, .int .i64 q, .int .i64 tries, .int .i64 way)
noncomputable def hdOa (vo vb nv lv : Value) (q tries way : Int) (K i : Nat) (u : Nat → Value) : Frame :=
  (base 3).at { tmps := #[nv, .int .i64 q, .int .i64 tries, .int .i64 way, u 4, u 5, u 6, u 7, u 8, vo, vb, u 11, u 12, u 13, u 14, u 15, u 16, u 17, u 18, u 19, u 20, u 21, u 22, u 23, u 24, u 25, u 26, u 27, u 28, u 29, u 30, u 31, u 32, u 33, u 34, u 35, lv, .int .i64 K, .int .i64 i, u 39, u 40, u 41, u 42, u 43, u 44, u 45, u 46, u 47, u 48, u 49, u 50, u 51, u 52, u 53, u 54, u 55, u 56, u 57, u 58, u 59, u 60, u 61, u 62, u 63, u 64, u 65, u 66, u 67, u 68, u 69, u 70, u 71, u 72, u 73, u 74, u 75, u 76, u 77, u 78, u 79, u 80, u 81, u 82, u 83, u 84, u 85, u 86, u 87, u 88, u 89, u 90, u 91, u 92, u 93, u 94, u 95, u 96, u 97, u 98, u 99, u 100, u 101, u 102, u 103, u 104, u 105, u 106, u 107, u 108, u 109, u 110, u 111, u 112, u 113, u 114, u 115, u 116, u 117, u 118, u 119, u 120, u 121, u 122, u 123, u 124, u 125, u 126, u 127, u 128, u 129, u 130, u 131, u 132, u 133, u 134, u 135, u 136, u 137, u 138, u 139, u 140, u 141, u 142, u 143, u 144, u 145, u 146, u 147, u 148, u 149, u 150, u 151, u 152, u 153, u 154, u 155, u 156, u 157, u 158, u 159, u 160, u 161, u 162, u 163, u 164, u 165, u 166, u 167, u 168, u 169, u 170, u 171, u 172, u 173, u 174, u 175, u 176, u 177, u 178, u 179, u 180, u 181, u 182, u 183, u 184, u 185, u 186, u 187, u 188, u 189, u 190, u 191, u 192, u 193, u 194, u 195, u 196, u 197, u 198, u 199, u 200, u 201, u 202, u 203, u 204, u 205, u 206, u 207, u 208, u 209, u 210, u 211, u 212, u 213, u 214, u 215, u 216, u 217, u 218, u 219, u 220, u 221, u 222, u 223, u 224, u 225, u 226, u 227, u 228, u 229, u 230, u 231, u 232, u 233, u 234, u 235, u 236, u 237, u 238, u 239, u 240, u 241, u 242, u 243, u 244, u 245, u 246, u 247, u 248, u 249, u 250, u 251, u 252, u 253, u 254, u 255, u 256, u 257, u 258, u 259, u 260, u 261, u 262, u 263, u 264, u 265, u 266, u 267, u 268, u 269, u 270, u 271, u 272, u 273, u 274, u 275, u 276, u 277, u 278, u 279, u 280, u 281, u 282, u 283, u 284, u 285, u 286, u 287, u 288, u 289, u 290, u 291, u 292, u 293, u 294, u 295, u 296, u 297], defers := [] } [.code (.seq (.region 6 reg3_6 false) (.seq (.cond (.tmp 39 ) (.skip) (.exit 0)) (.seq (.block 1 (.seq (.region 7 reg3_7 false) (.seq (.region 8 reg3_8 false) (.seq (.region 9 reg3_9 false) (.seq (.seq (.region 10 reg3_10 false) (.block 2 (.loop (.seq (.region 11 reg3_11 false) (.seq (.cond (.tmp 47 ) (.skip) (.exit 2)) (.seq (.block 3 (.seq (.region 12 reg3_12 false) (.seq (.region 13 reg3_13 false) (.region 14 reg3_14 false)))) (.region 15 reg3_15 false))))))) (.seq (.region 16 reg3_16 false) (.region 17 reg3_17 false))))))) (.region 18 reg3_18 false)))), .inLoop (.seq (.region 6 reg3_6 false) (.seq (.cond (.tmp 39 ) (.skip) (.exit 0)) (.seq (.block 1 (.seq (.region 7 reg3_7 false) (.seq (.region 8 reg3_8 false) (.seq (.region 9 reg3_9 false) (.seq (.seq (.region 10 reg3_10 false) (.block 2 (.loop (.seq (.region 11 reg3_11 false) (.seq (.cond (.tmp 47 ) (.skip) (.exit 2)) (.seq (.block 3 (.seq (.region 12 reg3_12 false) (.seq (.region 13 reg3_13 false) (.region 14 reg3_14 false)))) (.region 15 reg3_15 false))))))) (.seq (.region 16 reg3_16 false) (.region 17 reg3_17 false))))))) (.region 18 reg3_18 false)))), .inBlock 0, .code (.seq (.region 19 reg3_19 false) (.seq (.seq (.region 20 reg3_20 false) (.cond (.tmp 78 ) (.region 21 reg3_21 true) (.skip))) (.seq (.region 22 reg3_22 false) (.seq (.region 23 reg3_23 false) (.seq (.seq (.region 24 reg3_24 false) (.block 4 (.loop (.seq (.region 25 reg3_25 false) (.seq (.cond (.tmp 94 ) (.skip) (.exit 4)) (.seq (.block 5 (.seq (.region 26 reg3_26 false) (.seq (.seq (.region 27 reg3_27 false) (.cond (.tmp 107 ) (.seq (.region 28 reg3_28 false) (.cond (.tmp 119 ) (.seq (.region 29 reg3_29 false) (.ret)) (.skip))) (.seq (.region 30 reg3_30 true) (.cond (.tmp 128 ) (.seq (.region 31 reg3_31 false) (.ret)) (.skip))))) (.region 32 reg3_32 false)))) (.region 33 reg3_33 false))))))) (.seq (.region 34 reg3_34 false) (.seq (.region 35 reg3_35 false) (.seq (.region 36 reg3_36 false) (.seq (.seq (.region 37 reg3_37 false) (.block 6 (.loop (.seq (.region 38 reg3_38 false) (.seq (.cond (.tmp 152 ) (.skip) (.exit 6)) (.seq (.block 7 (.seq (.region 39 reg3_39 false) (.region 40 reg3_40 false))) (.region 41 reg3_41 false))))))) (.seq (.block 8 (.seq (.region 42 reg3_42 false) (.cond (.tmp 162 ) (.seq (.region 43 reg3_43 false) (.ret)) (.seq (.region 44 reg3_44 false) (.cond (.tmp 182 ) (.seq (.region 45 reg3_45 false) (.ret)) (.seq (.region 46 reg3_46 false) (.cond (.tmp 213 ) (.seq (.region 47 reg3_47 false) (.ret)) (.skip)))))))) (.seq (.region 48 reg3_48 false) (.seq (.region 49 reg3_49 false) (.seq (.seq (.region 50 reg3_50 false) (.cond (.tmp 243 ) (.seq (.region 51 reg3_51 false) (.ret)) (.skip))) (.seq (.region 52 reg3_52 false) (.seq (.seq (.region 53 reg3_53 false) (.cond (.tmp 287 ) (.seq (.region 54 reg3_54 false) (.ret)) (.skip))) (.seq (.seq (.region 55 reg3_55 false) (.cond (.tmp 289 ) (.seq (.region 56 reg3_56 false) (.ret)) (.skip))) (.seq (.region 57 reg3_57 false) (.ret))))))))))))))))))]
noncomputable def hdOb (vo vb nv lv : Value) (q tries way : Int) (K i R : Nat) (s : Int) (bv : Value) (L j : Nat) (u : Nat → Value) : Frame :=
  (base 3).at { tmps := #[nv, .int .i64 q, .int .i64 tries, .int .i64 way, u 4, u 5, u 6, u 7, u 8, vo, vb, u 11, u 12, .pointer (some ⟨R, 0, none⟩), .int .i64 s, u 15, u 16, u 17, u 18, u 19, u 20, u 21, u 22, u 23, u 24, u 25, u 26, u 27, u 28, u 29, u 30, u 31, u 32, u 33, u 34, u 35, lv, .int .i64 K, .int .i64 i, u 39, u 40, u 41, u 42, u 43, bv, .int .i64 L, .int .i64 j, u 47, u 48, u 49, u 50, u 51, u 52, u 53, u 54, u 55, u 56, u 57, u 58, u 59, u 60, u 61, u 62, u 63, u 64, u 65, u 66, u 67, u 68, u 69, u 70, u 71, u 72, u 73, u 74, u 75, u 76, u 77, u 78, u 79, u 80, u 81, u 82, u 83, u 84, u 85, u 86, u 87, u 88, u 89, u 90, u 91, u 92, u 93, u 94, u 95, u 96, u 97, u 98, u 99, u 100, u 101, u 102, u 103, u 104, u 105, u 106, u 107, u 108, u 109, u 110, u 111, u 112, u 113, u 114, u 115, u 116, u 117, u 118, u 119, u 120, u 121, u 122, u 123, u 124, u 125, u 126, u 127, u 128, u 129, u 130, u 131, u 132, u 133, u 134, u 135, u 136, u 137, u 138, u 139, u 140, u 141, u 142, u 143, u 144, u 145, u 146, u 147, u 148, u 149, u 150, u 151, u 152, u 153, u 154, u 155, u 156, u 157, u 158, u 159, u 160, u 161, u 162, u 163, u 164, u 165, u 166, u 167, u 168, u 169, u 170, u 171, u 172, u 173, u 174, u 175, u 176, u 177, u 178, u 179, u 180, u 181, u 182, u 183, u 184, u 185, u 186, u 187, u 188, u 189, u 190, u 191, u 192, u 193, u 194, u 195, u 196, u 197, u 198, u 199, u 200, u 201, u 202, u 203, u 204, u 205, u 206, u 207, u 208, u 209, u 210, u 211, u 212, u 213, u 214, u 215, u 216, u 217, u 218, u 219, u 220, u 221, u 222, u 223, u 224, u 225, u 226, u 227, u 228, u 229, u 230, u 231, u 232, u 233, u 234, u 235, u 236, u 237, u 238, u 239, u 240, u 241, u 242, u 243, u 244, u 245, u 246, u 247, u 248, u 249, u 250, u 251, u 252, u 253, u 254, u 255, u 256, u 257, u 258, u 259, u 260, u 261, u 262, u 263, u 264, u 265, u 266, u 267, u 268, u 269, u 270, u 271, u 272, u 273, u 274, u 275, u 276, u 277, u 278, u 279, u 280, u 281, u 282, u 283, u 284, u 285, u 286, u 287, u 288, u 289, u 290, u 291, u 292, u 293, u 294, u 295, u 296, u 297], defers := [] } [.code (.seq (.region 11 reg3_11 false) (.seq (.cond (.tmp 47 ) (.skip) (.exit 2)) (.seq (.block 3 (.seq (.region 12 reg3_12 false) (.seq (.region 13 reg3_13 false) (.region 14 reg3_14 false)))) (.region 15 reg3_15 false)))), .inLoop (.seq (.region 11 reg3_11 false) (.seq (.cond (.tmp 47 ) (.skip) (.exit 2)) (.seq (.block 3 (.seq (.region 12 reg3_12 false) (.seq (.region 13 reg3_13 false) (.region 14 reg3_14 false)))) (.region 15 reg3_15 false)))), .inBlock 2, .code (.seq (.region 16 reg3_16 false) (.region 17 reg3_17 false)), .inBlock 1, .code (.region 18 reg3_18 false), .inLoop (.seq (.region 6 reg3_6 false) (.seq (.cond (.tmp 39 ) (.skip) (.exit 0)) (.seq (.block 1 (.seq (.region 7 reg3_7 false) (.seq (.region 8 reg3_8 false) (.seq (.region 9 reg3_9 false) (.seq (.seq (.region 10 reg3_10 false) (.block 2 (.loop (.seq (.region 11 reg3_11 false) (.seq (.cond (.tmp 47 ) (.skip) (.exit 2)) (.seq (.block 3 (.seq (.region 12 reg3_12 false) (.seq (.region 13 reg3_13 false) (.region 14 reg3_14 false)))) (.region 15 reg3_15 false))))))) (.seq (.region 16 reg3_16 false) (.region 17 reg3_17 false))))))) (.region 18 reg3_18 false)))), .inBlock 0, .code (.seq (.region 19 reg3_19 false) (.seq (.seq (.region 20 reg3_20 false) (.cond (.tmp 78 ) (.region 21 reg3_21 true) (.skip))) (.seq (.region 22 reg3_22 false) (.seq (.region 23 reg3_23 false) (.seq (.seq (.region 24 reg3_24 false) (.block 4 (.loop (.seq (.region 25 reg3_25 false) (.seq (.cond (.tmp 94 ) (.skip) (.exit 4)) (.seq (.block 5 (.seq (.region 26 reg3_26 false) (.seq (.seq (.region 27 reg3_27 false) (.cond (.tmp 107 ) (.seq (.region 28 reg3_28 false) (.cond (.tmp 119 ) (.seq (.region 29 reg3_29 false) (.ret)) (.skip))) (.seq (.region 30 reg3_30 true) (.cond (.tmp 128 ) (.seq (.region 31 reg3_31 false) (.ret)) (.skip))))) (.region 32 reg3_32 false)))) (.region 33 reg3_33 false))))))) (.seq (.region 34 reg3_34 false) (.seq (.region 35 reg3_35 false) (.seq (.region 36 reg3_36 false) (.seq (.seq (.region 37 reg3_37 false) (.block 6 (.loop (.seq (.region 38 reg3_38 false) (.seq (.cond (.tmp 152 ) (.skip) (.exit 6)) (.seq (.block 7 (.seq (.region 39 reg3_39 false) (.region 40 reg3_40 false))) (.region 41 reg3_41 false))))))) (.seq (.block 8 (.seq (.region 42 reg3_42 false) (.cond (.tmp 162 ) (.seq (.region 43 reg3_43 false) (.ret)) (.seq (.region 44 reg3_44 false) (.cond (.tmp 182 ) (.seq (.region 45 reg3_45 false) (.ret)) (.seq (.region 46 reg3_46 false) (.cond (.tmp 213 ) (.seq (.region 47 reg3_47 false) (.ret)) (.skip)))))))) (.seq (.region 48 reg3_48 false) (.seq (.region 49 reg3_49 false) (.seq (.seq (.region 50 reg3_50 false) (.cond (.tmp 243 ) (.seq (.region 51 reg3_51 false) (.ret)) (.skip))) (.seq (.region 52 reg3_52 false) (.seq (.seq (.region 53 reg3_53 false) (.cond (.tmp 287 ) (.seq (.region 54 reg3_54 false) (.ret)) (.skip))) (.seq (.seq (.region 55 reg3_55 false) (.cond (.tmp 289 ) (.seq (.region 56 reg3_56 false) (.ret)) (.skip))) (.seq (.region 57 reg3_57 false) (.ret))))))))))))))))))]
theorem huRis : Try.prog.underlying 24 = some (.slice 27) := by kernel_rfl
theorem tiRis : ∃ ti, Try.prog.info? 27 = some ti ∧ ti.size = 1 ∧ ti.zero = some (.pointer none) ∧ ti.bytes = 8 := by
  obtain ⟨ti, h⟩ := Option.isSome_iff_exists.1 (show (Try.prog.info? 27).isSome = true by kernel_rfl)
  have h2 : (Try.prog.info? 27).map (·.size) = some 1 := by kernel_rfl
  have h3 : (Try.prog.info? 27).map (·.zero) = some (some (.pointer none)) := by kernel_rfl
  have h4 : (Try.prog.info? 27).map (·.bytes) = some 8 := by kernel_rfl
  rw [h] at h2 h3 h4
  exact ⟨ti, h, Option.some.inj h2, Option.some.inj h3, Option.some.inj h4⟩
def risV (r : Nat) : Value := .pointer (some ⟨r, 0, none⟩)
def behL (rs : List Nat) : List Value := rs.flatMap fun r => [srcV r, .nilIface]
theorem behL_snoc (rs : List Nat) (r : Nat) : behL (rs ++ [r]) = behL rs ++ [srcV r, .nilIface] := by simp [behL]
def SrcI (r : Nat) (l : List Int) (hi : Nat) (w : World) : Prop := r < hi ∧ ∃ a c, w.heap[r]? = some (.cells #[.slice a l.length c, .int .i64 0] 30) ∧ (l ≠ [] → ∃ (b : Nat) (arr : Array Value), b < hi ∧ a = some ⟨b, 0, none⟩ ∧ w.heap[b]? = some (.cells arr 2) ∧ ∀ (j : Nat) (z : Int), l[j]? = some z → arr[j]? = some (.int .i64 z))
structure OwI (W0 : World) (rs : List Nat) (ll : Nat → List Int) (vo vb : Value) (hi : Nat) (w : World) : Prop where
  own : w.ownsRow W0.heap.size 27 1 vo rs.length (rs.map risV)
  beh : w.ownsRow W0.heap.size 32 1 vb (2 * rs.length) (behL rs)
  src : ∀ (i r : Nat), rs[i]? = some r → W0.heap.size ≤ r ∧ SrcI r (ll i) hi w
  nd : ∀ (i j r : Nat), rs[i]? = some r → rs[j]? = some r → i = j
  old : ∀ b, b < W0.heap.size → w.heap[b]? = W0.heap[b]?
  size : W0.heap.size ≤ w.heap.size
  le : hi ≤ w.heap.size
theorem SrcI.same {r : Nat} {l : List Int} {hi hi' : Nat} {w w' : World} (h : SrcI r l hi w) (hh : hi ≤ hi') (hb : ∀ (b : Nat) (x : Array Value) (t : TypeId), b < hi → t ≠ 27 → t ≠ 32 → w.heap[b]? = some (.cells x t) → w'.heap[b]? = some (.cells x t)) : SrcI r l hi' w' := by
  obtain ⟨h1, a, c, h2, h3⟩ := h
  refine ⟨by omega, a, c, hb _ _ _ h1 (by decide) (by decide) h2, fun hl => ?_⟩
  obtain ⟨b, arr, h4, e, h5, h6⟩ := h3 hl
  exact ⟨b, arr, by omega, e, hb _ _ _ h4 (by decide) (by decide) h5, h6⟩
theorem OwI.at {W0 : World} {rs : List Nat} {ll : Nat → List Int} {vo vb : Value} {hi : Nat} {w : World} (h : OwI W0 rs ll vo vb hi w) (d : Nat) : OwI W0 rs ll vo vb hi (w.at d) :=
  ⟨row_same h.own fun _ _ => rfl, row_same h.beh fun _ _ => rfl, fun i r hr => ⟨(h.src i r hr).1, (h.src i r hr).2.same (Nat.le_refl _) fun _ _ _ _ _ _ h => h⟩, h.nd, h.old, h.size, h.le⟩
theorem OwI.up {W0 : World} {rs : List Nat} {ll : Nat → List Int} {vo vb : Value} {hi : Nat} {w w' : World} (h : OwI W0 rs ll vo vb hi w) (hb : ∀ b, b < w.heap.size → w'.heap[b]? = w.heap[b]?) (hs : w.heap.size ≤ w'.heap.size) : OwI W0 rs ll vo vb w'.heap.size w' := by
  have hz := h.size
  have hl := h.le
  exact ⟨row_same h.own fun b e => hb b (h.own.lt b e).2, row_same h.beh fun b e => hb b (h.beh.lt b e).2, fun i r hr => ⟨(h.src i r hr).1, (h.src i r hr).2.same (by omega) fun b x t hlt _ _ e => (hb b (by omega)).trans e⟩, h.nd, fun b hlt => (hb b (by omega)).trans (h.old b hlt), by omega, Nat.le_refl _⟩
theorem row_far' {w w' : World} {base : Nat} {e t0 : TypeId} {size m : Nat} {v : Value} {xs : List Value} (h : w.ownsRow base e size v m xs) (he : e ≠ t0) (hb : ∀ (b : Nat) (cur : Array Value) (t : TypeId), t ≠ t0 → w.heap[b]? = some (.cells cur t) → w'.heap[b]? = some (.cells cur t)) : w'.ownsRow base e size v m xs := by
  refine row_same h fun g hg => ?_
  rcases h.2 with ⟨e1, _⟩ | ⟨g', cap, cur, e1, h1, h2, _⟩
  · rw [e1] at hg; cases hg
  · rw [e1] at hg
    cases hg
    exact (hb _ _ _ he h2).trans h2.symm
section
variable {main : Bool} {V : Nat → Option Wait}
theorem ob_go (hA : ∀ b, Apart V b) (R nb no L nc j : Nat) (vo vb nv lv : Value) (q tries way : Int) (K i : Nat) (s x : Int) (hx0 : 0 ≤ x) (hx1 : x < 256) (hj : j < L) (hL : L ≤ 1048576) (hs0 : 0 ≤ s) (hs1 : s ≤ 8 * j) (W0 : World) (l : List Int) (hl : l.length = j) (v : Value) (w : World) (I : GrI W0 R l v w) (hc : w.cell? ⟨nb, no + j, none⟩ = some (.int .u8 x)) (u : Nat → Value) (cs : List Frame) :
    Walk Try.prog main (DR V) (fun g w' => (∃ u, g = G (hdOb vo vb nv lv q tries way K i R (s + Int.tmod x 8) (.slice (some ⟨nb, no, none⟩) L nc) L (j + 1) u) cs) ∧ ∃ v', GrI W0 R (l ++ [s + Int.tmod x 8]) v' w') (G (hdOb vo vb nv lv q tries way K i R s (.slice (some ⟨nb, no, none⟩) L nc) L j u) cs) w := by
  have hi1 : decide ((j : Int) < L) = true := by simp; omega
  have hi3 : decide (j < L) = true := by simp; omega
  have hi4 : (j : Int) < L := by omega
  have hi0 : (0 : Int) ≤ j := by omega
  have hw1 : IntKind.wrap .i64 ((j : Int) + 1) = (j : Int) + 1 := by rw [IntKind.wrap_i64]; omega
  have h0 : 0 ≤ Int.tmod x 8 := Int.tmod_nonneg _ hx0
  have h1 : Int.tmod x 8 < 8 := Int.tmod_lt_of_pos _ (by decide)
  obtain ⟨y, hy⟩ : ∃ y, Int.tmod x 8 = y := ⟨_, rfl⟩
  rw [hy] at h0 h1 ⊢
  have hw8 : IntKind.wrap .u8 y = y := by rw [IntKind.wrap_u8]; omega
  have hwx : IntKind.wrap .i64 y = y := by rw [IntKind.wrap_i64]; omega
  have hws : IntKind.wrap .i64 (s + y) = s + y := by rw [IntKind.wrap_i64]; omega
  have hcc : ((j + 1 : Nat) : Int) = (j : Int) + 1 := by simp
  have hcv := fun w => (cvU8 y w #[]).1
  have hcv2 := fun w es => (cvU8 y w es).2
  rw [hwx] at hcv
  obtain ⟨ti, hti, htz, htv, htb⟩ := tiI64
  obtain ⟨a, c, rfl⟩ := I.shape
  have x0 : w.cell? ⟨R, 0, none⟩ = some (.slice a l.length c) := (cell_of I.src 0).trans rfl
  rw [hl] at x0
  have hRl := I.lt
  have hrow := I.row
  rw [hl] at hrow
  obtain ⟨t, ht⟩ : ∃ t, s + y = t := ⟨_, rfl⟩
  rw [ht] at hws ⊢
  clear h0 h1 hs0 hs1 hx0 hx1
  conv => arg 5; unfold hdOb
  repeat (first | refine Walk.cx ?_ | (refine Walk.cReg ?_; simp only [z3]) | (refine Walk.oq ?_; try walk_nrm) | (refine Walk.un ?_; walk_nrm))
  (refine Walk.oa ?_; try walk_nrm)
  have s1 : (w.alloc (.cells #[.int .i64 t] 2)).heap.size = w.heap.size + 1 := by simp
  have o1 : ∀ b, b < w.heap.size → (w.alloc (.cells #[.int .i64 t] 2)).heap[b]? = w.heap[b]? := fun b hb => heap_new_lt _ _ hb
  have d1 := heap_alloc_new w (.cells #[.int .i64 t] 2)
  have hrow1 := row_same (w' := w.alloc (.cells #[.int .i64 t] 2)) hrow fun b hb => o1 b (hrow.lt b hb).2
  have src1 := (o1 R hRl).trans I.src
  have old1 : ∀ b, b < R → (w.alloc (.cells #[.int .i64 t] 2)).heap[b]? = W0.heap[b]? := fun b hb => (o1 b (by omega)).trans (I.old b hb)
  have y0 : (w.alloc (.cells #[.int .i64 t] 2)).cell? ⟨w.heap.size, 0, none⟩ = some (.int .i64 t) := (cell_of d1 0).trans rfl
  obtain ⟨N, hN⟩ : ∃ N, w.heap.size = N := ⟨_, rfl⟩
  rw [hN] at s1 d1 y0 hRl ⊢
  generalize w.alloc (.cells #[.int .i64 t] 2) = w1 at *
  clear hrow I o1 x0 hc hcv hcv2 hwx hy hw8 hws ht
  repeat (first | (refine Walk.oq ?_; try walk_nrm) | (refine Walk.un ?_; walk_nrm))
  refine Walk.append (.tmp 59) (.tmp 61) 28 (ho_of (by conv => lhs; whnf) (by kernel_rfl)) (by rfl) (by decide) rfl (R + 1) 2 ti (.int .i64 0) 1 8 huI64 hti htv htz htb (by rfl) (by decide) (.slice a j c) j (l.map fun z => .int .i64 z) rfl hrow1 ⟨N, 0, none⟩ 1 1 [.int .i64 t] rfl (by simp) (fun k z hz => ?_) (fun z hz => ?_) (by omega) (by simp only [maxLen]; omega) (by omega) (by omega) (fun g hg => hA g) (fun g cap w2 hown hgr hat hlt => ?_)
  · cases k with
    | zero =>
      cases hz
      exact y0
    | succ k => simp at hz
  · simp at hz
    rw [hz]
    rfl
  have hgb : ∀ b, b < R + 1 → w2.heap[b]? = w1.heap[b]? := fun b hb => hgr.block b (by omega) fun e => by
    have := (hrow1.lt b e.symm).1
    omega
  have src2 := (hgb R (by omega)).trans src1
  have c2 : w2.cell? ⟨R, 0, none⟩ = some (.slice a l.length c) := (cell_of src2 0).trans rfl
  have z2 : w2.frozen? ⟨R, 0, none⟩ = false := frozen_of src2 0
  have hg1 : R + 1 ≤ g := (hown.lt g rfl).1
  have hG : GrI W0 R (l ++ [t]) (.slice (some ⟨g, 0, none⟩) (j + 1) cap) (w2.setCell ⟨R, 0, none⟩ (.slice (some ⟨g, 0, none⟩) (j + 1) cap)) := by
    refine ⟨?_, ?_, fun b hb => ?_, ?_⟩
    · rw [heap_set_self _ _ src2]
      simp
    · rw [show (l ++ [t]).length = j + 1 by simp [hl], List.map_append]
      exact row_same hown fun b hb => heap_set_other _ _ _ _ (fun e : b = R => by
        have := (hown.lt b hb).1
        omega)
    · exact (heap_set_other _ _ _ _ (fun e : b = R => by omega)).trans ((hgb b (by omega)).trans (old1 b hb))
    · rw [size_set]
      have := hgr.size
      omega
  clear hown hgr hat hlt hgb src2 src1 old1 hrow1 y0 d1 s1 hRl hg1
  walk_nrm
  repeat (first | (refine Walk.oq ?_; try walk_nrm) | (refine Walk.un ?_; walk_nrm))
  (have hfr := (hA R).1 ⟨R, 0, none⟩ rfl; refine Walk.os hfr c2 ?_; clear hfr; try walk_nrm)
  generalize w2.setCell ⟨R, 0, none⟩ (.slice (some ⟨g, 0, none⟩) (j + 1) cap) = w3 at *
  clear c2 z2
  repeat (first | refine Walk.cx ?_ | (refine Walk.cReg ?_; simp only [z3]) | (refine Walk.oq ?_; try walk_nrm) | (refine Walk.un ?_; walk_nrm))
  refine Walk.ctl rfl (fun w => stepG_inLoop) ?_
  refine .stop fun d => ⟨at_slots ?_, _, hG.at d⟩
  simp only [hdOb, hcc]
  rfl
theorem oa_in (ba : Option Addr) (L bc : Nat) (vo vb nv : Value) (q tries way : Int) (K i : Nat) (lb lo lc : Nat) (hi : i < K) (hK : K ≤ 5) (w : World) (hc : w.cell? ⟨lb, lo + i, none⟩ = some (.slice ba L bc)) (u : Nat → Value) (cs : List Frame) :
    Walk Try.prog main (DR V) (fun g w' => (∃ u, g = G (hdOb vo vb nv (.slice (some ⟨lb, lo, none⟩) K lc) q tries way K i w.heap.size 0 (.slice ba L bc) L 0 u) cs) ∧ GrI w w.heap.size [] (.slice none 0 0) w') (G (hdOa vo vb nv (.slice (some ⟨lb, lo, none⟩) K lc) q tries way K i u) cs) w := by
  have hi1 : decide ((i : Int) < K) = true := by simp; omega
  have hi3 : decide (i < K) = true := by simp; omega
  have hi4 : (i : Int) < K := by omega
  have hi0 : (0 : Int) ≤ i := by omega
  have s1 : (w.alloc (.cells #[.slice none 0 0, .int .i64 0] 30)).heap.size = w.heap.size + 1 := by simp
  have o1 : ∀ b, b < w.heap.size → (w.alloc (.cells #[.slice none 0 0, .int .i64 0] 30)).heap[b]? = w.heap[b]? := fun b hb => heap_new_lt _ _ hb
  have d1 := heap_alloc_new w (.cells #[.slice none 0 0, .int .i64 0] 30)
  have hG : GrI w w.heap.size [] (.slice none 0 0) (w.alloc (.cells #[.slice none 0 0, .int .i64 0] 30)) := ⟨d1, ⟨rfl, .inl ⟨rfl, rfl⟩⟩, o1, by omega⟩
  clear s1 o1 d1
  conv => arg 5; unfold hdOa
  repeat (first | refine Walk.cx ?_ | (refine Walk.cReg ?_; simp only [z3]) | (refine Walk.oq ?_; try walk_nrm) | (refine Walk.un ?_; walk_nrm))
  (refine Walk.oa ?_; try walk_nrm)
  generalize w.heap.size = R at *
  generalize w.alloc (.cells #[.slice none 0 0, .int .i64 0] 30) = w1 at *
  clear hc
  repeat (first | refine Walk.cx ?_ | (refine Walk.cReg ?_; simp only [z3]) | (refine Walk.oq ?_; try walk_nrm) | (refine Walk.un ?_; walk_nrm))
  refine Walk.ctl rfl (fun w => stepG_loop) ?_
  refine .stop fun d => ⟨at_slots ?_, hG.at d⟩
  simp only [hdOb]
  rfl
theorem GrI.srcI {W0 : World} {R : Nat} {l : List Int} {v : Value} {w : World} (h : GrI W0 R l v w) : SrcI R l w.heap.size w := by
  obtain ⟨a, c, rfl⟩ := h.shape
  refine ⟨h.lt, a, c, h.src, fun hl => ?_⟩
  obtain ⟨b, arr, c', e, _, h1, h2⟩ := h.num hl
  injection e with e _ _
  exact ⟨b, arr, (Array.getElem?_eq_some_iff.1 h1).1, e, h1, h2⟩
theorem ob_out (hA : ∀ b, Apart V b) (R : Nat) (vo vb nv lv bv : Value) (q tries way : Int) (K i : Nat) (hiK : i < K) (hK : K ≤ 5) (s : Int) (L : Nat) (W0 W1 : World) (rs : List Nat) (hrs : rs.length = i) (ll : Nat → List Int) (hR : W1.heap.size = R) (O : OwI W0 rs ll vo vb R W1) (l : List Int) (hll : ll i = l) (v : Value) (w : World) (I : GrI W1 R l v w) (u : Nat → Value) (cs : List Frame) :
    Walk Try.prog main (DR V) (fun g w' => ∃ vo' vb', (∃ u, g = G (hdOa vo' vb' nv lv q tries way K (i + 1) u) cs) ∧ OwI W0 (rs ++ [R]) ll vo' vb' w'.heap.size w') (G (hdOb vo vb nv lv q tries way K i R s bv L L u) cs) w := by
  have hi1 : decide ((L : Int) < L) = false := by simp
  have hi3 : decide (L < L) = false := by simp
  have hw1 : IntKind.wrap .i64 ((i : Int) + 1) = (i : Int) + 1 := by rw [IntKind.wrap_i64]; omega
  have hcc : ((i + 1 : Nat) : Int) = (i : Int) + 1 := by simp
  have r1 := run_ifaceR
  have r2 := ev_ifaceR
  obtain ⟨ti, hti, htz, htv, htb⟩ := tiRis
  obtain ⟨ti2, hti2, htz2, htv2, htb2⟩ := tiSrc
  have hlt := I.lt
  have hsrc := GrI.srcI I
  have hown : w.ownsRow W0.heap.size 27 1 vo i (rs.map risV) := by
    have h := row_same (w' := w) O.own fun b e => I.old b (by have := (O.own.lt b e).2; omega)
    rw [hrs] at h
    exact h
  have hbeh : w.ownsRow W0.heap.size 32 1 vb (2 * i) (behL rs) := by
    have h := row_same (w' := w) O.beh fun b e => I.old b (by have := (O.beh.lt b e).2; omega)
    rw [hrs] at h
    exact h
  have hold : ∀ b, b < W0.heap.size → w.heap[b]? = W0.heap[b]? := fun b hb => (I.old b (by have := O.size; omega)).trans (O.old b hb)
  have hz0 := O.size
  obtain ⟨oa, oc, rfl⟩ : ∃ a c, vo = .slice a i c := by
    rcases hown.2 with ⟨e, e0⟩ | ⟨g, cap, cur, e, _⟩
    · exact ⟨none, 0, by rw [e, e0]⟩
    · exact ⟨_, _, e⟩
  obtain ⟨ba, bc, rfl⟩ : ∃ a c, vb = .slice a (2 * i) c := by
    rcases hbeh.2 with ⟨e, e0⟩ | ⟨g, cap, cur, e, _⟩
    · exact ⟨none, 0, by rw [e, e0]⟩
    · exact ⟨_, _, e⟩
  conv => arg 5; unfold hdOb
  repeat (first | refine Walk.cx ?_ | (refine Walk.cReg ?_; simp only [z3]) | (refine Walk.oq ?_; try walk_nrm) | (refine Walk.un ?_; walk_nrm))
  (refine Walk.oa ?_; try walk_nrm)
  have s1 : (w.alloc (.cells #[.pointer (some ⟨R, 0, none⟩)] 27)).heap.size = w.heap.size + 1 := by simp
  have o1 : ∀ b, b < w.heap.size → (w.alloc (.cells #[.pointer (some ⟨R, 0, none⟩)] 27)).heap[b]? = w.heap[b]? := fun b hb => heap_new_lt _ _ hb
  have d1 := heap_alloc_new w (.cells #[.pointer (some ⟨R, 0, none⟩)] 27)
  have hown1 := row_same (w' := w.alloc (.cells #[.pointer (some ⟨R, 0, none⟩)] 27)) hown fun b hb => o1 b (hown.lt b hb).2
  have hbeh1 := row_same (w' := w.alloc (.cells #[.pointer (some ⟨R, 0, none⟩)] 27)) hbeh fun b hb => o1 b (hbeh.lt b hb).2
  have y0 : (w.alloc (.cells #[.pointer (some ⟨R, 0, none⟩)] 27)).cell? ⟨w.heap.size, 0, none⟩ = some (risV R) := (cell_of d1 0).trans rfl
  have cell1 : ∀ (b : Nat) (x : Array Value) (t : TypeId), w.heap[b]? = some (.cells x t) → (w.alloc (.cells #[.pointer (some ⟨R, 0, none⟩)] 27)).heap[b]? = some (.cells x t) := fun b x t e => (o1 b (Array.getElem?_eq_some_iff.1 e).1).trans e
  obtain ⟨N, hN⟩ : ∃ N, w.heap.size = N := ⟨_, rfl⟩
  rw [hN] at s1 o1 d1 y0 hlt hsrc ⊢
  generalize w.alloc (.cells #[.pointer (some ⟨R, 0, none⟩)] 27) = w1 at *
  clear hown hbeh
  repeat (first | (refine Walk.oq ?_; try walk_nrm) | (refine Walk.un ?_; walk_nrm))
  refine Walk.append (.tmp 66) (.tmp 68) 24 (ho_of (by conv => lhs; whnf) (by kernel_rfl)) (by rfl) (by decide) rfl W0.heap.size 27 ti (.pointer none) 1 8 huRis hti htv htz htb (by rfl) (by decide) (.slice oa i oc) i (rs.map risV) rfl hown1 ⟨N, 0, none⟩ 1 1 [risV R] rfl (by simp) (fun k z hz => ?_) (fun z hz => ?_) (by omega) (by simp only [maxLen]; omega) (by omega) (by omega) (fun g hg => hA g) (fun g cap w2 hown2 hgr hat hlt2 => ?_)
  · cases k with
    | zero =>
      cases hz
      exact y0
    | succ k => simp at hz
  · simp at hz
    rw [hz]
    rfl
  have hg2 := hown2.lt g rfl
  have hz2 := hgr.size
  have keep2 : ∀ (b : Nat) (x : Array Value) (t : TypeId), t ≠ 27 → w1.heap[b]? = some (.cells x t) → w2.heap[b]? = some (.cells x t) := fun b x t ht e => by
    refine (hgr.block b (Array.getElem?_eq_some_iff.1 e).1 fun e' => ?_).trans e
    rcases hown1.2 with ⟨e1, _⟩ | ⟨g', cap', cur, e1, _, hg', _⟩
    · rw [e1] at e'; cases e'
    · rw [e1] at e'
      cases e'
      rw [e] at hg'
      injection hg' with hg'
      injection hg' with _ hg'
      exact ht hg'
  have hbeh2 : w2.ownsRow W0.heap.size 32 1 (.slice ba (2 * i) bc) (2 * i) (behL rs) := row_far' hbeh1 (by decide) keep2
  have old2 : ∀ b, b < W0.heap.size → w2.heap[b]? = W0.heap[b]? := fun b hb => (hgr.block b (by omega) fun e => by
    have := (hown1.lt b e.symm).1
    omega).trans ((o1 b (by omega)).trans (hold b hb))
  have cell2 : ∀ (b : Nat) (x : Array Value) (t : TypeId), t ≠ 27 → w.heap[b]? = some (.cells x t) → w2.heap[b]? = some (.cells x t) := fun b x t ht e => keep2 b x t ht (cell1 b x t e)
  clear hown1 hbeh1 hgr hat keep2 cell1 o1 d1 y0 hold
  walk_nrm
  repeat (first | refine Walk.cx ?_ | (refine Walk.cReg ?_; simp only [z3]) | (refine Walk.oq ?_; try walk_nrm) | (refine Walk.un ?_; walk_nrm))
  (refine Walk.oa ?_; try walk_nrm)
  have s3 : (w2.alloc (.cells #[.iface 27 (.pointer (some ⟨R, 0, none⟩)), .nilIface] 32)).heap.size = w2.heap.size + 1 := by simp
  have o3 : ∀ b, b < w2.heap.size → (w2.alloc (.cells #[.iface 27 (.pointer (some ⟨R, 0, none⟩)), .nilIface] 32)).heap[b]? = w2.heap[b]? := fun b hb => heap_new_lt _ _ hb
  have d3 := heap_alloc_new w2 (.cells #[.iface 27 (.pointer (some ⟨R, 0, none⟩)), .nilIface] 32)
  obtain ⟨N3, hN3⟩ : ∃ N3, w2.heap.size = N3 := ⟨_, rfl⟩
  rw [hN3] at s3 o3 d3 hz2 hlt2 hg2 ⊢
  have hown3 := row_same (w' := w2.alloc (.cells #[.iface 27 (.pointer (some ⟨R, 0, none⟩)), .nilIface] 32)) hown2 fun b hb => o3 b (by have := (hown2.lt b hb).2; omega)
  have hbeh3 := row_same (w' := w2.alloc (.cells #[.iface 27 (.pointer (some ⟨R, 0, none⟩)), .nilIface] 32)) hbeh2 fun b hb => o3 b (by have := (hbeh2.lt b hb).2; omega)
  have y3 : ∀ (k : Nat) (z : Value), ([srcV R, .nilIface] : List Value)[k]? = some z → (w2.alloc (.cells #[.iface 27 (.pointer (some ⟨R, 0, none⟩)), .nilIface] 32)).cell? ⟨N3, k, none⟩ = some z := fun k z hz => (cell_of d3 k).trans (by
    match k, hz with
    | 0, hz => exact hz
    | 1, hz => exact hz
    | k + 2, hz => exact absurd hz (by simp))
  have cell3 : ∀ (b : Nat) (x : Array Value) (t : TypeId), t ≠ 27 → w.heap[b]? = some (.cells x t) → (w2.alloc (.cells #[.iface 27 (.pointer (some ⟨R, 0, none⟩)), .nilIface] 32)).heap[b]? = some (.cells x t) := fun b x t ht e => (o3 b (by have := (Array.getElem?_eq_some_iff.1 (cell2 b x t ht e)).1; omega)).trans (cell2 b x t ht e)
  have old3 : ∀ b, b < W0.heap.size → (w2.alloc (.cells #[.iface 27 (.pointer (some ⟨R, 0, none⟩)), .nilIface] 32)).heap[b]? = W0.heap[b]? := fun b hb => (o3 b (by omega)).trans (old2 b hb)
  generalize w2.alloc (.cells #[.iface 27 (.pointer (some ⟨R, 0, none⟩)), .nilIface] 32) = w3 at *
  clear hown2 hbeh2 old2 cell2 o3 d3
  repeat (first | (refine Walk.oq ?_; try walk_nrm) | (refine Walk.un ?_; walk_nrm))
  refine Walk.append (.tmp 70) (.tmp 73) 25 (ho_of (by conv => lhs; whnf) (by kernel_rfl)) (by rfl) (by decide) rfl W0.heap.size 32 ti2 .nilIface 1 16 huSrc hti2 htv2 htz2 htb2 (by rfl) (by decide) (.slice ba (2 * i) bc) (2 * i) (behL rs) rfl hbeh3 ⟨N3, 0, none⟩ 2 2 [srcV R, .nilIface] rfl (by simp) (fun k z hz => ?_) (fun z hz => ?_) (by omega) (by simp only [maxLen]; omega) (by omega) (by omega) (fun g hg => hA g) (fun g4 cap4 w4 hbeh4 hgr4 hat4 hlt4 => ?_)
  · rw [add_none, Nat.zero_add]
    exact y3 k z hz
  · simp at hz
    rcases hz with rfl | rfl <;> rfl
  have hz4 := hgr4.size
  have keep4 : ∀ (b : Nat) (x : Array Value) (t : TypeId), t ≠ 32 → w3.heap[b]? = some (.cells x t) → w4.heap[b]? = some (.cells x t) := fun b x t ht e => by
    refine (hgr4.block b (Array.getElem?_eq_some_iff.1 e).1 fun e' => ?_).trans e
    rcases hbeh3.2 with ⟨e1, _⟩ | ⟨g', cap', cur, e1, _, hg', _⟩
    · rw [e1] at e'; cases e'
    · rw [e1] at e'
      cases e'
      rw [e] at hg'
      injection hg' with hg'
      injection hg' with _ hg'
      exact ht hg'
  have hown4 : w4.ownsRow W0.heap.size 27 1 (.slice (some ⟨g, 0, none⟩) (i + 1) cap) (i + 1) (rs.map risV ++ [risV R]) := row_far' hown3 (by decide) keep4
  have hsr : ∀ (k r : Nat), rs[k]? = some r → W0.heap.size ≤ r ∧ SrcI r (ll k) R w := fun k r hk => ⟨(O.src k r hk).1, (O.src k r hk).2.same (Nat.le_refl _) fun b x t hb _ _ e => (I.old b hb).trans e⟩
  have hnd := O.nd
  have hO : OwI W0 (rs ++ [R]) ll (.slice (some ⟨g, 0, none⟩) (i + 1) cap) (.slice (some ⟨g4, 0, none⟩) (2 * i + 2) cap4) w4.heap.size w4 := by
    have el : (rs ++ [R]).length = i + 1 := by simp [hrs]
    refine ⟨?_, ?_, fun k r hk => ?_, fun k j r hk hj => ?_, fun b hb => ?_, by omega, Nat.le_refl _⟩
    · rw [el, List.map_append]
      exact hown4
    · rw [el, behL_snoc, show 2 * (i + 1) = 2 * i + 2 by omega]
      exact hbeh4
    · by_cases h : k < rs.length
      · rw [List.getElem?_append_left h] at hk
        refine ⟨(hsr k r hk).1, (hsr k r hk).2.same (by omega) fun b x t hb h1 h2 e => keep4 b x t h2 (cell3 b x t h1 e)⟩
      · have hkl := (List.getElem?_eq_some_iff.1 hk).1
        rw [el] at hkl
        obtain rfl : k = i := by omega
        rw [List.getElem?_append_right (by omega), hrs, Nat.sub_self] at hk
        cases hk
        refine ⟨by omega, ?_⟩
        rw [hll]
        exact hsrc.same (by omega) fun b x t hb h1 h2 e => keep4 b x t h2 (cell3 b x t h1 e)
    · have hkl := (List.getElem?_eq_some_iff.1 hk).1
      have hjl := (List.getElem?_eq_some_iff.1 hj).1
      rw [el] at hkl hjl
      have hne : ∀ (m : Nat), m < i → rs[m]? ≠ some R := fun m hm e => by
        have := (hsr m R e).2.1
        omega
      by_cases h1 : k < i
      · rw [List.getElem?_append_left (by omega)] at hk
        by_cases h2 : j < i
        · rw [List.getElem?_append_left (by omega)] at hj
          exact hnd k j r hk hj
        · rw [List.getElem?_append_right (by omega), show j - rs.length = 0 by omega] at hj
          cases hj
          exact absurd hk (hne k h1)
      · by_cases h2 : j < i
        · rw [List.getElem?_append_left (by omega)] at hj
          rw [List.getElem?_append_right (by omega), show k - rs.length = 0 by omega] at hk
          cases hk
          exact absurd hj (hne j h2)
        · omega
    · exact (hgr4.block b (by omega) fun e => by
        have := (hbeh3.lt b e.symm).1
        omega).trans (old3 b hb)
  clear hown3 hbeh3 hbeh4 hown4 hgr4 keep4 cell3 old3 y3 hsrc hsr hnd r1 r2 hg2 hlt2 hz2 s1 s3 hlt4 hat4
  walk_nrm
  repeat (first | refine Walk.cx ?_ | (refine Walk.cReg ?_; simp only [z3]) | (refine Walk.oq ?_; try walk_nrm) | (refine Walk.un ?_; walk_nrm))
  refine Walk.ctl rfl (fun w => stepG_inLoop) ?_
  refine .stop fun d => ⟨_, _, at_slots ?_, hO.at d⟩
  simp only [hdOa, hcc]
  rfl
end
end
end Go.Proofs.Ytgfajibjedfkdaa
