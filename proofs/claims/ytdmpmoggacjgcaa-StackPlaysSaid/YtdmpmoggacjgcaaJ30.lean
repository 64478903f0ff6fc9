/- Part 30. -/
import Derived.Test.YtdmpmoggacjgcaaJ27
import Derived.Test.YtdmpmoggacjgcaaJ29
set_option linter.unusedSimpArgs false
set_option linter.unusedVariables false
set_option maxHeartbeats 8000000
set_option maxRecDepth 100000
namespace Go.Proofs.Ytdmpmoggacjgcaa
open Go.Conc Go.RowKit Go.Relay
open Go.ConcN (upd upd_ne upd_same)
noncomputable def reg12_0 := rg Try.f12.body [0]
noncomputable def reg12_1 := rg Try.f12.body [1, 0]
noncomputable def reg12_2 := rg Try.f12.body [1, 1, 0]
noncomputable def reg12_3 := rg Try.f12.body [1, 1, 1, 0]
theorem z12 : List.range reg12_0.size = [0] ∧ List.range reg12_1.size = [0, 1, 2, 3, 4, 5, 6, 7, 8, 9, 10, 11] ∧ List.range reg12_2.size = [0, 1, 2, 3, 4, 5, 6, 7] ∧ List.range reg12_3.size = [0, 1, 2, 3, 4] := by refine ⟨?_, ?_, ?_, ?_⟩ <;> kernel_rfl
theorem code12_is : Try.f12.body = some (.seq (.region 0 reg12_0 false) (.seq (.region 1 reg12_1 false) (.seq (.region 2 reg12_2 false) (.seq (.region 3 reg12_3 false) (.ret))))) := by kernel_rfl
def clA : Array Value := #[.int .i64 2, .int .i64 0, .int .i64 0, .int .i64 0]
def clB : Array Value := #[.int .i64 1, .int .i64 8, .int .i64 0, .int .i64 0, .int .i64 1, .int .i64 7, .int .i64 0, .int .i64 0, .int .i64 2, .int .i64 0, .int .i64 0, .int .i64 0, .int .i64 2, .int .i64 0, .int .i64 0, .int .i64 0, .int .i64 1, .int .i64 4, .int .i64 0, .int .i64 0]
def clC : Array Value := #[.int .i64 1, .int .i64 9, .int .i64 0, .int .i64 0]
def clH (T : Nat) : Array Value := #[.slice (some ⟨T + 1, 0, none⟩) 1 1, .slice (some ⟨T + 2, 0, none⟩) 5 5, .slice (some ⟨T + 3, 0, none⟩) 1 1]
def clOa (T : Nat) (i : Nat) : Option Addr := some ⟨T + 1 + i, 0, none⟩
def clLn (i : Nat) : Nat := if i = 1 then 5 else 1
theorem cl_ops {T : Nat} {w : World} (h1 : w.heap[T + 1]? = some (.cells clA 45)) (h2 : w.heap[T + 2]? = some (.cells clB 45)) (h3 : w.heap[T + 3]? = some (.cells clC 45)) (h4 : w.heap[T + 4]? = some (.cells (clH T) 37)) : OpsIn (T + 4) 0 3 (clOa T) clLn clLn clOps w := by
  refine ⟨fun i hi => ?_, fun i hi => Nat.le_refl _, fun i hi => .inr ⟨_, rfl⟩, fun i hi => ?_, fun i hi j o ho => ?_⟩
  · rw [Nat.zero_add]
    refine (cell_of h4 i).trans ?_
    match i, hi with
    | 0, _ => rfl
    | 1, _ => rfl
    | 2, _ => rfl
  · match i, hi with
    | 0, _ => rfl
    | 1, _ => rfl
    | 2, _ => rfl
  · refine ⟨T + 1 + i, 0, rfl, ?_⟩
    simp only [Nat.zero_add]
    match i, hi, ho with
    | 0, _, ho =>
      match j, ho with
      | 0, ho => cases ho; exact ⟨(cell_of h1 _).trans rfl, (cell_of h1 _).trans rfl, (cell_of h1 _).trans rfl, (cell_of h1 _).trans rfl⟩
      | j + 1, ho => exact absurd ho (by simp [clOps])
    | 1, _, ho =>
      match j, ho with
      | 0, ho => cases ho; exact ⟨(cell_of h2 _).trans rfl, (cell_of h2 _).trans rfl, (cell_of h2 _).trans rfl, (cell_of h2 _).trans rfl⟩
      | 1, ho => cases ho; exact ⟨(cell_of h2 _).trans rfl, (cell_of h2 _).trans rfl, (cell_of h2 _).trans rfl, (cell_of h2 _).trans rfl⟩
      | 2, ho => cases ho; exact ⟨(cell_of h2 _).trans rfl, (cell_of h2 _).trans rfl, (cell_of h2 _).trans rfl, (cell_of h2 _).trans rfl⟩
      | 3, ho => cases ho; exact ⟨(cell_of h2 _).trans rfl, (cell_of h2 _).trans rfl, (cell_of h2 _).trans rfl, (cell_of h2 _).trans rfl⟩
      | 4, ho => cases ho; exact ⟨(cell_of h2 _).trans rfl, (cell_of h2 _).trans rfl, (cell_of h2 _).trans rfl, (cell_of h2 _).trans rfl⟩
      | j + 5, ho => exact absurd ho (by simp [clOps])
    | 2, _, ho =>
      match j, ho with
      | 0, ho => cases ho; exact ⟨(cell_of h3 _).trans rfl, (cell_of h3 _).trans rfl, (cell_of h3 _).trans rfl, (cell_of h3 _).trans rfl⟩
      | j + 1, ho => exact absurd ho (by simp [clOps])
def ClBack (T : Nat) (fr c : Frame) (cs : List Frame) : Prop := ∀ (A na : Nat) (oo : Option Addr) (ol ok : Nat) (ta : Option Addr) (tl tc : Nat) (stuck : Bool) (w : World), w.heap[T]? = some (.cells #[.slice none 0 0, .slice none 0 0, .slice none 0 0, .bool false] 27) →
  Walk Try.prog true (DR (fun _ => none)) (fun g w' => g = G (c.finish (.agg #[.slice (some ⟨A, 0, none⟩) na na, .slice oo ol ok, .slice ta tl tc, .bool stuck])) cs ∧ (∀ b, b ≠ T → w'.heap[b]? = w.heap[b]?) ∧ w'.heap.size = w.heap.size)
    (G (fr.finish (.agg #[.slice (some ⟨A, 0, none⟩) na na, .slice oo ol ok, .slice ta tl tc, .bool stuck])) (c :: cs)) w
theorem classic_in (tg : Bool) (c : Frame) (cs : List Frame) (w : World) :
    Walk Try.prog true (DR (fun _ => none)) (fun g w' => ∃ fr sa sc, g = G (Frame.enter Try.prog 15 #[.int .i64 2, .bool tg, .slice (some ⟨w.heap.size + 4, 0, none⟩) 3 3, .slice sa clSl.length sc, .int .i64 200] .normal) (fr :: c :: cs) ∧ (∀ b, b < w.heap.size → w'.heap[b]? = w.heap[b]?) ∧ w.heap.size ≤ w'.heap.size ∧
        w'.heap[w.heap.size]? = some (.cells #[.slice none 0 0, .slice none 0 0, .slice none 0 0, .bool false] 27) ∧ OpsIn (w.heap.size + 4) 0 3 (clOa w.heap.size) clLn clLn clOps w' ∧ (∀ (j : Nat) (z : Int), clSl[j]? = some z → ∃ s so, sa = some ⟨s, so, none⟩ ∧ w'.cell? ⟨s, so + j, none⟩ = some (.int .i64 z)) ∧ ClBack w.heap.size fr c cs)
      (G (Frame.enter Try.prog 12 #[.bool tg] .normal) (c :: cs)) w := by
  have hA : ∀ b, Apart (fun _ => none) b := fun b => ⟨fun _ _ _ _ h => (by cases h), fun _ _ h => (by cases h)⟩
  rw [enter_at _ Try.func12 code12_is]
  simp only [Try.ntmps12, ez, Nat.reduceAdd, Nat.reduceSub]
  repeat (first | refine Walk.cx ?_ | (refine Walk.cReg ?_; simp only [z12]) | (refine Walk.oq ?_; try walk_nrm) | (refine Walk.un ?_; walk_nrm))
  (refine Walk.oa ?_; try walk_nrm)
  have s1 : (w.alloc (.cells #[.slice none 0 0, .slice none 0 0, .slice none 0 0, .bool false] 27)).heap.size = w.heap.size + 1 := by simp
  have o1 : ∀ b, b < w.heap.size → (w.alloc (.cells #[.slice none 0 0, .slice none 0 0, .slice none 0 0, .bool false] 27)).heap[b]? = w.heap[b]? := fun b hb => heap_new_lt _ _ hb
  have d1 := heap_alloc_new w (.cells #[.slice none 0 0, .slice none 0 0, .slice none 0 0, .bool false] 27)
  generalize hT : w.heap.size = T at *
  generalize w.alloc (.cells #[.slice none 0 0, .slice none 0 0, .slice none 0 0, .bool false] 27) = x1 at *
  repeat (first | refine Walk.cx ?_ | (refine Walk.cReg ?_; simp only [z12]) | (refine Walk.oq ?_; try walk_nrm) | (refine Walk.un ?_; walk_nrm))
  (refine Walk.oa ?_; try walk_nrm)
  have s2 : (x1.alloc (.cells clA 45)).heap.size = T + 2 := by simp [s1]
  have o2 : ∀ b, b < T + 1 → (x1.alloc (.cells clA 45)).heap[b]? = x1.heap[b]? := fun b hb => heap_new_lt _ _ (by omega)
  have d2 : (x1.alloc (.cells clA 45)).heap[T + 1]? = some (.cells clA 45) := s1 ▸ heap_alloc_new x1 (.cells clA 45)
  try simp only [s1]
  change Walk Try.prog true _ _ _ (x1.alloc (.cells clA 45))
  generalize x1.alloc (.cells clA 45) = x2 at *
  repeat (first | refine Walk.cx ?_ | (refine Walk.cReg ?_; simp only [z12]) | (refine Walk.oq ?_; try walk_nrm) | (refine Walk.un ?_; walk_nrm))
  (refine Walk.oa ?_; try walk_nrm)
  have s3 : (x2.alloc (.cells clB 45)).heap.size = T + 3 := by simp [s2]
  have o3 : ∀ b, b < T + 2 → (x2.alloc (.cells clB 45)).heap[b]? = x2.heap[b]? := fun b hb => heap_new_lt _ _ (by omega)
  have d3 : (x2.alloc (.cells clB 45)).heap[T + 2]? = some (.cells clB 45) := s2 ▸ heap_alloc_new x2 (.cells clB 45)
  try simp only [s2]
  change Walk Try.prog true _ _ _ (x2.alloc (.cells clB 45))
  generalize x2.alloc (.cells clB 45) = x3 at *
  repeat (first | refine Walk.cx ?_ | (refine Walk.cReg ?_; simp only [z12]) | (refine Walk.oq ?_; try walk_nrm) | (refine Walk.un ?_; walk_nrm))
  (refine Walk.oa ?_; try walk_nrm)
  have s4 : (x3.alloc (.cells clC 45)).heap.size = T + 4 := by simp [s3]
  have o4 : ∀ b, b < T + 3 → (x3.alloc (.cells clC 45)).heap[b]? = x3.heap[b]? := fun b hb => heap_new_lt _ _ (by omega)
  have d4 : (x3.alloc (.cells clC 45)).heap[T + 3]? = some (.cells clC 45) := s3 ▸ heap_alloc_new x3 (.cells clC 45)
  try simp only [s3]
  change Walk Try.prog true _ _ _ (x3.alloc (.cells clC 45))
  generalize x3.alloc (.cells clC 45) = x4 at *
  repeat (first | refine Walk.cx ?_ | (refine Walk.cReg ?_; simp only [z12]) | (refine Walk.oq ?_; try walk_nrm) | (refine Walk.un ?_; walk_nrm))
  (refine Walk.oa ?_; try walk_nrm)
  have s5 : (x4.alloc (.cells (clH T) 37)).heap.size = T + 5 := by simp [s4]
  have o5 : ∀ b, b < T + 4 → (x4.alloc (.cells (clH T) 37)).heap[b]? = x4.heap[b]? := fun b hb => heap_new_lt _ _ (by omega)
  have d5 : (x4.alloc (.cells (clH T) 37)).heap[T + 4]? = some (.cells (clH T) 37) := s4 ▸ heap_alloc_new x4 (.cells (clH T) 37)
  try simp only [s4]
  change Walk Try.prog true _ _ _ (x4.alloc (.cells (clH T) 37))
  generalize x4.alloc (.cells (clH T) 37) = x5 at *
  have H0 : MI x5 x5 [] none 0 := ⟨⟨rfl, .inl ⟨rfl, rfl⟩⟩, fun _ _ => rfl, Nat.le_refl _⟩
  repeat (first | refine Walk.cx ?_ | (refine Walk.cReg ?_; simp only [z12]) | (refine Walk.oq ?_; try walk_nrm) | (refine Walk.un ?_; walk_nrm))
  refine Walk.callW (Post := fun v w' => ∃ ta' tc', v = .slice ta' ([] ++ List.replicate 14 1 : List Int).length tc' ∧ MI x5 w' ([] ++ List.replicate 14 1) ta' tc') ?_ (ho_of (by conv => lhs; whnf) (by kernel_rfl)) (by rfl) (by decide) rfl Try.func30 (by kernel_rfl) (by rfl) ?_
  · walk_nrm
    exact many_w 1 14 [] none 0 x5 x5 (by omega) (by simp) H0 hA
  rintro v y1 ⟨ta1, tc1, rfl, H1⟩
  have hn1 : ([] ++ List.replicate 14 1 : List Int).length = 14 := by simp
  generalize hl1 : ([] ++ List.replicate 14 1 : List Int) = l1 at *
  walk_nrm
  refine Walk.callW (Post := fun v w' => ∃ ta' tc', v = .slice ta' (l1 ++ List.replicate 2 0 : List Int).length tc' ∧ MI x5 w' (l1 ++ List.replicate 2 0) ta' tc') ?_ (ho_of (by conv => lhs; whnf) (by kernel_rfl)) (by rfl) (by decide) rfl Try.func30 (by kernel_rfl) (by rfl) ?_
  · walk_nrm
    exact many_w 0 2 l1 ta1 tc1 x5 y1 (by omega) (by omega) H1 hA
  rintro v y2 ⟨ta2, tc2, rfl, H2⟩
  have hn2 : (l1 ++ List.replicate 2 0 : List Int).length = 16 := by simp [hn1]
  generalize hl2 : (l1 ++ List.replicate 2 0 : List Int) = l2 at *
  walk_nrm
  refine Walk.callW (Post := fun v w' => ∃ ta' tc', v = .slice ta' (l2 ++ List.replicate 14 1 : List Int).length tc' ∧ MI x5 w' (l2 ++ List.replicate 14 1) ta' tc') ?_ (ho_of (by conv => lhs; whnf) (by kernel_rfl)) (by rfl) (by decide) rfl Try.func30 (by kernel_rfl) (by rfl) ?_
  · walk_nrm
    exact many_w 1 14 l2 ta2 tc2 x5 y2 (by omega) (by omega) H2 hA
  rintro v y3 ⟨ta3, tc3, rfl, H3⟩
  have hn3 : (l2 ++ List.replicate 14 1 : List Int).length = 30 := by simp [hn2]
  generalize hl3 : (l2 ++ List.replicate 14 1 : List Int) = l3 at *
  walk_nrm
  refine Walk.callW (Post := fun v w' => ∃ ta' tc', v = .slice ta' (l3 ++ List.replicate 3 2 : List Int).length tc' ∧ MI x5 w' (l3 ++ List.replicate 3 2) ta' tc') ?_ (ho_of (by conv => lhs; whnf) (by kernel_rfl)) (by rfl) (by decide) rfl Try.func30 (by kernel_rfl) (by rfl) ?_
  · walk_nrm
    exact many_w 2 3 l3 ta3 tc3 x5 y3 (by omega) (by omega) H3 hA
  rintro v y4 ⟨ta4, tc4, rfl, H4⟩
  have hn4 : (l3 ++ List.replicate 3 2 : List Int).length = 33 := by simp [hn3]
  generalize hl4 : (l3 ++ List.replicate 3 2 : List Int) = l4 at *
  walk_nrm
  refine Walk.callW (Post := fun v w' => ∃ ta' tc', v = .slice ta' (l4 ++ List.replicate 7 1 : List Int).length tc' ∧ MI x5 w' (l4 ++ List.replicate 7 1) ta' tc') ?_ (ho_of (by conv => lhs; whnf) (by kernel_rfl)) (by rfl) (by decide) rfl Try.func30 (by kernel_rfl) (by rfl) ?_
  · walk_nrm
    exact many_w 1 7 l4 ta4 tc4 x5 y4 (by omega) (by omega) H4 hA
  rintro v y5 ⟨ta5, tc5, rfl, H5⟩
  have hn5 : (l4 ++ List.replicate 7 1 : List Int).length = 40 := by simp [hn4]
  generalize hl5 : (l4 ++ List.replicate 7 1 : List Int) = l5 at *
  walk_nrm
  refine Walk.callW (Post := fun v w' => ∃ ta' tc', v = .slice ta' (l5 ++ List.replicate 5 0 : List Int).length tc' ∧ MI x5 w' (l5 ++ List.replicate 5 0) ta' tc') ?_ (ho_of (by conv => lhs; whnf) (by kernel_rfl)) (by rfl) (by decide) rfl Try.func30 (by kernel_rfl) (by rfl) ?_
  · walk_nrm
    exact many_w 0 5 l5 ta5 tc5 x5 y5 (by omega) (by omega) H5 hA
  rintro v y6 ⟨ta6, tc6, rfl, H6⟩
  have hn6 : (l5 ++ List.replicate 5 0 : List Int).length = 45 := by simp [hn5]
  generalize hl6 : (l5 ++ List.replicate 5 0 : List Int) = l6 at *
  walk_nrm
  refine Walk.callW (Post := fun v w' => ∃ ta' tc', v = .slice ta' (l6 ++ List.replicate 4 2 : List Int).length tc' ∧ MI x5 w' (l6 ++ List.replicate 4 2) ta' tc') ?_ (ho_of (by conv => lhs; whnf) (by kernel_rfl)) (by rfl) (by decide) rfl Try.func30 (by kernel_rfl) (by rfl) ?_
  · walk_nrm
    exact many_w 2 4 l6 ta6 tc6 x5 y6 (by omega) (by omega) H6 hA
  rintro v y7 ⟨ta7, tc7, rfl, H7⟩
  have hn7 : (l6 ++ List.replicate 4 2 : List Int).length = 49 := by simp [hn6]
  generalize hl7 : (l6 ++ List.replicate 4 2 : List Int) = l7 at *
  walk_nrm
  have hl : l7 = clSl := by rw [← hl7, ← hl6, ← hl5, ← hl4, ← hl3, ← hl2, ← hl1]; rfl
  clear hl1 hl2 hl3 hl4 hl5 hl6 hl7 hn1 hn2 hn3 hn4 hn5 hn6 hn7 H1 H2 H3 H4 H5 H6
  subst hl
  obtain ⟨sg, rfl, hsg, hcells⟩ := row_cells H7.row (by decide)
  have hO := H7.old
  have hz := H7.size
  repeat (first | refine Walk.cx ?_ | (refine Walk.cReg ?_; simp only [z12]) | (refine Walk.oq ?_; try walk_nrm) | (refine Walk.un ?_; walk_nrm))
  refine Walk.callE (ho_of (by conv => lhs; whnf) (by kernel_rfl)) (by rfl) (by decide) rfl Try.func15 (by kernel_rfl) (by rfl) ?_
  walk_nrm
  refine .stop fun d => ⟨_, some ⟨sg, 0, none⟩, _, rfl, fun b hb => ?_, ?_, ?_, cl_ops ?_ ?_ ?_ ?_, fun j z hz' => ⟨sg, 0, rfl, ?_⟩, ?_⟩
  · exact (hO b (by omega)).trans ((o5 b (by omega)).trans ((o4 b (by omega)).trans ((o3 b (by omega)).trans ((o2 b (by omega)).trans (o1 b (by omega))))))
  · show T ≤ y7.heap.size
    omega
  · exact (hO T (by omega)).trans ((o5 T (by omega)).trans ((o4 T (by omega)).trans ((o3 T (by omega)).trans ((o2 T (by omega)).trans d1))))
  · exact (hO _ (by omega)).trans ((o5 _ (by omega)).trans ((o4 _ (by omega)).trans ((o3 _ (by omega)).trans d2)))
  · exact (hO _ (by omega)).trans ((o5 _ (by omega)).trans ((o4 _ (by omega)).trans d3))
  · exact (hO _ (by omega)).trans ((o5 _ (by omega)).trans d4)
  · exact (hO _ (by omega)).trans d5
  · rw [Nat.zero_add]
    exact hcells j _ (by rw [intRow, List.getElem?_map, hz']; rfl)
  · intro A na oo ol ok ta tl tc stuck w9 hT9
    refine Walk.finish (ho_of (by conv => lhs; whnf) (by kernel_rfl)) ?_
    walk_nrm
    refine Walk.storeS 27 (.tmp 2) (.tmp 26) (ho_of (by conv => lhs; whnf) (by kernel_rfl)) (by rfl) (by decide) rfl T #[.slice (some ⟨A, 0, none⟩) na na, .slice oo ol ok, .slice ta tl tc, .bool stuck] _ 27 rfl rfl hT9 (by kernel_rfl) (by rfl) (by simp [Value.oneCell']) (hA _) ?_
    have d9 := setRow_self (cells := #[.slice (some ⟨A, 0, none⟩) na na, .slice oo ol ok, .slice ta tl tc, .bool stuck]) hT9
    walk_nrm
    repeat (first | refine Walk.cx ?_ | (refine Walk.cReg ?_; simp only [z12]) | (refine Walk.oq ?_; try walk_nrm) | (refine Walk.un ?_; walk_nrm))
    exact Walk.onCell (T := T) rfl rfl rfl Try.func12 rfl (by rfl) d9 (by kernel_rfl) (by kernel_rfl) (.stop fun d => ⟨rfl, fun b hb => setRow_other _ _ hb, setRow_size _ _ _⟩)
theorem huFirst : Try.prog.underlying 33 = some (.slice 37) := by kernel_rfl
theorem first_three {main : Bool} {V : Nat → Option Wait} (tb : Nat) (w : World) : CallV Try.prog main V 67 #[.slice (some ⟨tb, 0, none⟩) 3 3] w (.slice (some ⟨tb, 0, none⟩) 3 3) w := by
  refine callW_in Try.func67 rfl fun fr cs => ?_
  simp only [Try.ntmps67, ez, Nat.reduceAdd, Nat.reduceSub]
  have hmn := @events_min_ints Try.prog
  have hi := Option.some_get (show (Try.prog.info? 37).isSome = true by kernel_rfl)
  have hs : ∀ w, (Instr.sliceAt 33 (.slice (some ⟨tb, 0, none⟩) 3 3) none (some (.int .i64 3)) none).run Try.prog w = .ok (.slice (some ⟨tb, 0, none⟩) 3 3) w := fun w => (run_sl_of huFirst hi.symm tb 3 3 3 (by omega) w #[]).1
  have hse : ∀ w es, (Instr.sliceAt 33 (.slice (some ⟨tb, 0, none⟩) 3 3) none (some (.int .i64 3)) none).events Try.prog w es = es := fun w es => (run_sl_of huFirst hi.symm tb 3 3 3 (by omega) w es).2
  clear hi
  have hmin : min (3 : Int) 64 = 3 := by decide
  repeat (first | refine Walk.cx ?_ | refine Walk.cR ?_ | (refine Walk.oq ?_; try walk_nrm) | (refine Walk.un ?_; walk_nrm))
  try rw [hmin]
  repeat (first | refine Walk.cx ?_ | refine Walk.cR ?_ | (refine Walk.oq ?_; try walk_nrm) | (refine Walk.un ?_; walk_nrm))
  exact Walk.ret1 rfl rfl Try.func67 rfl fun d => ⟨by simp, d, rfl⟩
def clSt (tg : Bool) : List Int := if tg then [0, 7, 1, 7, 9] else [0, 0, 1, 0, 9, 9]
def clVl (tg : Bool) : List Int := if tg then [9] else [9, 9]
theorem q4 {α β γ δ : Type} {a a' : α} {b b' : β} {c c' : γ} {d d' : δ} (h : (a, b, c, d) = (a', b', c', d')) : a = a' ∧ b = b' ∧ c = c' ∧ d = d' := by simpa using h
theorem cl_any (kb nb : Nat) (tg : Bool) : stateX 2 (clPlay kb nb tg).1.s = clSt tg ∧ valsX (clPlay kb nb tg).1.s 2 (nodeX (Sk.hd (clPlay kb nb tg).1.s)) = clVl tg ∧ stuckO 3 (clPlay kb nb tg).1 = false ∧ ((clPlay kb nb tg).1.th 0).ans = [(true, 4)] := by
  cases tg with
  | true => exact q4 (cl_true kb nb)
  | false => exact q4 (cl_false kb nb)
structure ClOut (tg : Bool) (w w' : World) (cells : Array Value) : Prop where
  all : ∃ (A : Nat) (oo : Option Addr) (ol ok sg stc hg hc : Nat), cells = #[.slice (some ⟨A, 0, none⟩) 3 3, .slice oo ol ok, .slice (some ⟨sg, 0, none⟩) (clSt tg).length stc, .bool false] ∧ (∀ (j : Nat) (x : Value), (intRow (clSt tg))[j]? = some x → w'.cell? ⟨sg, j, none⟩ = some x) ∧
    w'.cell? ⟨A, 0, none⟩ = some (.slice (some ⟨hg, 0, none⟩) 1 hc) ∧ w'.cell? ⟨hg, 1, none⟩ = some (.int .i64 4)
  old : ∀ b, b < w.heap.size → w'.heap[b]? = w.heap[b]?
  size : w.heap.size ≤ w'.heap.size
theorem classic_run (tg : Bool) (c : Frame) (cs : List Frame) (w : World) : Runs (fun g w' => ∃ cells, ClOut tg w w' cells ∧ g = G (c.finish (.agg cells)) cs) (G (Frame.enter Try.prog 12 #[.bool tg] .normal) (c :: cs)) w := by
  refine Runs.walk (classic_in tg c cs w) ?_
  rintro _ w1 ⟨fr, sa, sc, rfl, hO, hz, hT, hI, hsc, hB⟩
  refine Runs.then (splay_run 2 tg _ 200 (w.heap.size + 4) 0 3 3 (by omega) (by omega) (clOa w.heap.size) clLn clLn clOps sa sc clSl (by rw [clSl_len]; omega) fr (c :: cs) w1 hI hsc (fun w' _ => first_three _ w') (fun kb nb => ?_)) ?_
  · rw [sizeN2]
    have h := (cl_any kb nb tg).2.1
    unfold clPlay at h
    refine ⟨fun e => ?_, ?_⟩
    · have h2 := e.symm.trans h
      cases tg <;> cases h2
    · exact Nat.le_trans (Nat.le_of_eq (congrArg List.length h)) (by cases tg <;> decide)
  · rintro _ w4 ⟨cells, H, rfl⟩
    have hall := H.all
    have hold := H.old
    have hsz := H.size
    clear H
    rw [sizeN2] at hall
    obtain ⟨kb, nb, A, oo, ok, hd, arr, ta, tc, rfl, hrow, hst, hAl, hAr, hAi, hans⟩ := hall
    obtain ⟨e1, e2, e3, e4⟩ := cl_any kb nb tg
    unfold clPlay at e1 e2 e3 e4
    rw [e1] at hst ⊢
    rw [e3]
    obtain ⟨sg, rfl, hsg, hcells⟩ := row_cells hst (by cases tg <;> decide)
    obtain ⟨ta0, tc0, h0, hr0⟩ := hans 0 (by omega)
    rw [e4] at h0 hr0
    have hT4 : w4.heap[w.heap.size]? = some (.cells #[.slice none 0 0, .slice none 0 0, .slice none 0 0, .bool false] 27) := (hold _ (by have := (Array.getElem?_eq_some_iff.1 hT).1; omega)).trans hT
    refine Runs.walk (hB A 3 oo _ ok _ _ _ _ w4 hT4) ?_
    rintro _ w5 ⟨rfl, hO5, hz5⟩
    have hTl := (Array.getElem?_eq_some_iff.1 hT).1
    have c5 : ∀ {b j : Nat} {v : Value}, b ≠ w.heap.size → w4.cell? ⟨b, j, none⟩ = some v → w5.cell? ⟨b, j, none⟩ = some v := fun {b j v} hb h => (World.cell?_of_block (a := ⟨b, j, none⟩) (hO5 b hb)).trans h
    obtain ⟨hg, hc, hh0, hgl, hgc⟩ : ∃ hg hc, hd 0 = .slice (some ⟨hg, 0, none⟩) 1 hc ∧ w1.heap.size ≤ hg ∧ w4.cell? ⟨hg, 1, none⟩ = some (.int .i64 4) := by
      rcases hr0.2 with ⟨_, e⟩ | ⟨g, cap, cur, e, hb, hh, hcc, _, hs, ht⟩
      · cases e
      · refine ⟨g, cap, e, hb, ?_⟩
        have hx : (ansRow [((true, 4) : Ans)])[1]? = some (.int .i64 4) := rfl
        rw [← ht, List.getElem?_take] at hx
        split at hx
        · exact (cell_of hh 1).trans (by simpa using hx)
        · cases hx
    have hcA : w4.cell? ⟨A, 0, none⟩ = some (.slice (some ⟨hg, 0, none⟩) 1 hc) := (cell_of hAr 0).trans ((hAi 0 (by omega)).trans (congrArg some hh0))
    refine .now ⟨_, ⟨⟨A, oo, _, ok, sg, tc, hg, hc, rfl, fun j x hx => c5 (by omega) (hcells j x hx), c5 (by omega) hcA, c5 (by omega) hgc⟩, fun b hb => ?_, by omega⟩, rfl⟩
    exact (hO5 b (by omega)).trans ((hold b (by omega)).trans (hO b hb))
def lonR (kb nb : Nat) (s : Sk) (d : SD) : Sk × Ans := (runN (skLa kb nb 2 true) 20 (s, .inr d)).getD (s, (false, 0))
def tS1 (kb nb : Nat) : Sk := (lonR kb nb (sk0 2) (.pu1 5)).1
def tS2 (kb nb : Nat) : Sk := (lonR kb nb (tS1 kb nb) (.pu1 6)).1
def tS3 (kb nb : Nat) : Sk := (lonR kb nb (tS2 kb nb) (.pu1 7)).1
def tS4 (kb nb : Nat) : Sk := (lonR kb nb (tS3 kb nb) .po1).1
theorem tR1 (kb nb : Nat) : runN (skLa kb nb 2 true) 20 (sk0 2, .inr (.pu1 5)) = some (tS1 kb nb, (true, 0)) := by kernel_rfl
theorem tR2 (kb nb : Nat) : runN (skLa kb nb 2 true) 20 (tS1 kb nb, .inr (.pu1 6)) = some (tS2 kb nb, (true, 0)) := by kernel_rfl
theorem tR3 (kb nb : Nat) : runN (skLa kb nb 2 true) 20 (tS2 kb nb, .inr (.pu1 7)) = some (tS3 kb nb, (false, 0)) := by kernel_rfl
theorem tR4 (kb nb : Nat) : runN (skLa kb nb 2 true) 20 (tS3 kb nb, .inr .po1) = some (tS4 kb nb, (true, 6)) := by kernel_rfl
theorem tH4 (kb nb : Nat) : headsV (tS4 kb nb) = .tuple #[.int .i64 0, .int .i64 3, .int .i64 1, .int .i64 3] := by kernel_rfl
noncomputable def reg11_0 := rg Try.f11.body [0]
noncomputable def reg11_1 := rg Try.f11.body [1, 0]
noncomputable def reg11_2 := rg Try.f11.body [1, 1, 0, 0]
noncomputable def reg11_3 := rg Try.f11.body [1, 1, 0, 1, 0, 0]
noncomputable def reg11_4 := rg Try.f11.body [1, 1, 1, 0]
noncomputable def reg11_5 := rg Try.f11.body [1, 1, 1, 1, 0]
noncomputable def reg11_6 := rg Try.f11.body [1, 1, 1, 1, 1, 0]
noncomputable def reg11_7 := rg Try.f11.body [1, 1, 1, 1, 1, 1, 0]
theorem z11 : List.range reg11_0.size = [0] ∧ List.range reg11_1.size = [0, 1] ∧ List.range reg11_2.size = [0, 1, 2, 3, 4, 5, 6, 7, 8, 9, 10, 11, 12, 13, 14, 15, 16, 17, 18, 19, 20] ∧ List.range reg11_3.size = [0] ∧ List.range reg11_4.size = [0, 1, 2, 3, 4, 5, 6] ∧ List.range reg11_5.size = [0, 1, 2, 3, 4, 5, 6, 7, 8, 9, 10] ∧ List.range reg11_6.size = [0, 1, 2] ∧ List.range reg11_7.size = [0, 1, 2, 3, 4, 5, 6, 7, 8, 9, 10, 11, 12, 13, 14, 15, 16, 17, 18, 19, 20, 21, 22, 23, 24, 25, 26, 27, 28, 29, 30, 31, 32] := by refine ⟨?_, ?_, ?_, ?_, ?_, ?_, ?_, ?_⟩ <;> kernel_rfl
theorem code11_is : Try.f11.body = some (.seq (.region 0 reg11_0 false) (.seq (.region 1 reg11_1 false) (.seq (.seq (.region 2 reg11_2 false) (.cond (.tmp 30 ) (.seq (.region 3 reg11_3 false) (.ret)) (.skip))) (.seq (.region 4 reg11_4 false) (.seq (.region 5 reg11_5 false) (.seq (.region 6 reg11_6 false) (.seq (.region 7 reg11_7 false) (.ret)))))))) := by kernel_rfl
def TBack (fr c : Frame) (cs : List Frame) : Prop := ∀ (w0 w : World) (cells : Array Value), ClOut true w0 w cells →
  Walk Try.prog true (DR (fun _ => none)) (fun g w' => g = G (c.finish (.bool true)) cs ∧ (∀ b, b < w.heap.size → w'.heap[b]? = w.heap[b]?) ∧ w.heap.size ≤ w'.heap.size) (G (fr.finish (.agg cells)) (c :: cs)) w
theorem turns_in (c : Frame) (cs : List Frame) (w : World) :
    Walk Try.prog true (DR (fun _ => none)) (fun g w' => ∃ fr, g = G (Frame.enter Try.prog 12 #[.bool true] .normal) (fr :: c :: cs) ∧ (∀ b, b < w.heap.size → w'.heap[b]? = w.heap[b]?) ∧ w.heap.size ≤ w'.heap.size ∧ TBack fr c cs)
      (G (Frame.enter Try.prog 11 #[] .normal) (c :: cs)) w := by
  have hA : ∀ b, Apart (fun _ => none) b := fun b => ⟨fun _ _ _ _ h => (by cases h), fun _ _ h => (by cases h)⟩
  rw [enter_at _ Try.func11 code11_is]
  simp only [Try.ntmps11, ez, Nat.reduceAdd, Nat.reduceSub]
  repeat (first | refine Walk.cx ?_ | (refine Walk.cReg ?_; simp only [z11]) | (refine Walk.oq ?_; try walk_nrm) | (refine Walk.un ?_; walk_nrm))
  refine Walk.callW (Post := fun v w' => v = .pointer (some ⟨w.heap.size + 1, 0, none⟩) ∧ SkI (w.heap.size + 1) w.heap.size 2 true (sk0 2) w' ∧ (∀ b, b < w.heap.size → w'.heap[b]? = w.heap[b]?) ∧ w'.heap.size = w.heap.size + 2) ?_ (ho_of (by conv => lhs; whnf) (by kernel_rfl)) (by rfl) (by decide) rfl Try.func17 (by kernel_rfl) (by rfl) ?_
  · walk_nrm
    have h := new_w (main := true) 2 true w hA
    rw [sizeN2] at h
    exact h
  rintro v w1 ⟨rfl, I1, O1, Z1⟩
  have hne : w.heap.size + 1 ≠ w.heap.size := by omega
  generalize hkb : w.heap.size + 1 = kb at *
  generalize hnb : w.heap.size = nb at *
  have hp1 := fun w => run_eql_ptr (P := Try.prog) 38 undStack (some ⟨kb, 0, none⟩) w
  have hp2 := fun w es => ev_eql_ptr (P := Try.prog) 38 undStack (some ⟨kb, 0, none⟩) w es
  simp only [Option.isNone_some] at hp1
  walk_nrm
  repeat (first | refine Walk.cx ?_ | (refine Walk.cReg ?_; simp only [z11]) | (refine Walk.oq ?_; try walk_nrm) | (refine Walk.un ?_; walk_nrm))
  refine Walk.callV (x := .int .i64 2) (W := w1) ?_ (ho_of (by conv => lhs; whnf) (by kernel_rfl)) (by rfl) (by decide) rfl Try.func21 (by kernel_rfl) (by rfl) ?_
  · walk_nrm
    exact size_w kb nb 2 true (sk0 2) w1 I1
  walk_nrm
  repeat (first | (refine Walk.oq ?_; try walk_nrm) | (refine Walk.un ?_; walk_nrm))
  refine Walk.callLone (L := skLa kb nb 2 true) (Rel := fun v x => v = .bool x.1) 20 (sk0 2) (.inr (.pu1 5)) hA I1 (tR1 kb nb) (fun K e ht => ?_) (ho_of (by conv => lhs; whnf) (by kernel_rfl)) (by rfl) (by decide) rfl Try.func28 (by kernel_rfl) (by rfl) ⟨rfl, rfl, _, Try.func11⟩ ?_
  · walk_nrm
    exact (push_s K hne (by omega) 5 e ht).mono fun v e' ⟨b, q1, q2⟩ => ⟨(b, 0), q1, q2⟩
  rintro v w2 rfl L2
  have I2 : SkI kb nb 2 true (tS1 kb nb) w2 := L2.I
  walk_nrm
  repeat (first | (refine Walk.oq ?_; try walk_nrm) | (refine Walk.un ?_; walk_nrm))
  refine Walk.callLone (L := skLa kb nb 2 true) (Rel := fun v x => v = .bool x.1) 20 (tS1 kb nb) (.inr (.pu1 6)) hA I2 (tR2 kb nb) (fun K e ht => ?_) (ho_of (by conv => lhs; whnf) (by kernel_rfl)) (by rfl) (by decide) rfl Try.func28 (by kernel_rfl) (by rfl) ⟨rfl, rfl, _, Try.func11⟩ ?_
  · walk_nrm
    exact (push_s K hne (by omega) 6 e ht).mono fun v e' ⟨b, q1, q2⟩ => ⟨(b, 0), q1, q2⟩
  rintro v w3 rfl L3
  have I3 : SkI kb nb 2 true (tS2 kb nb) w3 := L3.I
  walk_nrm
  repeat (first | (refine Walk.oq ?_; try walk_nrm) | (refine Walk.un ?_; walk_nrm))
  refine Walk.callLone (L := skLa kb nb 2 true) (Rel := fun v x => v = .bool x.1) 20 (tS2 kb nb) (.inr (.pu1 7)) hA I3 (tR3 kb nb) (fun K e ht => ?_) (ho_of (by conv => lhs; whnf) (by kernel_rfl)) (by rfl) (by decide) rfl Try.func28 (by kernel_rfl) (by rfl) ⟨rfl, rfl, _, Try.func11⟩ ?_
  · walk_nrm
    exact (push_s K hne (by omega) 7 e ht).mono fun v e' ⟨b, q1, q2⟩ => ⟨(b, 0), q1, q2⟩
  rintro v w4 rfl L4
  have I4 : SkI kb nb 2 true (tS3 kb nb) w4 := L4.I
  walk_nrm
  repeat (first | refine Walk.cx ?_ | (refine Walk.cReg ?_; simp only [z11]) | (refine Walk.oq ?_; try walk_nrm) | (refine Walk.un ?_; walk_nrm))
  refine Walk.callLone (L := skLa kb nb 2 true) (Rel := fun v x => v = .tuple #[.int .i64 x.2, .bool x.1]) 20 (tS3 kb nb) (.inr .po1) hA I4 (tR4 kb nb) (fun K e ht => ?_) (ho_of (by conv => lhs; whnf) (by kernel_rfl)) (by rfl) (by decide) rfl Try.func26 (by kernel_rfl) (by rfl) ⟨rfl, rfl, _, Try.func11⟩ ?_
  · walk_nrm
    exact (pop_s K hne (by omega) e ht).mono fun v e' ⟨b, y, q1, q2⟩ => ⟨(b, y), q1, q2⟩
  rintro v w5 rfl L5
  have I5 : SkI kb nb 2 true (tS4 kb nb) w5 := L5.I
  walk_nrm
  repeat (first | refine Walk.cx ?_ | (refine Walk.cReg ?_; simp only [z11]) | (refine Walk.oq ?_; try walk_nrm) | (refine Walk.un ?_; walk_nrm))
  refine Walk.callV (x := headsV (tS4 kb nb)) (W := w5) ?_ (ho_of (by conv => lhs; whnf) (by kernel_rfl)) (by rfl) (by decide) rfl Try.func19 (by kernel_rfl) (by rfl) ?_
  · walk_nrm
    exact heads_w (tS4 kb nb) w5 I5
  rw [tH4]
  walk_nrm
  repeat (first | refine Walk.cx ?_ | (refine Walk.cReg ?_; simp only [z11]) | (refine Walk.oq ?_; try walk_nrm) | (refine Walk.un ?_; walk_nrm))
  refine Walk.callE (ho_of (by conv => lhs; whnf) (by kernel_rfl)) (by rfl) (by decide) rfl Try.func12 (by kernel_rfl) (by rfl) ?_
  walk_nrm
  have hsh : ∀ b, b < nb → ¬ (skLa kb nb 2 true).sh b := fun b hb h => by
    have h : b = kb ∨ b = nb := h
    rcases h with h | h <;> omega
  have z2 := L2.size
  have z3 := L3.size
  have z4 := L4.size
  have z5 := L5.size
  refine .stop fun d => ⟨_, rfl, fun b hb => ?_, ?_, ?_⟩
  · exact (L5.old b (by omega) (hsh b hb)).trans ((L4.old b (by omega) (hsh b hb)).trans ((L3.old b (by omega) (hsh b hb)).trans ((L2.old b (by omega) (hsh b hb)).trans (O1 b hb))))
  · show nb ≤ w5.heap.size
    omega
  · intro w0 w6 cells H
    obtain ⟨A, oo, ol, ok, sg, stc, hg, hc, rfl, hcells, hcA, hch⟩ := H.all
    refine Walk.finish (ho_of (by conv => lhs; whnf) (by kernel_rfl)) ?_
    walk_nrm
    (refine Walk.oa ?_; try walk_nrm)
    have s7 : (w6.alloc (.cells #[.slice none 0 0, .slice none 0 0, .slice none 0 0, .bool false] 27)).heap.size = w6.heap.size + 1 := by simp
    have o7 : ∀ b, b < w6.heap.size → (w6.alloc (.cells #[.slice none 0 0, .slice none 0 0, .slice none 0 0, .bool false] 27)).heap[b]? = w6.heap[b]? := fun b hb => heap_new_lt _ _ hb
    have d7 := heap_alloc_new w6 (.cells #[.slice none 0 0, .slice none 0 0, .slice none 0 0, .bool false] 27)
    generalize hT1 : w6.heap.size = T1 at *
    generalize w6.alloc (.cells #[.slice none 0 0, .slice none 0 0, .slice none 0 0, .bool false] 27) = w7 at *
    refine Walk.storeS 27 (.tmp 8) (.tmp 43) (ho_of (by conv => lhs; whnf) (by kernel_rfl)) (by rfl) (by decide) rfl T1 #[.slice (some ⟨A, 0, none⟩) 3 3, .slice oo ol ok, .slice (some ⟨sg, 0, none⟩) (clSt true).length stc, .bool false] _ 27 rfl rfl d7 (by kernel_rfl) (by rfl) (by simp [Value.oneCell']) (hA _) ?_
    have d8 := setRow_self (cells := #[.slice (some ⟨A, 0, none⟩) 3 3, .slice oo ol ok, .slice (some ⟨sg, 0, none⟩) (clSt true).length stc, .bool false]) d7
    have o8 : ∀ b, b < T1 → (w7.setRow T1 #[.slice (some ⟨A, 0, none⟩) 3 3, .slice oo ol ok, .slice (some ⟨sg, 0, none⟩) (clSt true).length stc, .bool false]).heap[b]? = w6.heap[b]? := fun b hb => (setRow_other _ _ (by omega)).trans (o7 b hb)
    have s8 := setRow_size w7 T1 #[.slice (some ⟨A, 0, none⟩) 3 3, .slice oo ol ok, .slice (some ⟨sg, 0, none⟩) (clSt true).length stc, .bool false]
    rw [s7] at s8
    generalize w7.setRow T1 #[.slice (some ⟨A, 0, none⟩) 3 3, .slice oo ol ok, .slice (some ⟨sg, 0, none⟩) (clSt true).length stc, .bool false] = w8 at *
    have c82 : w8.cell? ⟨T1, 2, none⟩ = some (.slice (some ⟨sg, 0, none⟩) (clSt true).length stc) := (cell_of d8 2).trans rfl
    have c83 : w8.cell? ⟨T1, 3, none⟩ = some (.bool false) := (cell_of d8 3).trans rfl
    walk_nrm
    repeat (first | refine Walk.cx ?_ | (refine Walk.cReg ?_; simp only [z11]) | (refine Walk.oq ?_; try walk_nrm) | (refine Walk.un ?_; walk_nrm))
    (refine Walk.oa ?_; try walk_nrm)
    have s9 : (w8.alloc (.cells #[.int .i64 0, .int .i64 7, .int .i64 1, .int .i64 7, .int .i64 9] 2)).heap.size = T1 + 2 := by simp [s8]
    have o9 : ∀ b, b < T1 + 1 → (w8.alloc (.cells #[.int .i64 0, .int .i64 7, .int .i64 1, .int .i64 7, .int .i64 9] 2)).heap[b]? = w8.heap[b]? := fun b hb => heap_new_lt _ _ (by omega)
    have d9 := heap_alloc_new w8 (.cells #[.int .i64 0, .int .i64 7, .int .i64 1, .int .i64 7, .int .i64 9] 2)
    have c93 : (w8.alloc (.cells #[.int .i64 0, .int .i64 7, .int .i64 1, .int .i64 7, .int .i64 9] 2)).cell? ⟨T1, 3, none⟩ = some (.bool false) := cell_alloc w8 _ c83
    rw [s8] at d9
    try simp only [s8]
    generalize w8.alloc (.cells #[.int .i64 0, .int .i64 7, .int .i64 1, .int .i64 7, .int .i64 9] 2) = w9 at *
    repeat (first | (refine Walk.oq ?_; try walk_nrm) | (refine Walk.un ?_; walk_nrm))
    refine Walk.callV (x := .bool true) (W := w9) ?_ (ho_of (by conv => lhs; whnf) (by kernel_rfl)) (by rfl) (by decide) rfl Try.func13 (by kernel_rfl) (by rfl) ?_
    · walk_nrm
      refine same_w (clSt true) sg (T1 + 1) stc 5 w9 (by decide) (fun j x hx => ?_) (fun j x hx => ?_)
      · have hh := hcells j x hx
        have hl := cell_lt' hh
        exact (World.cell?_of_block (a := ⟨sg, j, none⟩) ((o9 sg (by omega)).trans (o8 sg (by omega)))).trans hh
      · refine (cell_of d9 j).trans ?_
        simpa [clSt, intRow] using hx
    walk_nrm
    repeat (first | refine Walk.cx ?_ | (refine Walk.cReg ?_; simp only [z11]) | (refine Walk.oq ?_; try walk_nrm) | (refine Walk.un ?_; walk_nrm))
    refine Walk.on1 rfl rfl Try.func11 rfl (.stop fun d => ⟨rfl, fun b hb => ?_, ?_⟩)
    · exact (o9 b (by omega)).trans (o8 b (by omega))
    · show T1 ≤ w9.heap.size
      omega
theorem turns_run (c : Frame) (cs : List Frame) (w : World) : Runs (fun g w' => g = G (c.finish (.bool true)) cs ∧ (∀ b, b < w.heap.size → w'.heap[b]? = w.heap[b]?) ∧ w.heap.size ≤ w'.heap.size) (G (Frame.enter Try.prog 11 #[] .normal) (c :: cs)) w := by
  refine Runs.walk (turns_in c cs w) ?_
  rintro _ w1 ⟨fr, rfl, hO, hz, hB⟩
  refine Runs.then (classic_run true fr (c :: cs) w1) ?_
  rintro _ w2 ⟨cells, H, rfl⟩
  have hold := H.old
  have hsz := H.size
  refine Runs.walk (hB w1 w2 cells H) ?_
  rintro _ w3 ⟨rfl, hO3, hz3⟩
  exact .now ⟨rfl, fun b hb => (hO3 b (by omega)).trans ((hold b (by omega)).trans (hO b hb)), by omega⟩
structure Closing (f : FuncId) (t : Tmp) (v : Value) (g : Goroutine) : Prop where
  all : ∃ fr, g = G fr [] ∧ fr.mode = .returning ∧ fr.kind = .normal ∧ fr.defers = [] ∧ fr.fn = f ∧ fr.tmps.getD t undef = v
structure TrIs (st : List Int) (A sg hg hc : Nat) (w : World) : Prop where
  s : ∀ (j : Nat) (x : Value), (intRow st)[j]? = some x → w.cell? ⟨sg, j, none⟩ = some x
  a : w.cell? ⟨A, 0, none⟩ = some (.slice (some ⟨hg, 0, none⟩) 1 hc)
  h : w.cell? ⟨hg, 1, none⟩ = some (.int .i64 4)
noncomputable def reg4_0 := rg Try.f4.body [0]
noncomputable def reg4_1 := rg Try.f4.body [1, 0, 0]
noncomputable def reg4_2 := rg Try.f4.body [1, 0, 1, 0, 0]
noncomputable def reg4_3 := rg Try.f4.body [1, 1, 0]
theorem z4 : List.range reg4_0.size = [0] ∧ List.range reg4_1.size = [0, 1] ∧ List.range reg4_2.size = [0] ∧ List.range reg4_3.size = [0, 1, 2, 3, 4, 5, 6, 7, 8, 9, 10, 11, 12, 13] := by refine ⟨?_, ?_, ?_, ?_⟩ <;> kernel_rfl
theorem code4_is : Try.f4.body = some (.seq (.region 0 reg4_0 false) (.seq (.seq (.region 1 reg4_1 false) (.cond (.tmp 12 ) (.seq (.region 2 reg4_2 false) (.ret)) (.skip))) (.seq (.region 3 reg4_3 false) (.ret)))) := by kernel_rfl
def PB2 (sz : Int) (tg : Bool) (tv sv : Value) (most : Int) (fr : Frame) : Prop := ∀ (cells : Array Value) (w : World) (Y : Array Value → World → Prop),
  CallW Try.prog true (fun _ => none) 16 #[.int .i64 sz, .bool tg, tv, sv, .int .i64 most] w (fun v w' => ∃ cb, v = .agg cb ∧ Y cb w') →
  (∀ cb w1, Y cb w1 → CallW Try.prog true (fun _ => none) 14 #[.agg cells, .agg cb] w1 (fun v w' => v = .bool true ∧ Chg (fun _ => False) w1 w')) →
  Walk Try.prog true (DR (fun _ => none)) (fun g w' => Closing 4 10 (.bool true) g ∧ ∃ cb w1, Y cb w1 ∧ Chg (fun _ => False) w1 w') (G (fr.finish (.agg cells)) []) w
def PB1 (sz : Int) (tg : Bool) (tv sv : Value) (most : Int) (fr : Frame) : Prop := ∀ (w : World),
  Walk Try.prog true (DR (fun _ => none)) (fun g w' => ∃ fr2, g = G (Frame.enter Try.prog 15 #[.int .i64 sz, .bool tg, tv, sv, .int .i64 most] .normal) [fr2] ∧ (∃ d, w' = w.at d) ∧ PB2 sz tg tv sv most fr2) (G (fr.finish (.bool true)) []) w
theorem spl_in (sz : Int) (tg : Bool) (tv sv : Value) (most : Int) (w : World) : Walk Try.prog true (DR (fun _ => none)) (fun g w' => ∃ fr, g = G (Frame.enter Try.prog 11 #[] .normal) [fr] ∧ (∃ d, w' = w.at d) ∧ PB1 sz tg tv sv most fr) (G (Frame.enter Try.prog 4 #[.int .i64 sz, .bool tg, tv, sv, .int .i64 most] .normal) []) w := by
  rw [enter_at _ Try.func4 code4_is]
  simp only [Try.ntmps4, ez, Nat.reduceAdd, Nat.reduceSub]
  repeat (first | refine Walk.cx ?_ | (refine Walk.cReg ?_; simp only [z4]) | (refine Walk.oq ?_; try walk_nrm) | (refine Walk.un ?_; walk_nrm))
  refine Walk.callE (ho_of (by conv => lhs; whnf) (by kernel_rfl)) (by rfl) (by decide) rfl Try.func11 (by kernel_rfl) (by rfl) ?_
  walk_nrm
  refine .stop fun d => ⟨_, rfl, ⟨d, rfl⟩, ?_⟩
  intro w1
  refine Walk.finish (ho_of (by conv => lhs; whnf) (by kernel_rfl)) ?_
  walk_nrm
  repeat (first | refine Walk.cx ?_ | (refine Walk.cReg ?_; simp only [z4]) | (refine Walk.oq ?_; try walk_nrm) | (refine Walk.un ?_; walk_nrm))
  refine Walk.callE (ho_of (by conv => lhs; whnf) (by kernel_rfl)) (by rfl) (by decide) rfl Try.func15 (by kernel_rfl) (by rfl) ?_
  walk_nrm
  refine .stop fun d => ⟨_, rfl, ⟨d, rfl⟩, ?_⟩
  intro cells w2 Y hY hS
  refine Walk.finish (ho_of (by conv => lhs; whnf) (by kernel_rfl)) ?_
  walk_nrm
  repeat (first | (refine Walk.oq ?_; try walk_nrm) | (refine Walk.un ?_; walk_nrm))
  refine Walk.callW (Post := fun v w' => ∃ cb, v = .agg cb ∧ Y cb w') ?_ (ho_of (by conv => lhs; whnf) (by kernel_rfl)) (by rfl) (by decide) rfl Try.func16 (by kernel_rfl) (by rfl) ?_
  · walk_nrm
    exact hY
  rintro v w3 ⟨cb, rfl, hY3⟩
  have hS3 := hS cb w3 hY3
  clear hY hS
  walk_nrm
  repeat (first | (refine Walk.oq ?_; try walk_nrm) | (refine Walk.un ?_; walk_nrm))
  refine Walk.callW (Post := fun v w' => v = .bool true ∧ Chg (fun _ => False) w3 w') ?_ (ho_of (by conv => lhs; whnf) (by kernel_rfl)) (by rfl) (by decide) rfl Try.func14 (by kernel_rfl) (by rfl) ?_
  · walk_nrm
    exact hS3
  rintro v w4 ⟨rfl, hC⟩
  clear hS3
  walk_nrm
  repeat (first | refine Walk.cx ?_ | (refine Walk.cReg ?_; simp only [z4]) | (refine Walk.oq ?_; try walk_nrm) | (refine Walk.un ?_; walk_nrm))
  refine .stop fun d => ⟨⟨_, rfl, rfl, rfl, rfl, rfl, rfl⟩, cb, w3, hY3, ⟨hC.size, hC.same⟩⟩
theorem spl_all (sz : Int) (tg : Bool) (most : Int) (ta : Option Addr) (n0 tc tb toff : Nat) (oa : Nat → Option Addr) (ln oc : Nat → Nat) (ops : Nat → List OpV) (sa : Option Addr) (sc : Nat) (sl : List Int) (W : World)
    (I : OpsIn tb toff (min n0 64) oa ln oc ops W) (hta : 0 < n0 → ta = some ⟨tb, toff, none⟩) (had : ta = none ∧ tc = 0 ∨ ∃ p, ta = some p) (hcap : n0 ≤ tc)
    (hsl : sl.length ≤ 17592186044416) (hnil : sa = none → sl = [] ∧ sc = 0) (hs : ∀ (j : Nat) (z : Int), sl[j]? = some z → ∃ s so, sa = some ⟨s, so, none⟩ ∧ W.cell? ⟨s, so + j, none⟩ = some (.int .i64 z)) :
    Runs (fun g w' => Closing 4 10 (.bool true) g ∧ ∀ b, b < W.heap.size → w'.heap[b]? = W.heap[b]?) (G (Frame.enter Try.prog 4 #[.int .i64 sz, .bool tg, .slice ta n0 tc, .slice sa sl.length sc, .int .i64 most] .normal) []) W := by
  refine Runs.walk (spl_in sz tg _ _ most W) ?_
  rintro _ _ ⟨fr1, rfl, ⟨d1, rfl⟩, hB1⟩
  refine Runs.then (turns_run fr1 [] (W.at d1)) ?_
  rintro _ w1 ⟨rfl, O1, Z1⟩
  have Z1' : W.heap.size ≤ w1.heap.size := Z1
  have O1' : ∀ b, b < W.heap.size → w1.heap[b]? = W.heap[b]? := O1
  refine Runs.walk (hB1 w1) ?_
  rintro _ _ ⟨fr2, rfl, ⟨d2, rfl⟩, hB2⟩
  have I1 : OpsIn tb toff (min n0 64) oa ln oc ops (w1.at d2) := I.old O1'
  have hta' : 0 < min n0 64 → ta = some ⟨tb, toff, none⟩ := fun h => hta (by omega)
  have hs1 : ∀ (j : Nat) (z : Int), sl[j]? = some z → ∃ s so, sa = some ⟨s, so, none⟩ ∧ (w1.at d2).cell? ⟨s, so + j, none⟩ = some (.int .i64 z) := fun j z hz => by
    obtain ⟨s, so, e, hc⟩ := hs j z hz
    exact ⟨s, so, e, (World.cell?_of_block (a := ⟨s, so + j, none⟩) (O1' s (cell_lt' hc))).trans hc⟩
  refine Runs.then (splay_any sz tg (.slice ta n0 tc) most ta tb toff tc (min n0 64) hta' (by omega) oa ln oc ops sa sc sl hsl fr2 [] (w1.at d2) I1 hs1 fun w' _ => firstOps_some ta n0 tc w' hcap had) ?_
  rintro _ w2 ⟨cells, H, rfl⟩
  have O2 : ∀ b, b < w1.heap.size → w2.heap[b]? = w1.heap[b]? := H.old
  have Z2 : w1.heap.size ≤ w2.heap.size := H.size
  have I2 : OpsIn tb toff (min n0 64) oa ln oc ops w2 := I1.old O2
  have hs2 : ∀ (j : Nat) (z : Int), sl[j]? = some z → ∃ s so, sa = some ⟨s, so, none⟩ ∧ w2.cell? ⟨s, so + j, none⟩ = some (.int .i64 z) := fun j z hz => by
    obtain ⟨s, so, e, hc⟩ := hs1 j z hz
    exact ⟨s, so, e, (World.cell?_of_block (a := ⟨s, so + j, none⟩) (O2 s (cell_lt' hc))).trans hc⟩
  have href := rplay_w (main := true) sz ((w1.at d2).heap.size + 2) ((w1.at d2).heap.size + 1) tg tb toff n0 tc (min n0 64) ta oa ln oc ops sa sc sl most w2 I2 rfl hta' (fun w h => I2.old h) hsl hnil hs2
  have hT := H.tr
  have hN := (sizeN_le sz).2.1
  generalize playO (skLa ((w1.at d2).heap.size + 2) ((w1.at d2).heap.size + 1) (sizeN sz) tg) (sk0 (sizeN sz)) ops (min n0 64) most sl = F at *
  refine Runs.walk (hB2 cells w2 (fun cb w' => TrA cb (min n0 64) (fun i => (F.1.th i).ans) F.2 (stateX (sizeN sz) F.1.s) (stuckO (min n0 64) F.1) w' ∧ Chg (fun _ => False) w2 w' ∧ F.2.length ≤ 1048576 ∧ ∀ i, i < min n0 64 → (F.1.th i).ans.length ≤ 65536) (fun c' cs' => (href c' cs').mono ?_) fun cb w3 ⟨h1, h2, h3, h4⟩ => ?_) ?_
  · rintro g w' ⟨v, ⟨cb, rfl, h⟩, hg⟩
    exact ⟨_, ⟨cb, rfl, h⟩, hg⟩
  · refine sm_w cells cb (min n0 64) _ _ _ _ w3 (by omega) h3 ?_ h4 (hT.chg h2) h1
    have := valsX_len F.1.s (sizeN sz) (nodeX (Sk.hd F.1.s))
    simp only [stateX, List.length_append, List.length_cons, List.length_nil]
    omega
  · rintro g w' ⟨hC, cb, w3, ⟨_, h2, _⟩, h5⟩
    refine .now ⟨hC, fun b hb => ?_⟩
    have e2 := h2.size
    exact (h5.same b (by omega) id).trans ((h2.same b (by omega) id).trans ((O2 b (by omega)).trans (O1' b hb)))
end Go.Proofs.Ytdmpmoggacjgcaa
