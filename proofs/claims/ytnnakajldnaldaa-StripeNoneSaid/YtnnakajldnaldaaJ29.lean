/- Part 29. -/
import Derived.Test.YtnnakajldnaldaaJ4
import Derived.Test.YtnnakajldnaldaaJ16
import Derived.Test.YtnnakajldnaldaaJ26
import Derived.Test.YtnnakajldnaldaaJ28
set_option linter.unusedSimpArgs false
set_option linter.unusedVariables false
set_option maxHeartbeats 8000000
set_option maxRecDepth 100000
namespace Go.Proofs.Ytnnakajldnaldaa
open Go.Conc Go.RowKit Go.Relay
open Go.ConcN (upd upd_ne upd_same)
section
noncomputable def reg33_0 := rg Try.f33.body [0]
noncomputable def reg33_1 := rg Try.f33.body [1, 0]
noncomputable def reg33_2 := rg Try.f33.body [1, 1, 0, 0]
noncomputable def reg33_3 := rg Try.f33.body [1, 1, 0, 1, 0, 0, 0, 0]
noncomputable def reg33_5 := rg Try.f33.body [1, 1, 0, 1, 0, 0, 1, 0, 0]
theorem size33_5 : reg33_5.size = 14 := by kernel_rfl
noncomputable def reg33_4 := rg Try.f33.body [1, 1, 0, 1, 0, 0, 1, 1]
noncomputable def reg33_6 := rg Try.f33.body [1, 1, 1, 0, 0]
noncomputable def reg33_7 := rg Try.f33.body [1, 1, 1, 0, 1, 0]
noncomputable def reg33_8 := rg Try.f33.body [1, 1, 1, 1, 0]
theorem z33 : List.range reg33_0.size = [0] ∧ List.range reg33_1.size = [0, 1, 2] ∧ List.range reg33_2.size = [0] ∧ List.range reg33_3.size = [0, 1, 2, 3, 4, 5, 6, 7] ∧ List.range reg33_4.size = [0, 1, 2] ∧ List.range reg33_5.size = [0, 1, 2, 3, 4, 5, 6, 7, 8, 9, 10, 11, 12, 13] ∧ List.range reg33_6.size = [0, 1, 2, 3, 4, 5] ∧ List.range reg33_7.size = [0, 1, 2, 3, 4] ∧ List.range reg33_8.size = [0, 1] := by refine ⟨?_, ?_, ?_, ?_, ?_, ?_, ?_, ?_, ?_⟩ <;> kernel_rfl
theorem code33_is : Try.f33.body = some (.seq (.region 0 reg33_0 false) (.seq (.region 1 reg33_1 false) (.seq (.seq (.region 2 reg33_2 false) (.block 0 (.loop (.seq (.seq (.region 3 reg33_3 false) (.cond (.tmp 14 ) (.skip) (.exit 0))) (.seq (.block 1 (.region 5 reg33_5 true)) (.region 4 reg33_4 false)))))) (.seq (.seq (.region 6 reg33_6 false) (.cond (.tmp 35 ) (.region 7 reg33_7 false) (.skip))) (.seq (.region 8 reg33_8 false) (.ret)))))) := by kernel_rfl
noncomputable def hdNew5 (xv : Value) (M j : Nat) (u : Nat → Value) : Frame :=
  (base 33).at { tmps := #[xv, u 1, u 2, .pointer (some ⟨M, 0, none⟩), .int .i64 j, u 5, u 6, u 7, u 8, u 9, u 10, u 11, u 12, u 13, u 14, u 15, u 16, u 17, u 18, u 19, u 20, u 21, u 22, u 23, u 24, u 25, u 26, u 27, u 28, u 29, u 30, u 31, u 32, u 33, u 34, u 35, u 36, u 37, u 38, u 39, u 40], defers := [] } [.code (.seq (.seq (.region 3 reg33_3 false) (.cond (.tmp 14 ) (.skip) (.exit 0))) (.seq (.block 1 (.region 5 reg33_5 true)) (.region 4 reg33_4 false))), .inLoop (.seq (.seq (.region 3 reg33_3 false) (.cond (.tmp 14 ) (.skip) (.exit 0))) (.seq (.block 1 (.region 5 reg33_5 true)) (.region 4 reg33_4 false))), .inBlock 0, .code (.seq (.seq (.region 6 reg33_6 false) (.cond (.tmp 35 ) (.region 7 reg33_7 false) (.skip))) (.seq (.region 8 reg33_8 false) (.ret)))]
def intB (x : Int) : Obj := .cells #[.int .i64 x] 2
section
variable {main : Bool}
structure NwI (M : Nat) (xs : List Int) (j : Nat) (cv : Value) (w0 w : World) : Prop where
  hd : w.heap[M]? = some (.cells #[cv, .slice none 0 0] 103)
  row : w.ownsRow (M + 1) 2 1 cv j (intRow (xs.take j))
  old : ∀ b, b < M → w.heap[b]? = w0.heap[b]?
  lt : M < w.heap.size
theorem new_in (xa : Option Addr) (n c : Nat) (cs : List Frame) (w : World) :
    Walk Try.prog main (DR (fun _ => none)) (fun g w' => ∃ u w1, g = G (hdNew5 (.slice xa n c) w.heap.size 0 u) cs ∧ NwI w.heap.size [] 0 (.slice none 0 0) w w1 ∧ ∃ d, w' = w1.at d)
      (G (Frame.enter Try.prog 33 #[.slice xa n c] .normal) cs) w := by
  rw [enter_at _ Try.func33 code33_is]
  simp only [Try.ntmps33, ez, Nat.reduceAdd, Nat.reduceSub]
  repeat (first | refine Walk.cx ?_ | (refine Walk.cReg ?_; simp only [z33]) | (refine Walk.oq ?_; try walk_nrm) | (refine Walk.un ?_; walk_nrm))
  (refine Walk.oa ?_; try walk_nrm)
  have d1 := heap_alloc_new w (.cells #[.slice none 0 0, .slice none 0 0] 103)
  have o1 : ∀ b, b < w.heap.size → (w.alloc (.cells #[.slice none 0 0, .slice none 0 0] 103)).heap[b]? = w.heap[b]? := fun b hb => heap_new_lt _ _ hb
  have s1 : (w.alloc (.cells #[.slice none 0 0, .slice none 0 0] 103)).heap.size = w.heap.size + 1 := by simp
  generalize w.heap.size = M at *
  generalize w.alloc (.cells #[.slice none 0 0, .slice none 0 0] 103) = w1 at *
  repeat (first | refine Walk.cx ?_ | (refine Walk.cReg ?_; simp only [z33]) | (refine Walk.oq ?_; try walk_nrm) | (refine Walk.un ?_; walk_nrm))
  refine Walk.ctl rfl (fun w => stepG_loop) ?_
  refine slots_walk (F := fun u => G (hdNew5 (.slice xa n c) M 0 u) cs) (fun u => .stop fun d => ⟨u, w1, rfl, ⟨d1, ⟨rfl, .inl ⟨rfl, rfl⟩⟩, o1, by omega⟩, d, rfl⟩) ?_
  simp only [hdNew5]
  rfl
theorem new_go (xa : Option Addr) (xs : List Int) (c j M : Nat) (cv : Value) (hj : j < xs.length) (hj6 : j < 64) (hxn : xs.length ≤ 17592186044416) (w0 w : World) (hM : w0.heap.size = M) (hx : SlIn xa xs w0) (I : NwI M xs j cv w0 w) (u : Nat → Value) (cs : List Frame) :
    Walk Try.prog main (DR (fun _ => none)) (fun g w' => ∃ u w1 cv', g = G (hdNew5 (.slice xa xs.length c) M (j + 1) u) cs ∧ NwI M xs (j + 1) cv' w0 w1 ∧ ∃ d, w' = w1.at d) (G (hdNew5 (.slice xa xs.length c) M j u) cs) w := by
  have hx0 : xs[j]? = some (xs.getD j 0) := by rw [List.getD_eq_getElem?_getD, List.getElem?_eq_getElem (by omega)]; rfl
  have htk : intRow (xs.take (j + 1)) = intRow (xs.take j) ++ [.int .i64 (xs.getD j 0)] := by
    rw [List.take_succ_eq_append_getElem hj, intRow_snoc]
    congr 3
    rw [List.getD_eq_getElem?_getD, List.getElem?_eq_getElem hj]
    rfl
  obtain ⟨_, s, so, rfl, hc0⟩ := hx j _ hx0
  have hsl := cell_lt' hc0
  have c2 : w.cell? ⟨s, so + j, none⟩ = some (.int .i64 (xs.getD j 0)) := (World.cell?_of_block (a := ⟨s, so + j, none⟩) (I.old s (by omega))).trans hc0
  have c1 : w.cell? ⟨M, 0, none⟩ = some cv := (cell_of I.hd 0).trans rfl
  have hMl := I.lt
  generalize xs.getD j 0 = x at *
  generalize hln : xs.length = ln at *
  have hj0 : (0 : Int) ≤ j := by omega
  have hj1 : decide ((j : Int) < ln) = true := by simp; omega
  have hj3 : decide (j < ln) = true := by simp; omega
  have hj4 : (j : Int) < ln := by omega
  have hj5 : decide ((j : Int) < 64) = true := by simp; omega
  have hw1 : IntKind.wrap .i64 ((j : Int) + 1) = (j : Int) + 1 := by rw [IntKind.wrap_i64]; omega
  have hcc : ((j + 1 : Nat) : Int) = (j : Int) + 1 := by simp
  have hsz1 : w.heap.size + 1 ≤ (w.alloc (intB x)).heap.size ∧ (w.alloc (intB x)).heap.size ≤ w.heap.size + 1 := by simp
  have hO1 : ∀ y, y < w.heap.size → (w.alloc (intB x)).heap[y]? = w.heap[y]? := fun y hy => heap_new_lt _ _ hy
  have hown' : (w.alloc (intB x)).ownsRow (M + 1) 2 1 cv j (intRow (xs.take j)) := row_same I.row fun g hg => hO1 g (I.row.lt g hg).2
  have hnews : ∀ (j : Nat) (u : Value), ([.int .i64 x] : List Value)[j]? = some u → (w.alloc (intB x)).cell? ((⟨w.heap.size, 0, none⟩ : Addr).add j) = some u := fun j u hu => by
    rw [add_none, Nat.zero_add]
    refine (cell_of (heap_alloc_new _ _) j).trans ?_
    simpa using hu
  have hnM : ∀ g, cv.ownBlock = some g → M < g := fun g hg => (I.row.lt g hg).1
  have hfar : ∀ (y : Nat) (w2 : World), y ≤ M → (w.alloc (intB x)).grownBy w2 cv.ownBlock → w2.heap[y]? = w.heap[y]? := fun y w2 hy hg => (hg.block y (by omega) (fun e => by have := hnM y e.symm; omega)).trans (hO1 y (by omega))
  conv => arg 5; unfold hdNew5
  repeat (first | refine Walk.cx ?_ | (refine Walk.cReg ?_; simp only [z33]) | (refine Walk.oq ?_; try walk_nrm) | (refine Walk.un ?_; walk_nrm))
  refine Walk.drawnT (iA := 9) (iB := 10) (w1 := w.alloc (intB x)) (vA := .slice (some ⟨w.heap.size, 0, none⟩) 1 1) (Z := fun y => y.cell? ⟨M, 0, none⟩ = some cv ∧ y.cell? ⟨s, so + j, none⟩ = some (.int .i64 x))
    (fun v w2 => ∃ g cap, v = .slice (some ⟨g, 0, none⟩) (j + 1) cap ∧ w2.ownsRow (M + 1) 2 1 (.slice (some ⟨g, 0, none⟩) (j + 1) cap) (j + 1) (intRow (xs.take j) ++ [.int .i64 x]) ∧ (w.alloc (intB x)).grownBy w2 cv.ownBlock) (by kernel_rfl) size33_5 (by kernel_rfl) (by kernel_rfl) (by kernel_rfl) (by kernel_rfl) (by decide) (ho_of (by conv => lhs; whnf) (by kernel_rfl)) (ho_of (by conv => lhs; whnf) (by kernel_rfl)) ⟨c1, c2⟩ ⟨cell_alloc _ _ c1, cell_alloc _ _ c2⟩ ?_ ?_
  · rintro v w2 ⟨g, cap, _, _, hg⟩
    exact ⟨(World.cell?_of_block (a := ⟨M, 0, none⟩) (hfar M w2 (by omega) hg)).trans c1, (World.cell?_of_block (a := ⟨s, so + j, none⟩) (hfar s w2 (by omega) hg)).trans c2⟩
  rw [show List.filter (quietQ 9 10) (List.range 13) = [0, 1, 2, 3, 4, 5, 6, 7, 8, 11, 12] from by decide]
  repeat (first | (refine Cm.opqZ (ho_of (by conv => lhs; whnf) (by kernel_rfl)) (by rfl) (fun wz hz dd e he => ?_) ?_; (· (obtain ⟨z1, z2⟩ := hz; simp [go_sem, *] at he; try (subst he; exact evR_read _ _))); apply Exists.intro; apply And.intro; (· (intro wz hz dd K hK; obtain ⟨z1, z2⟩ := hz; go_simp; exact hK))) | (refine Cm.unw (ho_of (by conv => lhs; whnf) (by kernel_rfl)) (by rfl) ?_; walk_nrm))
  refine Cm.done ⟨?_, ?_, ?_⟩
  · intro y hev rest hr'
    have e0 : y.eval (.tmp 25) = .int .i64 x := (hev (.tmp 25) (by simp [Op.operands])).trans rfl
    have e1 : y.tmps[25]?.getD undef = .int .i64 x := by
      rw [← Array.getD_eq_getD_getElem?]
      exact e0
    clear e0 hev
    (refine Walk.oa ?_; try walk_nrm)
    exact hr' _ _ ⟨rfl, _, rfl⟩
  · intro y hev rest hr'
    have e1 : y.eval (.tmp 21) = cv := (hev (.tmp 21) (by simp [Op.operands, Call.operands])).trans rfl
    have e2 : y.eval (.tmp 26) = .slice (some ⟨w.heap.size, 0, none⟩) 1 1 := (hev (.tmp 26) (by simp [Op.operands, Call.operands])).trans rfl
    have hiA := Option.some_get (show (Try.prog.info? 2).isSome = true by kernel_rfl)
    refine Walk.append (.tmp 21) (.tmp 26) 22 (ho_of (by conv => lhs; whnf) (by kernel_rfl)) (by rfl) (by decide) rfl (M + 1) 2 _ (.int .i64 0) 1 8 (by kernel_rfl) hiA.symm (by rfl) (by rfl) (by rfl) (by rfl) (by decide) cv j (intRow (xs.take j)) e1 hown' ⟨w.heap.size, 0, none⟩ 1 1 [.int .i64 x] e2 (by rfl) hnews (by simp [Value.oneCell']) (by decide) (by simp [maxLen]; omega) (by omega) (by omega) (fun g _ => ap0 g) (fun g cap w3 hown hg hat hlt => ?_)
    exact hr' _ _ ⟨_, w3, ⟨g, cap, rfl, hown, hg⟩, rfl, w3.drawn, rfl⟩
  rintro v w2 ⟨g, cap, rfl, hown, hg⟩ rest hr'
  have hb2 : w2.heap[M]? = w.heap[M]? := hfar M w2 (by omega) hg
  have h12 : w2.cell? ⟨M, 0, none⟩ = some cv := (World.cell?_of_block (a := ⟨M, 0, none⟩) hb2).trans c1
  have z12 : w2.frozen? ⟨M, 0, none⟩ = false := frozen_of (hb2.trans I.hd) 0
  have hgs := hg.size
  have hgM := (hown.lt g rfl).1
  have I3 : NwI M xs (j + 1) (.slice (some ⟨g, 0, none⟩) (j + 1) cap) w0 (w2.setCell ⟨M, 0, none⟩ (.slice (some ⟨g, 0, none⟩) (j + 1) cap)) := by
    refine ⟨?_, ?_, fun b hb => ?_, ?_⟩
    · rw [heap_set_self _ _ (hb2.trans I.hd)]
      simp
    · rw [htk]
      exact row_same hown fun y hy => heap_set_other _ _ _ _ (by have := (hown.lt y hy).1; show y ≠ M; omega)
    · exact (heap_set_other _ _ _ _ (by show b ≠ M; omega)).trans ((hfar b w2 (by omega) hg).trans (I.old b hb))
    · rw [size_set]; omega
  (have hfr := fr0 M 0; refine Walk.os hfr h12 ?_; clear hfr; try walk_nrm)
  refine hr' _ _ ?_
  generalize w2.setCell ⟨M, 0, none⟩ (.slice (some ⟨g, 0, none⟩) (j + 1) cap) = w3 at *
  clear hb2 h12 z12 hown hg hfar hown' hnews c1 c2
  try walk_nrm
  repeat (first | refine Walk.cx ?_ | (refine Walk.cReg ?_; simp only [z33]) | (refine Walk.oq ?_; try walk_nrm) | (refine Walk.un ?_; walk_nrm))
  refine Walk.ctl rfl (fun w => stepG_inLoop) ?_
  refine slots_walk (F := fun u => G (hdNew5 (.slice (some ⟨s, so, none⟩) ln c) M (j + 1) u) cs) (fun u => .stop fun d => ⟨u, w3, _, rfl, I3, d, rfl⟩) ?_
  simp only [hdNew5, hcc]
  rfl
end
end
section
section
variable {main : Bool}
def NewR (xs : List Int) (T : Nat → R5) (w : World) (v : Value) (w' : World) : Prop := v = .pointer (some ⟨w.heap.size, 0, none⟩) ∧ ∃ cg cc, M5 w.heap.size w.heap.size cg cc 0 0 0 (stN xs.length) none (spJ xs (min xs.length 64)) T w' ∧ Chg (fun _ => False) w w'
theorem new_end1 (xa : Option Addr) (xs : List Int) (c : Nat) (k M : Nat) (T : Nat → R5) (cv : Value) (hk : k = min xs.length 64) (hk0 : 0 < k) (w0 w : World) (hM : w0.heap.size = M) (I : NwI M xs k cv w0 w) (u : Nat → Value) (fr : Frame) (cs : List Frame) :
    Walk Try.prog main (DR (fun _ => none)) (fun g w' => g = G (fr.finish (.pointer (some ⟨M, 0, none⟩))) cs ∧ ∃ cg cc, M5 M M cg cc 0 0 0 (stN xs.length) none (spJ xs k) T w' ∧ Chg (fun _ => False) w0 w') (G (hdNew5 (.slice xa xs.length c) M k u) (fr :: cs)) w := by
  obtain ⟨q1, q2, q3⟩ := stN_le xs.length
  have hmk : stN xs.length = k := by omega
  rw [hmk]
  obtain ⟨g, cap, cur, rfl, h1, h2, h3, h4, h5, h6⟩ : ∃ g cap cur, cv = .slice (some ⟨g, 0, none⟩) k cap ∧ M + 1 ≤ g ∧ w.heap[g]? = some (.cells cur 2 (0, 0)) ∧ k ≤ cap ∧ cap ≤ maxLen ∧ cur.size = cap * 1 ∧ cur.toList.take (k * 1) = intRow (xs.take k) := by
    rcases I.row.2 with ⟨_, hn⟩ | h
    · omega
    · exact h
  have IM : M5 M M g cap 0 0 0 k none (spJ xs k) T w := by
    refine ⟨I.hd, ⟨cur, h2, fun i hi => ?_⟩, fun h => absurd h (by decide), fun i hi => absurd hi (Nat.not_lt_zero i), fun i hi => absurd hi (Nat.not_lt_zero i), Nat.le_refl _, by omega, by omega, fun h => absurd h (by decide)⟩
    have e : (intRow (xs.take k))[i]? = some (.int .i64 (xs.getD i 0)) := by
      simp only [intRow, List.getElem?_map, List.getElem?_take, if_pos hi]
      rw [List.getD_eq_getElem?_getD, List.getElem?_eq_getElem (by omega)]
      rfl
    rw [← h6, List.getElem?_take, if_pos (by omega)] at e
    rw [show spJ xs k i = xs.getD i 0 from if_pos hi]
    simpa using e
  have hC : Chg (fun _ => False) w0 w := ⟨by have := I.lt; omega, fun b hb _ => I.old b (by omega)⟩
  have c1 : w.cell? ⟨M, 0, none⟩ = some (.slice (some ⟨g, 0, none⟩) k cap) := (cell_of I.hd 0).trans rfl
  have hb0 : ((k : Int) == 0) = false := by simp; omega
  have hb1 : ¬ (k : Int) = 0 := by omega
  have hb2 : ¬ k = 0 := by omega
  generalize xs.length = ln at *
  by_cases hl : ln ≤ 64
  · have hkl : k = ln := by omega
    subst hkl
    have hj3 : decide (k < k) = false := by simp
    clear hk hmk q1 q2 q3 h1 h2 h3 h4 h5 h6 hl
    conv => arg 5; unfold hdNew5
    repeat (first | refine Walk.cx ?_ | (refine Walk.cReg ?_; simp only [z33]) | (refine Walk.oq ?_; try walk_nrm) | (refine Walk.un ?_; walk_nrm))
    exact Walk.on1 rfl rfl Try.func33 rfl (.stop fun d => ⟨rfl, g, cap, IM.same fun _ _ => rfl, hC.at d⟩)
  · have hkl : k = 64 := by omega
    have hj1 : decide ((k : Int) < ln) = true := by simp; omega
    have hj3 : decide (k < ln) = true := by simp; omega
    have hj5 : decide ((k : Int) < 64) = false := by simp; omega
    have hj6 : ¬ (k : Int) < 64 := by omega
    clear hkl hk hmk q1 q2 q3 h1 h2 h3 h4 h5 h6 hl
    conv => arg 5; unfold hdNew5
    repeat (first | refine Walk.cx ?_ | (refine Walk.cReg ?_; simp only [z33]) | (refine Walk.oq ?_; try walk_nrm) | (refine Walk.un ?_; walk_nrm))
    exact Walk.on1 rfl rfl Try.func33 rfl (.stop fun d => ⟨rfl, g, cap, IM.same fun _ _ => rfl, hC.at d⟩)
theorem new_end0 (xa : Option Addr) (c M : Nat) (T : Nat → R5) (w0 w : World) (hM : w0.heap.size = M) (I : NwI M [] 0 (.slice none 0 0) w0 w) (u : Nat → Value) (fr : Frame) (cs : List Frame) :
    Walk Try.prog main (DR (fun _ => none)) (fun g w' => g = G (fr.finish (.pointer (some ⟨M, 0, none⟩))) cs ∧ ∃ cg cc, M5 M M cg cc 0 0 0 1 none (spJ [] 0) T w' ∧ Chg (fun _ => False) w0 w') (G (hdNew5 (.slice xa 0 c) M 0 u) (fr :: cs)) w := by
  have c1 : w.cell? ⟨M, 0, none⟩ = some (.slice none 0 0) := (cell_of I.hd 0).trans rfl
  have hMl := I.lt
  conv => arg 5; unfold hdNew5
  repeat (first | refine Walk.cx ?_ | (refine Walk.cReg ?_; simp only [z33]) | (refine Walk.oq ?_; try walk_nrm) | (refine Walk.un ?_; walk_nrm))
  (refine Walk.oa ?_; try walk_nrm)
  have d1 : (w.alloc (intB 0)).heap[w.heap.size]? = some (.cells #[.int .i64 0] 2) := heap_alloc_new _ _
  have o1 : ∀ b, b < w.heap.size → (w.alloc (intB 0)).heap[b]? = w.heap[b]? := fun b hb => heap_new_lt _ _ hb
  have s1 : (w.alloc (intB 0)).heap.size = w.heap.size + 1 := by simp
  have e1 : w.alloc (.cells #[.int .i64 0] 2) = w.alloc (intB 0) := rfl
  try rw [e1]
  clear e1 c1
  generalize hS : w.heap.size = S at *
  generalize w.alloc (intB 0) = w1 at *
  have hd1 := (o1 M hMl).trans I.hd
  have c1 : w1.cell? ⟨M, 0, none⟩ = some (.slice none 0 0) := (cell_of hd1 0).trans rfl
  have z1 : w1.frozen? ⟨M, 0, none⟩ = false := frozen_of hd1 0
  repeat (first | refine Walk.cx ?_ | (refine Walk.cReg ?_; simp only [z33]) | (refine Walk.oq ?_; try walk_nrm) | (refine Walk.un ?_; walk_nrm))
  (have hfr := fr0 M 0; refine Walk.os hfr c1 ?_; clear hfr; try walk_nrm)
  have IM : M5 M M S 1 0 0 0 1 none (spJ [] 0) T (w1.setCell ⟨M, 0, none⟩ (.slice (some ⟨S, 0, none⟩) 1 1)) := by
    refine ⟨?_, ⟨_, (heap_set_other _ _ _ _ (by show S ≠ M; omega)).trans d1, fun i hi => ?_⟩, fun h => absurd h (by decide), fun i hi => absurd hi (Nat.not_lt_zero i), fun i hi => absurd hi (Nat.not_lt_zero i), Nat.le_refl _, by omega, by omega, fun h => absurd h (by decide)⟩
    · rw [heap_set_self _ _ hd1]
      simp
    · have : i = 0 := by omega
      subst this
      rfl
  have hC : Chg (fun _ => False) w0 (w1.setCell ⟨M, 0, none⟩ (.slice (some ⟨S, 0, none⟩) 1 1)) := ⟨by rw [size_set]; omega, fun b hb _ => (heap_set_other _ _ _ _ (by show b ≠ M; omega)).trans ((o1 b (by omega)).trans (I.old b (by omega)))⟩
  generalize w1.setCell ⟨M, 0, none⟩ (.slice (some ⟨S, 0, none⟩) 1 1) = w2 at *
  try walk_nrm
  repeat (first | refine Walk.cx ?_ | (refine Walk.cReg ?_; simp only [z33]) | (refine Walk.oq ?_; try walk_nrm) | (refine Walk.un ?_; walk_nrm))
  exact Walk.on1 rfl rfl Try.func33 rfl (.stop fun d => ⟨rfl, S, 1, IM.same fun _ _ => rfl, hC.at d⟩)
end
end
section
section
variable {main : Bool}
theorem rnew_w (xa : Option Addr) (xs : List Int) (xc : Nat) (hxn : xs.length ≤ 17592186044416) (T : Nat → R5) (w : World) (hx : SlIn xa xs w) : CallW Try.prog main (fun _ => none) 33 #[.slice xa xs.length xc] w (NewR xs T w) := by
  intro c cs
  refine (new_in xa xs.length xc (c :: cs) w).then ?_
  rintro _ _ ⟨u, w1, rfl, I, d, rfl⟩
  refine Walk.back ?_ d
  by_cases h0 : xs.length = 0
  · have hnil : xs = [] := List.eq_nil_of_length_eq_zero h0
    subst hnil
    refine (new_end0 xa xc w.heap.size T w w1 rfl I u c cs).mono ?_
    rintro g w' ⟨rfl, cg, cc, I2, hC⟩
    exact ⟨_, ⟨rfl, cg, cc, I2, hC⟩, rfl⟩
  · have loop : ∀ (r j : Nat) (cv : Value) (w2 : World) (u : Nat → Value), j + r = min xs.length 64 → NwI w.heap.size xs j cv w w2 →
        Walk Try.prog main (DR (fun _ => none)) (fun g w' => g = G (c.finish (.pointer (some ⟨w.heap.size, 0, none⟩))) cs ∧ ∃ cg cc, M5 w.heap.size w.heap.size cg cc 0 0 0 (stN xs.length) none (spJ xs (min xs.length 64)) T w' ∧ Chg (fun _ => False) w w') (G (hdNew5 (.slice xa xs.length xc) w.heap.size j u) (c :: cs)) w2 := by
      intro r
      induction r with
      | zero =>
        intro j cv w2 u hj I2
        have hj' : j = min xs.length 64 := hj
        have := new_end1 (main := main) xa xs xc j w.heap.size T cv hj' (by omega) w w2 rfl I2 u c cs
        rw [hj'] at this ⊢
        exact this
      | succ r ih =>
        intro j cv w2 u hj I2
        refine (new_go xa xs xc j w.heap.size cv (by omega) (by omega) hxn w w2 rfl hx I2 u (c :: cs)).then ?_
        rintro _ _ ⟨u3, w3, cv', rfl, I3, d, rfl⟩
        exact Walk.back (ih (j + 1) cv' w3 u3 (by omega) I3) d
    refine (loop (min xs.length 64) 0 (.slice none 0 0) w1 u (by omega) ⟨I.hd, by simpa using I.row, I.old, I.lt⟩).mono ?_
    rintro g w' ⟨rfl, cg, cc, I2, hC⟩
    exact ⟨_, ⟨rfl, cg, cc, I2, hC⟩, rfl⟩
end
end
section
noncomputable def reg15_0 := rg Try.f15.body [0]
noncomputable def reg15_1 := rg Try.f15.body [1, 0]
theorem z15 : List.range reg15_0.size = [0] ∧ List.range reg15_1.size = [0, 1, 2, 3, 4, 5, 6] := by refine ⟨?_, ?_⟩ <;> kernel_rfl
theorem code15_is : Try.f15.body = some (.seq (.region 0 reg15_0 false) (.seq (.region 1 reg15_1 false) (.ret))) := by kernel_rfl
def RPl (n : Nat) (L : La) (stx : L.Sg → List Int) (W : World) (F : OX L × List Nat) (v : Value) (w' : World) : Prop := ∃ cells, v = .agg cells ∧ TrA cells n (fun i => (F.1.th i).ans) F.2 (stx F.1.s) (stuckO n F.1) w' ∧ Chg (fun _ => False) W w' ∧ ∀ i, i < n → (F.1.th i).ans.length ≤ 65536
section
variable {main : Bool}
theorem rplay_in (xa : Option Addr) (xs : List Int) (xc : Nat) (tv sv : Value) (most : Int) (Y : Nat → World → World → Prop) (cs : List Frame) (c : Frame) (W : World) (Z : Array Value → World → Prop)
    (hnew : ∀ w1, w1 = W.alloc zTr → CallW Try.prog main (fun _ => none) 33 #[.slice xa xs.length xc] w1 (fun v w' => v = .pointer (some ⟨w1.heap.size, 0, none⟩) ∧ Y w1.heap.size w1 w'))
    (hrun : ∀ w1 w2, w1 = W.alloc zTr → Y w1.heap.size w1 w2 → CallW Try.prog main (fun _ => none) 34 #[.pointer (some ⟨w1.heap.size, 0, none⟩), tv, sv, .int .i64 most] w2 (fun v w' => ∃ x0 x1 x2 x3, v = .agg #[x0, x1, x2, x3] ∧ w'.heap[W.heap.size]? = some zTr ∧ (#[x0, x1, x2, x3] : Array Value).all (·.oneCell') = true ∧ Z #[x0, x1, x2, x3] w')) :
    Walk Try.prog main (DR (fun _ => none)) (fun g w' => ∃ cells w3 d, g = G (c.finish (.agg cells)) cs ∧ Z cells w3 ∧ w' = (w3.setRow W.heap.size cells).at d) (G (Frame.enter Try.prog 15 #[.slice xa xs.length xc, tv, sv, .int .i64 most] .normal) (c :: cs)) W := by
  rw [enter_at _ Try.func15 code15_is]
  simp only [Try.ntmps15, ez, Nat.reduceAdd, Nat.reduceSub]
  repeat (first | refine Walk.cx ?_ | (refine Walk.cReg ?_; simp only [z15]) | (refine Walk.oq ?_; try walk_nrm) | (refine Walk.un ?_; walk_nrm))
  (refine Walk.oa ?_; try walk_nrm)
  have e1 : W.alloc (.cells #[.slice none 0 0, .slice none 0 0, .slice none 0 0, .bool false] 31) = W.alloc zTr := rfl
  try rw [e1]
  clear e1
  have hnew := hnew _ rfl
  have hrun := fun w2 => hrun _ w2 rfl
  generalize W.alloc zTr = w1 at *
  generalize hR : W.heap.size = R at *
  repeat (first | refine Walk.cx ?_ | (refine Walk.cReg ?_; simp only [z15]) | (refine Walk.oq ?_; try walk_nrm) | (refine Walk.un ?_; walk_nrm))
  refine Walk.callW (Post := fun v w' => v = .pointer (some ⟨w1.heap.size, 0, none⟩) ∧ Y w1.heap.size w1 w') ?_ (ho_of (by conv => lhs; whnf) (by kernel_rfl)) (by rfl) (by decide) rfl Try.func33 (by kernel_rfl) (by rfl) ?_
  · walk_nrm
    exact hnew
  rintro v w2 ⟨rfl, hY⟩
  have hrun := hrun w2 hY
  walk_nrm
  repeat (first | (refine Walk.oq ?_; try walk_nrm) | (refine Walk.un ?_; walk_nrm))
  refine Walk.callW (Post := fun v w' => ∃ x0 x1 x2 x3, v = .agg #[x0, x1, x2, x3] ∧ w'.heap[R]? = some zTr ∧ (#[x0, x1, x2, x3] : Array Value).all (·.oneCell') = true ∧ Z #[x0, x1, x2, x3] w') ?_ (ho_of (by conv => lhs; whnf) (by kernel_rfl)) (by rfl) (by decide) rfl Try.func34 (by kernel_rfl) (by rfl) ?_
  · walk_nrm
    exact hrun
  rintro v w3 ⟨x0, x1, x2, x3, rfl, hr, h1, hZ⟩
  have hT := setRow_self (cells := #[x0, x1, x2, x3]) hr
  walk_nrm
  repeat (first | (refine Walk.oq ?_; try walk_nrm) | (refine Walk.un ?_; walk_nrm))
  refine Walk.storeS 31 (.tmp 8) (.tmp 14) (ho_of (by conv => lhs; whnf) (by kernel_rfl)) (by rfl) (by decide) rfl R #[x0, x1, x2, x3] #[.slice none 0 0, .slice none 0 0, .slice none 0 0, .bool false] 31 rfl rfl hr (by kernel_rfl) rfl h1 (ap0 _) ?_
  have he : w3.setRow R #[x0, x1, x2, x3] = w3.setRow R #[x0, x1, x2, x3] := rfl
  generalize hw4 : w3.setRow R #[x0, x1, x2, x3] = w4 at hT ⊢
  try walk_nrm
  repeat (first | refine Walk.cx ?_ | (refine Walk.cReg ?_; simp only [z15]) | (refine Walk.oq ?_; try walk_nrm) | (refine Walk.un ?_; walk_nrm))
  refine Walk.onCell (T := R) rfl rfl rfl Try.func15 rfl (by rfl) hT (by kernel_rfl) (by kernel_rfl) (.stop fun d => ⟨#[x0, x1, x2, x3], w3, d, rfl, hZ, ?_⟩)
  rw [hw4]
theorem rplay_w (cb rb rc : Nat) (ra : Option Addr) (xa : Option Addr) (xs : List Int) (xc : Nat) (hxn : xs.length ≤ 17592186044416) (b off n0 tcc N : Nat) (hN : N = min n0 64) (va : Option Addr) (hv : 0 < N → va = some ⟨b, off, none⟩) (oa : Nat → Option Addr) (ln oc : Nat → Nat) (ops : Nat → List OpV) (sa : Option Addr) (sc : Nat) (sl : List Int) (most : Int) (W : World) (hx : SlIn xa xs W) (O : OpsIn b off N oa ln oc ops W)
    (hsl : sl.length ≤ 17592186044416) (hs : ∀ (j : Nat) (z : Int), sl[j]? = some z → ∃ s so, sa = some ⟨s, so, none⟩ ∧ W.cell? ⟨s, so + j, none⟩ = some (.int .i64 z)) :
    CallW Try.prog main (fun _ => none) 15 #[.slice xa xs.length xc, .slice va n0 tcc, .slice sa sl.length sc, .int .i64 most] W (RPl N (spLa cb rb (stN xs.length) ra rc) (fun s => stL s (stN xs.length)) W (playO (spLa cb rb (stN xs.length) ra rc) (spJ xs (min xs.length 64)) ops N most sl)) := by
  obtain ⟨q1, q2, q3⟩ := stN_le xs.length
  intro c cs
  have hO1 : ∀ b, b < W.heap.size → (W.alloc zTr).heap[b]? = W.heap[b]? := fun b hb => heap_new_lt _ _ hb
  have hsz : (W.alloc zTr).heap.size = W.heap.size + 1 := by simp
  have hs1 : ∀ (j : Nat) (z : Int), sl[j]? = some z → ∃ s so, sa = some ⟨s, so, none⟩ ∧ (W.alloc zTr).cell? ⟨s, so + j, none⟩ = some (.int .i64 z) := fun j z hz => by
    obtain ⟨s, so, e, hc⟩ := hs j z hz
    exact ⟨s, so, e, cell_alloc _ _ hc⟩
  have hnew := rnew_w (main := main) xa xs xc hxn (fun _ => R5.new none 0 0 0 []) (W.alloc zTr) (hx.old hO1)
  have hz : (W.alloc zTr).heap[W.heap.size]? = some zTr := heap_alloc_new _ _
  refine (rplay_in (main := main) xa xs xc (.slice va n0 tcc) (.slice sa sl.length sc) most (fun M w1 w' => ∃ cg cc, M5 M M cg cc 0 0 0 (stN xs.length) none (spJ xs (min xs.length 64)) (fun _ => R5.new none 0 0 0 []) w' ∧ Chg (fun _ => False) w1 w') cs c W
    (fun cells w' => (∀ w'' : World, (∀ b, W.heap.size + 1 ≤ b → b < w'.heap.size → w''.heap[b]? = w'.heap[b]?) → TrA cells N (fun i => ((playO (spLa cb rb (stN xs.length) ra rc) (spJ xs (min xs.length 64)) ops N most sl).1.th i).ans) (playO (spLa cb rb (stN xs.length) ra rc) (spJ xs (min xs.length 64)) ops N most sl).2 (stL (playO (spLa cb rb (stN xs.length) ra rc) (spJ xs (min xs.length 64)) ops N most sl).1.s (stN xs.length)) (stuckO N (playO (spLa cb rb (stN xs.length) ra rc) (spJ xs (min xs.length 64)) ops N most sl).1) w'') ∧ (∀ b, b < W.heap.size → w'.heap[b]? = W.heap[b]?) ∧ W.heap.size ≤ w'.heap.size ∧ ∀ i, i < N → ((playO (spLa cb rb (stN xs.length) ra rc) (spJ xs (min xs.length 64)) ops N most sl).1.th i).ans.length ≤ 65536) ?_ ?_).mono ?_
  · rintro w1 rfl c' cs'
    refine (hnew c' cs').mono ?_
    rintro g w' ⟨v, ⟨rfl, cg, cc, I, hC⟩, hg⟩
    exact ⟨_, ⟨rfl, cg, cc, I, hC⟩, hg⟩
  · rintro w1 w2 rfl ⟨cg, cc, I, hC⟩ c' cs'
    have hC2 := hC.size
    have hold : ∀ b, b < (W.alloc zTr).heap.size → w2.heap[b]? = (W.alloc zTr).heap[b]? := fun b hb => hC.same b hb id
    refine (run_w (main := main) (cb := cb) (rb := rb) (rc := rc) (ra := ra) (W := W.alloc zTr) (by omega) (by omega) (spJ xs (min xs.length 64)) _ b off n0 tcc N hN va hv oa ln oc ops sa sc sl most rfl (O.old hO1) hsl hs1 w2 I hold hC2 c' cs').mono ?_
    rintro g w' ⟨v, ⟨cells, rfl, e2, e3, e4, e5⟩, hg⟩
    obtain ⟨aa, ac, oa', oc', sa', sc', rfl, _⟩ := (e2 w' fun _ _ _ => rfl).all
    refine ⟨_, ⟨_, _, _, _, rfl, (e3 _ (by omega)).trans hz, by simp [Value.oneCell'], fun w'' h => e2 w'' fun b hb => h b (by omega), fun b hb => (e3 b (by omega)).trans (hO1 b hb), by omega, e5⟩, hg⟩
  · rintro g w' ⟨cells, w3, d, rfl, ⟨z1, z2, z3, z4⟩, rfl⟩
    refine ⟨_, ⟨cells, rfl, z1 _ fun b hb _ => setRow_other _ _ (by omega), ⟨?_, fun b hb _ => (setRow_other _ _ (by omega)).trans (z2 b hb)⟩, z4⟩, rfl⟩
    show W.heap.size ≤ (w3.setRow W.heap.size cells).heap.size
    rw [setRow_size]
    exact z3
end
end
section
section
variable {P : Program}
theorem eqInB (d : Nat) (t : TypeId) (x y : Bool) (w : World) (es : Array Event) (hu : P.underlying t = some .bool) : (Op.equalIn (d + 1) t (.bool x) (.bool y)).run P w = .ok (x == y) w ∧ (Op.equalIn (d + 1) t (.bool x) (.bool y)).events P w es = es := by
  constructor <;> simp [Op.equalIn, run_underlying hu]
theorem run_neqB (t : TypeId) (hu : P.underlying t = some .bool) (x y : Bool) (w : World) : (binOp .neq t (.bool x) (.bool y)).run P w = .ok (.bool (x != y)) w := by
  simp only [binOp]
  simp [Op.equal, Op.maxDepth, (eqInB 9999 t x y w #[] hu).1, bne]
theorem ev_neqB (t : TypeId) (hu : P.underlying t = some .bool) (x y : Bool) (w : World) (es : Array Event) : (binOp .neq t (.bool x) (.bool y)).events P w es = es := by
  simp only [binOp]
  simp [Op.equal, Op.maxDepth, (eqInB 9999 t x y w #[] hu).1, (eqInB 9999 t x y w es hu).2]
end
theorem und4B : Try.prog.underlying 4 = some .bool := by kernel_rfl
noncomputable def reg20_0 := rg Try.f20.body [0]
noncomputable def reg20_1 := rg Try.f20.body [1, 0, 0]
noncomputable def reg20_2 := rg Try.f20.body [1, 0, 1, 0, 0]
noncomputable def reg20_3 := rg Try.f20.body [1, 1, 0, 0]
noncomputable def reg20_4 := rg Try.f20.body [1, 1, 0, 1, 0, 0, 0, 0]
noncomputable def reg20_6 := rg Try.f20.body [1, 1, 0, 1, 0, 0, 1, 0, 0, 0]
theorem size20_6 : reg20_6.size = 9 := by kernel_rfl
noncomputable def reg20_7 := rg Try.f20.body [1, 1, 0, 1, 0, 0, 1, 0, 0, 1, 0, 0]
noncomputable def reg20_5 := rg Try.f20.body [1, 1, 0, 1, 0, 0, 1, 1]
noncomputable def reg20_8 := rg Try.f20.body [1, 1, 1, 0]
theorem z20 : List.range reg20_0.size = [0] ∧ List.range reg20_1.size = [0, 1, 2, 3, 4] ∧ List.range reg20_2.size = [0] ∧ List.range reg20_3.size = [0] ∧ List.range reg20_4.size = [0, 1, 2, 3] ∧ List.range reg20_5.size = [0, 1, 2] ∧ List.range reg20_6.size = [0, 1, 2, 3, 4, 5, 6, 7, 8] ∧ List.range reg20_7.size = [0] ∧ List.range reg20_8.size = [0] := by refine ⟨?_, ?_, ?_, ?_, ?_, ?_, ?_, ?_, ?_⟩ <;> kernel_rfl
theorem code20_is : Try.f20.body = some (.seq (.region 0 reg20_0 false) (.seq (.seq (.region 1 reg20_1 false) (.cond (.tmp 10 ) (.seq (.region 2 reg20_2 false) (.ret)) (.skip))) (.seq (.seq (.region 3 reg20_3 false) (.block 0 (.loop (.seq (.seq (.region 4 reg20_4 false) (.cond (.tmp 14 ) (.skip) (.exit 0))) (.seq (.block 1 (.seq (.region 6 reg20_6 true) (.cond (.tmp 25 ) (.seq (.region 7 reg20_7 false) (.ret)) (.skip)))) (.region 5 reg20_5 false)))))) (.seq (.region 8 reg20_8 false) (.ret))))) := by kernel_rfl
noncomputable def hdSame (av bv : Value) (i : Nat) (u : Nat → Value) : Frame :=
  (base 20).at { tmps := #[av, bv, u 2, u 3, u 4, .int .i64 i, u 6, u 7, u 8, u 9, u 10, u 11, u 12, u 13, u 14, u 15, u 16, u 17, u 18, u 19, u 20, u 21, u 22, u 23, u 24, u 25], defers := [] } [.code (.seq (.seq (.region 4 reg20_4 false) (.cond (.tmp 14 ) (.skip) (.exit 0))) (.seq (.block 1 (.seq (.region 6 reg20_6 true) (.cond (.tmp 25 ) (.seq (.region 7 reg20_7 false) (.ret)) (.skip)))) (.region 5 reg20_5 false))), .inLoop (.seq (.seq (.region 4 reg20_4 false) (.cond (.tmp 14 ) (.skip) (.exit 0))) (.seq (.block 1 (.seq (.region 6 reg20_6 true) (.cond (.tmp 25 ) (.seq (.region 7 reg20_7 false) (.ret)) (.skip)))) (.region 5 reg20_5 false))), .inBlock 0, .code (.seq (.region 8 reg20_8 false) (.ret))]
noncomputable def reg29_0 := rg Try.f29.body [0]
noncomputable def reg29_1 := rg Try.f29.body [1, 0, 0]
noncomputable def reg29_2 := rg Try.f29.body [1, 0, 1, 0, 0]
noncomputable def reg29_3 := rg Try.f29.body [1, 1, 0, 0]
noncomputable def reg29_4 := rg Try.f29.body [1, 1, 0, 1, 0, 0, 0, 0]
noncomputable def reg29_6 := rg Try.f29.body [1, 1, 0, 1, 0, 0, 1, 0, 0, 0]
theorem size29_6 : reg29_6.size = 9 := by kernel_rfl
noncomputable def reg29_7 := rg Try.f29.body [1, 1, 0, 1, 0, 0, 1, 0, 0, 1, 0, 0]
noncomputable def reg29_5 := rg Try.f29.body [1, 1, 0, 1, 0, 0, 1, 1]
noncomputable def reg29_8 := rg Try.f29.body [1, 1, 1, 0]
theorem z29 : List.range reg29_0.size = [0] ∧ List.range reg29_1.size = [0, 1, 2, 3, 4] ∧ List.range reg29_2.size = [0] ∧ List.range reg29_3.size = [0] ∧ List.range reg29_4.size = [0, 1, 2, 3] ∧ List.range reg29_5.size = [0, 1, 2] ∧ List.range reg29_6.size = [0, 1, 2, 3, 4, 5, 6, 7, 8] ∧ List.range reg29_7.size = [0] ∧ List.range reg29_8.size = [0] := by refine ⟨?_, ?_, ?_, ?_, ?_, ?_, ?_, ?_, ?_⟩ <;> kernel_rfl
theorem code29_is : Try.f29.body = some (.seq (.region 0 reg29_0 false) (.seq (.seq (.region 1 reg29_1 false) (.cond (.tmp 10 ) (.seq (.region 2 reg29_2 false) (.ret)) (.skip))) (.seq (.seq (.region 3 reg29_3 false) (.block 0 (.loop (.seq (.seq (.region 4 reg29_4 false) (.cond (.tmp 14 ) (.skip) (.exit 0))) (.seq (.block 1 (.seq (.region 6 reg29_6 true) (.cond (.tmp 25 ) (.seq (.region 7 reg29_7 false) (.ret)) (.skip)))) (.region 5 reg29_5 false)))))) (.seq (.region 8 reg29_8 false) (.ret))))) := by kernel_rfl
noncomputable def hdSameI (av bv : Value) (i : Nat) (u : Nat → Value) : Frame :=
  (base 29).at { tmps := #[av, bv, u 2, u 3, u 4, .int .i64 i, u 6, u 7, u 8, u 9, u 10, u 11, u 12, u 13, u 14, u 15, u 16, u 17, u 18, u 19, u 20, u 21, u 22, u 23, u 24, u 25], defers := [] } [.code (.seq (.seq (.region 4 reg29_4 false) (.cond (.tmp 14 ) (.skip) (.exit 0))) (.seq (.block 1 (.seq (.region 6 reg29_6 true) (.cond (.tmp 25 ) (.seq (.region 7 reg29_7 false) (.ret)) (.skip)))) (.region 5 reg29_5 false))), .inLoop (.seq (.seq (.region 4 reg29_4 false) (.cond (.tmp 14 ) (.skip) (.exit 0))) (.seq (.block 1 (.seq (.region 6 reg29_6 true) (.cond (.tmp 25 ) (.seq (.region 7 reg29_7 false) (.ret)) (.skip)))) (.region 5 reg29_5 false))), .inBlock 0, .code (.seq (.region 8 reg29_8 false) (.ret))]
section
variable {main : Bool} {V : Nat → Option Wait}
theorem sn_in (a b : Option Addr) (n ca cb : Nat) (cs : List Frame) (w : World) :
    Walk Try.prog main (DR V) (fun g w' => (∃ u, g = G (hdSame (.slice a n ca) (.slice b n cb) 0 u) cs) ∧ ∃ d, w' = w.at d) (G (Frame.enter Try.prog 20 #[.slice a n ca, .slice b n cb] .normal) cs) w := by
  rw [enter_at _ Try.func20 code20_is]
  simp only [Try.ntmps20, ez, Nat.reduceAdd, Nat.reduceSub]
  repeat (first | refine Walk.cx ?_ | (refine Walk.cReg ?_; simp only [z20]) | (refine Walk.oq ?_; try walk_nrm) | (refine Walk.un ?_; walk_nrm))
  refine Walk.ctl rfl (fun w => stepG_loop) ?_
  refine .stop fun d => ⟨at_slots ?_, d, rfl⟩
  simp only [hdSame]
  rfl
theorem sn_out (a b : Option Addr) (n ca cb : Nat) (u : Nat → Value) (c : Frame) (cs : List Frame) (w : World) :
    Walk Try.prog main (DR V) (fun g w' => g = G (c.finish (.bool true)) cs ∧ ∃ d, w' = w.at d) (G (hdSame (.slice a n ca) (.slice b n cb) n u) (c :: cs)) w := by
  unfold hdSame
  repeat (first | refine Walk.cx ?_ | (refine Walk.cReg ?_; simp only [z20]) | (refine Walk.oq ?_; try walk_nrm) | (refine Walk.un ?_; walk_nrm))
  exact Walk.on1 rfl rfl Try.func20 rfl (.stop fun d => ⟨rfl, d, rfl⟩)
theorem sn_go (ab ao n ca bb bo cb i : Nat) (x : Int) (u : Nat → Value) (cs : List Frame) (w : World) (hi : i < n) (hn : n ≤ 17592186044416) (ha : w.cell? ⟨ab, ao + i, none⟩ = some (.int .i64 x)) (hb : w.cell? ⟨bb, bo + i, none⟩ = some (.int .i64 x)) :
    Walk Try.prog main (DR V) (fun g w' => (∃ u', g = G (hdSame (.slice (some ⟨ab, ao, none⟩) n ca) (.slice (some ⟨bb, bo, none⟩) n cb) (i + 1) u') cs) ∧ ∃ d, w' = w.at d) (G (hdSame (.slice (some ⟨ab, ao, none⟩) n ca) (.slice (some ⟨bb, bo, none⟩) n cb) i u) cs) w := by
  have hw1 : IntKind.wrap .i64 ((i : Int) + 1) = (i : Int) + 1 := by rw [IntKind.wrap_i64]; omega
  conv => arg 5; unfold hdSame
  repeat (first | refine Walk.cx ?_ | (refine Walk.cReg ?_; simp only [z20]) | (refine Walk.oq ?_; try walk_nrm) | (refine Walk.un ?_; walk_nrm))
  (refine Walk.drawnC (by kernel_rfl) size20_6 (by kernel_rfl) (by kernel_rfl) (by decide) ?_; simp only [List.range, List.range.loop]; repeat (first | (refine Cm.oq ?_) | (refine Cm.unw (ho_of (by conv => lhs; whnf) (by kernel_rfl)) (by rfl) ?_; walk_nrm)))
  refine Cm.done ?_
  repeat (first | refine Walk.cx ?_ | (refine Walk.cReg ?_; simp only [z20]) | (refine Walk.oq ?_; try walk_nrm) | (refine Walk.un ?_; walk_nrm))
  refine Walk.ctl rfl (fun w => stepG_inLoop) ?_
  refine .stop fun d' => ⟨at_slots ?_, d', rfl⟩
  have hc : ((i + 1 : Nat) : Int) = (i : Int) + 1 := by simp
  simp only [hdSame, hc]
  rfl
theorem sn_loop (a b : Option Addr) (l : List Int) (ca cb : Nat) (hn : l.length ≤ 17592186044416) (c : Frame) (cs : List Frame) (w : World) (ha : NumA a l w) (hb : NumA b l w) : ∀ (r i : Nat) (u : Nat → Value), i + r = l.length →
    Walk Try.prog main (DR V) (fun g w' => g = G (c.finish (.bool true)) cs ∧ ∃ d, w' = w.at d) (G (hdSame (.slice a l.length ca) (.slice b l.length cb) i u) (c :: cs)) w := by
  intro r
  induction r with
  | zero =>
    intro i u hi
    have hi : i = l.length := hi
    subst hi
    exact sn_out a b l.length ca cb u c cs w
  | succ r ih =>
    intro i u hi
    have hin : i < l.length := by omega
    have hx := List.getElem?_eq_getElem hin
    obtain ⟨ab, ao, rfl, h1⟩ := ha i _ hx
    obtain ⟨bb, bo, rfl, h2⟩ := hb i _ hx
    refine (sn_go ab ao l.length ca bb bo cb i _ u (c :: cs) w hin hn h1 h2).then ?_
    rintro g w' ⟨⟨u', rfl⟩, d, rfl⟩
    exact Walk.back (ih (i + 1) u' (by omega)) d
theorem sn_w (a b : Option Addr) (l : List Int) (ca cb : Nat) (hn : l.length ≤ 17592186044416) (w : World) (ha : NumA a l w) (hb : NumA b l w) : CallV Try.prog main V 20 #[.slice a l.length ca, .slice b l.length cb] w (.bool true) w := by
  intro fr cs
  refine (sn_in a b l.length ca cb (fr :: cs) w).then ?_
  rintro g w1 ⟨⟨u, rfl⟩, d, rfl⟩
  refine Walk.back ?_ d
  refine (sn_loop a b l ca cb hn fr cs w ha hb l.length 0 u (by omega)).mono ?_
  rintro g w' ⟨rfl, d, rfl⟩
  exact ⟨_, ⟨rfl, d, rfl⟩, rfl⟩
theorem si_in (a b : Option Addr) (n ca cb : Nat) (cs : List Frame) (w : World) :
    Walk Try.prog main (DR V) (fun g w' => (∃ u, g = G (hdSameI (.slice a n ca) (.slice b n cb) 0 u) cs) ∧ ∃ d, w' = w.at d) (G (Frame.enter Try.prog 29 #[.slice a n ca, .slice b n cb] .normal) cs) w := by
  rw [enter_at _ Try.func29 code29_is]
  simp only [Try.ntmps29, ez, Nat.reduceAdd, Nat.reduceSub]
  repeat (first | refine Walk.cx ?_ | (refine Walk.cReg ?_; simp only [z29]) | (refine Walk.oq ?_; try walk_nrm) | (refine Walk.un ?_; walk_nrm))
  refine Walk.ctl rfl (fun w => stepG_loop) ?_
  refine .stop fun d => ⟨at_slots ?_, d, rfl⟩
  simp only [hdSameI]
  rfl
theorem si_out (a b : Option Addr) (n ca cb : Nat) (u : Nat → Value) (c : Frame) (cs : List Frame) (w : World) :
    Walk Try.prog main (DR V) (fun g w' => g = G (c.finish (.bool true)) cs ∧ ∃ d, w' = w.at d) (G (hdSameI (.slice a n ca) (.slice b n cb) n u) (c :: cs)) w := by
  unfold hdSameI
  repeat (first | refine Walk.cx ?_ | (refine Walk.cReg ?_; simp only [z29]) | (refine Walk.oq ?_; try walk_nrm) | (refine Walk.un ?_; walk_nrm))
  exact Walk.on1 rfl rfl Try.func29 rfl (.stop fun d => ⟨rfl, d, rfl⟩)
theorem si_go (ab ao n ca bb bo cb i : Nat) (x : Int) (u : Nat → Value) (cs : List Frame) (w : World) (hi : i < n) (hn : n ≤ 17592186044416) (ha : w.cell? ⟨ab, ao + i, none⟩ = some (.int .i64 x)) (hb : w.cell? ⟨bb, bo + i, none⟩ = some (.int .i64 x)) :
    Walk Try.prog main (DR V) (fun g w' => (∃ u', g = G (hdSameI (.slice (some ⟨ab, ao, none⟩) n ca) (.slice (some ⟨bb, bo, none⟩) n cb) (i + 1) u') cs) ∧ ∃ d, w' = w.at d) (G (hdSameI (.slice (some ⟨ab, ao, none⟩) n ca) (.slice (some ⟨bb, bo, none⟩) n cb) i u) cs) w := by
  have hw1 : IntKind.wrap .i64 ((i : Int) + 1) = (i : Int) + 1 := by rw [IntKind.wrap_i64]; omega
  conv => arg 5; unfold hdSameI
  repeat (first | refine Walk.cx ?_ | (refine Walk.cReg ?_; simp only [z29]) | (refine Walk.oq ?_; try walk_nrm) | (refine Walk.un ?_; walk_nrm))
  (refine Walk.drawnC (by kernel_rfl) size29_6 (by kernel_rfl) (by kernel_rfl) (by decide) ?_; simp only [List.range, List.range.loop]; repeat (first | (refine Cm.oq ?_) | (refine Cm.unw (ho_of (by conv => lhs; whnf) (by kernel_rfl)) (by rfl) ?_; walk_nrm)))
  refine Cm.done ?_
  repeat (first | refine Walk.cx ?_ | (refine Walk.cReg ?_; simp only [z29]) | (refine Walk.oq ?_; try walk_nrm) | (refine Walk.un ?_; walk_nrm))
  refine Walk.ctl rfl (fun w => stepG_inLoop) ?_
  refine .stop fun d' => ⟨at_slots ?_, d', rfl⟩
  have hc : ((i + 1 : Nat) : Int) = (i : Int) + 1 := by simp
  simp only [hdSameI, hc]
  rfl
theorem si_loop (a b : Option Addr) (l : List Int) (ca cb : Nat) (hn : l.length ≤ 17592186044416) (c : Frame) (cs : List Frame) (w : World) (ha : NumA a l w) (hb : NumA b l w) : ∀ (r i : Nat) (u : Nat → Value), i + r = l.length →
    Walk Try.prog main (DR V) (fun g w' => g = G (c.finish (.bool true)) cs ∧ ∃ d, w' = w.at d) (G (hdSameI (.slice a l.length ca) (.slice b l.length cb) i u) (c :: cs)) w := by
  intro r
  induction r with
  | zero =>
    intro i u hi
    have hi : i = l.length := hi
    subst hi
    exact si_out a b l.length ca cb u c cs w
  | succ r ih =>
    intro i u hi
    have hin : i < l.length := by omega
    have hx := List.getElem?_eq_getElem hin
    obtain ⟨ab, ao, rfl, h1⟩ := ha i _ hx
    obtain ⟨bb, bo, rfl, h2⟩ := hb i _ hx
    refine (si_go ab ao l.length ca bb bo cb i _ u (c :: cs) w hin hn h1 h2).then ?_
    rintro g w' ⟨⟨u', rfl⟩, d, rfl⟩
    exact Walk.back (ih (i + 1) u' (by omega)) d
theorem si_w (a b : Option Addr) (l : List Int) (ca cb : Nat) (hn : l.length ≤ 17592186044416) (w : World) (ha : NumA a l w) (hb : NumA b l w) : CallV Try.prog main V 29 #[.slice a l.length ca, .slice b l.length cb] w (.bool true) w := by
  intro fr cs
  refine (si_in a b l.length ca cb (fr :: cs) w).then ?_
  rintro g w1 ⟨⟨u, rfl⟩, d, rfl⟩
  refine Walk.back ?_ d
  refine (si_loop a b l ca cb hn fr cs w ha hb l.length 0 u (by omega)).mono ?_
  rintro g w' ⟨rfl, d, rfl⟩
  exact ⟨_, ⟨rfl, d, rfl⟩, rfl⟩
noncomputable def reg19_0 := rg Try.f19.body [0]
noncomputable def reg19_1 := rg Try.f19.body [1, 0, 0]
noncomputable def reg19_2 := rg Try.f19.body [1, 0, 1, 0, 0]
noncomputable def reg19_3 := rg Try.f19.body [1, 1, 0, 0]
noncomputable def reg19_4 := rg Try.f19.body [1, 1, 0, 1, 0, 0, 0, 0]
noncomputable def reg19_6 := rg Try.f19.body [1, 1, 0, 1, 0, 0, 1, 0, 0, 0]
theorem size19_6 : reg19_6.size = 38 := by kernel_rfl
noncomputable def reg19_7 := rg Try.f19.body [1, 1, 0, 1, 0, 0, 1, 0, 0, 1, 0, 0]
noncomputable def reg19_5 := rg Try.f19.body [1, 1, 0, 1, 0, 0, 1, 1]
noncomputable def reg19_8 := rg Try.f19.body [1, 1, 1, 0]
theorem z19 : List.range reg19_0.size = [0] ∧ List.range reg19_1.size = [0, 1, 2, 3, 4] ∧ List.range reg19_2.size = [0] ∧ List.range reg19_3.size = [0] ∧ List.range reg19_4.size = [0, 1, 2, 3] ∧ List.range reg19_5.size = [0, 1, 2] ∧ List.range reg19_6.size = [0, 1, 2, 3, 4, 5, 6, 7, 8, 9, 10, 11, 12, 13, 14, 15, 16, 17, 18, 19, 20, 21, 22, 23, 24, 25, 26, 27, 28, 29, 30, 31, 32, 33, 34, 35, 36, 37] ∧ List.range reg19_7.size = [0] ∧ List.range reg19_8.size = [0] := by refine ⟨?_, ?_, ?_, ?_, ?_, ?_, ?_, ?_, ?_⟩ <;> kernel_rfl
theorem code19_is : Try.f19.body = some (.seq (.region 0 reg19_0 false) (.seq (.seq (.region 1 reg19_1 false) (.cond (.tmp 10 ) (.seq (.region 2 reg19_2 false) (.ret)) (.skip))) (.seq (.seq (.region 3 reg19_3 false) (.block 0 (.loop (.seq (.seq (.region 4 reg19_4 false) (.cond (.tmp 14 ) (.skip) (.exit 0))) (.seq (.block 1 (.seq (.region 6 reg19_6 true) (.cond (.tmp 54 ) (.seq (.region 7 reg19_7 false) (.ret)) (.skip)))) (.region 5 reg19_5 false)))))) (.seq (.region 8 reg19_8 false) (.ret))))) := by kernel_rfl
noncomputable def hdSA (a b : Value) (i : Nat) (u : Nat → Value) : Frame :=
  (base 19).at { tmps := #[a, b, u 2, u 3, u 4, .int .i64 i, u 6, u 7, u 8, u 9, u 10, u 11, u 12, u 13, u 14, u 15, u 16, u 17, u 18, u 19, u 20, u 21, u 22, u 23, u 24, u 25, u 26, u 27, u 28, u 29, u 30, u 31, u 32, u 33, u 34, u 35, u 36, u 37, u 38, u 39, u 40, u 41, u 42, u 43, u 44, u 45, u 46, u 47, u 48, u 49, u 50, u 51, u 52, u 53, u 54], defers := [] } [.code (.seq (.seq (.region 4 reg19_4 false) (.cond (.tmp 14 ) (.skip) (.exit 0))) (.seq (.block 1 (.seq (.region 6 reg19_6 true) (.cond (.tmp 54 ) (.seq (.region 7 reg19_7 false) (.ret)) (.skip)))) (.region 5 reg19_5 false))), .inLoop (.seq (.seq (.region 4 reg19_4 false) (.cond (.tmp 14 ) (.skip) (.exit 0))) (.seq (.block 1 (.seq (.region 6 reg19_6 true) (.cond (.tmp 54 ) (.seq (.region 7 reg19_7 false) (.ret)) (.skip)))) (.region 5 reg19_5 false))), .inBlock 0, .code (.seq (.region 8 reg19_8 false) (.ret))]
theorem sa_in (a b : Option Addr) (n ca cb : Nat) (cs : List Frame) (w : World) :
    Walk Try.prog main (DR V) (fun g w' => (∃ u, g = G (hdSA (.slice a n ca) (.slice b n cb) 0 u) cs) ∧ ∃ d, w' = w.at d) (G (Frame.enter Try.prog 19 #[.slice a n ca, .slice b n cb] .normal) cs) w := by
  rw [enter_at _ Try.func19 code19_is]
  simp only [Try.ntmps19, ez, Nat.reduceAdd, Nat.reduceSub]
  repeat (first | refine Walk.cx ?_ | (refine Walk.cReg ?_; simp only [z19]) | (refine Walk.oq ?_; try walk_nrm) | (refine Walk.un ?_; walk_nrm))
  refine Walk.ctl rfl (fun w => stepG_loop) ?_
  refine .stop fun d => ⟨at_slots ?_, d, rfl⟩
  simp only [hdSA]
  rfl
theorem sa_out (a b : Option Addr) (n ca cb : Nat) (u : Nat → Value) (c : Frame) (cs : List Frame) (w : World) :
    Walk Try.prog main (DR V) (fun g w' => g = G (c.finish (.bool true)) cs ∧ ∃ d, w' = w.at d) (G (hdSA (.slice a n ca) (.slice b n cb) n u) (c :: cs)) w := by
  unfold hdSA
  repeat (first | refine Walk.cx ?_ | (refine Walk.cReg ?_; simp only [z19]) | (refine Walk.oq ?_; try walk_nrm) | (refine Walk.un ?_; walk_nrm))
  exact Walk.on1 rfl rfl Try.func19 rfl (.stop fun d => ⟨rfl, d, rfl⟩)
theorem sa_go (ab ao n ca bb bo cb i : Nat) (y : Bool) (x : Int) (u : Nat → Value) (cs : List Frame) (w : World) (hi : i < n) (hn : n ≤ 17592186044416) (a0 : w.cell? ⟨ab, ao + i * 3, none⟩ = some (.bool y)) (a1 : w.cell? ⟨ab, ao + i * 3 + 1, none⟩ = some (.int .i64 x)) (a2 : w.cell? ⟨ab, ao + i * 3 + 2, none⟩ = some (.slice none 0 0)) (b0 : w.cell? ⟨bb, bo + i * 3, none⟩ = some (.bool y)) (b1 : w.cell? ⟨bb, bo + i * 3 + 1, none⟩ = some (.int .i64 x)) (b2 : w.cell? ⟨bb, bo + i * 3 + 2, none⟩ = some (.slice none 0 0)) :
    Walk Try.prog main (DR V) (fun g w' => (∃ u', g = G (hdSA (.slice (some ⟨ab, ao, none⟩) n ca) (.slice (some ⟨bb, bo, none⟩) n cb) (i + 1) u') cs) ∧ ∃ d, w' = w.at d) (G (hdSA (.slice (some ⟨ab, ao, none⟩) n ca) (.slice (some ⟨bb, bo, none⟩) n cb) i u) cs) w := by
  have hw1 : IntKind.wrap .i64 ((i : Int) + 1) = (i : Int) + 1 := by rw [IntKind.wrap_i64]; omega
  have qb := run_neqB (P := Try.prog) 4 und4B y y
  have qe := ev_neqB (P := Try.prog) 4 und4B y y
  have qy : (y != y) = false := by cases y <;> rfl
  rw [qy] at qb
  conv => arg 5; unfold hdSA
  repeat (first | refine Walk.cx ?_ | (refine Walk.cReg ?_; simp only [z19]) | (refine Walk.oq ?_; try walk_nrm) | (refine Walk.un ?_; walk_nrm))
  (refine Walk.drawnC (by kernel_rfl) size19_6 (by kernel_rfl) (by kernel_rfl) (by decide) ?_; simp only [List.range, List.range.loop]; repeat (first | (refine Cm.oq ?_) | (refine Cm.unw (ho_of (by conv => lhs; whnf) (by kernel_rfl)) (by rfl) ?_; walk_nrm)))
  refine Cm.callV (x := .bool true) ?_ (ho_of (by conv => lhs; whnf) (by kernel_rfl)) (by rfl) rfl Try.func20 (by kernel_rfl) (by rfl) ?_
  · intro w' e
    subst e
    walk_nrm
    exact sn_w none none [] 0 0 (by decide) w' (fun _ _ h => by simp at h) (fun _ _ h => by simp at h)
  walk_nrm
  repeat (first | (refine Cm.oq ?_) | (refine Cm.unw (ho_of (by conv => lhs; whnf) (by kernel_rfl)) (by rfl) ?_; walk_nrm))
  refine Cm.done ?_
  repeat (first | refine Walk.cx ?_ | (refine Walk.cReg ?_; simp only [z19]) | (refine Walk.oq ?_; try walk_nrm) | (refine Walk.un ?_; walk_nrm))
  refine Walk.ctl rfl (fun w => stepG_inLoop) ?_
  refine .stop fun d' => ⟨at_slots ?_, d', rfl⟩
  have hc : ((i + 1 : Nat) : Int) = (i : Int) + 1 := by simp
  simp only [hdSA, hc]
  rfl
theorem sa_loop (a b : Option Addr) (l : List Ans) (ca cb : Nat) (hn : l.length ≤ 17592186044416) (c : Frame) (cs : List Frame) (w : World) (ha : AnsA a l w) (hb : AnsA b l w) : ∀ (r i : Nat) (u : Nat → Value), i + r = l.length →
    Walk Try.prog main (DR V) (fun g w' => g = G (c.finish (.bool true)) cs ∧ ∃ d, w' = w.at d) (G (hdSA (.slice a l.length ca) (.slice b l.length cb) i u) (c :: cs)) w := by
  intro r
  induction r with
  | zero =>
    intro i u hi
    have hi : i = l.length := hi
    subst hi
    exact sa_out a b l.length ca cb u c cs w
  | succ r ih =>
    intro i u hi
    have hin : i < l.length := by omega
    have hx := List.getElem?_eq_getElem hin
    generalize l[i] = x at hx
    obtain ⟨ab, ao, rfl, h1, h2, h3⟩ := ha i _ hx
    obtain ⟨bb, bo, rfl, k1, k2, k3⟩ := hb i _ hx
    refine (sa_go ab ao l.length ca bb bo cb i x.1 x.2 u (c :: cs) w hin hn h1 h2 h3 k1 k2 k3).then ?_
    rintro g w' ⟨⟨u', rfl⟩, d, rfl⟩
    exact Walk.back (ih (i + 1) u' (by omega)) d
theorem sa_w (a b : Option Addr) (l : List Ans) (ca cb : Nat) (hn : l.length ≤ 17592186044416) (w : World) (ha : AnsA a l w) (hb : AnsA b l w) : CallV Try.prog main V 19 #[.slice a l.length ca, .slice b l.length cb] w (.bool true) w := by
  intro fr cs
  refine (sa_in a b l.length ca cb (fr :: cs) w).then ?_
  rintro g w1 ⟨⟨u, rfl⟩, d, rfl⟩
  refine Walk.back ?_ d
  refine (sa_loop a b l ca cb hn fr cs w ha hb l.length 0 u (by omega)).mono ?_
  rintro g w' ⟨rfl, d, rfl⟩
  exact ⟨_, ⟨rfl, d, rfl⟩, rfl⟩
end
section
variable {main : Bool}
noncomputable def reg13_0 := rg Try.f13.body [0]
noncomputable def reg13_1 := rg Try.f13.body [1, 0, 0]
noncomputable def reg13_2 := rg Try.f13.body [1, 0, 1, 0, 0]
noncomputable def reg13_3 := rg Try.f13.body [1, 1, 0, 0]
noncomputable def reg13_4 := rg Try.f13.body [1, 1, 0, 1, 0, 0, 0, 0]
noncomputable def reg13_6 := rg Try.f13.body [1, 1, 0, 1, 0, 0, 1, 0, 0, 0]
theorem size13_6 : reg13_6.size = 12 := by kernel_rfl
noncomputable def reg13_7 := rg Try.f13.body [1, 1, 0, 1, 0, 0, 1, 0, 0, 1, 0, 0]
noncomputable def reg13_5 := rg Try.f13.body [1, 1, 0, 1, 0, 0, 1, 1]
noncomputable def reg13_8 := rg Try.f13.body [1, 1, 1, 0]
theorem z13 : List.range reg13_0.size = [0, 1, 2] ∧ List.range reg13_1.size = [0, 1, 2, 3, 4, 5, 6, 7, 8, 9, 10, 11, 12, 13, 14, 15, 16, 17, 18, 19, 20, 21, 22, 23, 24, 25, 26, 27, 28, 29] ∧ List.range reg13_2.size = [0] ∧ List.range reg13_3.size = [0] ∧ List.range reg13_4.size = [0, 1, 2, 3, 4] ∧ List.range reg13_5.size = [0, 1, 2] ∧ List.range reg13_6.size = [0, 1, 2, 3, 4, 5, 6, 7, 8, 9, 10, 11] ∧ List.range reg13_7.size = [0] ∧ List.range reg13_8.size = [0] := by refine ⟨?_, ?_, ?_, ?_, ?_, ?_, ?_, ?_, ?_⟩ <;> kernel_rfl
theorem code13_is : Try.f13.body = some (.seq (.region 0 reg13_0 false) (.seq (.seq (.region 1 reg13_1 false) (.cond (.tmp 35 ) (.seq (.region 2 reg13_2 false) (.ret)) (.skip))) (.seq (.seq (.region 3 reg13_3 false) (.block 0 (.loop (.seq (.seq (.region 4 reg13_4 false) (.cond (.tmp 40 ) (.skip) (.exit 0))) (.seq (.block 1 (.seq (.region 6 reg13_6 true) (.cond (.tmp 54 ) (.seq (.region 7 reg13_7 false) (.ret)) (.skip)))) (.region 5 reg13_5 false)))))) (.seq (.region 8 reg13_8 false) (.ret))))) := by kernel_rfl
noncomputable def hdSm (X Y i : Nat) (u : Nat → Value) : Frame :=
  (base 13).at { tmps := #[u 0, u 1, .pointer (some ⟨X, 0, none⟩), .pointer (some ⟨Y, 0, none⟩), u 4, .int .i64 i, u 6, u 7, u 8, u 9, u 10, u 11, u 12, u 13, u 14, u 15, u 16, u 17, u 18, u 19, u 20, u 21, u 22, u 23, u 24, u 25, u 26, u 27, u 28, u 29, u 30, u 31, u 32, u 33, u 34, u 35, u 36, u 37, u 38, u 39, u 40, u 41, u 42, u 43, u 44, u 45, u 46, u 47, u 48, u 49, u 50, u 51, u 52, u 53, u 54], defers := [] } [.code (.seq (.seq (.region 4 reg13_4 false) (.cond (.tmp 40 ) (.skip) (.exit 0))) (.seq (.block 1 (.seq (.region 6 reg13_6 true) (.cond (.tmp 54 ) (.seq (.region 7 reg13_7 false) (.ret)) (.skip)))) (.region 5 reg13_5 false))), .inLoop (.seq (.seq (.region 4 reg13_4 false) (.cond (.tmp 40 ) (.skip) (.exit 0))) (.seq (.block 1 (.seq (.region 6 reg13_6 true) (.cond (.tmp 54 ) (.seq (.region 7 reg13_7 false) (.ret)) (.skip)))) (.region 5 reg13_5 false))), .inBlock 0, .code (.seq (.region 8 reg13_8 false) (.ret))]
theorem sm_in (aa : Option Addr) (n ac : Nat) (oa : Option Addr) (ord : List Int) (oc : Nat) (sa : Option Addr) (sts : List Int) (sc : Nat) (k : Bool) (ba : Option Addr) (bc : Nat) (pa : Option Addr) (pc : Nat) (ra : Option Addr) (rc : Nat) (cs : List Frame) (w : World) (hsn : sts.length ≤ 17592186044416) (s1 : NumA sa sts w) (s2 : NumA ra sts w) (hon : ord.length ≤ 17592186044416) (t1 : NumA oa ord w) (t2 : NumA pa ord w) :
    Walk Try.prog main (DR (fun _ => none)) (fun g w' => (∃ u, g = G (hdSm w.heap.size (w.heap.size + 1) 0 u) cs) ∧ Chg (fun _ => False) w w' ∧ w'.heap[w.heap.size]? = some (.cells (trC (.slice aa n ac) (.slice oa ord.length oc) (.slice sa sts.length sc) k) 31) ∧ w'.heap[w.heap.size + 1]? = some (.cells (trC (.slice ba n bc) (.slice pa ord.length pc) (.slice ra sts.length rc) k) 31))
      (G (Frame.enter Try.prog 13 #[.agg (trC (.slice aa n ac) (.slice oa ord.length oc) (.slice sa sts.length sc) k), .agg (trC (.slice ba n bc) (.slice pa ord.length pc) (.slice ra sts.length rc) k)] .normal) cs) w := by
  have qb := run_neqB (P := Try.prog) 4 und4B k k
  have qe := ev_neqB (P := Try.prog) 4 und4B k k
  have qk : (k != k) = false := by cases k <;> rfl
  rw [qk] at qb
  rw [enter_at _ Try.func13 code13_is]
  simp only [Try.ntmps13, ez, Nat.reduceAdd, Nat.reduceSub]
  repeat (first | refine Walk.cx ?_ | (refine Walk.cReg ?_; simp only [z13]) | (refine Walk.oq ?_; try walk_nrm) | (refine Walk.un ?_; walk_nrm))
  (refine Walk.oa ?_; try walk_nrm)
  have hO : Chg (fun _ => False) w (w.alloc (.cells (trC (.slice aa n ac) (.slice oa ord.length oc) (.slice sa sts.length sc) k) 31)) := Chg.alloc
  have hX := heap_alloc_new w (.cells (trC (.slice aa n ac) (.slice oa ord.length oc) (.slice sa sts.length sc) k) 31)
  have hsz : (w.alloc (.cells (trC (.slice aa n ac) (.slice oa ord.length oc) (.slice sa sts.length sc) k) 31)).heap.size = w.heap.size + 1 := by simp
  generalize w.alloc (.cells (trC (.slice aa n ac) (.slice oa ord.length oc) (.slice sa sts.length sc) k) 31) = w1 at *
  repeat (first | (refine Walk.oq ?_; try walk_nrm) | (refine Walk.un ?_; walk_nrm))
  (refine Walk.oa ?_; try walk_nrm)
  have hO2 : Chg (fun _ => False) w (w1.alloc (.cells (trC (.slice ba n bc) (.slice pa ord.length pc) (.slice ra sts.length rc) k) 31)) := hO.trans (S' := fun _ => False) Chg.alloc fun _ _ h => h
  have hY := heap_alloc_new w1 (.cells (trC (.slice ba n bc) (.slice pa ord.length pc) (.slice ra sts.length rc) k) 31)
  have hX2 := (heap_new_lt w1 (.cells (trC (.slice ba n bc) (.slice pa ord.length pc) (.slice ra sts.length rc) k) 31) (by rw [hsz]; exact Nat.lt_succ_self _)).trans hX
  rw [hsz] at hY
  clear hX hO hsz
  generalize w1.alloc (.cells (trC (.slice ba n bc) (.slice pa ord.length pc) (.slice ra sts.length rc) k) 31) = w2 at *
  have h17 := si_w (main := main) (V := fun _ => none) oa pa ord oc pc hon w2 (t1.chg hO2) (t2.chg hO2)
  have h18 := sn_w (main := main) (V := fun _ => none) sa ra sts sc rc hsn w2 (s1.chg hO2) (s2.chg hO2)
  generalize w.heap.size = X at *
  have x0 : w2.cell? ⟨X, 0, none⟩ = some (.slice aa n ac) := (cell_of hX2 0).trans rfl
  have x1 : w2.cell? ⟨X, 1, none⟩ = some (.slice oa ord.length oc) := (cell_of hX2 1).trans rfl
  have x2 : w2.cell? ⟨X, 2, none⟩ = some (.slice sa sts.length sc) := (cell_of hX2 2).trans rfl
  have x3 : w2.cell? ⟨X, 3, none⟩ = some (.bool k) := (cell_of hX2 3).trans rfl
  have y0 : w2.cell? ⟨X + 1, 0, none⟩ = some (.slice ba n bc) := (cell_of hY 0).trans rfl
  have y1 : w2.cell? ⟨X + 1, 1, none⟩ = some (.slice pa ord.length pc) := (cell_of hY 1).trans rfl
  have y2 : w2.cell? ⟨X + 1, 2, none⟩ = some (.slice ra sts.length rc) := (cell_of hY 2).trans rfl
  have y3 : w2.cell? ⟨X + 1, 3, none⟩ = some (.bool k) := (cell_of hY 3).trans rfl
  clear s1 s2 t1 t2
  repeat (first | refine Walk.cx ?_ | (refine Walk.cReg ?_; simp only [z13]) | (refine Walk.oq ?_; try walk_nrm) | (refine Walk.un ?_; walk_nrm))
  refine Walk.callV (x := .bool true) (W := w2) ?_ (ho_of (by conv => lhs; whnf) (by kernel_rfl)) (by rfl) (by decide) rfl Try.func29 (by kernel_rfl) (by rfl) ?_
  · walk_nrm
    exact h17
  walk_nrm
  repeat (first | refine Walk.cx ?_ | (refine Walk.cReg ?_; simp only [z13]) | (refine Walk.oq ?_; try walk_nrm) | (refine Walk.un ?_; walk_nrm))
  refine Walk.callV (x := .bool true) (W := w2) ?_ (ho_of (by conv => lhs; whnf) (by kernel_rfl)) (by rfl) (by decide) rfl Try.func20 (by kernel_rfl) (by rfl) ?_
  · walk_nrm
    exact h18
  walk_nrm
  repeat (first | refine Walk.cx ?_ | (refine Walk.cReg ?_; simp only [z13]) | (refine Walk.oq ?_; try walk_nrm) | (refine Walk.un ?_; walk_nrm))
  refine Walk.ctl rfl (fun w => stepG_loop) ?_
  refine .stop fun d => ⟨at_slots ?_, hO2.at d, hX2, hY⟩
  simp only [hdSm]
  rfl
theorem sm_go (X Y n i ab ao ac bb bo bc : Nat) (ta tb : Option Addr) (l : List Ans) (tc td : Nat) (u : Nat → Value) (cs : List Frame) (w : World) (hi : i < n) (hn : n ≤ 17592186044416) (htl : l.length ≤ 17592186044416) (x0 : w.cell? ⟨X, 0, none⟩ = some (.slice (some ⟨ab, ao, none⟩) n ac)) (y0 : w.cell? ⟨Y, 0, none⟩ = some (.slice (some ⟨bb, bo, none⟩) n bc))
    (ha : w.cell? ⟨ab, ao + i, none⟩ = some (.slice ta l.length tc)) (hb : w.cell? ⟨bb, bo + i, none⟩ = some (.slice tb l.length td)) (h1 : AnsA ta l w) (h2 : AnsA tb l w) :
    Walk Try.prog main (DR (fun _ => none)) (fun g w' => (∃ u', g = G (hdSm X Y (i + 1) u') cs) ∧ ∃ d, w' = w.at d) (G (hdSm X Y i u) cs) w := by
  have hw1 : IntKind.wrap .i64 ((i : Int) + 1) = (i : Int) + 1 := by rw [IntKind.wrap_i64]; omega
  have hq := sa_w (main := main) (V := fun _ => none) ta tb l tc td htl w h1 h2
  clear h1 h2
  conv => arg 5; unfold hdSm
  repeat (first | refine Walk.cx ?_ | (refine Walk.cReg ?_; simp only [z13]) | (refine Walk.oq ?_; try walk_nrm) | (refine Walk.un ?_; walk_nrm))
  (refine Walk.drawnC (by kernel_rfl) size13_6 (by kernel_rfl) (by kernel_rfl) (by decide) ?_; simp only [List.range, List.range.loop]; repeat (first | (refine Cm.oq ?_) | (refine Cm.unw (ho_of (by conv => lhs; whnf) (by kernel_rfl)) (by rfl) ?_; walk_nrm)))
  refine Cm.callV (x := .bool true) ?_ (ho_of (by conv => lhs; whnf) (by kernel_rfl)) (by rfl) rfl Try.func19 (by kernel_rfl) (by rfl) ?_
  · intro w' e
    subst e
    walk_nrm
    exact hq
  walk_nrm
  repeat (first | (refine Cm.oq ?_) | (refine Cm.unw (ho_of (by conv => lhs; whnf) (by kernel_rfl)) (by rfl) ?_; walk_nrm))
  refine Cm.done ?_
  repeat (first | refine Walk.cx ?_ | (refine Walk.cReg ?_; simp only [z13]) | (refine Walk.oq ?_; try walk_nrm) | (refine Walk.un ?_; walk_nrm))
  refine Walk.ctl rfl (fun w => stepG_inLoop) ?_
  refine .stop fun d' => ⟨at_slots ?_, d', rfl⟩
  have hc : ((i + 1 : Nat) : Int) = (i : Int) + 1 := by simp
  simp only [hdSm, hc]
  rfl
theorem sm_out (X Y n : Nat) (aa : Option Addr) (ac : Nat) (u : Nat → Value) (c : Frame) (cs : List Frame) (w : World) (x0 : w.cell? ⟨X, 0, none⟩ = some (.slice aa n ac)) :
    Walk Try.prog main (DR (fun _ => none)) (fun g w' => g = G (c.finish (.bool true)) cs ∧ ∃ d, w' = w.at d) (G (hdSm X Y n u) (c :: cs)) w := by
  unfold hdSm
  repeat (first | refine Walk.cx ?_ | (refine Walk.cReg ?_; simp only [z13]) | (refine Walk.oq ?_; try walk_nrm) | (refine Walk.un ?_; walk_nrm))
  exact Walk.on1 rfl rfl Try.func13 rfl (.stop fun d => ⟨rfl, d, rfl⟩)
theorem sm_w (ca cb : Array Value) (n : Nat) (F : Nat → List Ans) (ord : List Nat) (sts : List Int) (k : Bool) (w : World) (hn : n ≤ 64) (hord : ord.length ≤ 1048576) (hsn : sts.length ≤ 1048576) (hF : ∀ i, i < n → (F i).length ≤ 65536) (h1 : TrA ca n F ord sts k w) (h2 : TrA cb n F ord sts k w) :
    CallW Try.prog main (fun _ => none) 13 #[.agg ca, .agg cb] w (fun v w' => v = .bool true ∧ Chg (fun _ => False) w w') := by
  obtain ⟨aa, ac, oa, oc, sa, sc, rfl, n1, n2, n3⟩ := h1.all
  obtain ⟨ba, bc, pa, pc, ra, rc, rfl, m1, m2, m3⟩ := h2.all
  have olen : (ord.map fun i => ((i : Nat) : Int)).length = ord.length := by simp
  intro fr cs
  have hin := sm_in (main := main) aa n ac oa (ord.map fun i => ((i : Nat) : Int)) oc sa sts sc k ba bc pa pc ra rc (fr :: cs) w (by omega) n2 m2 (by omega) n1 m1
  rw [olen] at hin
  refine hin.then ?_
  rintro g w1 ⟨⟨u, rfl⟩, hC, hX, hY⟩
  have x0 : w1.cell? ⟨w.heap.size, 0, none⟩ = some (.slice aa n ac) := (cell_of hX 0).trans rfl
  have y0 : w1.cell? ⟨w.heap.size + 1, 0, none⟩ = some (.slice ba n bc) := (cell_of hY 0).trans rfl
  have hcell : ∀ {x j : Nat} {v : Value}, w.cell? ⟨x, j, none⟩ = some v → w1.cell? ⟨x, j, none⟩ = some v := fun {x j v} h => (World.cell?_of_block (a := ⟨x, j, none⟩) (hC.same x (cell_lt' h) id)).trans h
  have loop : ∀ (r i : Nat) (u : Nat → Value), i + r = n → Walk Try.prog main (DR (fun _ => none)) (fun g w' => g = G (fr.finish (.bool true)) cs ∧ ∃ d, w' = w1.at d) (G (hdSm w.heap.size (w.heap.size + 1) i u) (fr :: cs)) w1 := by
    intro r
    induction r with
    | zero =>
      intro i u hi
      obtain rfl : i = n := hi
      exact sm_out _ _ i aa ac u fr cs w1 x0
    | succ r ih =>
      intro i u hi
      obtain ⟨ab, ao, ta, tc, rfl, k1, k2⟩ := n3 i (by omega)
      obtain ⟨bb, bo, tb, td, rfl, j1, j2⟩ := m3 i (by omega)
      refine (sm_go _ _ n i ab ao ac bb bo bc ta tb (F i) tc td u (fr :: cs) w1 (by omega) (by omega) (by have := hF i (by omega); omega) x0 y0 (hcell k1) (hcell j1) (k2.chg hC) (j2.chg hC)).then ?_
      rintro g w' ⟨⟨u', rfl⟩, d, rfl⟩
      exact Walk.back (ih (i + 1) u' (by omega)) d
  refine (loop n 0 u (by omega)).mono ?_
  rintro g w' ⟨rfl, d, rfl⟩
  exact ⟨_, ⟨rfl, hC.at d⟩, rfl⟩
end
end
end Go.Proofs.Ytnnakajldnaldaa
