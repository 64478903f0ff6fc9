/- Part 13. -/
import Derived.Test.YtnnakajldnaldaaK1
import Derived.Test.YtnnakajldnaldaaK2
import Derived.Test.YtnnakajldnaldaaK5
set_option linter.unusedSimpArgs false
set_option linter.unusedVariables false
set_option maxHeartbeats 8000000
set_option maxRecDepth 100000
namespace Go.Proofs.Ytnnakajldnaldaa
open Go.Conc Go.RowKit Go.Relay
open Go.ConcN (upd upd_ne upd_same)
section
noncomputable def reg33_0 : Array Oper := match Try.f33.body with | some (.seq (.region _ ops _) _) => ops | _ => #[]
theorem size33_0 : reg33_0.size = 1 := by kernel_rfl
noncomputable def reg33_1 : Array Oper := match Try.f33.body with | some (.seq _ (.seq (.region _ ops _) _)) => ops | _ => #[]
theorem size33_1 : reg33_1.size = 3 := by kernel_rfl
noncomputable def reg33_2 : Array Oper := match Try.f33.body with | some (.seq _ (.seq _ (.seq (.seq (.region _ ops _) _) _))) => ops | _ => #[]
theorem size33_2 : reg33_2.size = 1 := by kernel_rfl
noncomputable def reg33_3 : Array Oper := match Try.f33.body with | some (.seq _ (.seq _ (.seq (.seq _ (.block _ (.loop (.seq (.seq (.region _ ops _) _) _)))) _))) => ops | _ => #[]
theorem size33_3 : reg33_3.size = 8 := by kernel_rfl
noncomputable def reg33_5 : Array Oper := match Try.f33.body with | some (.seq _ (.seq _ (.seq (.seq _ (.block _ (.loop (.seq _ (.seq (.block _ (.region _ ops _)) _))))) _))) => ops | _ => #[]
theorem size33_5 : reg33_5.size = 14 := by kernel_rfl
noncomputable def reg33_4 : Array Oper := match Try.f33.body with | some (.seq _ (.seq _ (.seq (.seq _ (.block _ (.loop (.seq _ (.seq _ (.region _ ops _)))))) _))) => ops | _ => #[]
theorem size33_4 : reg33_4.size = 3 := by kernel_rfl
noncomputable def reg33_6 : Array Oper := match Try.f33.body with | some (.seq _ (.seq _ (.seq _ (.seq (.seq (.region _ ops _) _) _)))) => ops | _ => #[]
theorem size33_6 : reg33_6.size = 6 := by kernel_rfl
noncomputable def reg33_7 : Array Oper := match Try.f33.body with | some (.seq _ (.seq _ (.seq _ (.seq (.seq _ (.cond _ (.region _ ops _) _)) _)))) => ops | _ => #[]
theorem size33_7 : reg33_7.size = 5 := by kernel_rfl
noncomputable def reg33_8 : Array Oper := match Try.f33.body with | some (.seq _ (.seq _ (.seq _ (.seq _ (.seq (.region _ ops _) _))))) => ops | _ => #[]
theorem size33_8 : reg33_8.size = 2 := by kernel_rfl
theorem code33_is : Try.f33.body = some (.seq (.region 0 reg33_0 false) (.seq (.region 1 reg33_1 false) (.seq (.seq (.region 2 reg33_2 false) (.block 0 (.loop (.seq (.seq (.region 3 reg33_3 false) (.cond (.tmp 14 ) (.skip) (.exit 0))) (.seq (.block 1 (.region 5 reg33_5 true)) (.region 4 reg33_4 false)))))) (.seq (.seq (.region 6 reg33_6 false) (.cond (.tmp 35 ) (.region 7 reg33_7 false) (.skip))) (.seq (.region 8 reg33_8 false) (.ret)))))) := by kernel_rfl
noncomputable def hdNew5 (xv : Value) (M j : Nat) (u : Nat → Value) : Frame :=
  (base 33).at { tmps := #[xv, u 1, u 2, .pointer (some ⟨M, 0, none⟩), .int .i64 j, u 5, u 6, u 7, u 8, u 9, u 10, u 11, u 12, u 13, u 14, u 15, u 16, u 17, u 18, u 19, u 20, u 21, u 22, u 23, u 24, u 25, u 26, u 27, u 28, u 29, u 30, u 31, u 32, u 33, u 34, u 35, u 36, u 37, u 38, u 39, u 40], defers := [] } [.code (.seq (.seq (.region 3 reg33_3 false) (.cond (.tmp 14 ) (.skip) (.exit 0))) (.seq (.block 1 (.region 5 reg33_5 true)) (.region 4 reg33_4 false))), .inLoop (.seq (.seq (.region 3 reg33_3 false) (.cond (.tmp 14 ) (.skip) (.exit 0))) (.seq (.block 1 (.region 5 reg33_5 true)) (.region 4 reg33_4 false))), .inBlock 0, .code (.seq (.seq (.region 6 reg33_6 false) (.cond (.tmp 35 ) (.region 7 reg33_7 false) (.skip))) (.seq (.region 8 reg33_8 false) (.ret)))]
def intB (x : Int) : Obj := .cells #[.int .i64 x] 2
section
variable {main : Bool}
structure NwI (M : Nat) (xs : List Int) (j : Nat) (cv : Value) (w0 w : World) : Prop where
  hd : w.heap[M]? = some (.cells #[cv, .slice none 0 0] 103)
  row : w.ownsRow (M + 1) 2 1 cv j (intRow (xs.take j))
  old : ∀ b, b < M → w.heap[b]? = w0.heap[b]?
  lt : M < w.heap.size
theorem new_in (xa : Option Addr) (n c : Nat) (cs : List Frame) (w : World) :
    Walk Try.prog main (DR (fun _ => none)) (fun g w' => ∃ u w1, g = G (hdNew5 (.slice xa n c) w.heap.size 0 u) cs ∧ NwI w.heap.size [] 0 (.slice none 0 0) w w1 ∧ ∃ d, w' = w1.at d)
      (G (Frame.enter Try.prog 33 #[.slice xa n c] .normal) cs) w := by
  rw [enter_at _ Try.func33 code33_is]
  simp only [Try.ntmps33, List.size_toArray, List.length_cons, List.length_nil, Nat.reduceAdd, Nat.reduceSub, Array.replicate_succ, Array.replicate_zero, List.push_toArray, List.append_toArray, List.nil_append, List.cons_append]
  repeat (first | refine Walk.c rfl ?_ | refine Walk.cRet ?_ | refine Walk.cEnd ?_ | (refine Walk.cReg ?_; simp only [size33_0, size33_1, size33_2, size33_3, size33_5, size33_4, size33_6, size33_7, size33_8, List.range, List.range.loop]) | (refine Walk.oq ?_; try walk_nrm) | (refine Walk.un ?_; walk_nrm))
  (refine Walk.oa ?_; try walk_nrm)
  have d1 := heap_alloc_new w (.cells #[.slice none 0 0, .slice none 0 0] 103)
  have o1 : ∀ b, b < w.heap.size → (w.alloc (.cells #[.slice none 0 0, .slice none 0 0] 103)).heap[b]? = w.heap[b]? := fun b hb => heap_new_lt _ _ hb
  have s1 : (w.alloc (.cells #[.slice none 0 0, .slice none 0 0] 103)).heap.size = w.heap.size + 1 := by simp
  generalize w.heap.size = M at *
  generalize w.alloc (.cells #[.slice none 0 0, .slice none 0 0] 103) = w1 at *
  repeat (first | refine Walk.c rfl ?_ | refine Walk.cRet ?_ | refine Walk.cEnd ?_ | (refine Walk.cReg ?_; simp only [size33_0, size33_1, size33_2, size33_3, size33_5, size33_4, size33_6, size33_7, size33_8, List.range, List.range.loop]) | (refine Walk.oq ?_; try walk_nrm) | (refine Walk.un ?_; walk_nrm))
  refine Walk.ctl rfl (fun w => stepG_loop) ?_
  refine slots_walk (F := fun u => G (hdNew5 (.slice xa n c) M 0 u) cs) (fun u => .stop fun d => ⟨u, w1, rfl, ⟨d1, ⟨rfl, .inl ⟨rfl, rfl⟩⟩, o1, by omega⟩, d, rfl⟩) ?_
  simp only [hdNew5]
  rfl
theorem new_go (xa : Option Addr) (xs : List Int) (c j M : Nat) (cv : Value) (hj : j < xs.length) (hj6 : j < 64) (hxn : xs.length ≤ 17592186044416) (w0 w : World) (hM : w0.heap.size = M) (hx : SlIn xa xs w0) (I : NwI M xs j cv w0 w) (u : Nat → Value) (cs : List Frame) :
    Walk Try.prog main (DR (fun _ => none)) (fun g w' => ∃ u w1 cv', g = G (hdNew5 (.slice xa xs.length c) M (j + 1) u) cs ∧ NwI M xs (j + 1) cv' w0 w1 ∧ ∃ d, w' = w1.at d) (G (hdNew5 (.slice xa xs.length c) M j u) cs) w := by
  have hx0 : xs[j]? = some (xs.getD j 0) := by rw [List.getD_eq_getElem?_getD, List.getElem?_eq_getElem (by omega)]; rfl
  have htk : intRow (xs.take (j + 1)) = intRow (xs.take j) ++ [.int .i64 (xs.getD j 0)] := by
    rw [List.take_succ_eq_append_getElem hj, intRow_snoc]
    congr 3
    rw [List.getD_eq_getElem?_getD, List.getElem?_eq_getElem hj]
    rfl
  obtain ⟨_, s, so, rfl, hc0⟩ := hx j _ hx0
  have hsl := cell_lt' hc0
  have c2 : w.cell? ⟨s, so + j, none⟩ = some (.int .i64 (xs.getD j 0)) := (World.cell?_of_block (a := ⟨s, so + j, none⟩) (I.old s (by omega))).trans hc0
  have c1 : w.cell? ⟨M, 0, none⟩ = some cv := (cell_of I.hd 0).trans rfl
  have hMl := I.lt
  generalize xs.getD j 0 = x at *
  generalize hln : xs.length = ln at *
  have hj0 : (0 : Int) ≤ j := by omega
  have hj1 : decide ((j : Int) < ln) = true := by simp; omega
  have hj3 : decide (j < ln) = true := by simp; omega
  have hj4 : (j : Int) < ln := by omega
  have hj5 : decide ((j : Int) < 64) = true := by simp; omega
  have hw1 : IntKind.wrap .i64 ((j : Int) + 1) = (j : Int) + 1 := by rw [IntKind.wrap_i64]; omega
  have hcc : ((j + 1 : Nat) : Int) = (j : Int) + 1 := by simp
  have hsz1 : w.heap.size + 1 ≤ (w.alloc (intB x)).heap.size ∧ (w.alloc (intB x)).heap.size ≤ w.heap.size + 1 := by simp
  have hO1 : ∀ y, y < w.heap.size → (w.alloc (intB x)).heap[y]? = w.heap[y]? := fun y hy => heap_new_lt _ _ hy
  have hown' : (w.alloc (intB x)).ownsRow (M + 1) 2 1 cv j (intRow (xs.take j)) := row_same I.row fun g hg => hO1 g (I.row.lt g hg).2
  have hnews : ∀ (j : Nat) (u : Value), ([.int .i64 x] : List Value)[j]? = some u → (w.alloc (intB x)).cell? ((⟨w.heap.size, 0, none⟩ : Addr).add j) = some u := fun j u hu => by
    rw [add_none, Nat.zero_add]
    refine (cell_of (heap_alloc_new _ _) j).trans ?_
    simpa using hu
  have hnM : ∀ g, cv.ownBlock = some g → M < g := fun g hg => (I.row.lt g hg).1
  have hfar : ∀ (y : Nat) (w2 : World), y ≤ M → (w.alloc (intB x)).grownBy w2 cv.ownBlock → w2.heap[y]? = w.heap[y]? := fun y w2 hy hg => (hg.block y (by omega) (fun e => by have := hnM y e.symm; omega)).trans (hO1 y (by omega))
  conv => arg 5; unfold hdNew5
  repeat (first | refine Walk.c rfl ?_ | refine Walk.cRet ?_ | refine Walk.cEnd ?_ | (refine Walk.cReg ?_; simp only [size33_0, size33_1, size33_2, size33_3, size33_5, size33_4, size33_6, size33_7, size33_8, List.range, List.range.loop]) | (refine Walk.oq ?_; try walk_nrm) | (refine Walk.un ?_; walk_nrm))
  refine Walk.drawnT (iA := 9) (iB := 10) (w1 := w.alloc (intB x)) (vA := .slice (some ⟨w.heap.size, 0, none⟩) 1 1) (Z := fun y => y.cell? ⟨M, 0, none⟩ = some cv ∧ y.cell? ⟨s, so + j, none⟩ = some (.int .i64 x))
    (fun v w2 => ∃ g cap, v = .slice (some ⟨g, 0, none⟩) (j + 1) cap ∧ w2.ownsRow (M + 1) 2 1 (.slice (some ⟨g, 0, none⟩) (j + 1) cap) (j + 1) (intRow (xs.take j) ++ [.int .i64 x]) ∧ (w.alloc (intB x)).grownBy w2 cv.ownBlock) (by kernel_rfl) size33_5 (by kernel_rfl) (by kernel_rfl) (by kernel_rfl) (by kernel_rfl) (by decide) (ho_of (by conv => lhs; whnf) (by kernel_rfl)) (ho_of (by conv => lhs; whnf) (by kernel_rfl)) ⟨c1, c2⟩ ⟨cell_alloc _ _ c1, cell_alloc _ _ c2⟩ ?_ ?_
  · rintro v w2 ⟨g, cap, _, _, hg⟩
    exact ⟨(World.cell?_of_block (a := ⟨M, 0, none⟩) (hfar M w2 (by omega) hg)).trans c1, (World.cell?_of_block (a := ⟨s, so + j, none⟩) (hfar s w2 (by omega) hg)).trans c2⟩
  rw [show List.filter (quietQ 9 10) (List.range 13) = [0, 1, 2, 3, 4, 5, 6, 7, 8, 11, 12] from by decide]
  repeat (first | (refine Cm.opqZ (ho_of (by conv => lhs; whnf) (by kernel_rfl)) (by rfl) (fun wz hz dd e he => ?_) ?_; (· (obtain ⟨z1, z2⟩ := hz; simp [go_sem, *] at he; try (subst he; exact evR_read _ _))); apply Exists.intro; apply And.intro; (· (intro wz hz dd K hK; obtain ⟨z1, z2⟩ := hz; go_simp; exact hK))) | (refine Cm.unw (ho_of (by conv => lhs; whnf) (by kernel_rfl)) (by rfl) ?_; walk_nrm))
  refine Cm.done ⟨?_, ?_, ?_⟩
  · intro y hev rest hr'
    have e0 : y.eval (.tmp 25) = .int .i64 x := (hev (.tmp 25) (by simp [Op.operands])).trans rfl
    have e1 : y.tmps[25]?.getD undef = .int .i64 x := by
      rw [← Array.getD_eq_getD_getElem?]
      exact e0
    clear e0 hev
    (refine Walk.oa ?_; try walk_nrm)
    exact hr' _ _ ⟨rfl, _, rfl⟩
  · intro y hev rest hr'
    have e1 : y.eval (.tmp 21) = cv := (hev (.tmp 21) (by simp [Op.operands, Call.operands])).trans rfl
    have e2 : y.eval (.tmp 26) = .slice (some ⟨w.heap.size, 0, none⟩) 1 1 := (hev (.tmp 26) (by simp [Op.operands, Call.operands])).trans rfl
    have hiA := Option.some_get (show (Try.prog.info? 2).isSome = true by kernel_rfl)
    refine Walk.append (.tmp 21) (.tmp 26) 22 (ho_of (by conv => lhs; whnf) (by kernel_rfl)) (by rfl) (by decide) rfl (M + 1) 2 _ (.int .i64 0) 1 8 (by kernel_rfl) hiA.symm (by rfl) (by rfl) (by rfl) (by rfl) (by decide) cv j (intRow (xs.take j)) e1 hown' ⟨w.heap.size, 0, none⟩ 1 1 [.int .i64 x] e2 (by rfl) hnews (by simp [Value.oneCell']) (by decide) (by simp [maxLen]; omega) (by omega) (by omega) (fun g _ => ap0 g) (fun g cap w3 hown hg hat hlt => ?_)
    exact hr' _ _ ⟨_, w3, ⟨g, cap, rfl, hown, hg⟩, rfl, w3.drawn, rfl⟩
  rintro v w2 ⟨g, cap, rfl, hown, hg⟩ rest hr'
  have hb2 : w2.heap[M]? = w.heap[M]? := hfar M w2 (by omega) hg
  have h12 : w2.cell? ⟨M, 0, none⟩ = some cv := (World.cell?_of_block (a := ⟨M, 0, none⟩) hb2).trans c1
  have z12 : w2.frozen? ⟨M, 0, none⟩ = false := frozen_of (hb2.trans I.hd) 0
  have hgs := hg.size
  have hgM := (hown.lt g rfl).1
  have I3 : NwI M xs (j + 1) (.slice (some ⟨g, 0, none⟩) (j + 1) cap) w0 (w2.setCell ⟨M, 0, none⟩ (.slice (some ⟨g, 0, none⟩) (j + 1) cap)) := by
    refine ⟨?_, ?_, fun b hb => ?_, ?_⟩
    · rw [heap_set_self _ _ (hb2.trans I.hd)]
      simp
    · rw [htk]
      exact row_same hown fun y hy => heap_set_other _ _ _ _ (by have := (hown.lt y hy).1; show y ≠ M; omega)
    · exact (heap_set_other _ _ _ _ (by show b ≠ M; omega)).trans ((hfar b w2 (by omega) hg).trans (I.old b hb))
    · rw [size_set]; omega
  (have hfr := fr0 M 0; refine Walk.os hfr h12 ?_; clear hfr; try walk_nrm)
  refine hr' _ _ ?_
  generalize w2.setCell ⟨M, 0, none⟩ (.slice (some ⟨g, 0, none⟩) (j + 1) cap) = w3 at *
  clear hb2 h12 z12 hown hg hfar hown' hnews c1 c2
  try walk_nrm
  repeat (first | refine Walk.c rfl ?_ | refine Walk.cRet ?_ | refine Walk.cEnd ?_ | (refine Walk.cReg ?_; simp only [size33_0, size33_1, size33_2, size33_3, size33_5, size33_4, size33_6, size33_7, size33_8, List.range, List.range.loop]) | (refine Walk.oq ?_; try walk_nrm) | (refine Walk.un ?_; walk_nrm))
  refine Walk.ctl rfl (fun w => stepG_inLoop) ?_
  refine slots_walk (F := fun u => G (hdNew5 (.slice (some ⟨s, so, none⟩) ln c) M (j + 1) u) cs) (fun u => .stop fun d => ⟨u, w3, _, rfl, I3, d, rfl⟩) ?_
  simp only [hdNew5, hcc]
  rfl
end
end
end Go.Proofs.Ytnnakajldnaldaa
