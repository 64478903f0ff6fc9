/- Part 22. -/
import Derived.Test.YtjenoiekfkhafaaJ14
import Derived.Test.YtjenoiekfkhafaaJ21
set_option linter.unusedSimpArgs false
set_option linter.unusedVariables false
set_option linter.unusedVariables false
set_option maxHeartbeats 8000000
set_option maxRecDepth 100000
namespace Go.Proofs.Ytjenoiekfkhafaa
open Go.Conc Go.RowKit Go.Relay
open Go.ConcN (upd upd_ne upd_same)
section
noncomputable def reg55_0 := rg Try.f55.body [0]
noncomputable def reg55_1 := rg Try.f55.body [1, 0]
noncomputable def reg55_2 := rg Try.f55.body [1, 1, 0]
theorem z55 : List.range reg55_0.size = [0] ∧ List.range reg55_1.size = [0, 1, 2, 3, 4, 5] ∧ List.range reg55_2.size = [0, 1, 2, 3, 4, 5, 6] := by refine ⟨?_, ?_, ?_⟩ <;> kernel_rfl
theorem code55_is : Try.f55.body = some (.seq (.region 0 reg55_0 false) (.seq (.region 1 reg55_1 false) (.seq (.region 2 reg55_2 false) (.ret)))) := by kernel_rfl
def cL (C : Nat → Int) (m : Nat) : List Int := (List.range m).map C
theorem cL_get (C : Nat → Int) (m j : Nat) (x : Int) (h : (cL C m)[j]? = some x) : j < m ∧ x = C j := by
 have hj := (List.getElem?_eq_some_iff.1 h).1
 simp [cL] at hj
 refine ⟨hj, ?_⟩
 simp [cL, hj] at h
 exact h.symm
section
variable {a0 M cg cc tb tc n m : Nat} {ta : Option Addr} {S : Sq} {T : Nat → R8} {main : Bool}
theorem state8_w (w : World) (I : M8 a0 M cg cc tb tc n m ta S T w) (hm : m ≤ 64) : CallW Try.prog main (fun _ => none) 55 #[.pointer (some ⟨M, 0, none⟩)] w (fun v w' => ∃ sa sc, v = .slice sa (1 + m) sc ∧ w'.ownsRow w.heap.size 2 1 (.slice sa (1 + m) sc) (1 + m) (intRow (S.v :: cL S.w m)) ∧ Chg (fun _ => False) w w') := by
 intro c cs
 have c0 : w.cell? ⟨M, 0, none⟩ = some (.int .i64 S.v) := I.cV
 have hi2 := Option.some_get (show (Try.prog.info? 2).isSome = true by kernel_rfl)
 rw [enter_at _ Try.func55 code55_is]
 simp only [Try.ntmps55, ez, Nat.reduceAdd, Nat.reduceSub]
 refine Walk.gz z55 ?_
 (refine Walk.oa ?_; try walk_nrm)
 have s0 : (w.alloc (.cells #[.int .i64 S.v] 2)).heap.size = w.heap.size + 1 := by simp
 have o0 : ∀ b, b < w.heap.size → (w.alloc (.cells #[.int .i64 S.v] 2)).heap[b]? = w.heap[b]? := fun b hb => heap_new_lt _ _ hb
 have d0 : NumB (w.alloc (.cells #[.int .i64 S.v] 2)) w.heap.size [S.v] := heap_alloc_new w (.cells #[.int .i64 S.v] 2)
 have I0 := I.same o0
 generalize hE : w.heap.size = E at *
 generalize w.alloc (.cells #[.int .i64 S.v] 2) = w0 at *
 have c1 : w0.cell? ⟨M, 1, none⟩ = some (.slice (some ⟨cg, 0, none⟩) m cc) := I0.cC
 have hnews : ∀ (j : Nat) (u : Value), (intRow (cL S.w m))[j]? = some u → w0.cell? ((⟨cg, 0, none⟩ : Addr).add j) = some u := fun j u hu => by
  rw [add_none, Nat.zero_add]
  simp only [intRow, List.getElem?_map, Option.map_eq_some_iff] at hu
  obtain ⟨x, hx, rfl⟩ := hu
  obtain ⟨hj, rfl⟩ := cL_get S.w m j x hx
  exact I0.ccell hj
 have hrow := d0.row (base := E) (Nat.le_refl _) (by show 1 ≤ maxLen; decide)
 clear I I0 c0
 try walk_nrm
 refine Walk.gz z55 ?_
 refine Walk.appendAny (.tmp 9) (.tmp 13) 22 hoA (by rfl) (by decide) rfl E 2 _ (.int .i64 0) 1 8 huI64s hi2.symm (by rfl) (by rfl) (by rfl) (by rfl) (by decide) (.slice (some ⟨E, 0, none⟩) 1 1) 1 [.int .i64 S.v] rfl hrow ⟨cg, 0, none⟩ m cc (intRow (cL S.w m)) rfl (by simp [intRow, cL]) hnews (by simp [intRow, Value.oneCell']) (by simp [maxLen]; omega) (by omega) (by omega) (fun g hg => ap0 g) (fun v' w' hown hg hat => ?_)
 obtain ⟨sa, sc, rfl⟩ : ∃ sa sc, v' = .slice sa (1 + m) sc := by
  rcases hown.2 with ⟨e, h0⟩ | ⟨g, cap, cur, e, _⟩
  ·omega
  ·exact ⟨_, _, e⟩
 have hC : Chg (fun _ => False) w w' := ⟨by have := hg.size; omega, fun b hb _ => (hg.block b (by omega) (fun e => by
  have e : E = b := (Option.some.inj e).symm
  omega)).trans (o0 b (by omega))⟩
 walk_nrm
 refine Walk.gz z55 ?_
 exact Walk.on1 rfl rfl Try.func55 rfl (.stop fun d => ⟨_, ⟨sa, sc, rfl, hown, hC.at d⟩, rfl⟩)
end
end
section
theorem setRow_alloc' (w : World) (cs old : Array Value) (t : TypeId) : (w.alloc (.cells old t)).setRow w.heap.size cs = w.alloc (.cells cs t) := by
 simp only [World.setRow, World.alloc]
 congr 1
 apply Array.ext
 ·simp
 ·intro i h1 h2
  rw [Array.getElem_modify]
  by_cases e : w.heap.size = i
  ·subst e; simp
  ·rw [if_neg e, Array.getElem_push, Array.getElem_push]
   simp only [Array.size_push] at h2
   have : i < w.heap.size := by omega
   simp [this]
def hdRow (hv : Nat → Value) (n : Nat) : List Value := (List.range n).map hv
theorem hdRow_snoc (hv : Nat → Value) (n : Nat) : hdRow hv (n + 1) = hdRow hv n ++ [hv n] := by simp [hdRow, List.range_succ]
section
variable {main : Bool}
theorem last_in (M R n m : Nat) (oa : Option Addr) (on oc : Nat) (lf : Bool) (l : List Int) (u : Nat → Value) (cs : List Frame) (w : World) (hl : CallV Try.prog main (fun _ => none) 54 #[.pointer (some ⟨M, 0, none⟩)] w (.bool lf) w)
  (hs : CallW Try.prog main (fun _ => none) 55 #[.pointer (some ⟨M, 0, none⟩)] w (fun v w' => ∃ sa sc, v = .slice sa m sc ∧ w'.ownsRow w.heap.size 2 1 (.slice sa m sc) m (intRow l) ∧ Chg (fun _ => False) w w')) :
  Walk Try.prog main (DR (fun _ => none)) (fun g w' => ∃ sa sc Q, (∃ u, g = G (hdRun4 M R n Q 0 u) cs) ∧ w.heap.size ≤ Q ∧ w'.heap[Q]? = some (.cells (trC (.slice none 0 0) (.slice oa on oc) (.slice sa m sc) lf) 31) ∧ Chg (fun _ => False) w w' ∧ w'.ownsRow w.heap.size 2 1 (.slice sa m sc) m (intRow l) ∧ w'.heap.size = Q + 1 ∧ ∀ b, (Value.slice sa m sc).ownBlock = some b → b < Q) (G (hdRunE M R n (.slice oa on oc) u) cs) w := by
 conv => arg 5; unfold hdRunE
 refine Walk.gz z37 ?_
 refine Walk.callV (x := .bool lf) (W := w) ?_ hoA (by rfl) (by decide) rfl Try.func54 (by kernel_rfl) (by rfl) ?_
 ·walk_nrm
  exact hl
 walk_nrm
 repeat (first | (refine Walk.oq ?_; try walk_nrm) | (refine Walk.un ?_; walk_nrm))
 refine Walk.callW (Post := fun v w' => ∃ sa sc, v = .slice sa m sc ∧ w'.ownsRow w.heap.size 2 1 (.slice sa m sc) m (intRow l) ∧ Chg (fun _ => False) w w') ?_ hoA (by rfl) (by decide) rfl Try.func55 (by kernel_rfl) (by rfl) ?_
 ·walk_nrm
  exact hs
 rintro v w1 ⟨sa, sc, rfl, hrow, hC⟩
 walk_nrm
 repeat (first | (refine Walk.oq ?_; try walk_nrm) | (refine Walk.un ?_; walk_nrm))
 (refine Walk.oa ?_; try walk_nrm)
 have hC1 := hC.size
 have hst : (w1.alloc zTr).setRow w1.heap.size (trC (.slice none 0 0) (.slice oa on oc) (.slice sa m sc) lf) = w1.alloc (.cells (trC (.slice none 0 0) (.slice oa on oc) (.slice sa m sc) lf) 31) := setRow_alloc' _ _ _ _
 refine Walk.storeS 31 (.tmp 16) (.tmp 142) hoA (by rfl) (by decide) rfl w1.heap.size (trC (.slice none 0 0) (.slice oa on oc) (.slice sa m sc) lf) #[.slice none 0 0, .slice none 0 0, .slice none 0 0, .bool false] 31 rfl rfl (heap_alloc_new _ _) (by kernel_rfl) rfl (by simp [trC, Value.oneCell']) (ap0 _) ?_
 have e1 : w1.alloc (.cells #[.slice none 0 0, .slice none 0 0, .slice none 0 0, .bool false] 31) = w1.alloc zTr := rfl
 try rw [e1]
 rw [hst]
 have d2 := heap_alloc_new w1 (.cells (trC (.slice none 0 0) (.slice oa on oc) (.slice sa m sc) lf) 31)
 have o2 : ∀ x, x < w1.heap.size → (w1.alloc (.cells (trC (.slice none 0 0) (.slice oa on oc) (.slice sa m sc) lf) 31)).heap[x]? = w1.heap[x]? := fun x hx => heap_new_lt _ _ hx
 have s2 : (w1.alloc (.cells (trC (.slice none 0 0) (.slice oa on oc) (.slice sa m sc) lf) 31)).heap.size = w1.heap.size + 1 := by simp
 clear hst e1
 have hrow2 := row_same hrow (w' := w1.alloc (.cells (trC (.slice none 0 0) (.slice oa on oc) (.slice sa m sc) lf) 31)) fun g hg => o2 g (hrow.lt g hg).2
 have hlt : ∀ b, (Value.slice sa m sc).ownBlock = some b → b < w1.heap.size := fun b hb => (hrow.lt b hb).2
 generalize w1.alloc (.cells (trC (.slice none 0 0) (.slice oa on oc) (.slice sa m sc) lf) 31) = w2 at *
 generalize hQ : w1.heap.size = Q at *
 try walk_nrm
 refine Walk.gz z37 ?_
 refine Walk.ctl rfl (fun w => stepG_loop) ?_
 refine .stop fun d => ⟨sa, sc, Q, at_slots ?_, hC1, d2, ⟨by show w.heap.size ≤ w2.heap.size; omega, fun x hx hn => (o2 x (by omega)).trans (hC.same x hx hn)⟩, hrow2, s2, hlt⟩
 simp only [hdRun4]
 rfl
theorem last_go (M R n Q i tb tc : Nat) (b c : Value) (k : Bool) (ha : Option Addr) (hc : Nat) (aa : Option Addr) (al ac : Nat) (hv : Nat → Value) (u : Nat → Value) (cs : List Frame) (a1 : Nat) (w : World) (ho : w.heap[Q]? = some (.cells (trC (.slice ha i hc) b c k) 31)) (hrow : w.ownsRow a1 42 1 (.slice ha i hc) i (hdRow hv i)) (hi : i < n) (hn : n ≤ 64) (hvi : hv i = .slice aa al ac)
  (hQ : Q < a1) (ha1 : a1 ≤ w.heap.size) (hl : w.cell? ⟨M, 2, none⟩ = some (.slice (some ⟨tb, 0, none⟩) n tc)) (hq : w.cell? ⟨tb, i * 8 + 1, none⟩ = some (.slice aa al ac)) (hM : M < a1) (htb : tb < a1) :
  Walk Try.prog main (DR (fun _ => none)) (fun g' w' => ∃ g cap, (∃ u', g' = G (hdRun4 M R n Q (i + 1) u') cs) ∧ w'.heap[Q]? = some (.cells (trC (.slice (some ⟨g, 0, none⟩) (i + 1) cap) b c k) 31) ∧ w'.ownsRow a1 42 1 (.slice (some ⟨g, 0, none⟩) (i + 1) cap) (i + 1) (hdRow hv (i + 1)) ∧ Chg (fun x => x = Q ∨ a1 ≤ x) w w')
   (G (hdRun4 M R n Q i u) cs) w := by
 have hi0 : (0 : Int) ≤ i := by omega
 have hi1 : decide ((i : Int) < n) = true := by simp; omega
 have hi3 : decide (i < n) = true := by simp; omega
 have hi4 : (i : Int) < n := by omega
 have hw1 : IntKind.wrap .i64 ((i : Int) + 1) = (i : Int) + 1 := by rw [IntKind.wrap_i64]; omega
 have h0 : w.cell? ⟨Q, 0, none⟩ = some (.slice ha i hc) := (cell_of ho 0).trans rfl
 have hlo : Q < w.heap.size := by omega
 have hsz1 : w.heap.size + 1 ≤ (w.alloc (.cells #[.slice aa al ac] 42)).heap.size ∧ (w.alloc (.cells #[.slice aa al ac] 42)).heap.size ≤ w.heap.size + 1 := by simp
 have hrow' : (w.alloc (.cells #[.slice aa al ac] 42)).ownsRow a1 42 1 (.slice ha i hc) i (hdRow hv i) := row_same hrow fun g hg => heap_new_lt _ _ (hrow.lt g hg).2
 have hnews : ∀ (j : Nat) (x : Value), ([.slice aa al ac] : List Value)[j]? = some x → (w.alloc (.cells #[.slice aa al ac] 42)).cell? ((⟨w.heap.size, 0, none⟩ : Addr).add j) = some x := fun j x hx => by
  rw [add_none, Nat.zero_add]
  refine (cell_of (heap_alloc_new _ _) j).trans ?_
  simpa using hx
 have hne : ∀ x, x < a1 → (Value.slice ha i hc).ownBlock ≠ some x := fun x hx e => by have := (hrow.lt x e).1; omega
 have hfar : ∀ (x : Nat) (w2 : World), x < w.heap.size → (Value.slice ha i hc).ownBlock ≠ some x → (w.alloc (.cells #[.slice aa al ac] 42)).grownBy w2 (Value.slice ha i hc).ownBlock → w2.heap[x]? = w.heap[x]? := fun x w2 hx hn hg => (hg.block x (by omega) (fun e => hn e.symm)).trans (heap_new_lt _ _ hx)
 conv => arg 5; unfold hdRun4
 refine Walk.gz z37 ?_
 refine Walk.drawnT (iA := 10) (iB := 11) (w1 := w.alloc (.cells #[.slice aa al ac] 42)) (vA := .slice (some ⟨w.heap.size, 0, none⟩) 1 1) (Z := fun x => x.cell? ⟨Q, 0, none⟩ = some (.slice ha i hc) ∧ x.cell? ⟨M, 2, none⟩ = some (.slice (some ⟨tb, 0, none⟩) n tc) ∧ x.cell? ⟨tb, i * 8 + 1, none⟩ = some (.slice aa al ac))
  (fun v w2 => ∃ g cap, v = .slice (some ⟨g, 0, none⟩) (i + 1) cap ∧ w2.ownsRow a1 42 1 (.slice (some ⟨g, 0, none⟩) (i + 1) cap) (i + 1) (hdRow hv i ++ [.slice aa al ac]) ∧ (w.alloc (.cells #[.slice aa al ac] 42)).grownBy w2 (Value.slice ha i hc).ownBlock ∧ ((Value.slice ha i hc).ownBlock = some g ∨ g = (w.alloc (.cells #[.slice aa al ac] 42)).heap.size)) (by kernel_rfl) size37_37 (by kernel_rfl) (by kernel_rfl) (by kernel_rfl) (by kernel_rfl) (by decide) hoA hoA ⟨h0, hl, hq⟩ ⟨cell_alloc _ _ h0, cell_alloc _ _ hl, cell_alloc _ _ hq⟩ ?_ ?_
 ·rintro v w2 ⟨g, cap, _, _, hg, _⟩
  exact ⟨(World.cell?_of_block (a := ⟨Q, 0, none⟩) (hfar Q w2 hlo (hne Q hQ) hg)).trans h0, (World.cell?_of_block (a := ⟨M, 2, none⟩) (hfar M w2 (by omega) (hne M hM) hg)).trans hl, (World.cell?_of_block (a := ⟨tb, i * 8 + 1, none⟩) (hfar tb w2 (by omega) (hne tb htb) hg)).trans hq⟩
 rw [show List.filter (quietQ 10 11) (List.range 13) = [0, 1, 2, 3, 4, 5, 6, 7, 8, 9, 12] from by decide]
 repeat (first | (refine Cm.opqZ hoA (by rfl) (fun wz hz dd e he => ?_) ?_; (· (obtain ⟨z1, z2, z3⟩ := hz; simp [go_sem, *] at he; try (subst he; exact evR_read _ _))); apply Exists.intro; apply And.intro; (· (intro wz hz dd K hK; obtain ⟨z1, z2, z3⟩ := hz; go_simp; exact hK))) | (refine Cm.unw hoA (by rfl) ?_; walk_nrm))
 refine Cm.done ⟨?_, ?_, ?_⟩
 ·intro x hev rest hr'
  have e0 : x.eval (.tmp 157) = .slice aa al ac := (hev (.tmp 157) (by simp [Op.operands])).trans rfl
  have e1 : x.tmps[157]?.getD undef = .slice aa al ac := by
   rw [← Array.getD_eq_getD_getElem?]
   exact e0
  clear e0 hev
  (refine Walk.oa ?_; try walk_nrm)
  exact hr' _ _ ⟨rfl, _, rfl⟩
 ·intro x hev rest hr'
  have e1 : x.eval (.tmp 149) = .slice ha i hc := (hev (.tmp 149) (by simp [Op.operands, Call.operands])).trans rfl
  have e2 : x.eval (.tmp 158) = .slice (some ⟨w.heap.size, 0, none⟩) 1 1 := (hev (.tmp 158) (by simp [Op.operands, Call.operands])).trans rfl
  have hiA := Option.some_get (show (Try.prog.info? 42).isSome = true by kernel_rfl)
  refine Walk.append (.tmp 149) (.tmp 158) 29 hoA (by rfl) (by decide) rfl a1 42 _ (.slice none 0 0) 1 24 (by kernel_rfl) hiA.symm (by rfl) (by rfl) (by rfl) (by rfl) (by decide) (.slice ha i hc) i (hdRow hv i) e1 hrow' ⟨w.heap.size, 0, none⟩ 1 1 [.slice aa al ac] e2 (by rfl) hnews (by simp [Value.oneCell']) (by decide) (by simp [maxLen]; omega) (by omega) (by omega) (fun g _ => ap0 g) (fun g cap w3 hown hg hat hlt => ?_)
  exact hr' _ _ ⟨_, w3, ⟨g, cap, rfl, hown, hg, hat⟩, rfl, w3.drawn, rfl⟩
 rintro v w2 ⟨g, cap, rfl, hown, hg, hat⟩ rest hr'
 have hb := hfar Q w2 hlo (hne Q hQ) hg
 have h0' : w2.cell? ⟨Q, 0, none⟩ = some (.slice ha i hc) := (World.cell?_of_block (a := ⟨Q, 0, none⟩) hb).trans h0
 have hz0 : w2.frozen? ⟨Q, 0, none⟩ = false := frozen_of (hb.trans ho) 0
 have hgs := hg.size
 have hga : a1 ≤ g := (hown.lt g rfl).1
 (have hfr := fr0 Q 0; refine Walk.os hfr h0' ?_; clear hfr; try walk_nrm)
 refine hr' _ _ ?_
 have hbo : (w2.setCell ⟨Q, 0, none⟩ (.slice (some ⟨g, 0, none⟩) (i + 1) cap)).heap[Q]? = some (.cells (trC (.slice (some ⟨g, 0, none⟩) (i + 1) cap) b c k) 31) := by
  rw [heap_set_self _ _ (hb.trans ho)]
  simp [trC]
 have hown2 : (w2.setCell ⟨Q, 0, none⟩ (.slice (some ⟨g, 0, none⟩) (i + 1) cap)).ownsRow a1 42 1 (.slice (some ⟨g, 0, none⟩) (i + 1) cap) (i + 1) (hdRow hv (i + 1)) := by
  rw [hdRow_snoc, hvi]
  exact row_same hown fun x hx => heap_set_other _ _ _ _ (by
   simp only [Value.ownBlock, Option.some.injEq] at hx
   show x ≠ Q
   omega)
 have hC : Chg (fun x => x = Q ∨ a1 ≤ x) w (w2.setCell ⟨Q, 0, none⟩ (.slice (some ⟨g, 0, none⟩) (i + 1) cap)) := by
  refine ⟨by rw [size_set]; omega, fun x hx hn => ?_⟩
  rw [heap_set_other _ _ _ _ (fun e => hn (.inl e))]
  exact hfar x w2 hx (hne x (by omega)) hg
 clear h0' hz0 hb hown hg hat hfar hnews hrow' hrow hl hq h0 ho
 generalize w2.setCell ⟨Q, 0, none⟩ (.slice (some ⟨g, 0, none⟩) (i + 1) cap) = w3 at *
 try walk_nrm
 refine Walk.gz z37 ?_
 refine Walk.ctl rfl (fun w => stepG_inLoop) ?_
 refine .stop fun d => ⟨g, cap, at_slots ?_, hbo, hown2, hC.at d⟩
 have hc : ((i + 1 : Nat) : Int) = (i : Int) + 1 := by simp
 simp only [hdRun4, hc]
 rfl
theorem last_out (M R n Q : Nat) (x0 x1 x2 x3 : Value) (u : Nat → Value) (c : Frame) (cs : List Frame) (w : World) (ho : w.heap[Q]? = some (.cells #[x0, x1, x2, x3] 31)) (hr : w.heap[R]? = some zTr) (h1 : (#[x0, x1, x2, x3] : Array Value).all (·.oneCell') = true) :
  Walk Try.prog main (DR (fun _ => none)) (fun g w' => g = G (c.finish (.agg #[x0, x1, x2, x3])) cs ∧ Chg (fun x => x = R) w w') (G (hdRun4 M R n Q n u) (c :: cs)) w := by
 have hj1 : decide ((n : Int) < n) = false := by simp
 have hj3 : decide (n < n) = false := by simp
 obtain ⟨fsT, huT⟩ := structT 31 (by kernel_rfl)
 have hc : ∀ (j : Nat) (v : Value), [x0, x1, x2, x3][j]? = some v → w.cell? ⟨Q, 0 + j, none⟩ = some v := fun j v hv => by
  rw [Nat.zero_add]
  refine (cell_of ho j).trans ?_
  simpa using hv
 have hT := setRow_self (cells := #[x0, x1, x2, x3]) hr
 have hC : Chg (fun x => x = R) w (w.setRow R #[x0, x1, x2, x3]) := ⟨by rw [setRow_size]; exact Nat.le_refl _, fun x hx hn => setRow_other _ _ hn⟩
 conv => arg 5; unfold hdRun4
 refine Walk.gz z37 ?_
 refine Walk.loadS 31 (.tmp 16) hoA (by rfl) (by decide) rfl Q 0 [x0, x1, x2, x3] (.struct fsT) rfl hc huT rfl (by kernel_rfl) ?_
 walk_nrm
 refine Walk.storeS 31 (.tmp 8) (.tmp 161) hoA (by rfl) (by decide) rfl R #[x0, x1, x2, x3] #[.slice none 0 0, .slice none 0 0, .slice none 0 0, .bool false] 31 rfl rfl hr (by kernel_rfl) rfl h1 (ap0 _) ?_
 clear hc ho hr
 generalize w.setRow R #[x0, x1, x2, x3] = w2 at *
 try walk_nrm
 refine Walk.gz z37 ?_
 exact Walk.onCell (T := R) rfl rfl rfl Try.func37 rfl (by rfl) hT (by kernel_rfl) (by kernel_rfl) (.stop fun d => ⟨rfl, hC.at d⟩)
end
end
section
section
variable {main : Bool} {V : Nat → Option Wait} {lb k : Nat} {s : Sq}
structure ValI (w0 : World) (X N n : Nat) (o : OpV) (j : Nat) (w : World) : Prop where
 op : w.heap[X]? = some (.cells #[.int .i64 o.k, .int .i64 o.a, .int .i64 o.b, .int .i64 o.c] 47)
 num : NumB w N (padL ((List.range j).map (sqVal o)) n)
 old : ∀ b, b < w0.heap.size → w.heap[b]? = w0.heap[b]?
 lo : w0.heap.size ≤ X ∧ X < N ∧ N < w.heap.size ∧ w0.heap.size ≤ N
theorem ValI.at {w0 : World} {X N n : Nat} {o : OpV} {j : Nat} {w : World} (h : ValI w0 X N n o j w) (d : Nat) : ValI w0 X N n o j (w.at d) := ⟨h.op, h.num, h.old, h.lo⟩
theorem val_in (o : OpV) (w : World) (I : SqI lb k s w) (hA : ∀ b, w.heap.size ≤ b → Apart V b) (cs : List Frame) :
  Walk Try.prog main (DR V) (fun g w' => (∃ u, g = G (hdVal lb w.heap.size (w.heap.size + 1) (k + 1) 0 u) cs) ∧ ValI w w.heap.size (w.heap.size + 1) (k + 1) o 0 w') (G (Frame.enter Try.prog 51 #[.pointer (some ⟨lb, 0, none⟩), opVal o] .normal) cs) w := by
 have hk := I.pos
 have hi1 := Option.some_get (show (Try.prog.info? 2).isSome = true by kernel_rfl)
 have hlen : ∀ w' : World, w'.heap[lb]? = w.heap[lb]? → CallV Try.prog main V 17 #[.pointer (some ⟨lb, 0, none⟩)] w' (.int .i64 ((k + 1 : Nat) : Int)) w' := fun w' h => by
  have := len_w (main := main) (V := V) w' (I.old h)
  have hcc : ((k : Int) + 1) = ((k + 1 : Nat) : Int) := by simp
  rwa [hcc] at this
 have hlt := I.lt
 have hn17 : k + 1 ≤ 16 := by omega
 have hn0 : 0 < k + 1 := by omega
 clear I hk
 generalize k + 1 = n at *
 obtain ⟨ok, oa, ob, oc⟩ := o
 simp only [opVal]
 rw [enter_at _ Try.func51 code51_is]
 simp only [Try.ntmps51, ez, Nat.reduceAdd, Nat.reduceSub]
 refine Walk.gz z51 ?_
 (refine Walk.oa ?_; try walk_nrm)
 have s0 : (w.alloc (.cells #[.int .i64 ok, .int .i64 oa, .int .i64 ob, .int .i64 oc] 47)).heap.size = w.heap.size + 1 := by simp
 have o0 : ∀ b, b < w.heap.size → (w.alloc (.cells #[.int .i64 ok, .int .i64 oa, .int .i64 ob, .int .i64 oc] 47)).heap[b]? = w.heap[b]? := fun b hb => heap_new_lt _ _ hb
 have d0 := heap_alloc_new w (.cells #[.int .i64 ok, .int .i64 oa, .int .i64 ob, .int .i64 oc] 47)
 generalize hX : w.heap.size = X at *
 generalize w.alloc (.cells #[.int .i64 ok, .int .i64 oa, .int .i64 ob, .int .i64 oc] 47) = w1 at *
 refine Walk.gz z51 ?_
 refine Walk.callV (x := .int .i64 (n : Int)) (W := w1) ?_ hoA (by rfl) (by decide) rfl Try.func17 (by kernel_rfl) (by rfl) ?_
 ·walk_nrm
  exact hlen w1 (o0 lb (by omega))
 walk_nrm
 refine Walk.gz z51 ?_
 refine Walk.make 22 (.tmp 8) (.tmp 8) hoA (by rfl) (by decide) rfl 2 _ (.int .i64 0) 1 8 (by kernel_rfl) hi1.symm (by rfl) (by rfl) (by rfl) n (by rfl) (by rfl) (by omega) (by omega) ?_
 walk_nrm
 simp only [Value.cells, Nat.mul_one, made_zero]
 have s1 : (w1.alloc (.cells ((List.replicate n (0 : Int)).map fun z => Value.int .i64 z).toArray 2)).heap.size = X + 2 := by simp; omega
 have o1 : ∀ b, b < X + 1 → (w1.alloc (.cells ((List.replicate n (0 : Int)).map fun z => Value.int .i64 z).toArray 2)).heap[b]? = w1.heap[b]? := fun b hb => heap_new_lt _ _ (by omega)
 have d1 := heap_alloc_new w1 (.cells ((List.replicate n (0 : Int)).map fun z => Value.int .i64 z).toArray 2)
 rw [s0] at d1
 try simp only [s0]
 generalize w1.alloc (.cells ((List.replicate n (0 : Int)).map fun z => Value.int .i64 z).toArray 2) = w2 at *
 refine Walk.gz z51 ?_
 refine Walk.ctl rfl (fun w => stepG_loop) ?_
 refine .stop fun d => ⟨at_slots ?_, ValI.at (o := ⟨ok, oa, ob, oc⟩) (j := 0) (n := n) (N := X + 1) (X := X) ⟨(o1 X (by omega)).trans d0, (show NumB w2 (X + 1) (padL ((List.range 0).map (sqVal ⟨ok, oa, ob, oc⟩)) n) from d1), fun b hb => (o1 b (by omega)).trans (o0 b (by omega)), by omega, by omega, by omega, by omega⟩ d⟩
 simp only [hdVal]
 rfl
theorem val_go (o : OpV) (X N n j : Nat) (hn17 : n ≤ 16) (hj : j < n) (u : Nat → Value) (cs : List Frame) (w0 w : World) (M : ValI w0 X N n o j w) (hA : ∀ b, w0.heap.size ≤ b → Apart V b) :
  Walk Try.prog main (DR V) (fun g w' => (∃ u, g = G (hdVal lb X N n (j + 1) u) cs) ∧ ValI w0 X N n o (j + 1) w') (G (hdVal lb X N n j u) cs) w := by
 obtain ⟨hop, hnum, hold, hlo⟩ := M
 have hap := hA N hlo.2.2.2
 have c2 := (cell_of hop 2).trans rfl
 have c3 := (cell_of hop 3).trans rfl
 have hl : ((List.range j).map (sqVal o)).length = j := by simp
 have c5 := hnum.cell (j := j) (z := 0) (by
  unfold padL
  rw [List.getElem?_append_right (by omega), hl, Nat.sub_self, List.getElem?_replicate, if_pos (by omega)])
 have z5 := hnum.frozen j
 have f5 := hap.1 ⟨N, j, none⟩ rfl
 have hi0 : (0 : Int) ≤ j := by omega
 have hi1 : decide ((j : Int) < n) = true := by simp; omega
 have hi2 : decide (n ≤ j) = false := by simp; omega
 have hi3 : decide (j < n) = true := by simp; omega
 have hw1 : IntKind.wrap .i64 ((j : Int) + 1) = (j : Int) + 1 := by rw [IntKind.wrap_i64]; omega
 have hw2 : IntKind.wrap .i64 (j : Int) = (j : Int) := by rw [IntKind.wrap_i64]; omega
 have hv : sqVal o j = IntKind.i64.wrap (o.b + IntKind.i64.wrap ((j : Int) * o.c)) := rfl
 have hset := hnum.set j (sqVal o j)
 have hs6 := size_set w ⟨N, j, none⟩ (.int .i64 (sqVal o j))
 have o6 : ∀ b, b ≠ N → (w.setCell ⟨N, j, none⟩ (.int .i64 (sqVal o j))).heap[b]? = w.heap[b]? := fun b hb => heap_set_other _ _ _ _ hb
 have hpd := padL_set (l := (List.range j).map (sqVal o)) (n := n) (by omega) (sqVal o j)
 rw [hl, ← range_snoc] at hpd
 rw [hpd] at hset
 rw [hv] at hset hs6 o6
 clear hv hpd hnum
 unfold hdVal
 refine Walk.gz z51 ?_
 (refine Walk.os f5 c5 ?_; try walk_nrm)
 generalize w.setCell ⟨N, j, none⟩ (.int .i64 (IntKind.i64.wrap (o.b + IntKind.i64.wrap ((j : Int) * o.c)))) = w6 at *
 refine Walk.gz z51 ?_
 refine Walk.ctl rfl (fun w => stepG_inLoop) ?_
 refine .stop fun d => ⟨at_slots ?_, ValI.at ⟨(o6 X (by omega)).trans hop, hset, fun b hb => (o6 b (by omega)).trans (hold b hb), by omega, by omega, by omega, by omega⟩ d⟩
 have hc : ((j + 1 : Nat) : Int) = (j : Int) + 1 := by simp
 simp only [hdVal, hc]
 rfl
theorem val_end (X N n : Nat) (u : Nat → Value) (c : Frame) (cs : List Frame) (w : World) :
  Walk Try.prog main (DR V) (fun g w' => g = G (c.finish (.slice (some ⟨N, 0, none⟩) n n)) cs ∧ ∃ d, w' = w.at d) (G (hdVal lb X N n n u) (c :: cs)) w := by
 unfold hdVal
 refine Walk.gz z51 ?_
 exact Walk.on1 rfl rfl Try.func51 rfl (.stop fun d => ⟨rfl, d, rfl⟩)
theorem values_w (o : OpV) (w : World) (I : SqI lb k s w) (hA : ∀ b, w.heap.size ≤ b → Apart V b) : CallW Try.prog main V 51 #[.pointer (some ⟨lb, 0, none⟩), opVal o] w (NewNum ((List.range (k + 1)).map (sqVal o)) w) := by
 intro c cs
 have hk := I.pos
 refine (val_in o w I hA (c :: cs)).then ?_
 rintro g w1 ⟨⟨u, rfl⟩, M⟩
 have loop : ∀ (r i : Nat) (u : Nat → Value) (w1 : World), i + r = k + 1 → ValI w w.heap.size (w.heap.size + 1) (k + 1) o i w1 →
   Walk Try.prog main (DR V) (fun g w' => ∃ v, NewNum ((List.range (k + 1)).map (sqVal o)) w v w' ∧ g = G (c.finish v) cs) (G (hdVal lb w.heap.size (w.heap.size + 1) (k + 1) i u) (c :: cs)) w1 := by
  intro r
  induction r with
  | zero =>
   intro i u w1 hi M
   obtain rfl : i = k + 1 := hi
   refine (val_end _ _ _ u c cs w1).mono ?_
   rintro g w' ⟨rfl, d, rfl⟩
   refine ⟨_, ⟨w.heap.size + 1, ?_, by omega, M.lo.2.2.1, ?_, M.old, by have := M.lo; show w.heap.size ≤ w1.heap.size; omega⟩, rfl⟩
   ·simp
   ·have := M.num
    rw [padL_full (by simp)] at this
    exact this
  | succ r ih =>
   intro i u w1 hi M
   refine (val_go o _ _ (k + 1) i (by omega) (by omega) u (c :: cs) w w1 M hA).then ?_
   rintro g w' ⟨⟨u', rfl⟩, M'⟩
   exact ih (i + 1) u' w' (by omega) M'
 exact loop (k + 1) 0 u w1 (by omega) M
end
end
section
noncomputable def reg30_0 := rg Try.f30.body [0]
noncomputable def reg30_1 := rg Try.f30.body [1, 0, 0]
noncomputable def reg30_2 := rg Try.f30.body [1, 0, 1, 0, 0]
noncomputable def reg30_3 := rg Try.f30.body [1, 1, 0]
noncomputable def reg30_4 := rg Try.f30.body [1, 1, 1, 0]
theorem z30 : List.range reg30_0.size = [0, 1] ∧ List.range reg30_1.size = [0, 1] ∧ List.range reg30_2.size = [0, 1] ∧ List.range reg30_3.size = [0, 1, 2, 3, 4, 5] ∧ List.range reg30_4.size = [0, 1, 2, 3, 4, 5] := by refine ⟨?_, ?_, ?_, ?_, ?_⟩ <;> kernel_rfl
theorem code30_is : Try.f30.body = some (.seq (.region 0 reg30_0 false) (.seq (.seq (.region 1 reg30_1 false) (.cond (.tmp 10 ) (.seq (.region 2 reg30_2 false) (.ret)) (.skip))) (.seq (.region 3 reg30_3 false) (.seq (.region 4 reg30_4 false) (.ret))))) := by kernel_rfl
noncomputable def reg31_0 := rg Try.f31.body [0]
noncomputable def reg31_1 := rg Try.f31.body [1, 0]
noncomputable def reg31_2 := rg Try.f31.body [1, 1, 0, 0]
noncomputable def reg31_3 := rg Try.f31.body [1, 1, 0, 1, 0, 0, 0]
noncomputable def reg31_4 := rg Try.f31.body [1, 1, 0, 1, 0, 0, 1, 1, 0, 0, 0]
noncomputable def reg31_5 := rg Try.f31.body [1, 1, 0, 1, 0, 0, 1, 1, 0, 0, 1]
noncomputable def reg31_6 := rg Try.f31.body [1, 1, 0, 1, 0, 0, 1, 1, 1]
noncomputable def reg31_7 := rg Try.f31.body [1, 1, 1, 0]
theorem z31 : List.range reg31_0.size = [0] ∧ List.range reg31_1.size = [0, 1, 2, 3] ∧ List.range reg31_2.size = [0, 1, 2] ∧ List.range reg31_3.size = [0] ∧ List.range reg31_4.size = [0, 1] ∧ List.range reg31_5.size = [0, 1, 2, 3, 4, 5, 6, 7, 8, 9, 10] ∧ List.range reg31_6.size = [0, 1] ∧ List.range reg31_7.size = [0, 1] := by refine ⟨?_, ?_, ?_, ?_, ?_, ?_, ?_, ?_⟩ <;> kernel_rfl
theorem code31_is : Try.f31.body = some (.seq (.region 0 reg31_0 false) (.seq (.region 1 reg31_1 false) (.seq (.seq (.region 2 reg31_2 false) (.block 0 (.loop (.seq (.region 3 reg31_3 false) (.seq (.cond (.tmp 13 ) (.skip) (.exit 0)) (.seq (.block 1 (.seq (.region 4 reg31_4 false) (.region 5 reg31_5 false))) (.region 6 reg31_6 false))))))) (.seq (.region 7 reg31_7 false) (.ret))))) := by kernel_rfl
noncomputable def hdRaw (lb : Nat) (sv : Value) (N n j : Nat) (u : Nat → Value) : Frame :=
 (base 31).at { tmps := #[.pointer (some ⟨lb, 0, none⟩), sv, u 2, u 3, u 4, .slice (some ⟨N, 0, none⟩) n n, u 6, u 7, u 8, u 9, u 10, .int .i64 n, .int .i64 j, u 13, u 14, u 15, u 16, u 17, u 18, u 19, u 20, u 21, u 22, u 23, u 24, u 25, u 26], defers := [] } [.code (.seq (.region 3 reg31_3 false) (.seq (.cond (.tmp 13 ) (.skip) (.exit 0)) (.seq (.block 1 (.seq (.region 4 reg31_4 false) (.region 5 reg31_5 false))) (.region 6 reg31_6 false)))), .inLoop (.seq (.region 3 reg31_3 false) (.seq (.cond (.tmp 13 ) (.skip) (.exit 0)) (.seq (.block 1 (.seq (.region 4 reg31_4 false) (.region 5 reg31_5 false))) (.region 6 reg31_6 false)))), .inBlock 0, .code (.seq (.region 7 reg31_7 false) (.ret))]
section
variable {lb k : Nat} {sv : Value}
theorem load_ver (K : Lg (sqLa lb k) sv) (e : K.E) (d : QD) (ht : K.tgt e = (K.s e, .inr d)) : SCall K.toLb 46 #[.pointer (some ⟨lb, 0, none⟩), sv] e (fun v e' => Aft K.toLb e d e' ∧ v = .int .i64 ((K.s e' : Sq).v)) := word_load K verW e d trivial ht
theorem load_word (K : Lg (sqLa lb k) sv) (i : Nat) (hi : i ≤ k) (e : K.E) (d : QD) (ht : K.tgt e = (K.s e, .inr d)) : SCall K.toLb 46 #[.pointer (some ⟨lb, 1 + i, none⟩), sv] e (fun v e' => Aft K.toLb e d e' ∧ v = .int .i64 ((K.s e' : Sq).w i)) := word_load K (worW i hi) e d trivial ht
def NewerOut (K : Lg (sqLa lb k) sv) (v : Value) (e' : K.E) : Prop := ∃ b x, v = .tuple #[.int .i64 x, .bool b] ∧ K.tgt e' = (K.s e', .inl ⟨b, x, []⟩)
theorem newer_s (K : Lg (sqLa lb k) sv) (e : K.E) (a : Int) (ht : K.tgt e = (K.s e, .inr (.n1 a))) : SCall K.toLb 30 #[.pointer (some ⟨lb, 0, none⟩), sv, .int .i64 a] e (NewerOut K) := by
 intro fr l hp hl hk
 have w1 := load_ver K e (.n1 a) ht
 have hp1 := fun w => run_eql_ptr (P := Try.prog) 35 undLock (some ⟨lb, 0, none⟩) w
 have hp2 := fun w es => ev_eql_ptr (P := Try.prog) 35 undLock (some ⟨lb, 0, none⟩) w es
 simp only [Option.isNone_some] at hp1
 unfold LW
 rw [enter_at _ Try.func30 code30_is]
 simp only [Try.ntmps30, ez, Nat.reduceAdd, Nat.reduceSub]
 refine Walk.gz z30 ?_
 refine LW.callS (K := K.toLb) (e := e) (l := fr :: l) (f := 46) (Q := fun v e' => Aft K.toLb e (.n1 a) e' ∧ v = .int .i64 ((K.s e' : Sq).v)) ?_ hoA (by rfl) (by decide) rfl Try.func46 (by kernel_rfl) (by rfl) ⟨rfl, rfl, _, Try.func30⟩ (plain_cons hp hl) ?_
 ·walk_nrm
  exact w1
 rintro v e1 ⟨ha, rfl⟩
 have hkk := hk (.tuple #[.int .i64 ((K.s e1 : Sq).v), .bool (decide (a < (K.s e1 : Sq).v))]) e1 ⟨_, _, rfl, ha.tgt⟩
 generalize (K.s e1 : Sq).v = x at *
 unfold LW at hkk ⊢
 walk_nrm
 refine Walk.gz z30 ?_
 exact Walk.on2 rfl rfl Try.func30 rfl hkk
def RawOut (K : Lg (sqLa lb k) sv) (D : Nat → List Int → Ans ⊕ QD) (v : Value) (e' : K.E) : Prop := ∃ B l, v = .slice (some ⟨B, 0, none⟩) (k + 1) (k + 1) ∧ l.length = k + 1 ∧ K.mine e' B ∧ NumB (K.w e') B l ∧ K.tgt e' = (K.s e', D (k + 1) l)
theorem raw_round (K : Lg (sqLa lb k) sv) (D : Nat → List Int → Ans ⊕ QD) (dd : Nat → List Int → QD) (hD : ∀ i l, i ≤ k → D i l = .inr (dd i l)) (hact : ∀ s i l, i ≤ k → sqAct k s (dd i l) = (s, D (i + 1) (l ++ [s.w i])))
  (B : Nat) (fr : Frame) (l : List Frame) (hp : Plain fr) (hl : ∀ f ∈ l, Plain f) (ls : List Int) (hj : ls.length < k + 1) (e : K.E) (u : Nat → Value) (hB : K.mine e B) (hT : NumB (K.w e) B (padL ls (k + 1))) (ht : K.tgt e = (K.s e, D ls.length ls))
  (ih : ∀ (e' : K.E) (u' : Nat → Value) (x : Int), K.mine e' B → NumB (K.w e') B (padL (ls ++ [x]) (k + 1)) → K.tgt e' = (K.s e', D (ls.length + 1) (ls ++ [x])) → LW K.toLb e' (G (hdRaw lb sv B (k + 1) (ls.length + 1) u') (fr :: (l ++ K.bot e')))) :
  LW K.toLb e (G (hdRaw lb sv B (k + 1) ls.length u) (fr :: (l ++ K.bot e))) := by
 have hk15 := (K.inv e).pos
 have w1 := load_word K ls.length (by omega) e (dd ls.length ls) (by rw [ht, hD _ _ (by omega)]; rfl)
 have hact' := fun s => hact s ls.length ls (by omega)
 have hset := fun (w : World) (h : NumB w B (padL ls (k + 1))) (x : Int) => (padL_set hj x) ▸ h.set ls.length x
 have hcl := fun (w : World) (h : NumB w B (padL ls (k + 1))) => h.cell (j := ls.length) (z := 0) (by
  unfold padL
  rw [List.getElem?_append_right (Nat.le_refl _), Nat.sub_self, List.getElem?_replicate, if_pos (by omega)])
 clear hD hact
 have hn17 : k + 1 ≤ 16 := by omega
 have h17 : ((17 : Nat) : Int) = 17 := rfl
 generalize hjj : ls.length = j at *
 have hj0 : (0 : Int) ≤ j := by omega
 have hj1 : decide ((j : Int) < ((k + 1 : Nat) : Int)) = true := by simp; omega
 have hj3 : decide (j < k + 1) = true := by simp; omega
 have hj4 : (j : Int) < ((k + 1 : Nat) : Int) := by omega
 have hj5 : (j : Int) < 16 := by omega
 have hj6 : j < 16 := by omega
 have hw1 : IntKind.wrap .i64 ((j : Int) + 1) = ((j + 1 : Nat) : Int) := by rw [IntKind.wrap_i64]; omega
 have hx1 := fun w => (ix_word lb j hj6 w #[]).1
 have hx2 := fun w es => (ix_word lb j hj6 w es).2
 clear hk15 hjj
 generalize k + 1 = n at *
 unfold LW hdRaw
 refine Walk.gz z31 ?_
 refine LW.callS (K := K.toLb) (e := e) (l := fr :: l) (f := 46) (Q := fun v e' => Aft K.toLb e (dd j ls) e' ∧ v = .int .i64 ((K.s e' : Sq).w j)) ?_ hoA (by rfl) (by decide) rfl Try.func46 (by kernel_rfl) (by rfl) ⟨rfl, rfl, _, Try.func31⟩ (plain_cons hp hl) ?_
 ·walk_nrm
  exact w1
 rintro v e1 ⟨ha, rfl⟩
 have ht1 : K.tgt e1 = (K.s e1, D (j + 1) (ls ++ [(K.s e1 : Sq).w j])) := ha.tgt.trans (hact' _)
 obtain ⟨hm1, hb1⟩ := ha.mine B hB
 have hT1 := hT.same hb1
 have hcy := hcl _ hT1
 have hfz := hT1.frozen j
 have hap := (K.mineA e1 _ hm1).1.1 ⟨B, j, none⟩ rfl
 have hT2 := hset _ hT1 ((K.s e1 : Sq).w j)
 generalize (K.s e1 : Sq).w j = x at *
 obtain ⟨e2, m2⟩ := K.own e1 (w' := (K.w e1).setCell ⟨B, j, none⟩ (.int .i64 x)) (by simp) (fun b _ hbm => heap_set_other _ _ _ _ (fun he : b = B => hbm (by rw [he]; exact hm1)))
 have hm2 : K.mine e2 B := (m2.mine B).2 (.inl hm1)
 have ht2 : K.tgt e2 = (K.s e2, D (j + 1) (ls ++ [x])) := by rw [m2.tgt, m2.s]; exact ht1
 rw [← m2.w] at hT2
 have hih := fun u => ih e2 u x hm2 hT2 ht2
 clear ih w1 hset hcl hact' hT hT1 hT2
 unfold LW
 walk_nrm
 refine Walk.gz z31 ?_
 (refine Walk.os hap hcy ?_; try walk_nrm)
 refine LW.to (l := fr :: l) m2 ?_
 unfold LW at hih ⊢
 refine Walk.gz z31 ?_
 refine Walk.ctl rfl (fun w => stepG_inLoop) ?_
 refine slots_walk (F := fun u => G (hdRaw lb sv B n (j + 1) u) (fr :: (l ++ K.bot e2))) hih ?_
 simp only [hdRaw]
 rfl
theorem raw_end (K : Lg (sqLa lb k) sv) (D : Nat → List Int → Ans ⊕ QD) (B : Nat) (fr : Frame) (l : List Frame) (hk : ∀ x e', RawOut K D x e' → LW K.toLb e' (G (fr.finish x) (l ++ K.bot e'))) (ls : List Int) (hj : ls.length = k + 1) (e : K.E) (u : Nat → Value) (hB : K.mine e B) (hT : NumB (K.w e) B (padL ls (k + 1))) (ht : K.tgt e = (K.s e, D (k + 1) ls)) :
  LW K.toLb e (G (hdRaw lb sv B (k + 1) (k + 1) u) (fr :: (l ++ K.bot e))) := by
 rw [padL_full hj] at hT
 have hkk := hk (.slice (some ⟨B, 0, none⟩) (k + 1) (k + 1)) e ⟨B, ls, rfl, hj, hB, hT, ht⟩
 clear hk hT ht hj
 generalize k + 1 = n at *
 have hj3 : decide (n < n) = false := by simp
 unfold LW hdRaw
 unfold LW at hkk
 refine Walk.gz z31 ?_
 exact Walk.on1 rfl rfl Try.func31 rfl hkk
theorem raw_loop (K : Lg (sqLa lb k) sv) (D : Nat → List Int → Ans ⊕ QD) (dd : Nat → List Int → QD) (hD : ∀ i l, i ≤ k → D i l = .inr (dd i l)) (hact : ∀ s i l, i ≤ k → sqAct k s (dd i l) = (s, D (i + 1) (l ++ [s.w i])))
  (B : Nat) (fr : Frame) (l : List Frame) (hp : Plain fr) (hl : ∀ f ∈ l, Plain f) (hk : ∀ x e', RawOut K D x e' → LW K.toLb e' (G (fr.finish x) (l ++ K.bot e'))) :
  ∀ (r : Nat) (ls : List Int) (e : K.E) (u : Nat → Value), ls.length + r = k + 1 → K.mine e B → NumB (K.w e) B (padL ls (k + 1)) → K.tgt e = (K.s e, D ls.length ls) → LW K.toLb e (G (hdRaw lb sv B (k + 1) ls.length u) (fr :: (l ++ K.bot e))) := by
 intro r
 induction r with
 | zero =>
  intro ls e u hj hB hT ht
  have hj' : ls.length = k + 1 := by simpa using hj
  rw [hj'] at ht ⊢
  exact raw_end K D B fr l hk ls hj' e u hB hT ht
 | succ r ih =>
  intro ls e u hj hB hT ht
  refine raw_round K D dd hD hact B fr l hp hl ls (by omega) e u hB hT ht fun e' u' x hB' hT' ht' => ?_
  have hlen : (ls ++ [x]).length = ls.length + 1 := by simp
  have := ih (ls ++ [x]) e' u' (by omega) hB' hT'
  rw [hlen] at this
  exact this ht'
theorem raw_s (K : Lg (sqLa lb k) sv) (D : Nat → List Int → Ans ⊕ QD) (dd : Nat → List Int → QD) (hD : ∀ i l, i ≤ k → D i l = .inr (dd i l)) (hact : ∀ s i l, i ≤ k → sqAct k s (dd i l) = (s, D (i + 1) (l ++ [s.w i])))
  (e : K.E) (ht : K.tgt e = (K.s e, D 0 [])) : SCall K.toLb 31 #[.pointer (some ⟨lb, 0, none⟩), sv] e (RawOut K D) := by
 intro fr l hp hl hk
 have hk15 := (K.inv e).pos
 have hi1 := Option.some_get (show (Try.prog.info? 2).isSome = true by kernel_rfl)
 have h1 := len_w (main := K.main) (V := K.V e) (K.w e) (K.inv e)
 have hcc : ((k : Int) + 1) = ((k + 1 : Nat) : Int) := by simp
 rw [hcc] at h1
 have hlp := fun B e' u hB hT ht' => raw_loop K D dd hD hact B fr l hp hl hk (k + 1) [] e' u (by simp) hB hT ht'
 simp only [List.length_nil] at hlp
 clear hk hcc hD hact
 have hn17 : k + 1 ≤ 16 := by omega
 have hn0 : 0 < k + 1 := by omega
 clear hk15
 generalize k + 1 = n at *
 unfold LW
 rw [enter_at _ Try.func31 code31_is]
 simp only [Try.ntmps31, ez, Nat.reduceAdd, Nat.reduceSub]
 refine Walk.gz z31 ?_
 refine Walk.callV (x := .int .i64 (n : Int)) (W := K.w e) ?_ hoA (by rfl) (by decide) rfl Try.func17 (by kernel_rfl) (by rfl) ?_
 ·walk_nrm
  exact h1
 walk_nrm
 refine Walk.gz z31 ?_
 refine Walk.make 22 (.tmp 8) (.tmp 8) hoA (by rfl) (by decide) rfl 2 _ (.int .i64 0) 1 8 (by kernel_rfl) hi1.symm (by rfl) (by rfl) (by rfl) n (by rfl) (by rfl) (by omega) (by omega) ?_
 walk_nrm
 simp only [Value.cells, Nat.mul_one, made_zero]
 have c1 := heap_alloc_new (K.w e) (.cells ((List.replicate n (0 : Int)).map fun z => Value.int .i64 z).toArray 2)
 have s1 : ((K.w e).alloc (.cells ((List.replicate n (0 : Int)).map fun z => Value.int .i64 z).toArray 2)).heap.size = (K.w e).heap.size + 1 := by simp
 obtain ⟨e1, m1⟩ := K.grow e (w' := (K.w e).alloc (.cells ((List.replicate n (0 : Int)).map fun z => Value.int .i64 z).toArray 2)) (by omega) (fun b hb' => heap_new_lt _ _ hb')
 generalize hR : (K.w e).heap.size = R at *
 generalize (K.w e).alloc (.cells ((List.replicate n (0 : Int)).map fun z => Value.int .i64 z).toArray 2) = w1 at *
 have hmR : K.mine e1 R := m1.new (by omega) (by omega)
 have ht1 : K.tgt e1 = (K.s e1, D 0 []) := by rw [m1.tgt, m1.s]; exact ht
 have hT1 : NumB (K.w e1) R (padL [] n) := by
  rw [m1.w]
  exact c1
 have hh := fun u => hlp R e1 u hmR hT1 ht1
 unfold LW at hh
 refine LW.to (l := fr :: l) m1 ?_
 unfold LW
 clear hi1 c1
 refine Walk.gz z31 ?_
 refine Walk.ctl rfl (fun w => stepG_loop) ?_
 refine slots_walk (F := fun u => G (hdRaw lb sv R n 0 u) (fr :: (l ++ K.bot e1))) hh ?_
 simp only [hdRaw]
 rfl
end
end
end Go.Proofs.Ytjenoiekfkhafaa
