/- Part 11. -/
import Derived.Test.YtgiiicdpbdfemaaC10
set_option linter.unusedSimpArgs false
section
namespace Go.Proofs.Ytgiiicdpbdfemaa
open Go.Conc Go.RowKit Go.Relay
open Go.ConcN (upd upd_ne upd_same)
variable {main : Bool}
structure RtIs (p : Nat) (cv : Value) (pc : Int) (t : Th) (e : Bool) (ta : Option Addr) (tc : Nat) (w : World) : Prop where
  blk : w.heap[p]? = some (.cells (rtArr cv pc t.regs (.slice ta t.told.length tc) e) 105)
  row : w.ownsRow 0 38 3 (.slice ta t.told.length tc) t.told.length (ansCells t.told)
  own : (Value.slice ta t.told.length tc).ownBlock ≠ some p
structure RtTo (p : Nat) (cv : Value) (pc : Int) (t' : Th) (e : Bool) (ta : Option Addr) (n tc : Nat) (w w' : World) : Prop where
  is : ∃ ta' tc', RtIs p cv pc t' e ta' tc' w' ∧ ∀ g, (Value.slice ta' t'.told.length tc').ownBlock = some g → (Value.slice ta n tc).ownBlock = some g ∨ w.heap.size ≤ g
  keep : Keep p (.slice ta n tc) w w'
section
variable {p : Nat} {cv : Value} {pc pc' : Int} {t t' : Th} {e e' : Bool} {ta : Option Addr} {n tc : Nat} {w w1 w' : World}
theorem RtIs.at (H : RtIs p cv pc t e ta tc w) (d : Nat) : RtIs p cv pc t e ta tc (w.at d) := ⟨H.blk, H.row, H.own⟩
theorem RtTo.at (H : RtTo p cv pc t' e ta n tc w w') (d : Nat) : RtTo p cv pc t' e ta n tc w (w'.at d) := by
  obtain ⟨ta', tc', h, hg⟩ := H.is
  exact ⟨⟨ta', tc', h.at d, hg⟩, H.keep.size, H.keep.same⟩
theorem RtIs.lt (H : RtIs p cv pc t e ta tc w) : p < w.heap.size := (Array.getElem?_eq_some_iff.1 H.blk).1
theorem RtTo.of (H : RtIs p cv pc t e ta tc w) (hs : w.heap.size ≤ w'.heap.size) (hsame : ∀ b, b < w.heap.size → b ≠ p → w'.heap[b]? = w.heap[b]?) (hb : w'.heap[p]? = some (.cells (rtArr cv pc' t'.regs (.slice ta t'.told.length tc) e') 105)) (ht : t'.told = t.told) : RtTo p cv pc' t' e' ta t.told.length tc w w' := by
  refine ⟨⟨ta, tc, ⟨hb, ?_, ?_⟩, fun g hg => .inl (by rw [← ht]; exact hg)⟩, hs, fun b hb' h1 _ => hsame b hb' h1⟩
  · rw [ht]
    exact row_same H.row fun g hg => hsame g (H.row.lt g hg).2 (fun e => H.own (by rw [hg, e]))
  · rw [ht]; exact H.own
theorem RtTo.trans {t1 : Th} {e1 : Bool} {pc1 : Int} {ta1 : Option Addr} {tc1 : Nat} (hk : Keep p (.slice ta n tc) w w1) (hg : ∀ g, (Value.slice ta1 t1.told.length tc1).ownBlock = some g → (Value.slice ta n tc).ownBlock = some g ∨ w.heap.size ≤ g) (H : RtTo p cv pc1 t' e1 ta1 t1.told.length tc1 w1 w') : RtTo p cv pc1 t' e1 ta n tc w w' := by
  obtain ⟨ta', tc', h, hg'⟩ := H.is
  have hs := hk.size
  refine ⟨⟨ta', tc', h, fun g hx => ?_⟩, Nat.le_trans hs H.keep.size, fun b hb h1 h2 => ?_⟩
  · rcases hg' g hx with h | h
    · exact hg g h
    · exact .inr (Nat.le_trans hs h)
  · refine (H.keep.same b (Nat.lt_of_lt_of_le hb hs) h1 fun e => ?_).trans (hk.same b hb h1 h2)
    rcases hg b e with h | h
    · exact h2 h
    · exact absurd hb (Nat.not_lt.2 h)
end
set_option maxHeartbeats 8000000 in
set_option maxRecDepth 100000 in
theorem own75_tell (p X kr : Nat) (hkr : kr < 4) (cv : Value) (pc : Int) (t : Th) (e : Bool) (ta : Option Addr) (tc : Nat) (a b : Int) (u : Nat → Value) (c : Frame) (cs : List Frame) (w : World) (H : RtIs p cv pc t e ta tc w) (x0 : w.cell? ⟨X, 0, none⟩ = some (.int .i64 6)) (hlen : t.told.length < 1099511627776) :
    Walk Try.prog main (DR (fun _ => none)) (fun g w' => g = G (c.finish (.tuple #[])) cs ∧ RtTo p cv pc { t with told := t.told ++ [t.regs kr] } e ta t.told.length tc w w') (G (at75 p X (kr : Nat) a b u) (c :: cs)) w := by
  have h3 : w.cell? ⟨p, 6, none⟩ = some (.slice ta t.told.length tc) := (cell_of H.blk 6).trans rfl
  have hr := (cell_of H.blk _).trans (rt_get cv pc t.regs (.slice ta t.told.length tc) e hkr)
  have hk4 : (kr : Int) < 4 := by omega
  have hia := fun (a : Addr) (w : World) (es : Array Event) => events_indexAt_array (P := Try.prog) (w := w) (es := es) 103 2 4 a .i64 (kr : Int) (by kernel_rfl) ⟨by omega, hk4⟩
  have hsz1 : (ansW w (t.regs kr)).heap.size = w.heap.size + 1 := by simp [ansW]
  have hO1 : Old w (ansW w (t.regs kr)) := old_alloc w _
  have hown' : (ansW w (t.regs kr)).ownsRow 0 38 3 (.slice ta t.told.length tc) t.told.length (ansCells t.told) := row_same H.row fun g hg => hO1.same g (H.row.lt g hg).2
  have hnews : ∀ (j : Nat) (u : Value), ([.bool true, .int .i64 (t.regs kr), .slice none 0 0] : List Value)[j]? = some u → (ansW w (t.regs kr)).cell? ((⟨w.heap.size, 0, none⟩ : Addr).add j) = some u := fun j u hu => by
    rw [add_none, Nat.zero_add]
    refine (cell_of (heap_alloc_new _ _) j).trans ?_
    simpa using hu
  unfold at75
  repeat (first | refine Walk.c rfl ?_ | refine Walk.cRet ?_ | refine Walk.cEnd ?_ | (refine Walk.cReg ?_; simp only [size75_0, size75_1, size75_2, size75_3, size75_4, size75_5, size75_6, size75_7, size75_8, size75_9, size75_10, size75_11, size75_12, size75_13, size75_14, size75_15, size75_16, size75_17, size75_18, size75_19, size75_20, size75_21, size75_22, List.range, List.range.loop]) | (refine Walk.oq ?_; try walk_nrm) | (refine Walk.un ?_; walk_nrm))
  refine Walk.drawnT (iA := 12) (iB := 13) (w1 := ansW w (t.regs kr)) (vA := .slice (some ⟨w.heap.size, 0, none⟩) 1 1) (Z := fun x => x.cell? ⟨p, 6, none⟩ = some (.slice ta t.told.length tc) ∧ x.cell? ⟨p, 2 + kr, none⟩ = some (.int .i64 (t.regs kr)))
    (fun v w2 => ∃ g cap, v = .slice (some ⟨g, 0, none⟩) (t.told.length + 1) cap ∧ App 0 w (t.regs kr) ta t.told.length tc (ansCells t.told) g cap w2) (by kernel_rfl) size75_18 (by kernel_rfl) (by kernel_rfl) (by kernel_rfl) (by kernel_rfl) (by decide) (ho_of (by conv => lhs; whnf) (by kernel_rfl)) (ho_of (by conv => lhs; whnf) (by kernel_rfl)) ⟨h3, hr⟩ ⟨old_cell hO1 h3, old_cell hO1 hr⟩ ?_ ?_
  · rintro v w2 ⟨g, cap, _, hA⟩
    have hb : w2.heap[p]? = w.heap[p]? := (hA.grown.block p (by have := H.lt; omega) (fun e => H.own e.symm)).trans (hO1.same p H.lt)
    exact ⟨(World.cell?_of_block (a := ⟨p, 6, none⟩) hb).trans h3, (World.cell?_of_block (a := ⟨p, 2 + kr, none⟩) hb).trans hr⟩
  rw [show List.filter (quietQ 12 13) (List.range 16) = [0, 1, 2, 3, 4, 5, 6, 7, 8, 9, 10, 11, 14, 15] from by decide]
  repeat (first | (refine Cm.opqZ (ho_of (by conv => lhs; whnf) (by kernel_rfl)) (by rfl) (fun wz hz dd e he => ?_) ?_; (· (obtain ⟨z1, z2⟩ := hz; simp [go_sem, *] at he; try (subst he; exact evR_read _ _))); apply Exists.intro; apply And.intro; (· (intro wz hz dd K hK; obtain ⟨z1, z2⟩ := hz; go_simp; exact hK))) | (refine Cm.unw (ho_of (by conv => lhs; whnf) (by kernel_rfl)) (by rfl) ?_; walk_nrm))
  refine Cm.done ⟨?_, ?_, ?_⟩
  · intro x hev rest hr'
    have e86 : x.eval (.tmp 86) = .agg #[.bool true, .int .i64 (t.regs kr), .slice none 0 0] := (hev (.tmp 86) (by simp [Op.operands])).trans rfl
    have e86' : x.tmps[86]?.getD undef = .agg #[.bool true, .int .i64 (t.regs kr), .slice none 0 0] := by
      rw [← Array.getD_eq_getD_getElem?]
      exact e86
    clear e86 hev
    (refine Walk.oa ?_; try walk_nrm)
    exact hr' _ _ ⟨rfl, _, rfl⟩
  · intro x hev rest hr'
    have e79 : x.eval (.tmp 79) = .slice ta t.told.length tc := (hev (.tmp 79) (by simp [Op.operands, Call.operands])).trans rfl
    have e87 : x.eval (.tmp 87) = .slice (some ⟨w.heap.size, 0, none⟩) 1 1 := (hev (.tmp 87) (by simp [Op.operands, Call.operands])).trans rfl
    have hi38 := Option.some_get (show (Try.prog.info? 38).isSome = true by kernel_rfl)
    refine Walk.append (.tmp 79) (.tmp 87) 36 (ho_of (by conv => lhs; whnf) (by kernel_rfl)) (by rfl) (by decide) rfl 0 38 _ (.agg #[.bool false, .int .i64 0, .slice none 0 0]) 3 40 (by kernel_rfl) hi38.symm (by rfl) (by rfl) (by rfl) (by rfl) (by decide) (.slice ta t.told.length tc) t.told.length (ansCells t.told) e79 hown' ⟨w.heap.size, 0, none⟩ 1 1 [.bool true, .int .i64 (t.regs kr), .slice none 0 0] e87 (by rfl) hnews (by simp [Value.oneCell']) (by decide) (by simp [maxLen]; omega) (by omega) (Nat.zero_le _) (fun g _ => apart0 g) (fun g cap w3 hown hg hat hlt => ?_)
    exact hr' _ _ ⟨_, w3, ⟨g, cap, rfl, hown, hg, hat, hlt⟩, rfl, w3.drawn, rfl⟩
  rintro v w2 ⟨g, cap, rfl, hA⟩ rest hr'
  have hb : w2.heap[p]? = w.heap[p]? := (hA.grown.block p (by have := H.lt; omega) (fun e => H.own e.symm)).trans (hO1.same p H.lt)
  have h6 : w2.cell? ⟨p, 6, none⟩ = some (.slice ta t.told.length tc) := (World.cell?_of_block (a := ⟨p, 6, none⟩) hb).trans h3
  have hz6 : w2.frozen? ⟨p, 6, none⟩ = false := frozen_of (hb.trans H.blk) 6
  have hf6 : Free (fun _ => none) ⟨p, 6, none⟩ := (apart0 p).1 _ rfl
  (refine Walk.os hf6 h6 ?_; try walk_nrm)
  refine hr' _ _ ?_
  have hT : RtTo p cv pc { t with told := t.told ++ [t.regs kr] } e ta t.told.length tc w (w2.setCell ⟨p, 6, none⟩ (.slice (some ⟨g, 0, none⟩) (t.told.length + 1) cap)) := by
    have hl : (t.told ++ [t.regs kr]).length = t.told.length + 1 := by simp
    have hgp : g ≠ p := fun e => by
      rcases hA.hat with h | h
      · exact H.own (by rw [h, e])
      · have := H.lt; omega
    have hgs := hA.grown.size
    refine ⟨⟨some ⟨g, 0, none⟩, cap, ⟨?_, ?_, ?_⟩, fun g' hg' => ?_⟩, by rw [size_set]; omega, fun b hb h1 h2 => ?_⟩
    · rw [heap_set_self _ _ (hb.trans H.blk)]
      simp [rtArr]
    · simp only [hl]
      rw [ansCells_snoc]
      exact row_same hA.own fun g' hg' => by
        simp only [Value.ownBlock, Option.some.injEq] at hg'
        exact heap_set_other _ _ _ _ (by rw [← hg']; exact hgp)
    · simp [Value.ownBlock, hgp]
    · simp only [Value.ownBlock, Option.some.injEq] at hg'
      subst hg'
      rcases hA.hat with h | h
      · exact .inl h
      · exact .inr (by omega)
    · rw [heap_set_other _ _ _ _ h1]
      exact (hA.grown.block b (by omega) (fun e => h2 e.symm)).trans (hO1.same b hb)
  generalize w2.setCell ⟨p, 6, none⟩ (.slice (some ⟨g, 0, none⟩) (t.told.length + 1) cap) = w3 at *
  walk_nrm
  repeat (first | refine Walk.c rfl ?_ | refine Walk.cRet ?_ | refine Walk.cEnd ?_ | (refine Walk.cReg ?_; simp only [size75_0, size75_1, size75_2, size75_3, size75_4, size75_5, size75_6, size75_7, size75_8, size75_9, size75_10, size75_11, size75_12, size75_13, size75_14, size75_15, size75_16, size75_17, size75_18, size75_19, size75_20, size75_21, size75_22, List.range, List.range.loop]) | (refine Walk.oq ?_; try walk_nrm) | (refine Walk.un ?_; walk_nrm))
  exact (Walk.ret0 (Post := fun v w' => v = .tuple #[] ∧ ∃ d, w' = w3.at d) rfl rfl Try.func75 rfl fun d => ⟨rfl, d, rfl⟩).mono fun g w' ⟨v, ⟨hv, d, hd⟩, hg⟩ => ⟨by rw [hg, hv], by rw [hd]; exact hT.at d⟩
end Go.Proofs.Ytgiiicdpbdfemaa
end

section
namespace Go.Proofs.Ytgiiicdpbdfemaa
open Go.Conc Go.RowKit Go.Relay
open Go.ConcN (upd upd_ne upd_same)
variable {main : Bool}
def AtOf (L : Nat) (pc at_ : Int) : Prop := at_ = pc ∨ (at_ = -1 ∧ ¬ (0 ≤ pc ∧ pc < L))
theorem own75_w (p k L cc : Nat) (ca : Option Addr) (t : Th) (e : Bool) (ta : Option Addr) (tc : Nat) (c : Cd) (w : World) (H : RtIs p (.slice ca L cc) (k : Nat) t e ta tc w) (hpc : t.pc = k) (hk : k < L) (hL : L ≤ 4398046511104) (hlen : t.told.length < 1099511627776) :
    CallW Try.prog main (fun _ => none) 75 #[.pointer (some ⟨p, 0, none⟩), .agg (cdArr c)] w (fun v w' => v = .tuple #[] ∧ ∃ at_, AtOf L (reckonX c t).pc at_ ∧ RtTo p (.slice ca L cc) at_ (reckonX c t) e ta t.told.length tc w w') := by
  intro fr cs
  refine (own75_in p k (.slice ca L cc) t.regs _ e c (fr :: cs) w H.blk (by omega)).then ?_
  rintro g w1 ⟨⟨u, rfl⟩, d, rfl⟩
  refine Walk.back ?_ d
  have hlt := H.lt
  have hO := old_alloc w (.cells (cdArr c) 96)
  have hX := heap_alloc_new w (.cells (cdArr c) 96)
  have hb1 : (w.alloc (.cells (cdArr c) 96)).heap[p]? = some (.cells (rtArr (.slice ca L cc) (k : Nat) t.regs (.slice ta t.told.length tc) e) 105) := (hO.same p hlt).trans H.blk
  generalize w.alloc (.cells (cdArr c) 96) = w1 at *
  have hXp : w.heap.size ≠ p := by omega
  have hb2 : (w1.setCell ⟨p, 1, none⟩ (.int .i64 ((k + 1 : Nat) : Int))).heap[p]? = some (.cells (rtArr (.slice ca L cc) ((k + 1 : Nat) : Int) t.regs (.slice ta t.told.length tc) e) 105) := by
    rw [heap_set_self _ _ hb1]
    simp [rtArr]
  have hX2 : (w1.setCell ⟨p, 1, none⟩ (.int .i64 ((k + 1 : Nat) : Int))).heap[w.heap.size]? = some (.cells (cdArr c) 96) := (heap_set_other _ _ _ _ hXp).trans hX
  have hsame : ∀ b, b < w.heap.size → b ≠ p → (w1.setCell ⟨p, 1, none⟩ (.int .i64 ((k + 1 : Nat) : Int))).heap[b]? = w.heap[b]? := fun b hb hne => (heap_set_other _ _ _ _ hne).trans (hO.same b hb)
  have hsz : w.heap.size ≤ (w1.setCell ⟨p, 1, none⟩ (.int .i64 ((k + 1 : Nat) : Int))).heap.size := by rw [size_set]; exact hO.size
  clear hX hb1 hO
  generalize w1.setCell ⟨p, 1, none⟩ (.int .i64 ((k + 1 : Nat) : Int)) = w2 at *
  generalize w.heap.size = X at hX2 hXp ⊢
  have x0 : w2.cell? ⟨X, 0, none⟩ = some (.int .i64 c.d) := (cell_of hX2 0).trans rfl
  have x4 : w2.cell? ⟨X, 4, none⟩ = some (.int .i64 c.v) := (cell_of hX2 4).trans rfl
  have hp1 : ((k + 1 : Nat) : Int) = t.pc + 1 := by rw [hpc]; simp
  have lr := regN_lt c.r
  have setr : ∀ (x : Int) (g : Goroutine) (w' : World), (g = G (fr.finish (.tuple #[])) cs ∧ ∃ d, w' = (w2.setCell ⟨p, 2 + regN c.r, none⟩ (.int .i64 x)).at d) → reckonX c t = { t with regs := upd t.regs (regN c.r) x, pc := t.pc + 1 } →
      ∃ v, (v = .tuple #[] ∧ ∃ at_, AtOf L (reckonX c t).pc at_ ∧ RtTo p (.slice ca L cc) at_ (reckonX c t) e ta t.told.length tc w w') ∧ g = G (fr.finish v) cs := by
    rintro x g w' ⟨hg, d, rfl⟩ hr
    refine ⟨_, ⟨rfl, ((k + 1 : Nat) : Int), .inl (by rw [hr]; exact hp1), ?_⟩, hg⟩
    rw [hr]
    refine (RtTo.of (t' := { t with regs := upd t.regs (regN c.r) x, pc := t.pc + 1 }) H (by rw [size_set]; exact hsz) (fun b hb hne => (heap_set_other _ _ _ _ hne).trans (hsame b hb hne)) ?_ rfl).at d
    rw [heap_set_self _ _ hb2]
    exact congrArg (fun a => some (Obj.cells a 105)) (rt_set _ _ _ _ _ lr x)
  have plain : ∀ (g : Goroutine) (w' : World), (g = G (fr.finish (.tuple #[])) cs ∧ ∃ d, w' = w2.at d) → reckonX c t = { t with pc := t.pc + 1 } →
      ∃ v, (v = .tuple #[] ∧ ∃ at_, AtOf L (reckonX c t).pc at_ ∧ RtTo p (.slice ca L cc) at_ (reckonX c t) e ta t.told.length tc w w') ∧ g = G (fr.finish v) cs := by
    rintro g w' ⟨hg, d, rfl⟩ hr
    refine ⟨_, ⟨rfl, ((k + 1 : Nat) : Int), .inl (by rw [hr]; exact hp1), ?_⟩, hg⟩
    rw [hr]
    exact (RtTo.of (t' := { t with pc := t.pc + 1 }) H hsz hsame hb2 rfl).at d
  have jump : ∀ (g : Goroutine) (w' : World), (g = G (fr.finish (.tuple #[])) cs ∧ ∃ d, w' = (if 0 ≤ c.v ∧ c.v < L then (w2.setCell ⟨p, 1, none⟩ (.int .i64 (-1))).setCell ⟨p, 1, none⟩ (.int .i64 c.v) else w2.setCell ⟨p, 1, none⟩ (.int .i64 (-1))).at d) → reckonX c t = { t with pc := c.v } →
      ∃ v, (v = .tuple #[] ∧ ∃ at_, AtOf L (reckonX c t).pc at_ ∧ RtTo p (.slice ca L cc) at_ (reckonX c t) e ta t.told.length tc w w') ∧ g = G (fr.finish v) cs := by
    rintro g w' ⟨hg, d, rfl⟩ hr
    have hb3 : (w2.setCell ⟨p, 1, none⟩ (.int .i64 (-1))).heap[p]? = some (.cells (rtArr (.slice ca L cc) (-1) t.regs (.slice ta t.told.length tc) e) 105) := by
      rw [heap_set_self _ _ hb2]
      simp [rtArr]
    have hs3 : ∀ b, b < w.heap.size → b ≠ p → (w2.setCell ⟨p, 1, none⟩ (.int .i64 (-1))).heap[b]? = w.heap[b]? := fun b hb hne => (heap_set_other _ _ _ _ hne).trans (hsame b hb hne)
    have hz3 : w.heap.size ≤ (w2.setCell ⟨p, 1, none⟩ (.int .i64 (-1))).heap.size := by rw [size_set]; exact hsz
    generalize w2.setCell ⟨p, 1, none⟩ (.int .i64 (-1)) = w3 at *
    rw [hr]
    by_cases hv : 0 ≤ c.v ∧ c.v < L
    · rw [if_pos hv]
      refine ⟨_, ⟨rfl, c.v, .inl rfl, ?_⟩, hg⟩
      refine (RtTo.of (t' := { t with pc := c.v }) H (by rw [size_set]; exact hz3) (fun b hb hne => (heap_set_other _ _ _ _ hne).trans (hs3 b hb hne)) ?_ rfl).at d
      rw [heap_set_self _ _ hb3]
      simp [rtArr]
    · rw [if_neg hv]
      exact ⟨_, ⟨rfl, -1, .inr ⟨rfl, hv⟩, (RtTo.of (t' := { t with pc := c.v }) H hz3 hs3 hb3 rfl).at d⟩, hg⟩
  obtain ⟨cd, cr, ca', cb, cvv⟩ := c
  simp only at *
  by_cases h1 : cd = 1
  · subst h1
    refine (own75_set p X (k + 1) _ t.regs _ e (regN cr) lr _ _ cvv u fr cs w2 hb2 x0 x4).mono fun g w' h => setr cvv g w' h ?_
    simp [reckonX]
  by_cases h2 : cd = 2
  · subst h2
    refine (own75_move p X (k + 1) _ t.regs _ e (regN cr) lr _ _ u fr cs w2 hb2 x0).mono fun g w' h => setr _ g w' h ?_
    simp [reckonX]
  by_cases h3 : cd = 3
  · subst h3
    refine (own75_sum p X (k + 1) _ t.regs _ e (regN cr) lr _ _ u fr cs w2 hb2 x0).mono fun g w' h => setr _ g w' h ?_
    simp [reckonX]
  by_cases h6 : cd = 6
  · subst h6
    have H2 : RtIs p (.slice ca L cc) ((k + 1 : Nat) : Int) t e ta tc w2 := ⟨hb2, row_same H.row fun g hg => hsame g (H.row.lt g hg).2 (fun e => H.own (by rw [hg, e])), H.own⟩
    refine (own75_tell p X (regN cr) lr _ _ t e ta tc _ _ u fr cs w2 H2 x0 hlen).mono fun g w' h => ?_
    obtain ⟨hg, hT⟩ := h
    refine ⟨_, ⟨rfl, ((k + 1 : Nat) : Int), .inl (by simp [reckonX, hpc]), ?_⟩, hg⟩
    have : reckonX ⟨6, cr, ca', cb, cvv⟩ t = { t with told := t.told ++ [t.regs (regN cr)], pc := t.pc + 1 } := by simp [reckonX]
    rw [this]
    have hT' : RtTo p (.slice ca L cc) ((k + 1 : Nat) : Int) { t with told := t.told ++ [t.regs (regN cr)], pc := t.pc + 1 } e ta t.told.length tc w2 w' := by
      obtain ⟨⟨ta', tc', ⟨b1, b2, b3⟩, b4⟩, b5⟩ := hT
      exact ⟨⟨ta', tc', ⟨b1, b2, b3⟩, b4⟩, b5⟩
    exact RtTo.trans ⟨hsz, fun b hb hne _ => hsame b hb hne⟩ (fun g hg => .inl hg) hT'
  by_cases hj : (cd = 4 ∧ t.regs (regN ca') = t.regs (regN cb)) ∨ (cd = 5 ∧ t.regs (regN ca') < t.regs (regN cb))
  · refine (own75_jump p X (k + 1) L cc ca t.regs _ e (regN cr) _ _ cd cvv u fr cs w2 hb2 x0 x4 hXp hj).mono fun g w' h => jump g w' h ?_
    rcases hj with ⟨rfl, hj⟩ | ⟨rfl, hj⟩
    · simp [reckonX, hj]
    · simp [reckonX, hj]
  · refine (own75_none p X (regN cr) _ _ cd u fr cs w2 x0 h1 h2 h3 h6 ?_).mono fun g w' h => plain g w' h ?_
    · by_cases h4 : cd = 4
      · exact .inl ⟨h4, fun h => hj (.inl ⟨h4, h⟩)⟩
      · by_cases h5 : cd = 5
        · exact .inr (.inl ⟨h5, fun h => hj (.inr ⟨h5, h⟩)⟩)
        · exact .inr (.inr ⟨h4, h5⟩)
    · simp only [not_or, not_and] at hj
      unfold reckonX
      simp only [h1, h2, h3, h6, if_false]
      by_cases h4 : cd = 4
      · simp [h4, hj.1 h4]
      · by_cases h5 : cd = 5
        · have := hj.2 h5
          simp [h5, this]
        · simp [h4, h5]
end Go.Proofs.Ytgiiicdpbdfemaa
end

section
namespace Go.Proofs.Ytgiiicdpbdfemaa
open Go.Conc Go.RowKit Go.Relay
open Go.ConcN (upd upd_ne upd_same)
variable {main : Bool}
noncomputable def reg46_0 : Array Oper := match Try.f46.body with | some (.seq (.region _ ops _) _) => ops | _ => #[]
theorem size46_0 : reg46_0.size = 1 := by kernel_rfl
noncomputable def reg46_2 : Array Oper := match Try.f46.body with | some (.seq _ (.block _ (.loop (.seq (.block _ (.seq (.seq (.region _ ops _) _) _)) _)))) => ops | _ => #[]
theorem size46_2 : reg46_2.size = 17 := by kernel_rfl
noncomputable def reg46_3 : Array Oper := match Try.f46.body with | some (.seq _ (.block _ (.loop (.seq (.block _ (.seq (.seq _ (.cond _ (.seq (.region _ ops _) _) _)) _)) _)))) => ops | _ => #[]
theorem size46_3 : reg46_3.size = 4 := by kernel_rfl
noncomputable def reg46_4 : Array Oper := match Try.f46.body with | some (.seq _ (.block _ (.loop (.seq (.block _ (.seq _ (.seq (.seq (.region _ ops _) _) _))) _)))) => ops | _ => #[]
theorem size46_4 : reg46_4.size = 3 := by kernel_rfl
noncomputable def reg46_5 : Array Oper := match Try.f46.body with | some (.seq _ (.block _ (.loop (.seq (.block _ (.seq _ (.seq _ (.seq (.seq (.region _ ops _) _) _)))) _)))) => ops | _ => #[]
theorem size46_5 : reg46_5.size = 2 := by kernel_rfl
noncomputable def reg46_6 : Array Oper := match Try.f46.body with | some (.seq _ (.block _ (.loop (.seq (.block _ (.seq _ (.seq _ (.seq (.seq _ (.cond _ (.seq (.region _ ops _) _) _)) _)))) _)))) => ops | _ => #[]
theorem size46_6 : reg46_6.size = 4 := by kernel_rfl
noncomputable def reg46_7 : Array Oper := match Try.f46.body with | some (.seq _ (.block _ (.loop (.seq (.block _ (.seq _ (.seq _ (.seq _ (.region _ ops _))))) _)))) => ops | _ => #[]
theorem size46_7 : reg46_7.size = 12 := by kernel_rfl
noncomputable def reg46_1 : Array Oper := match Try.f46.body with | some (.seq _ (.block _ (.loop (.seq _ (.region _ ops _))))) => ops | _ => #[]
theorem size46_1 : reg46_1.size = 3 := by kernel_rfl
theorem code46_is : Try.f46.body = some (.seq (.region 0 reg46_0 false) (.block 0 (.loop (.seq (.block 1 (.seq (.seq (.region 2 reg46_2 true) (.cond (.tmp 23 ) (.seq (.region 3 reg46_3 false) (.ret)) (.skip))) (.seq (.seq (.region 4 reg46_4 false) (.cond (.tmp 29 ) (.ret) (.skip))) (.seq (.seq (.region 5 reg46_5 false) (.cond (.tmp 31 ) (.seq (.region 6 reg46_6 false) (.ret)) (.skip))) (.region 7 reg46_7 true))))) (.region 1 reg46_1 false))))) := by kernel_rfl
noncomputable def hd46 (p nw n : Nat) (u : Nat → Value) : Frame :=
  (base 46).at { tmps := #[.pointer (some ⟨p, 0, none⟩), .int .i64 nw, u 2, u 3, .int .i64 n, u 5, u 6, u 7, u 8, u 9, u 10, u 11, u 12, u 13, u 14, u 15, u 16, u 17, u 18, u 19, u 20, u 21, u 22, u 23, u 24, u 25, u 26, u 27, u 28, u 29, u 30, u 31, u 32, u 33, u 34, u 35, u 36, u 37, u 38, u 39, u 40, u 41, u 42, u 43, u 44, u 45, u 46], defers := [] } [.code (.seq (.block 1 (.seq (.seq (.region 2 reg46_2 true) (.cond (.tmp 23 ) (.seq (.region 3 reg46_3 false) (.ret)) (.skip))) (.seq (.seq (.region 4 reg46_4 false) (.cond (.tmp 29 ) (.ret) (.skip))) (.seq (.seq (.region 5 reg46_5 false) (.cond (.tmp 31 ) (.seq (.region 6 reg46_6 false) (.ret)) (.skip))) (.region 7 reg46_7 true))))) (.region 1 reg46_1 false)), .inLoop (.seq (.block 1 (.seq (.seq (.region 2 reg46_2 true) (.cond (.tmp 23 ) (.seq (.region 3 reg46_3 false) (.ret)) (.skip))) (.seq (.seq (.region 4 reg46_4 false) (.cond (.tmp 29 ) (.ret) (.skip))) (.seq (.seq (.region 5 reg46_5 false) (.cond (.tmp 31 ) (.seq (.region 6 reg46_6 false) (.ret)) (.skip))) (.region 7 reg46_7 true))))) (.region 1 reg46_1 false)), .inBlock 0]
set_option maxHeartbeats 8000000 in
set_option maxRecDepth 100000 in
theorem go46_in (p nw : Nat) (cs : List Frame) (w : World) :
    Walk Try.prog main (DR (fun _ => none)) (fun g w' => (∃ u, g = G (hd46 p nw 0 u) cs) ∧ ∃ d, w' = w.at d) (G (Frame.enter Try.prog 46 #[.pointer (some ⟨p, 0, none⟩), .int .i64 nw] .normal) cs) w := by
  rw [enter_at _ Try.func46 code46_is]
  simp only [Try.ntmps46, List.size_toArray, List.length_cons, List.length_nil, Nat.reduceAdd, Nat.reduceSub, Array.replicate_succ, Array.replicate_zero, List.push_toArray, List.append_toArray, List.nil_append, List.cons_append]
  repeat (first | refine Walk.c rfl ?_ | refine Walk.cRet ?_ | refine Walk.cEnd ?_ | (refine Walk.cReg ?_; simp only [size46_0, size46_2, size46_3, size46_4, size46_5, size46_6, size46_7, size46_1, List.range, List.range.loop]) | (refine Walk.oq ?_; try walk_nrm) | (refine Walk.un ?_; walk_nrm))
  refine Walk.ctl rfl (fun w => stepG_loop) ?_
  refine .stop fun d => ⟨at_slots ?_, d, rfl⟩
  simp only [hd46]
  rfl
set_option maxHeartbeats 8000000 in
set_option maxRecDepth 100000 in
theorem go46_off (p nw n L cc : Nat) (ca : Option Addr) (at_ : Int) (R : Nat → Int) (tv : Value) (e : Bool) (u : Nat → Value) (c : Frame) (cs : List Frame) (w : World) (hp : w.heap[p]? = some (.cells (rtArr (.slice ca L cc) at_ R tv e) 105)) (hno : ¬ (0 ≤ at_ ∧ at_ < L)) :
    Walk Try.prog main (DR (fun _ => none)) (fun g w' => g = G (c.finish (.tuple #[])) cs ∧ ∃ d, w' = (w.setCell ⟨p, 7, none⟩ (.bool true)).at d) (G (hd46 p nw n u) (c :: cs)) w := by
  have h0 : w.cell? ⟨p, 0, none⟩ = some (.slice ca L cc) := (cell_of hp 0).trans rfl
  have h1 : w.cell? ⟨p, 1, none⟩ = some (.int .i64 at_) := (cell_of hp 1).trans rfl
  have hy : w.cell? ⟨p, 7, none⟩ = some (.bool e) := (cell_of hp 7).trans rfl
  have hz := frozen_of hp 7
  have hf : Free (fun _ => none) ⟨p, 7, none⟩ := (apart0 p).1 _ rfl
  unfold hd46
  by_cases k0 : at_ < 0
  · repeat (first | refine Walk.c rfl ?_ | refine Walk.cRet ?_ | refine Walk.cEnd ?_ | (refine Walk.cReg ?_; simp only [size46_0, size46_2, size46_3, size46_4, size46_5, size46_6, size46_7, size46_1, List.range, List.range.loop]) | (refine Walk.oq ?_; try walk_nrm) | (refine Walk.un ?_; walk_nrm))
    (refine Walk.drawnC (by kernel_rfl) size46_2 (by kernel_rfl) (by kernel_rfl) (by decide) ?_; simp only [List.range, List.range.loop]; repeat (first | (refine Cm.opqA (ho_of (by conv => lhs; whnf) (by kernel_rfl)) (by rfl) (fun dd e he => ?_) ?_; (· (simp [go_sem, *] at he; try (subst he; exact evR_read _ _))); apply Exists.intro; apply And.intro; (· (intro dd K hK; go_simp; exact hK))) | (refine Cm.unw (ho_of (by conv => lhs; whnf) (by kernel_rfl)) (by rfl) ?_; walk_nrm)))
    refine Cm.done ?_
    repeat (first | refine Walk.c rfl ?_ | refine Walk.cRet ?_ | refine Walk.cEnd ?_ | (refine Walk.cReg ?_; simp only [size46_0, size46_2, size46_3, size46_4, size46_5, size46_6, size46_7, size46_1, List.range, List.range.loop]) | (refine Walk.oq ?_; try walk_nrm) | (refine Walk.un ?_; walk_nrm))
    (refine Walk.os hf hy ?_; try walk_nrm)
    generalize w.setCell ⟨p, 7, none⟩ (.bool true) = w1 at *
    repeat (first | refine Walk.c rfl ?_ | refine Walk.cRet ?_ | refine Walk.cEnd ?_ | (refine Walk.cReg ?_; simp only [size46_0, size46_2, size46_3, size46_4, size46_5, size46_6, size46_7, size46_1, List.range, List.range.loop]) | (refine Walk.oq ?_; try walk_nrm) | (refine Walk.un ?_; walk_nrm))
    exact (Walk.ret0 (Post := fun v w' => v = .tuple #[] ∧ ∃ d, w' = w1.at d) rfl rfl Try.func46 rfl fun d => ⟨rfl, d, rfl⟩).mono fun g w' ⟨v, ⟨hv, hd⟩, hg⟩ => ⟨by rw [hg, hv], hd⟩
  · have k1 : (L : Int) ≤ at_ := by omega
    repeat (first | refine Walk.c rfl ?_ | refine Walk.cRet ?_ | refine Walk.cEnd ?_ | (refine Walk.cReg ?_; simp only [size46_0, size46_2, size46_3, size46_4, size46_5, size46_6, size46_7, size46_1, List.range, List.range.loop]) | (refine Walk.oq ?_; try walk_nrm) | (refine Walk.un ?_; walk_nrm))
    (refine Walk.drawnC (by kernel_rfl) size46_2 (by kernel_rfl) (by kernel_rfl) (by decide) ?_; simp only [List.range, List.range.loop]; repeat (first | (refine Cm.opqA (ho_of (by conv => lhs; whnf) (by kernel_rfl)) (by rfl) (fun dd e he => ?_) ?_; (· (simp [go_sem, *] at he; try (subst he; exact evR_read _ _))); apply Exists.intro; apply And.intro; (· (intro dd K hK; go_simp; exact hK))) | (refine Cm.unw (ho_of (by conv => lhs; whnf) (by kernel_rfl)) (by rfl) ?_; walk_nrm)))
    refine Cm.done ?_
    repeat (first | refine Walk.c rfl ?_ | refine Walk.cRet ?_ | refine Walk.cEnd ?_ | (refine Walk.cReg ?_; simp only [size46_0, size46_2, size46_3, size46_4, size46_5, size46_6, size46_7, size46_1, List.range, List.range.loop]) | (refine Walk.oq ?_; try walk_nrm) | (refine Walk.un ?_; walk_nrm))
    (refine Walk.os hf hy ?_; try walk_nrm)
    generalize w.setCell ⟨p, 7, none⟩ (.bool true) = w1 at *
    repeat (first | refine Walk.c rfl ?_ | refine Walk.cRet ?_ | refine Walk.cEnd ?_ | (refine Walk.cReg ?_; simp only [size46_0, size46_2, size46_3, size46_4, size46_5, size46_6, size46_7, size46_1, List.range, List.range.loop]) | (refine Walk.oq ?_; try walk_nrm) | (refine Walk.un ?_; walk_nrm))
    exact (Walk.ret0 (Post := fun v w' => v = .tuple #[] ∧ ∃ d, w' = w1.at d) rfl rfl Try.func46 rfl fun d => ⟨rfl, d, rfl⟩).mono fun g w' ⟨v, ⟨hv, hd⟩, hg⟩ => ⟨by rw [hg, hv], hd⟩
set_option maxHeartbeats 8000000 in
set_option maxRecDepth 100000 in
theorem go46_stop (p nw n cb co L cc k : Nat) (t : Th) (e : Bool) (ta : Option Addr) (tc : Nat) (cd : Cd) (u : Nat → Value) (c : Frame) (cs : List Frame) (w : World) (H : RtIs p (.slice (some ⟨cb, co, none⟩) L cc) (k : Nat) t e ta tc w) (hk : k < L) (hc : ∀ m v, (cdCells cd)[m]? = some v → w.cell? ⟨cb, co + k * 5 + m, none⟩ = some v) (hs : isStepX nw cd = true) :
    Walk Try.prog main (DR (fun _ => none)) (fun g w' => g = G (c.finish (.tuple #[])) cs ∧ ∃ d, w' = (w.alloc (.cells (cdArr cd) 96)).at d) (G (hd46 p nw n u) (c :: cs)) w := by
  have h0 : w.cell? ⟨p, 0, none⟩ = some (.slice (some ⟨cb, co, none⟩) L cc) := (cell_of H.blk 0).trans rfl
  have h1 : w.cell? ⟨p, 1, none⟩ = some (.int .i64 (k : Nat)) := (cell_of H.blk 1).trans rfl
  have hk0 : ¬ ((k : Int) < 0) := by omega
  have hk1 : ¬ ((L : Int) ≤ (k : Int)) := by omega
  have hO := old_alloc w (.cells (cdArr cd) 96)
  have hq := stands74_w (main := main) p cb co L cc k nw cd w h0 h1 hk hc
  have hb1 : (w.alloc (.cells (cdArr cd) 96)).heap[p]? = some (.cells (rtArr (.slice (some ⟨cb, co, none⟩) L cc) (k : Nat) t.regs (.slice ta t.told.length tc) e) 105) := (hO.same p H.lt).trans H.blk
  clear hb1 hO
  unfold hd46
  repeat (first | refine Walk.c rfl ?_ | refine Walk.cRet ?_ | refine Walk.cEnd ?_ | (refine Walk.cReg ?_; simp only [size46_0, size46_2, size46_3, size46_4, size46_5, size46_6, size46_7, size46_1, List.range, List.range.loop]) | (refine Walk.oq ?_; try walk_nrm) | (refine Walk.un ?_; walk_nrm))
  (refine Walk.drawnC (by kernel_rfl) size46_2 (by kernel_rfl) (by kernel_rfl) (by decide) ?_; simp only [List.range, List.range.loop]; repeat (first | (refine Cm.opqA (ho_of (by conv => lhs; whnf) (by kernel_rfl)) (by rfl) (fun dd e he => ?_) ?_; (· (simp [go_sem, *] at he; try (subst he; exact evR_read _ _))); apply Exists.intro; apply And.intro; (· (intro dd K hK; go_simp; exact hK))) | (refine Cm.unw (ho_of (by conv => lhs; whnf) (by kernel_rfl)) (by rfl) ?_; walk_nrm)))
  refine Cm.done ?_
  repeat (first | refine Walk.c rfl ?_ | refine Walk.cRet ?_ | refine Walk.cEnd ?_ | (refine Walk.cReg ?_; simp only [size46_0, size46_2, size46_3, size46_4, size46_5, size46_6, size46_7, size46_1, List.range, List.range.loop]) | (refine Walk.oq ?_; try walk_nrm) | (refine Walk.un ?_; walk_nrm))
  refine Walk.callV (x := .bool (isStepX nw cd)) (W := w.alloc (.cells (cdArr cd) 96)) ?_ (ho_of (by conv => lhs; whnf) (by kernel_rfl)) (by rfl) (by decide) rfl Try.func74 (by kernel_rfl) (by rfl) ?_
  · walk_nrm
    exact hq
  rw [hs]
  walk_nrm
  generalize w.alloc (.cells (cdArr cd) 96) = w1 at *
  repeat (first | refine Walk.c rfl ?_ | refine Walk.cRet ?_ | refine Walk.cEnd ?_ | (refine Walk.cReg ?_; simp only [size46_0, size46_2, size46_3, size46_4, size46_5, size46_6, size46_7, size46_1, List.range, List.range.loop]) | (refine Walk.oq ?_; try walk_nrm) | (refine Walk.un ?_; walk_nrm))
  exact (Walk.ret0 (Post := fun v w' => v = .tuple #[] ∧ ∃ d, w' = w1.at d) rfl rfl Try.func46 rfl fun d => ⟨rfl, d, rfl⟩).mono fun g w' ⟨v, ⟨hv, hd⟩, hg⟩ => ⟨by rw [hg, hv], hd⟩
set_option maxHeartbeats 8000000 in
set_option maxRecDepth 100000 in
theorem go46_most (p nw n cb co L cc k : Nat) (t : Th) (e : Bool) (ta : Option Addr) (tc : Nat) (cd : Cd) (u : Nat → Value) (c : Frame) (cs : List Frame) (w : World) (H : RtIs p (.slice (some ⟨cb, co, none⟩) L cc) (k : Nat) t e ta tc w) (hk : k < L) (hc : ∀ m v, (cdCells cd)[m]? = some v → w.cell? ⟨cb, co + k * 5 + m, none⟩ = some v) (hs : isStepX nw cd = false) (hn : n = 4096) :
    Walk Try.prog main (DR (fun _ => none)) (fun g w' => g = G (c.finish (.tuple #[])) cs ∧ ∃ d, w' = ((w.alloc (.cells (cdArr cd) 96)).setCell ⟨p, 7, none⟩ (.bool true)).at d) (G (hd46 p nw n u) (c :: cs)) w := by
  have h0 : w.cell? ⟨p, 0, none⟩ = some (.slice (some ⟨cb, co, none⟩) L cc) := (cell_of H.blk 0).trans rfl
  have h1 : w.cell? ⟨p, 1, none⟩ = some (.int .i64 (k : Nat)) := (cell_of H.blk 1).trans rfl
  have hk0 : ¬ ((k : Int) < 0) := by omega
  have hk1 : ¬ ((L : Int) ≤ (k : Int)) := by omega
  have hO := old_alloc w (.cells (cdArr cd) 96)
  have hq := stands74_w (main := main) p cb co L cc k nw cd w h0 h1 hk hc
  have hb1 : (w.alloc (.cells (cdArr cd) 96)).heap[p]? = some (.cells (rtArr (.slice (some ⟨cb, co, none⟩) L cc) (k : Nat) t.regs (.slice ta t.told.length tc) e) 105) := (hO.same p H.lt).trans H.blk
  have hn' : ((n : Int) == 4096) = true := by simp [hn]
  unfold hd46
  repeat (first | refine Walk.c rfl ?_ | refine Walk.cRet ?_ | refine Walk.cEnd ?_ | (refine Walk.cReg ?_; simp only [size46_0, size46_2, size46_3, size46_4, size46_5, size46_6, size46_7, size46_1, List.range, List.range.loop]) | (refine Walk.oq ?_; try walk_nrm) | (refine Walk.un ?_; walk_nrm))
  (refine Walk.drawnC (by kernel_rfl) size46_2 (by kernel_rfl) (by kernel_rfl) (by decide) ?_; simp only [List.range, List.range.loop]; repeat (first | (refine Cm.opqA (ho_of (by conv => lhs; whnf) (by kernel_rfl)) (by rfl) (fun dd e he => ?_) ?_; (· (simp [go_sem, *] at he; try (subst he; exact evR_read _ _))); apply Exists.intro; apply And.intro; (· (intro dd K hK; go_simp; exact hK))) | (refine Cm.unw (ho_of (by conv => lhs; whnf) (by kernel_rfl)) (by rfl) ?_; walk_nrm)))
  refine Cm.done ?_
  repeat (first | refine Walk.c rfl ?_ | refine Walk.cRet ?_ | refine Walk.cEnd ?_ | (refine Walk.cReg ?_; simp only [size46_0, size46_2, size46_3, size46_4, size46_5, size46_6, size46_7, size46_1, List.range, List.range.loop]) | (refine Walk.oq ?_; try walk_nrm) | (refine Walk.un ?_; walk_nrm))
  refine Walk.callV (x := .bool (isStepX nw cd)) (W := w.alloc (.cells (cdArr cd) 96)) ?_ (ho_of (by conv => lhs; whnf) (by kernel_rfl)) (by rfl) (by decide) rfl Try.func74 (by kernel_rfl) (by rfl) ?_
  · walk_nrm
    exact hq
  rw [hs]
  walk_nrm
  clear h0 h1 hq hO
  generalize w.alloc (.cells (cdArr cd) 96) = w1 at *
  have hy : w1.cell? ⟨p, 7, none⟩ = some (.bool e) := (cell_of hb1 7).trans rfl
  have hz := frozen_of hb1 7
  have hf : Free (fun _ => none) ⟨p, 7, none⟩ := (apart0 p).1 _ rfl
  repeat (first | refine Walk.c rfl ?_ | refine Walk.cRet ?_ | refine Walk.cEnd ?_ | (refine Walk.cReg ?_; simp only [size46_0, size46_2, size46_3, size46_4, size46_5, size46_6, size46_7, size46_1, List.range, List.range.loop]) | (refine Walk.oq ?_; try walk_nrm) | (refine Walk.un ?_; walk_nrm))
  (refine Walk.os hf hy ?_; try walk_nrm)
  generalize w1.setCell ⟨p, 7, none⟩ (.bool true) = w2 at *
  repeat (first | refine Walk.c rfl ?_ | refine Walk.cRet ?_ | refine Walk.cEnd ?_ | (refine Walk.cReg ?_; simp only [size46_0, size46_2, size46_3, size46_4, size46_5, size46_6, size46_7, size46_1, List.range, List.range.loop]) | (refine Walk.oq ?_; try walk_nrm) | (refine Walk.un ?_; walk_nrm))
  exact (Walk.ret0 (Post := fun v w' => v = .tuple #[] ∧ ∃ d, w' = w2.at d) rfl rfl Try.func46 rfl fun d => ⟨rfl, d, rfl⟩).mono fun g w' ⟨v, ⟨hv, hd⟩, hg⟩ => ⟨by rw [hg, hv], hd⟩
end Go.Proofs.Ytgiiicdpbdfemaa
end

section
namespace Go.Proofs.Ytgiiicdpbdfemaa
open Go.Conc Go.RowKit Go.Relay
open Go.ConcN (upd upd_ne upd_same)
variable {main : Bool}
set_option maxHeartbeats 8000000 in
set_option maxRecDepth 100000 in
theorem go46_next (p nw n cb co L cc k : Nat) (t : Th) (e : Bool) (ta : Option Addr) (tc : Nat) (cd : Cd) (u : Nat → Value) (c : Frame) (cs : List Frame) (w : World) (H : RtIs p (.slice (some ⟨cb, co, none⟩) L cc) (k : Nat) t e ta tc w) (hk : k < L) (hc : ∀ m v, (cdCells cd)[m]? = some v → w.cell? ⟨cb, co + k * 5 + m, none⟩ = some v) (hs : isStepX nw cd = false) (hn : n < 4096) (hpc : t.pc = k) (hL : L ≤ 4398046511104) (hlen : t.told.length < 1099511627776) :
    Walk Try.prog main (DR (fun _ => none)) (fun g w' => (∃ u', g = G (hd46 p nw (n + 1) u') (c :: cs)) ∧ ∃ at_, AtOf L (reckonX cd t).pc at_ ∧ RtTo p (.slice (some ⟨cb, co, none⟩) L cc) at_ (reckonX cd t) e ta t.told.length tc w w') (G (hd46 p nw n u) (c :: cs)) w := by
  have h0 : w.cell? ⟨p, 0, none⟩ = some (.slice (some ⟨cb, co, none⟩) L cc) := (cell_of H.blk 0).trans rfl
  have h1 : w.cell? ⟨p, 1, none⟩ = some (.int .i64 (k : Nat)) := (cell_of H.blk 1).trans rfl
  have hk0 : ¬ ((k : Int) < 0) := by omega
  have hk1 : ¬ ((L : Int) ≤ (k : Int)) := by omega
  have hO := old_alloc w (.cells (cdArr cd) 96)
  have hq := stands74_w (main := main) p cb co L cc k nw cd w h0 h1 hk hc
  have hb1 : (w.alloc (.cells (cdArr cd) 96)).heap[p]? = some (.cells (rtArr (.slice (some ⟨cb, co, none⟩) L cc) (k : Nat) t.regs (.slice ta t.told.length tc) e) 105) := (hO.same p H.lt).trans H.blk
  have hn' : ((n : Int) == 4096) = false := by
    cases e : ((n : Int) == 4096) with
    | false => rfl
    | true => have := eq_of_beq e; omega
  have hw1 : IntKind.wrap .i64 ((n : Int) + 1) = (n : Int) + 1 := by rw [IntKind.wrap_i64]; omega
  have hcn : ((n + 1 : Nat) : Int) = (n : Int) + 1 := by simp
  obtain ⟨t96, hu96⟩ : ∃ t96, Try.prog.underlying 96 = some (.struct t96) := by
    have h : (match Try.prog.underlying 96 with | some (.struct _) => true | _ => false) = true := by kernel_rfl
    cases e : Try.prog.underlying 96 with
    | none => rw [e] at h; cases h
    | some x => rw [e] at h; cases x <;> first | exact ⟨_, rfl⟩ | cases h
  conv => arg 5; unfold hd46
  repeat (first | refine Walk.c rfl ?_ | refine Walk.cRet ?_ | refine Walk.cEnd ?_ | (refine Walk.cReg ?_; simp only [size46_0, size46_2, size46_3, size46_4, size46_5, size46_6, size46_7, size46_1, List.range, List.range.loop]) | (refine Walk.oq ?_; try walk_nrm) | (refine Walk.un ?_; walk_nrm))
  (refine Walk.drawnC (by kernel_rfl) size46_2 (by kernel_rfl) (by kernel_rfl) (by decide) ?_; simp only [List.range, List.range.loop]; repeat (first | (refine Cm.opqA (ho_of (by conv => lhs; whnf) (by kernel_rfl)) (by rfl) (fun dd e he => ?_) ?_; (· (simp [go_sem, *] at he; try (subst he; exact evR_read _ _))); apply Exists.intro; apply And.intro; (· (intro dd K hK; go_simp; exact hK))) | (refine Cm.unw (ho_of (by conv => lhs; whnf) (by kernel_rfl)) (by rfl) ?_; walk_nrm)))
  refine Cm.done ?_
  repeat (first | refine Walk.c rfl ?_ | refine Walk.cRet ?_ | refine Walk.cEnd ?_ | (refine Walk.cReg ?_; simp only [size46_0, size46_2, size46_3, size46_4, size46_5, size46_6, size46_7, size46_1, List.range, List.range.loop]) | (refine Walk.oq ?_; try walk_nrm) | (refine Walk.un ?_; walk_nrm))
  refine Walk.callV (x := .bool (isStepX nw cd)) (W := w.alloc (.cells (cdArr cd) 96)) ?_ (ho_of (by conv => lhs; whnf) (by kernel_rfl)) (by rfl) (by decide) rfl Try.func74 (by kernel_rfl) (by rfl) ?_
  · walk_nrm
    exact hq
  rw [hs]
  walk_nrm
  have hH1 : RtIs p (.slice (some ⟨cb, co, none⟩) L cc) (k : Nat) t e ta tc (w.alloc (.cells (cdArr cd) 96)) := ⟨hb1, row_same H.row fun g hg => hO.same g (H.row.lt g hg).2, H.own⟩
  have hc1 : ∀ m v, (cdCells cd)[m]? = some v → (w.alloc (.cells (cdArr cd) 96)).cell? ⟨cb, co + k * 5 + m, none⟩ = some v := fun m v hv => old_cell hO (hc m v hv)
  have hK : Keep p (.slice ta t.told.length tc) w (w.alloc (.cells (cdArr cd) 96)) := ⟨hO.size, fun b hb _ _ => hO.same b hb⟩
  clear h0 h1 hq hO hc hb1
  generalize w.alloc (.cells (cdArr cd) 96) = w1 at *
  have h0 : w1.cell? ⟨p, 0, none⟩ = some (.slice (some ⟨cb, co, none⟩) L cc) := (cell_of hH1.blk 0).trans rfl
  have h1 : w1.cell? ⟨p, 1, none⟩ = some (.int .i64 (k : Nat)) := (cell_of hH1.blk 1).trans rfl
  repeat (first | refine Walk.c rfl ?_ | refine Walk.cRet ?_ | refine Walk.cEnd ?_ | (refine Walk.cReg ?_; simp only [size46_0, size46_2, size46_3, size46_4, size46_5, size46_6, size46_7, size46_1, List.range, List.range.loop]) | (refine Walk.oq ?_; try walk_nrm) | (refine Walk.un ?_; walk_nrm))
  (refine Walk.drawnL (by kernel_rfl) size46_7 (by kernel_rfl) (by kernel_rfl) (by kernel_rfl) (by decide) ?_; simp only [List.range, List.range.loop]; repeat (first | (refine Cm.opqA (ho_of (by conv => lhs; whnf) (by kernel_rfl)) (by rfl) (fun dd e he => ?_) ?_; (· (simp [go_sem, *] at he; try (subst he; exact evR_read _ _))); apply Exists.intro; apply And.intro; (· (intro dd K hK; go_simp; exact hK))) | (refine Cm.unw (ho_of (by conv => lhs; whnf) (by kernel_rfl)) (by rfl) ?_; walk_nrm)))
  refine Cm.loadS 96 (.tmp 44) (ho_of (by conv => lhs; whnf) (by kernel_rfl)) (by rfl) rfl cb (co + k * 5) (cdCells cd) _ rfl (fun x hx => hx ▸ hc1) hu96 rfl (by kernel_rfl) ?_
  walk_nrm
  refine Cm.done ?_
  intro rest hr
  have hown := own75_w (main := main) p k L cc (some ⟨cb, co, none⟩) t e ta tc cd w1 hH1 hpc hk hL hlen
  have ecd : (cdCells cd).toArray = cdArr cd := rfl
  rw [ecd]
  generalize hZ : Value.agg (cdArr cd) = zv at *
  refine Walk.callW (Post := fun v w' => v = .tuple #[] ∧ ∃ at_, AtOf L (reckonX cd t).pc at_ ∧ RtTo p (.slice (some ⟨cb, co, none⟩) L cc) at_ (reckonX cd t) e ta t.told.length tc w1 w') ?_ (ho_of (by conv => lhs; whnf) (by kernel_rfl)) (by rfl) (by decide) rfl Try.func75 (by kernel_rfl) (by rfl) ?_
  · walk_nrm
    exact hown
  rintro v w2 ⟨rfl, at_, hat, hT⟩
  refine hr _ _ ?_
  walk_nrm
  have hT' := RtTo.trans hK (fun g hg => .inl hg) hT
  clear hT h0 h1 hH1 hc1 hK H
  repeat (first | refine Walk.c rfl ?_ | refine Walk.cRet ?_ | refine Walk.cEnd ?_ | (refine Walk.cReg ?_; simp only [size46_0, size46_2, size46_3, size46_4, size46_5, size46_6, size46_7, size46_1, List.range, List.range.loop]) | (refine Walk.oq ?_; try walk_nrm) | (refine Walk.un ?_; walk_nrm))
  refine Walk.ctl rfl (fun w => stepG_inLoop) ?_
  refine .stop fun d => ⟨at_slots ?_, at_, hat, hT'.at d⟩
  simp only [hd46, hcn]
  rfl
end Go.Proofs.Ytgiiicdpbdfemaa
end

section
namespace Go.Proofs.Ytgiiicdpbdfemaa
open Go.Conc Go.RowKit Go.Relay
open Go.ConcN (upd upd_ne upd_same)
variable {main : Bool}
theorem codeAt_some {codes : List Cd} {pc : Int} {cd : Cd} (h : codeAt codes pc = some cd) : ∃ k : Nat, pc = k ∧ k < codes.length ∧ codes[k]? = some cd := by
  unfold codeAt at h
  split at h
  · cases h
  · exact ⟨pc.toNat, by omega, (List.getElem?_eq_some_iff.1 h).1, h⟩
theorem codeAt_none {codes : List Cd} {pc : Int} (h : codeAt codes pc = none) : ¬ (0 ≤ pc ∧ pc < codes.length) := by
  unfold codeAt at h
  split at h
  · omega
  · have := List.getElem?_eq_none_iff.1 h
    omega
theorem go46_run {ca : Option Addr} {codes : List Cd} (p nw cc : Nat) (c : Frame) (cs : List Frame) (hL : codes.length ≤ 4398046511104) : ∀ (r n : Nat) {t : Th} {ta : Option Addr} {tc : Nat} {at_ : Int} {u : Nat → Value} {w : World}, n + r = 4096 → RtIs p (.slice ca codes.length cc) at_ t false ta tc w → AtOf codes.length t.pc at_ → CodesIn ca codes w →
    (0 < codes.length → ∀ cb co, ca = some ⟨cb, co, none⟩ → cb < w.heap.size ∧ cb ≠ p ∧ (Value.slice ta t.told.length tc).ownBlock ≠ some cb) → t.told.length + r < 1099511627776 →
    Walk Try.prog main (DR (fun _ => none)) (fun g w' => g = G (c.finish (.tuple #[])) cs ∧ ∃ at', AtOf codes.length (ownX codes nw r t).2.pc at' ∧ RtTo p (.slice ca codes.length cc) at' (ownX codes nw r t).2 (ownX codes nw r t).1 ta t.told.length tc w w') (G (hd46 p nw n u) (c :: cs)) w := by
  intro r
  have off : ∀ (n : Nat) {t : Th} {ta : Option Addr} {tc : Nat} {at_ : Int} {u : Nat → Value} {w : World}, RtIs p (.slice ca codes.length cc) at_ t false ta tc w → AtOf codes.length t.pc at_ → codeAt codes t.pc = none →
      Walk Try.prog main (DR (fun _ => none)) (fun g w' => g = G (c.finish (.tuple #[])) cs ∧ ∃ at', AtOf codes.length t.pc at' ∧ RtTo p (.slice ca codes.length cc) at' t true ta t.told.length tc w w') (G (hd46 p nw n u) (c :: cs)) w := by
    intro n t ta tc at_ u w H hat hn
    have h0 := codeAt_none hn
    have h1 : ¬ (0 ≤ at_ ∧ at_ < codes.length) := by
      rcases hat with h | ⟨h, _⟩
      · rw [h]; exact h0
      · omega
    refine (go46_off p nw n codes.length cc ca at_ t.regs _ false u c cs w H.blk h1).mono ?_
    rintro g w' ⟨hg, d, rfl⟩
    refine ⟨hg, at_, hat, (RtTo.of (t' := t) H (by rw [size_set]; exact Nat.le_refl _) (fun b hb hne => heap_set_other _ _ _ _ hne) ?_ rfl).at d⟩
    rw [heap_set_self _ _ H.blk]
    simp [rtArr]
  have stand : ∀ (n : Nat) {t : Th} {ta : Option Addr} {tc : Nat} {at_ : Int} {u : Nat → Value} {w : World} {cd : Cd}, RtIs p (.slice ca codes.length cc) at_ t false ta tc w → AtOf codes.length t.pc at_ → CodesIn ca codes w → codeAt codes t.pc = some cd → isStepX nw cd = true →
      Walk Try.prog main (DR (fun _ => none)) (fun g w' => g = G (c.finish (.tuple #[])) cs ∧ ∃ at', AtOf codes.length t.pc at' ∧ RtTo p (.slice ca codes.length cc) at' t false ta t.told.length tc w w') (G (hd46 p nw n u) (c :: cs)) w := by
    intro n t ta tc at_ u w cd H hat hc hn hs
    obtain ⟨k, hk, hkl, hck⟩ := codeAt_some hn
    have hat' : at_ = k := by
      rcases hat with h | ⟨_, h⟩
      · rw [h, hk]
      · omega
    obtain ⟨cb, co, rfl, hcell⟩ := hc k cd hck
    subst hat'
    refine (go46_stop p nw n cb co codes.length cc k t false ta tc cd u c cs w H hkl hcell hs).mono ?_
    rintro g w' ⟨hg, d, rfl⟩
    have hO := old_alloc w (.cells (cdArr cd) 96)
    exact ⟨hg, k, hat, (RtTo.of (t' := t) H hO.size (fun b hb _ => hO.same b hb) ((hO.same p H.lt).trans H.blk) rfl).at d⟩
  induction r with
  | zero =>
    intro n t ta tc at_ u w hn H hat hc hcb hlen
    unfold ownX
    cases hcd : codeAt codes t.pc with
    | none => exact off n H hat hcd
    | some cd =>
      cases hs : isStepX nw cd with
      | true =>
        simp only [hs]
        exact stand n H hat hc hcd hs
      | false =>
        simp only [hs]
        obtain ⟨k, hk, hkl, hck⟩ := codeAt_some hcd
        have hat' : at_ = k := by
          rcases hat with h | ⟨_, h⟩
          · rw [h, hk]
          · omega
        obtain ⟨cb, co, rfl, hcell⟩ := hc k cd hck
        subst hat'
        refine (go46_most p nw n cb co codes.length cc k t false ta tc cd u c cs w H hkl hcell hs (by omega)).mono ?_
        rintro g w' ⟨hg, d, rfl⟩
        have hO := old_alloc w (.cells (cdArr cd) 96)
        have hb1 := (hO.same p H.lt).trans H.blk
        refine ⟨hg, k, hat, (RtTo.of (t' := t) H (by rw [size_set]; exact hO.size) (fun b hb hne => (heap_set_other _ _ _ _ hne).trans (hO.same b hb)) ?_ rfl).at d⟩
        rw [heap_set_self _ _ hb1]
        simp [rtArr]
  | succ r ih =>
    intro n t ta tc at_ u w hn H hat hc hcb hlen
    unfold ownX
    cases hcd : codeAt codes t.pc with
    | none => exact off n H hat hcd
    | some cd =>
      cases hs : isStepX nw cd with
      | true =>
        simp only [hs, if_true]
        exact stand n H hat hc hcd hs
      | false =>
        simp only [hs, Bool.false_eq_true, if_false]
        obtain ⟨k, hk, hkl, hck⟩ := codeAt_some hcd
        have hat' : at_ = k := by
          rcases hat with h | ⟨_, h⟩
          · rw [h, hk]
          · omega
        obtain ⟨cb, co, e, hcell⟩ := hc k cd hck
        obtain ⟨hb1, hb2, hb3⟩ := hcb (by omega) cb co e
        subst hat' e
        refine (go46_next p nw n cb co codes.length cc k t false ta tc cd u c cs w H hkl hcell hs (by omega) hk hL (by omega)).then ?_
        rintro g w1 ⟨⟨u1, rfl⟩, at1, hat1, hT⟩
        obtain ⟨ta1, tc1, H1, hg1⟩ := hT.is
        have hsame : ∀ cb' co', some (⟨cb, co, none⟩ : Addr) = some ⟨cb', co', none⟩ → cb' = cb := fun cb' co' e => by cases e; rfl
        have hwb : w1.heap[cb]? = w.heap[cb]? := hT.keep.same cb hb1 hb2 hb3
        have hc1 : CodesIn (some ⟨cb, co, none⟩) codes w1 := fun j c' hj => by
          obtain ⟨cb', co', e, hh⟩ := hc j c' hj
          cases e
          exact ⟨cb, co, rfl, fun m v hv => (World.cell?_of_block (a := ⟨cb, co + j * 5 + m, none⟩) hwb).trans (hh m v hv)⟩
        have hlen1 : (reckonX cd t).told.length ≤ t.told.length + 1 := by
          unfold reckonX
          repeat' split
          all_goals simp
        refine (ih (n + 1) (by omega) H1 hat1 hc1 ?_ (by omega)).mono ?_
        · intro _ cb' co' e
          cases e
          refine ⟨Nat.lt_of_lt_of_le hb1 hT.keep.size, hb2, fun e => ?_⟩
          rcases hg1 _ e with h | h
          · exact hb3 h
          · omega
        · rintro g w' ⟨hg, at', hat', hT'⟩
          exact ⟨hg, at', hat', RtTo.trans hT.keep hg1 hT'⟩
theorem go46_w {ca : Option Addr} {codes : List Cd} (p nw cc : Nat) (hL : codes.length ≤ 4398046511104) {t : Th} {ta : Option Addr} {tc : Nat} {at_ : Int} {w : World} (H : RtIs p (.slice ca codes.length cc) at_ t false ta tc w) (hat : AtOf codes.length t.pc at_) (hc : CodesIn ca codes w)
    (hcb : 0 < codes.length → ∀ cb co, ca = some ⟨cb, co, none⟩ → cb < w.heap.size ∧ cb ≠ p ∧ (Value.slice ta t.told.length tc).ownBlock ≠ some cb) (hlen : t.told.length + 4096 < 1099511627776) :
    CallW Try.prog main (fun _ => none) 46 #[.pointer (some ⟨p, 0, none⟩), .int .i64 nw] w (fun v w' => v = .tuple #[] ∧ ∃ at', AtOf codes.length (ownX codes nw 4096 t).2.pc at' ∧ RtTo p (.slice ca codes.length cc) at' (ownX codes nw 4096 t).2 (ownX codes nw 4096 t).1 ta t.told.length tc w w') := by
  intro fr cs
  refine (go46_in p nw (fr :: cs) w).then ?_
  rintro g w1 ⟨⟨u, rfl⟩, d, rfl⟩
  refine Walk.back ?_ d
  refine (go46_run p nw cc fr cs hL 4096 0 (by omega) H hat hc hcb hlen).mono ?_
  rintro g w' ⟨hg, h⟩
  exact ⟨_, ⟨rfl, h⟩, hg⟩
end Go.Proofs.Ytgiiicdpbdfemaa
end

section
namespace Go.Proofs.Ytgiiicdpbdfemaa
open Go.Conc Go.RowKit Go.Relay
open Go.ConcN (upd upd_ne upd_same)
variable {main : Bool}
noncomputable def reg49_0 : Array Oper := match Try.f49.body with | some (.seq (.region _ ops _) _) => ops | _ => #[]
theorem size49_0 : reg49_0.size = 12 := by kernel_rfl
noncomputable def reg49_1 : Array Oper := match Try.f49.body with | some (.seq _ (.seq (.region _ ops _) _)) => ops | _ => #[]
theorem size49_1 : reg49_1.size = 8 := by kernel_rfl
noncomputable def reg49_2 : Array Oper := match Try.f49.body with | some (.seq _ (.seq _ (.seq (.region _ ops _) _))) => ops | _ => #[]
theorem size49_2 : reg49_2.size = 4 := by kernel_rfl
noncomputable def reg49_3 : Array Oper := match Try.f49.body with | some (.seq _ (.seq _ (.seq _ (.seq (.seq (.region _ ops _) _) _)))) => ops | _ => #[]
theorem size49_3 : reg49_3.size = 2 := by kernel_rfl
noncomputable def reg49_4 : Array Oper := match Try.f49.body with | some (.seq _ (.seq _ (.seq _ (.seq (.seq _ (.block _ (.seq (.region _ ops _) _))) _)))) => ops | _ => #[]
theorem size49_4 : reg49_4.size = 2 := by kernel_rfl
noncomputable def reg49_5 : Array Oper := match Try.f49.body with | some (.seq _ (.seq _ (.seq _ (.seq (.seq _ (.block _ (.seq _ (.cond _ (.region _ ops _) _)))) _)))) => ops | _ => #[]
theorem size49_5 : reg49_5.size = 11 := by kernel_rfl
noncomputable def reg49_6 : Array Oper := match Try.f49.body with | some (.seq _ (.seq _ (.seq _ (.seq (.seq _ (.block _ (.seq _ (.cond _ _ (.seq (.region _ ops _) _))))) _)))) => ops | _ => #[]
theorem size49_6 : reg49_6.size = 2 := by kernel_rfl
noncomputable def reg49_7 : Array Oper := match Try.f49.body with | some (.seq _ (.seq _ (.seq _ (.seq (.seq _ (.block _ (.seq _ (.cond _ _ (.seq _ (.cond _ (.region _ ops _) _)))))) _)))) => ops | _ => #[]
theorem size49_7 : reg49_7.size = 11 := by kernel_rfl
noncomputable def reg49_8 : Array Oper := match Try.f49.body with | some (.seq _ (.seq _ (.seq _ (.seq (.seq _ (.block _ (.seq _ (.cond _ _ (.seq _ (.cond _ _ (.seq (.region _ ops _) _))))))) _)))) => ops | _ => #[]
theorem size49_8 : reg49_8.size = 2 := by kernel_rfl
noncomputable def reg49_9 : Array Oper := match Try.f49.body with | some (.seq _ (.seq _ (.seq _ (.seq (.seq _ (.block _ (.seq _ (.cond _ _ (.seq _ (.cond _ _ (.seq _ (.cond _ (.seq (.region _ ops _) _) _)))))))) _)))) => ops | _ => #[]
theorem size49_9 : reg49_9.size = 13 := by kernel_rfl
noncomputable def reg49_10 : Array Oper := match Try.f49.body with | some (.seq _ (.seq _ (.seq _ (.seq (.seq _ (.block _ (.seq _ (.cond _ _ (.seq _ (.cond _ _ (.seq _ (.cond _ (.seq _ (.region _ ops _)) _)))))))) _)))) => ops | _ => #[]
theorem size49_10 : reg49_10.size = 11 := by kernel_rfl
noncomputable def reg49_11 : Array Oper := match Try.f49.body with | some (.seq _ (.seq _ (.seq _ (.seq (.seq _ (.block _ (.seq _ (.cond _ _ (.seq _ (.cond _ _ (.seq _ (.cond _ _ (.seq (.region _ ops _) _))))))))) _)))) => ops | _ => #[]
theorem size49_11 : reg49_11.size = 2 := by kernel_rfl
noncomputable def reg49_12 : Array Oper := match Try.f49.body with | some (.seq _ (.seq _ (.seq _ (.seq (.seq _ (.block _ (.seq _ (.cond _ _ (.seq _ (.cond _ _ (.seq _ (.cond _ _ (.seq _ (.cond _ (.seq (.region _ ops _) _) _)))))))))) _)))) => ops | _ => #[]
theorem size49_12 : reg49_12.size = 6 := by kernel_rfl
noncomputable def reg49_13 : Array Oper := match Try.f49.body with | some (.seq _ (.seq _ (.seq _ (.seq (.seq _ (.block _ (.seq _ (.cond _ _ (.seq _ (.cond _ _ (.seq _ (.cond _ _ (.seq _ (.cond _ (.seq _ (.seq (.region _ ops _) _)) _)))))))))) _)))) => ops | _ => #[]
theorem size49_13 : reg49_13.size = 11 := by kernel_rfl
noncomputable def reg49_14 : Array Oper := match Try.f49.body with | some (.seq _ (.seq _ (.seq _ (.seq (.seq _ (.block _ (.seq _ (.cond _ _ (.seq _ (.cond _ _ (.seq _ (.cond _ _ (.seq _ (.cond _ (.seq _ (.seq _ (.region _ ops _))) _)))))))))) _)))) => ops | _ => #[]
theorem size49_14 : reg49_14.size = 7 := by kernel_rfl
noncomputable def reg49_15 : Array Oper := match Try.f49.body with | some (.seq _ (.seq _ (.seq _ (.seq (.seq _ (.block _ (.seq _ (.cond _ _ (.seq _ (.cond _ _ (.seq _ (.cond _ _ (.seq _ (.cond _ _ (.seq (.region _ ops _) _))))))))))) _)))) => ops | _ => #[]
theorem size49_15 : reg49_15.size = 2 := by kernel_rfl
noncomputable def reg49_16 : Array Oper := match Try.f49.body with | some (.seq _ (.seq _ (.seq _ (.seq (.seq _ (.block _ (.seq _ (.cond _ _ (.seq _ (.cond _ _ (.seq _ (.cond _ _ (.seq _ (.cond _ _ (.seq _ (.cond _ (.seq (.region _ ops _) _) _)))))))))))) _)))) => ops | _ => #[]
theorem size49_16 : reg49_16.size = 14 := by kernel_rfl
noncomputable def reg49_17 : Array Oper := match Try.f49.body with | some (.seq _ (.seq _ (.seq _ (.seq (.seq _ (.block _ (.seq _ (.cond _ _ (.seq _ (.cond _ _ (.seq _ (.cond _ _ (.seq _ (.cond _ _ (.seq _ (.cond _ (.seq _ (.cond _ (.seq (.region _ ops _) _) _)) _)))))))))))) _)))) => ops | _ => #[]
theorem size49_17 : reg49_17.size = 7 := by kernel_rfl
noncomputable def reg49_18 : Array Oper := match Try.f49.body with | some (.seq _ (.seq _ (.seq _ (.seq (.seq _ (.block _ (.seq _ (.cond _ _ (.seq _ (.cond _ _ (.seq _ (.cond _ _ (.seq _ (.cond _ _ (.seq _ (.cond _ (.seq _ (.cond _ (.seq _ (.region _ ops _)) _)) _)))))))))))) _)))) => ops | _ => #[]
theorem size49_18 : reg49_18.size = 6 := by kernel_rfl
noncomputable def reg49_19 : Array Oper := match Try.f49.body with | some (.seq _ (.seq _ (.seq _ (.seq (.seq _ (.block _ (.seq _ (.cond _ _ (.seq _ (.cond _ _ (.seq _ (.cond _ _ (.seq _ (.cond _ _ (.seq _ (.cond _ (.seq _ (.cond _ _ (.region _ ops _))) _)))))))))))) _)))) => ops | _ => #[]
theorem size49_19 : reg49_19.size = 6 := by kernel_rfl
noncomputable def reg49_20 : Array Oper := match Try.f49.body with | some (.seq _ (.seq _ (.seq _ (.seq _ (.region _ ops _))))) => ops | _ => #[]
theorem size49_20 : reg49_20.size = 4 := by kernel_rfl
theorem code49_is : Try.f49.body = some (.seq (.region 0 reg49_0 true) (.seq (.region 1 reg49_1 false) (.seq (.region 2 reg49_2 false) (.seq (.seq (.region 3 reg49_3 false) (.block 0 (.seq (.region 4 reg49_4 false) (.cond (.tmp 29 ) (.region 5 reg49_5 true) (.seq (.region 6 reg49_6 false) (.cond (.tmp 41 ) (.region 7 reg49_7 true) (.seq (.region 8 reg49_8 false) (.cond (.tmp 53 ) (.seq (.region 9 reg49_9 true) (.region 10 reg49_10 true)) (.seq (.region 11 reg49_11 false) (.cond (.tmp 77 ) (.seq (.region 12 reg49_12 false) (.seq (.region 13 reg49_13 true) (.region 14 reg49_14 false))) (.seq (.region 15 reg49_15 false) (.cond (.tmp 100 ) (.seq (.region 16 reg49_16 true) (.cond (.tmp 115 ) (.seq (.region 17 reg49_17 false) (.region 18 reg49_18 false)) (.region 19 reg49_19 false))) (.skip))))))))))))) (.region 20 reg49_20 false))))) := by kernel_rfl
noncomputable def at49 (p X : Nat) (ws : Value) (kr : Nat) (u : Nat → Value) : Frame :=
  (base 49).at { tmps := #[.pointer (some ⟨p, 0, none⟩), ws, u 2, u 3, .pointer (some ⟨X, 0, none⟩), .int .i64 kr, u 6, u 7, u 8, u 9, u 10, u 11, u 12, u 13, u 14, u 15, u 16, u 17, u 18, u 19, u 20, u 21, u 22, u 23, u 24, u 25, u 26, u 27, u 28, u 29, u 30, u 31, u 32, u 33, u 34, u 35, u 36, u 37, u 38, u 39, u 40, u 41, u 42, u 43, u 44, u 45, u 46, u 47, u 48, u 49, u 50, u 51, u 52, u 53, u 54, u 55, u 56, u 57, u 58, u 59, u 60, u 61, u 62, u 63, u 64, u 65, u 66, u 67, u 68, u 69, u 70, u 71, u 72, u 73, u 74, u 75, u 76, u 77, u 78, u 79, u 80, u 81, u 82, u 83, u 84, u 85, u 86, u 87, u 88, u 89, u 90, u 91, u 92, u 93, u 94, u 95, u 96, u 97, u 98, u 99, u 100, u 101, u 102, u 103, u 104, u 105, u 106, u 107, u 108, u 109, u 110, u 111, u 112, u 113, u 114, u 115, u 116, u 117, u 118, u 119, u 120, u 121, u 122, u 123, u 124, u 125, u 126, u 127, u 128, u 129, u 130, u 131, u 132, u 133, u 134, u 135], defers := [] } [.code (.seq (.seq (.region 3 reg49_3 false) (.block 0 (.seq (.region 4 reg49_4 false) (.cond (.tmp 29 ) (.region 5 reg49_5 true) (.seq (.region 6 reg49_6 false) (.cond (.tmp 41 ) (.region 7 reg49_7 true) (.seq (.region 8 reg49_8 false) (.cond (.tmp 53 ) (.seq (.region 9 reg49_9 true) (.region 10 reg49_10 true)) (.seq (.region 11 reg49_11 false) (.cond (.tmp 77 ) (.seq (.region 12 reg49_12 false) (.seq (.region 13 reg49_13 true) (.region 14 reg49_14 false))) (.seq (.region 15 reg49_15 false) (.cond (.tmp 100 ) (.seq (.region 16 reg49_16 true) (.cond (.tmp 115 ) (.seq (.region 17 reg49_17 false) (.region 18 reg49_18 false)) (.region 19 reg49_19 false))) (.skip))))))))))))) (.region 20 reg49_20 false))]
noncomputable def at49b (p : Nat) (ws : Value) (u : Nat → Value) : Frame :=
  (base 49).at { tmps := #[.pointer (some ⟨p, 0, none⟩), ws, u 2, u 3, u 4, u 5, u 6, u 7, u 8, u 9, u 10, u 11, u 12, u 13, u 14, u 15, u 16, u 17, u 18, u 19, u 20, u 21, u 22, u 23, u 24, u 25, u 26, u 27, u 28, u 29, u 30, u 31, u 32, u 33, u 34, u 35, u 36, u 37, u 38, u 39, u 40, u 41, u 42, u 43, u 44, u 45, u 46, u 47, u 48, u 49, u 50, u 51, u 52, u 53, u 54, u 55, u 56, u 57, u 58, u 59, u 60, u 61, u 62, u 63, u 64, u 65, u 66, u 67, u 68, u 69, u 70, u 71, u 72, u 73, u 74, u 75, u 76, u 77, u 78, u 79, u 80, u 81, u 82, u 83, u 84, u 85, u 86, u 87, u 88, u 89, u 90, u 91, u 92, u 93, u 94, u 95, u 96, u 97, u 98, u 99, u 100, u 101, u 102, u 103, u 104, u 105, u 106, u 107, u 108, u 109, u 110, u 111, u 112, u 113, u 114, u 115, u 116, u 117, u 118, u 119, u 120, u 121, u 122, u 123, u 124, u 125, u 126, u 127, u 128, u 129, u 130, u 131, u 132, u 133, u 134, u 135], defers := [] } [.code (.region 20 reg49_20 false)]
set_option maxHeartbeats 8000000 in
set_option maxRecDepth 100000 in
theorem step49_in (p cb co L cc k : Nat) (R : Nat → Int) (tv : Value) (e : Bool) (ws : Value) (c : Cd) (cs : List Frame) (w : World) (hp : w.heap[p]? = some (.cells (rtArr (.slice (some ⟨cb, co, none⟩) L cc) (k : Nat) R tv e) 105)) (hk : k < L) (hL : L ≤ 4398046511104)
    (hc : ∀ m v, (cdCells c)[m]? = some v → w.cell? ⟨cb, co + k * 5 + m, none⟩ = some v) :
    Walk Try.prog main (DR (fun _ => none)) (fun g w' => (∃ u, g = G (at49 p w.heap.size ws (regN c.r) u) cs) ∧ ∃ d, w' = ((w.alloc (.cells (cdArr c) 96)).setCell ⟨p, 1, none⟩ (.int .i64 ((k + 1 : Nat) : Int))).at d)
      (G (Frame.enter Try.prog 49 #[.pointer (some ⟨p, 0, none⟩), ws] .normal) cs) w := by
  have h0 : w.cell? ⟨p, 0, none⟩ = some (.slice (some ⟨cb, co, none⟩) L cc) := (cell_of hp 0).trans rfl
  have h1 : w.cell? ⟨p, 1, none⟩ = some (.int .i64 (k : Nat)) := (cell_of hp 1).trans rfl
  have h0' := cell_alloc w zeros5 h0
  have h1' := cell_alloc w zeros5 h1
  have hl := (Array.getElem?_eq_some_iff.1 hp).1
  have hw1 : IntKind.wrap .i64 ((k : Int) + 1) = (k : Int) + 1 := by rw [IntKind.wrap_i64]; omega
  have hck : ((k + 1 : Nat) : Int) = (k : Int) + 1 := by simp
  have hf : Free (fun _ => none) ⟨p, 1, none⟩ := (apart0 p).1 _ rfl
  have hc' : ∀ w', w' = w ∨ w' = w.alloc zeros5 → ∀ m v, (cdCells c)[m]? = some v → w'.cell? ⟨cb, co + k * 5 + m, none⟩ = some v := fun w' e m v hv => by
    rcases e with rfl | rfl
    · exact hc m v hv
    · exact cell_alloc w _ (hc m v hv)
  obtain ⟨t96, hu96⟩ : ∃ t96, Try.prog.underlying 96 = some (.struct t96) := by
    have h : (match Try.prog.underlying 96 with | some (.struct _) => true | _ => false) = true := by kernel_rfl
    cases e : Try.prog.underlying 96 with
    | none => rw [e] at h; cases h
    | some x => rw [e] at h; cases x <;> first | exact ⟨_, rfl⟩ | cases h
  rw [hck]
  rw [enter_at _ Try.func49 code49_is]
  simp only [Try.ntmps49, List.size_toArray, List.length_cons, List.length_nil, Nat.reduceAdd, Nat.reduceSub, Array.replicate_succ, Array.replicate_zero, List.push_toArray, List.append_toArray, List.nil_append, List.cons_append]
  repeat (first | refine Walk.c rfl ?_ | refine Walk.cRet ?_ | refine Walk.cEnd ?_ | (refine Walk.cReg ?_; simp only [size49_0, size49_1, size49_2, size49_3, size49_4, size49_5, size49_6, size49_7, size49_8, size49_9, size49_10, size49_11, size49_12, size49_13, size49_14, size49_15, size49_16, size49_17, size49_18, size49_19, size49_20, List.range, List.range.loop]) | (refine Walk.oq ?_; try walk_nrm) | (refine Walk.un ?_; walk_nrm))
  refine Walk.drawnB (w1 := w.alloc (zeros5)) (vm := .pointer (some ⟨w.heap.size, 0, none⟩)) (by kernel_rfl) size49_0 (by kernel_rfl) (by kernel_rfl) (by kernel_rfl) (by decide) (ho_of (by conv => lhs; whnf) (by kernel_rfl)) ?_ ?_
  · intro x rest hr
    (refine Walk.oa ?_; try walk_nrm)
    exact hr _ _ ⟨rfl, _, rfl⟩
  simp only [List.range, List.range.loop]
  repeat (first | (refine Cm.opqB (ho_of (by conv => lhs; whnf) (by kernel_rfl)) (by rfl) (fun dd e he => ?_) (fun dd e he => ?_) ?_; (· (simp [go_sem, *] at he; try (subst he; exact evR_read _ _))); (· (simp [go_sem, *] at he; try (subst he; exact evR_read _ _))); apply Exists.intro; apply And.intro; (· (intro dd K hK; go_simp; exact hK)); apply And.intro; (· (intro dd K hK; go_simp; exact hK))) | (refine Cm.unw (ho_of (by conv => lhs; whnf) (by kernel_rfl)) (by rfl) ?_; walk_nrm))
  refine Cm.loadS 96 (.tmp 15) (ho_of (by conv => lhs; whnf) (by kernel_rfl)) (by rfl) rfl cb (co + k * 5) (cdCells c) _ rfl hc' hu96 rfl (by kernel_rfl) ?_
  clear hc' hc h0 h1 h0' h1'
  walk_nrm
  refine Cm.done ?_
  intro rest hr
  refine Walk.storeS 96 (.tmp 4) (.tmp 16) (ho_of (by conv => lhs; whnf) (by kernel_rfl)) (by rfl) (by decide) rfl w.heap.size (cdArr c) #[.int .i64 0, .int .i64 0, .int .i64 0, .int .i64 0, .int .i64 0] 96 rfl rfl (heap_alloc_new _ _) (by kernel_rfl) rfl (by simp [cdArr, Value.oneCell']) (apart0 _) ?_
  refine hr _ _ ?_
  walk_nrm
  unfold zeros5
  rw [setRow_alloc]
  try walk_nrm
  have hp1 : (w.alloc (.cells (cdArr c) 96)).heap[p]? = some (.cells (rtArr (.slice (some ⟨cb, co, none⟩) L cc) (k : Nat) R tv e) 105) := (heap_new_lt w _ hl).trans hp
  have hX := heap_alloc_new w (.cells (cdArr c) 96)
  generalize w.alloc (.cells (cdArr c) 96) = w1 at *
  generalize w.heap.size = X at *
  have hXp : X ≠ p := by omega
  have h1 : w1.cell? ⟨p, 1, none⟩ = some (.int .i64 (k : Nat)) := (cell_of hp1 1).trans rfl
  have hz1 := frozen_of hp1 1
  repeat (first | refine Walk.c rfl ?_ | refine Walk.cRet ?_ | refine Walk.cEnd ?_ | (refine Walk.cReg ?_; simp only [size49_0, size49_1, size49_2, size49_3, size49_4, size49_5, size49_6, size49_7, size49_8, size49_9, size49_10, size49_11, size49_12, size49_13, size49_14, size49_15, size49_16, size49_17, size49_18, size49_19, size49_20, List.range, List.range.loop]) | (refine Walk.oq ?_; try walk_nrm) | (refine Walk.un ?_; walk_nrm))
  (refine Walk.os hf h1 ?_; try walk_nrm)
  have hX2 : (w1.setCell ⟨p, 1, none⟩ (.int .i64 ((k : Int) + 1))).heap[X]? = some (.cells (cdArr c) 96) := (heap_set_other _ _ _ _ hXp).trans hX
  clear h1 hz1 hp1 hX hp hl
  generalize w1.setCell ⟨p, 1, none⟩ (.int .i64 ((k : Int) + 1)) = w2 at *
  have x1 : w2.cell? ⟨X, 1, none⟩ = some (.int .i64 c.r) := (cell_of hX2 1).trans rfl
  have hq := reg76_k (main := main) c.r w2
  repeat (first | refine Walk.c rfl ?_ | refine Walk.cRet ?_ | refine Walk.cEnd ?_ | (refine Walk.cReg ?_; simp only [size49_0, size49_1, size49_2, size49_3, size49_4, size49_5, size49_6, size49_7, size49_8, size49_9, size49_10, size49_11, size49_12, size49_13, size49_14, size49_15, size49_16, size49_17, size49_18, size49_19, size49_20, List.range, List.range.loop]) | (refine Walk.oq ?_; try walk_nrm) | (refine Walk.un ?_; walk_nrm))
  refine Walk.callV (x := .int .i64 ((regN c.r : Nat) : Int)) (W := w2) ?_ (ho_of (by conv => lhs; whnf) (by kernel_rfl)) (by rfl) (by decide) rfl Try.func76 (by kernel_rfl) (by rfl) ?_
  · walk_nrm
    exact hq
  try walk_nrm
  repeat (first | (refine Walk.oq ?_; try walk_nrm) | (refine Walk.un ?_; walk_nrm))
  refine Walk.ctl rfl (fun w => stepG_region_end) ?_
  refine .stop fun d => ⟨at_slots ?_, d, rfl⟩
  simp only [at49]
  rfl
end Go.Proofs.Ytgiiicdpbdfemaa
end

section
namespace Go.Proofs.Ytgiiicdpbdfemaa
open Go.Conc Go.RowKit Go.Relay
open Go.ConcN (upd upd_ne upd_same)
variable {main : Bool}
set_option maxHeartbeats 8000000 in
set_option maxRecDepth 100000 in
theorem step49_load (p X sw nw cap A : Nat) (cv : Value) (pc : Int) (R : Nat → Int) (tv : Value) (e : Bool) (kr : Nat) (hkr : kr < 4) (x : Int) (u : Nat → Value) (cs : List Frame) (w : World) (hp : w.heap[p]? = some (.cells (rtArr cv pc R tv e) 105)) (x0 : w.cell? ⟨X, 0, none⟩ = some (.int .i64 7)) (x2 : w.cell? ⟨X, 2, none⟩ = some (.int .i64 (A : Nat))) (hA : A < nw) (hx : w.cell? ⟨sw, A, none⟩ = some (.int .i64 x)) :
    Walk Try.prog main (DR (fun _ => none)) (fun g w' => (∃ u', g = G (at49b p (.slice (some ⟨sw, 0, none⟩) nw cap) u') cs) ∧ ∃ d, w' = (w.setCell ⟨p, 2 + kr, none⟩ (.int .i64 x)).at d) (G (at49 p X (.slice (some ⟨sw, 0, none⟩) nw cap) kr u) cs) w := by
  have hy := (cell_of hp _).trans (rt_get cv pc R tv e hkr)
  have hz := frozen_of hp (2 + kr)
  have hf : Free (fun _ => none) ⟨p, 2 + kr, none⟩ := (apart0 p).1 _ rfl
  have hk4 : (kr : Int) < 4 := by omega
  have hia := fun (a : Addr) (w : World) (es : Array Event) => events_indexAt_array (P := Try.prog) (w := w) (es := es) 103 2 4 a .i64 (kr : Int) (by kernel_rfl) ⟨by omega, hk4⟩
  conv => arg 5; unfold at49
  repeat (first | refine Walk.c rfl ?_ | refine Walk.cRet ?_ | refine Walk.cEnd ?_ | (refine Walk.cReg ?_; simp only [size49_0, size49_1, size49_2, size49_3, size49_4, size49_5, size49_6, size49_7, size49_8, size49_9, size49_10, size49_11, size49_12, size49_13, size49_14, size49_15, size49_16, size49_17, size49_18, size49_19, size49_20, List.range, List.range.loop]) | (refine Walk.oq ?_; try walk_nrm) | (refine Walk.un ?_; walk_nrm))
  (refine Walk.drawnL (by kernel_rfl) size49_5 (by kernel_rfl) (by kernel_rfl) (by kernel_rfl) (by decide) ?_; simp only [List.range, List.range.loop]; repeat (first | (refine Cm.opqA (ho_of (by conv => lhs; whnf) (by kernel_rfl)) (by rfl) (fun dd e he => ?_) ?_; (· (simp [go_sem, *] at he; try (subst he; exact evR_read _ _))); apply Exists.intro; apply And.intro; (· (intro dd K hK; go_simp; exact hK))) | (refine Cm.unw (ho_of (by conv => lhs; whnf) (by kernel_rfl)) (by rfl) ?_; walk_nrm)))
  refine Cm.done ?_
  intro rest hr
  (refine Walk.os hf hy ?_; try walk_nrm)
  refine hr _ _ ?_
  generalize w.setCell ⟨p, 2 + kr, none⟩ (.int .i64 x) = w1 at *
  refine Walk.ctl rfl (fun w => stepG_region_end) ?_
  refine Walk.c rfl ?_
  refine .stop fun d => ⟨at_slots ?_, d, rfl⟩
  simp only [at49b]
  rfl
set_option maxHeartbeats 8000000 in
set_option maxRecDepth 100000 in
theorem step49_store (p X sw nw cap A : Nat) (cv : Value) (pc : Int) (R : Nat → Int) (tv : Value) (e : Bool) (kr : Nat) (hkr : kr < 4) (x : Int) (u : Nat → Value) (cs : List Frame) (w : World) (hp : w.heap[p]? = some (.cells (rtArr cv pc R tv e) 105)) (x0 : w.cell? ⟨X, 0, none⟩ = some (.int .i64 8)) (x2 : w.cell? ⟨X, 2, none⟩ = some (.int .i64 (A : Nat))) (hA : A < nw) (hx : w.cell? ⟨sw, A, none⟩ = some (.int .i64 x)) (hxz : w.frozen? ⟨sw, A, none⟩ = false) :
    Walk Try.prog main (DR (fun _ => none)) (fun g w' => (∃ u', g = G (at49b p (.slice (some ⟨sw, 0, none⟩) nw cap) u') cs) ∧ ∃ d, w' = (w.setCell ⟨sw, A, none⟩ (.int .i64 (R kr))).at d) (G (at49 p X (.slice (some ⟨sw, 0, none⟩) nw cap) kr u) cs) w := by
  have hy := (cell_of hp _).trans (rt_get cv pc R tv e hkr)
  have hz := frozen_of hp (2 + kr)
  have hf : Free (fun _ => none) ⟨p, 2 + kr, none⟩ := (apart0 p).1 _ rfl
  have hfs : Free (fun _ => none) ⟨sw, A, none⟩ := (apart0 sw).1 _ rfl
  have hk4 : (kr : Int) < 4 := by omega
  have hia := fun (a : Addr) (w : World) (es : Array Event) => events_indexAt_array (P := Try.prog) (w := w) (es := es) 103 2 4 a .i64 (kr : Int) (by kernel_rfl) ⟨by omega, hk4⟩
  conv => arg 5; unfold at49
  repeat (first | refine Walk.c rfl ?_ | refine Walk.cRet ?_ | refine Walk.cEnd ?_ | (refine Walk.cReg ?_; simp only [size49_0, size49_1, size49_2, size49_3, size49_4, size49_5, size49_6, size49_7, size49_8, size49_9, size49_10, size49_11, size49_12, size49_13, size49_14, size49_15, size49_16, size49_17, size49_18, size49_19, size49_20, List.range, List.range.loop]) | (refine Walk.oq ?_; try walk_nrm) | (refine Walk.un ?_; walk_nrm))
  (refine Walk.drawnL (by kernel_rfl) size49_7 (by kernel_rfl) (by kernel_rfl) (by kernel_rfl) (by decide) ?_; simp only [List.range, List.range.loop]; repeat (first | (refine Cm.opqA (ho_of (by conv => lhs; whnf) (by kernel_rfl)) (by rfl) (fun dd e he => ?_) ?_; (· (simp [go_sem, *] at he; try (subst he; exact evR_read _ _))); apply Exists.intro; apply And.intro; (· (intro dd K hK; go_simp; exact hK))) | (refine Cm.unw (ho_of (by conv => lhs; whnf) (by kernel_rfl)) (by rfl) ?_; walk_nrm)))
  refine Cm.done ?_
  intro rest hr
  (refine Walk.os hfs hx ?_; try walk_nrm)
  refine hr _ _ ?_
  generalize w.setCell ⟨sw, A, none⟩ (.int .i64 (R kr)) = w1 at *
  refine Walk.ctl rfl (fun w => stepG_region_end) ?_
  refine Walk.c rfl ?_
  refine .stop fun d => ⟨at_slots ?_, d, rfl⟩
  simp only [at49b]
  rfl
set_option maxHeartbeats 8000000 in
set_option maxRecDepth 100000 in
theorem step49_add (p X sw nw cap A : Nat) (cv : Value) (pc : Int) (R : Nat → Int) (tv : Value) (e : Bool) (kr : Nat) (hkr : kr < 4) (x : Int) (u : Nat → Value) (cs : List Frame) (w : World) (hp : w.heap[p]? = some (.cells (rtArr cv pc R tv e) 105)) (v : Int) (x0 : w.cell? ⟨X, 0, none⟩ = some (.int .i64 9)) (x4 : w.cell? ⟨X, 4, none⟩ = some (.int .i64 v)) (hXs : X ≠ sw) (x2 : w.cell? ⟨X, 2, none⟩ = some (.int .i64 (A : Nat))) (hA : A < nw) (hx : w.cell? ⟨sw, A, none⟩ = some (.int .i64 x)) (hxz : w.frozen? ⟨sw, A, none⟩ = false) (hne : sw ≠ p) :
    Walk Try.prog main (DR (fun _ => none)) (fun g w' => (∃ u', g = G (at49b p (.slice (some ⟨sw, 0, none⟩) nw cap) u') cs) ∧ ∃ d, w' = ((w.setCell ⟨sw, A, none⟩ (.int .i64 (IntKind.i64.wrap (x + v)))).setCell ⟨p, 2 + kr, none⟩ (.int .i64 (IntKind.i64.wrap (x + v)))).at d) (G (at49 p X (.slice (some ⟨sw, 0, none⟩) nw cap) kr u) cs) w := by
  have hy := (cell_of hp _).trans (rt_get cv pc R tv e hkr)
  have hz := frozen_of hp (2 + kr)
  have hf : Free (fun _ => none) ⟨p, 2 + kr, none⟩ := (apart0 p).1 _ rfl
  have hfs : Free (fun _ => none) ⟨sw, A, none⟩ := (apart0 sw).1 _ rfl
  have hk4 : (kr : Int) < 4 := by omega
  have hia := fun (a : Addr) (w : World) (es : Array Event) => events_indexAt_array (P := Try.prog) (w := w) (es := es) 103 2 4 a .i64 (kr : Int) (by kernel_rfl) ⟨by omega, hk4⟩
  conv => arg 5; unfold at49
  repeat (first | refine Walk.c rfl ?_ | refine Walk.cRet ?_ | refine Walk.cEnd ?_ | (refine Walk.cReg ?_; simp only [size49_0, size49_1, size49_2, size49_3, size49_4, size49_5, size49_6, size49_7, size49_8, size49_9, size49_10, size49_11, size49_12, size49_13, size49_14, size49_15, size49_16, size49_17, size49_18, size49_19, size49_20, List.range, List.range.loop]) | (refine Walk.oq ?_; try walk_nrm) | (refine Walk.un ?_; walk_nrm))
  (refine Walk.drawnL (by kernel_rfl) size49_9 (by kernel_rfl) (by kernel_rfl) (by kernel_rfl) (by decide) ?_; simp only [List.range, List.range.loop]; repeat (first | (refine Cm.opqA (ho_of (by conv => lhs; whnf) (by kernel_rfl)) (by rfl) (fun dd e he => ?_) ?_; (· (simp [go_sem, *] at he; try (subst he; exact evR_read _ _))); apply Exists.intro; apply And.intro; (· (intro dd K hK; go_simp; exact hK))) | (refine Cm.unw (ho_of (by conv => lhs; whnf) (by kernel_rfl)) (by rfl) ?_; walk_nrm)))
  refine Cm.done ?_
  intro rest hr
  (refine Walk.os hfs hx ?_; try walk_nrm)
  refine hr _ _ ?_
  have hp1 : (w.setCell ⟨sw, A, none⟩ (.int .i64 (IntKind.i64.wrap (x + v)))).heap[p]? = some (.cells (rtArr cv pc R tv e) 105) := (heap_set_other _ _ _ _ (Ne.symm hne)).trans hp
  have hx1 : (w.setCell ⟨sw, A, none⟩ (.int .i64 (IntKind.i64.wrap (x + v)))).cell? ⟨sw, A, none⟩ = some (.int .i64 (IntKind.i64.wrap (x + v))) := World.cell?_setCell_same w _ _ hx
  have x2' : (w.setCell ⟨sw, A, none⟩ (.int .i64 (IntKind.i64.wrap (x + v)))).cell? ⟨X, 2, none⟩ = some (.int .i64 (A : Nat)) := (World.cell?_of_block (a := ⟨X, 2, none⟩) (heap_set_other _ _ _ _ hXs)).trans x2
  clear hx hxz x0 x2 x4 hy hz hp
  generalize IntKind.i64.wrap (x + v) = y at *
  generalize w.setCell ⟨sw, A, none⟩ (.int .i64 y) = w1 at *
  have hy := (cell_of hp1 _).trans (rt_get cv pc R tv e hkr)
  have hz := frozen_of hp1 (2 + kr)
  repeat (first | refine Walk.c rfl ?_ | refine Walk.cRet ?_ | refine Walk.cEnd ?_ | (refine Walk.cReg ?_; simp only [size49_0, size49_1, size49_2, size49_3, size49_4, size49_5, size49_6, size49_7, size49_8, size49_9, size49_10, size49_11, size49_12, size49_13, size49_14, size49_15, size49_16, size49_17, size49_18, size49_19, size49_20, List.range, List.range.loop]) | (refine Walk.oq ?_; try walk_nrm) | (refine Walk.un ?_; walk_nrm))
  (refine Walk.drawnL (by kernel_rfl) size49_10 (by kernel_rfl) (by kernel_rfl) (by kernel_rfl) (by decide) ?_; simp only [List.range, List.range.loop]; repeat (first | (refine Cm.opqA (ho_of (by conv => lhs; whnf) (by kernel_rfl)) (by rfl) (fun dd e he => ?_) ?_; (· (simp [go_sem, *] at he; try (subst he; exact evR_read _ _))); apply Exists.intro; apply And.intro; (· (intro dd K hK; go_simp; exact hK))) | (refine Cm.unw (ho_of (by conv => lhs; whnf) (by kernel_rfl)) (by rfl) ?_; walk_nrm)))
  refine Cm.done ?_
  intro rest hr
  (refine Walk.os hf hy ?_; try walk_nrm)
  refine hr _ _ ?_
  generalize w1.setCell ⟨p, 2 + kr, none⟩ (.int .i64 y) = w2 at *
  refine Walk.ctl rfl (fun w => stepG_region_end) ?_
  refine Walk.c rfl ?_
  refine .stop fun d => ⟨at_slots ?_, d, rfl⟩
  simp only [at49b]
  rfl
set_option maxHeartbeats 8000000 in
set_option maxRecDepth 100000 in
theorem step49_swap (p X sw nw cap A : Nat) (cv : Value) (pc : Int) (R : Nat → Int) (tv : Value) (e : Bool) (kr : Nat) (hkr : kr < 4) (x : Int) (u : Nat → Value) (cs : List Frame) (w : World) (hp : w.heap[p]? = some (.cells (rtArr cv pc R tv e) 105)) (x0 : w.cell? ⟨X, 0, none⟩ = some (.int .i64 10)) (x2 : w.cell? ⟨X, 2, none⟩ = some (.int .i64 (A : Nat))) (hA : A < nw) (hx : w.cell? ⟨sw, A, none⟩ = some (.int .i64 x)) (hxz : w.frozen? ⟨sw, A, none⟩ = false) (hne : sw ≠ p) :
    Walk Try.prog main (DR (fun _ => none)) (fun g w' => (∃ u', g = G (at49b p (.slice (some ⟨sw, 0, none⟩) nw cap) u') cs) ∧ ∃ d, w' = ((w.setCell ⟨sw, A, none⟩ (.int .i64 (R kr))).setCell ⟨p, 2 + kr, none⟩ (.int .i64 x)).at d) (G (at49 p X (.slice (some ⟨sw, 0, none⟩) nw cap) kr u) cs) w := by
  have hy := (cell_of hp _).trans (rt_get cv pc R tv e hkr)
  have hz := frozen_of hp (2 + kr)
  have hf : Free (fun _ => none) ⟨p, 2 + kr, none⟩ := (apart0 p).1 _ rfl
  have hfs : Free (fun _ => none) ⟨sw, A, none⟩ := (apart0 sw).1 _ rfl
  have hk4 : (kr : Int) < 4 := by omega
  have hia := fun (a : Addr) (w : World) (es : Array Event) => events_indexAt_array (P := Try.prog) (w := w) (es := es) 103 2 4 a .i64 (kr : Int) (by kernel_rfl) ⟨by omega, hk4⟩
  conv => arg 5; unfold at49
  repeat (first | refine Walk.c rfl ?_ | refine Walk.cRet ?_ | refine Walk.cEnd ?_ | (refine Walk.cReg ?_; simp only [size49_0, size49_1, size49_2, size49_3, size49_4, size49_5, size49_6, size49_7, size49_8, size49_9, size49_10, size49_11, size49_12, size49_13, size49_14, size49_15, size49_16, size49_17, size49_18, size49_19, size49_20, List.range, List.range.loop]) | (refine Walk.oq ?_; try walk_nrm) | (refine Walk.un ?_; walk_nrm))
  (refine Walk.drawnL (by kernel_rfl) size49_13 (by kernel_rfl) (by kernel_rfl) (by kernel_rfl) (by decide) ?_; simp only [List.range, List.range.loop]; repeat (first | (refine Cm.opqA (ho_of (by conv => lhs; whnf) (by kernel_rfl)) (by rfl) (fun dd e he => ?_) ?_; (· (simp [go_sem, *] at he; try (subst he; exact evR_read _ _))); apply Exists.intro; apply And.intro; (· (intro dd K hK; go_simp; exact hK))) | (refine Cm.unw (ho_of (by conv => lhs; whnf) (by kernel_rfl)) (by rfl) ?_; walk_nrm)))
  refine Cm.done ?_
  intro rest hr
  (refine Walk.os hfs hx ?_; try walk_nrm)
  refine hr _ _ ?_
  have hp1 : (w.setCell ⟨sw, A, none⟩ (.int .i64 (R kr))).heap[p]? = some (.cells (rtArr cv pc R tv e) 105) := (heap_set_other _ _ _ _ (Ne.symm hne)).trans hp
  clear hx hxz x0 x2 hy hz hp
  generalize w.setCell ⟨sw, A, none⟩ (.int .i64 (R kr)) = w1 at *
  have hy := (cell_of hp1 _).trans (rt_get cv pc R tv e hkr)
  have hz := frozen_of hp1 (2 + kr)
  repeat (first | refine Walk.c rfl ?_ | refine Walk.cRet ?_ | refine Walk.cEnd ?_ | (refine Walk.cReg ?_; simp only [size49_0, size49_1, size49_2, size49_3, size49_4, size49_5, size49_6, size49_7, size49_8, size49_9, size49_10, size49_11, size49_12, size49_13, size49_14, size49_15, size49_16, size49_17, size49_18, size49_19, size49_20, List.range, List.range.loop]) | (refine Walk.oq ?_; try walk_nrm) | (refine Walk.un ?_; walk_nrm))
  (refine Walk.os hf hy ?_; try walk_nrm)
  generalize w1.setCell ⟨p, 2 + kr, none⟩ (.int .i64 x) = w2 at *
  refine Walk.ctl rfl (fun w => stepG_region_end) ?_
  refine Walk.c rfl ?_
  refine .stop fun d => ⟨at_slots ?_, d, rfl⟩
  simp only [at49b]
  rfl
set_option maxHeartbeats 8000000 in
set_option maxRecDepth 100000 in
theorem step49_same (p X sw nw cap A : Nat) (cv : Value) (pc : Int) (R : Nat → Int) (tv : Value) (e : Bool) (kr : Nat) (hkr : kr < 4) (x : Int) (u : Nat → Value) (cs : List Frame) (w : World) (hp : w.heap[p]? = some (.cells (rtArr cv pc R tv e) 105)) (v cb : Int) (x0 : w.cell? ⟨X, 0, none⟩ = some (.int .i64 11)) (x3 : w.cell? ⟨X, 3, none⟩ = some (.int .i64 cb)) (x4 : w.cell? ⟨X, 4, none⟩ = some (.int .i64 v)) (hc : x = R (regN cb)) (x2 : w.cell? ⟨X, 2, none⟩ = some (.int .i64 (A : Nat))) (hA : A < nw) (hx : w.cell? ⟨sw, A, none⟩ = some (.int .i64 x)) (hxz : w.frozen? ⟨sw, A, none⟩ = false) (hne : sw ≠ p) :
    Walk Try.prog main (DR (fun _ => none)) (fun g w' => (∃ u', g = G (at49b p (.slice (some ⟨sw, 0, none⟩) nw cap) u') cs) ∧ ∃ d, w' = ((w.setCell ⟨sw, A, none⟩ (.int .i64 v)).setCell ⟨p, 2 + kr, none⟩ (.int .i64 1)).at d) (G (at49 p X (.slice (some ⟨sw, 0, none⟩) nw cap) kr u) cs) w := by
  have hb := (cell_of hp _).trans (rt_get cv pc R tv e (regN_lt cb))
  have hq := reg76_k (main := main) cb w
  have lb := regN_lt cb
  generalize regN cb = kb at *
  have hb4 : (kb : Int) < 4 := by omega
  have hib := fun (a : Addr) (w : World) (es : Array Event) => events_indexAt_array (P := Try.prog) (w := w) (es := es) 103 2 4 a .i64 (kb : Int) (by kernel_rfl) ⟨by omega, hb4⟩
  have hc' : (x == R kb) = true := by simp [hc]
  have hy := (cell_of hp _).trans (rt_get cv pc R tv e hkr)
  have hz := frozen_of hp (2 + kr)
  have hf : Free (fun _ => none) ⟨p, 2 + kr, none⟩ := (apart0 p).1 _ rfl
  have hfs : Free (fun _ => none) ⟨sw, A, none⟩ := (apart0 sw).1 _ rfl
  have hk4 : (kr : Int) < 4 := by omega
  have hia := fun (a : Addr) (w : World) (es : Array Event) => events_indexAt_array (P := Try.prog) (w := w) (es := es) 103 2 4 a .i64 (kr : Int) (by kernel_rfl) ⟨by omega, hk4⟩
  conv => arg 5; unfold at49
  repeat (first | refine Walk.c rfl ?_ | refine Walk.cRet ?_ | refine Walk.cEnd ?_ | (refine Walk.cReg ?_; simp only [size49_0, size49_1, size49_2, size49_3, size49_4, size49_5, size49_6, size49_7, size49_8, size49_9, size49_10, size49_11, size49_12, size49_13, size49_14, size49_15, size49_16, size49_17, size49_18, size49_19, size49_20, List.range, List.range.loop]) | (refine Walk.oq ?_; try walk_nrm) | (refine Walk.un ?_; walk_nrm))
  (refine Walk.drawnC (by kernel_rfl) size49_16 (by kernel_rfl) (by kernel_rfl) (by decide) ?_; simp only [List.range, List.range.loop]; repeat (first | (refine Cm.opqA (ho_of (by conv => lhs; whnf) (by kernel_rfl)) (by rfl) (fun dd e he => ?_) ?_; (· (simp [go_sem, *] at he; try (subst he; exact evR_read _ _))); apply Exists.intro; apply And.intro; (· (intro dd K hK; go_simp; exact hK))) | (refine Cm.unw (ho_of (by conv => lhs; whnf) (by kernel_rfl)) (by rfl) ?_; walk_nrm)))
  refine Cm.callV (x := .int .i64 ((kb : Nat) : Int)) ?_ (ho_of (by conv => lhs; whnf) (by kernel_rfl)) (by rfl) rfl Try.func76 (by kernel_rfl) (by rfl) ?_
  · intro w' e
    subst e
    walk_nrm
    exact hq
  walk_nrm
  repeat (first | (refine Cm.opqA (ho_of (by conv => lhs; whnf) (by kernel_rfl)) (by rfl) (fun dd e he => ?_) ?_; (· (simp [go_sem, *] at he; try (subst he; exact evR_read _ _))); apply Exists.intro; apply And.intro; (· (intro dd K hK; go_simp; exact hK))) | (refine Cm.unw (ho_of (by conv => lhs; whnf) (by kernel_rfl)) (by rfl) ?_; walk_nrm))
  refine Cm.done ?_
  repeat (first | refine Walk.c rfl ?_ | refine Walk.cRet ?_ | refine Walk.cEnd ?_ | (refine Walk.cReg ?_; simp only [size49_0, size49_1, size49_2, size49_3, size49_4, size49_5, size49_6, size49_7, size49_8, size49_9, size49_10, size49_11, size49_12, size49_13, size49_14, size49_15, size49_16, size49_17, size49_18, size49_19, size49_20, List.range, List.range.loop]) | (refine Walk.oq ?_; try walk_nrm) | (refine Walk.un ?_; walk_nrm))
  (refine Walk.os hfs hx ?_; try walk_nrm)
  have hp1 : (w.setCell ⟨sw, A, none⟩ (.int .i64 v)).heap[p]? = some (.cells (rtArr cv pc R tv e) 105) := (heap_set_other _ _ _ _ (Ne.symm hne)).trans hp
  clear hx hxz x0 x2 x3 x4 hy hz hp hb hq
  generalize w.setCell ⟨sw, A, none⟩ (.int .i64 v) = w1 at *
  have hy := (cell_of hp1 _).trans (rt_get cv pc R tv e hkr)
  have hz := frozen_of hp1 (2 + kr)
  repeat (first | refine Walk.c rfl ?_ | refine Walk.cRet ?_ | refine Walk.cEnd ?_ | (refine Walk.cReg ?_; simp only [size49_0, size49_1, size49_2, size49_3, size49_4, size49_5, size49_6, size49_7, size49_8, size49_9, size49_10, size49_11, size49_12, size49_13, size49_14, size49_15, size49_16, size49_17, size49_18, size49_19, size49_20, List.range, List.range.loop]) | (refine Walk.oq ?_; try walk_nrm) | (refine Walk.un ?_; walk_nrm))
  (refine Walk.os hf hy ?_; try walk_nrm)
  generalize w1.setCell ⟨p, 2 + kr, none⟩ (.int .i64 1) = w2 at *
  refine Walk.ctl rfl (fun w => stepG_region_end) ?_
  refine Walk.c rfl ?_
  refine .stop fun d => ⟨at_slots ?_, d, rfl⟩
  simp only [at49b]
  rfl
set_option maxHeartbeats 8000000 in
set_option maxRecDepth 100000 in
theorem step49_other (p X sw nw cap A : Nat) (cv : Value) (pc : Int) (R : Nat → Int) (tv : Value) (e : Bool) (kr : Nat) (hkr : kr < 4) (x : Int) (u : Nat → Value) (cs : List Frame) (w : World) (hp : w.heap[p]? = some (.cells (rtArr cv pc R tv e) 105)) (cb : Int) (x0 : w.cell? ⟨X, 0, none⟩ = some (.int .i64 11)) (x3 : w.cell? ⟨X, 3, none⟩ = some (.int .i64 cb)) (hc : ¬ x = R (regN cb)) (x2 : w.cell? ⟨X, 2, none⟩ = some (.int .i64 (A : Nat))) (hA : A < nw) (hx : w.cell? ⟨sw, A, none⟩ = some (.int .i64 x)) :
    Walk Try.prog main (DR (fun _ => none)) (fun g w' => (∃ u', g = G (at49b p (.slice (some ⟨sw, 0, none⟩) nw cap) u') cs) ∧ ∃ d, w' = (w.setCell ⟨p, 2 + kr, none⟩ (.int .i64 0)).at d) (G (at49 p X (.slice (some ⟨sw, 0, none⟩) nw cap) kr u) cs) w := by
  have hb := (cell_of hp _).trans (rt_get cv pc R tv e (regN_lt cb))
  have hq := reg76_k (main := main) cb w
  have lb := regN_lt cb
  generalize regN cb = kb at *
  have hb4 : (kb : Int) < 4 := by omega
  have hib := fun (a : Addr) (w : World) (es : Array Event) => events_indexAt_array (P := Try.prog) (w := w) (es := es) 103 2 4 a .i64 (kb : Int) (by kernel_rfl) ⟨by omega, hb4⟩
  have hc' : (x == R kb) = false := by simpa using hc
  have hy := (cell_of hp _).trans (rt_get cv pc R tv e hkr)
  have hz := frozen_of hp (2 + kr)
  have hf : Free (fun _ => none) ⟨p, 2 + kr, none⟩ := (apart0 p).1 _ rfl
  have hk4 : (kr : Int) < 4 := by omega
  have hia := fun (a : Addr) (w : World) (es : Array Event) => events_indexAt_array (P := Try.prog) (w := w) (es := es) 103 2 4 a .i64 (kr : Int) (by kernel_rfl) ⟨by omega, hk4⟩
  conv => arg 5; unfold at49
  repeat (first | refine Walk.c rfl ?_ | refine Walk.cRet ?_ | refine Walk.cEnd ?_ | (refine Walk.cReg ?_; simp only [size49_0, size49_1, size49_2, size49_3, size49_4, size49_5, size49_6, size49_7, size49_8, size49_9, size49_10, size49_11, size49_12, size49_13, size49_14, size49_15, size49_16, size49_17, size49_18, size49_19, size49_20, List.range, List.range.loop]) | (refine Walk.oq ?_; try walk_nrm) | (refine Walk.un ?_; walk_nrm))
  (refine Walk.drawnC (by kernel_rfl) size49_16 (by kernel_rfl) (by kernel_rfl) (by decide) ?_; simp only [List.range, List.range.loop]; repeat (first | (refine Cm.opqA (ho_of (by conv => lhs; whnf) (by kernel_rfl)) (by rfl) (fun dd e he => ?_) ?_; (· (simp [go_sem, *] at he; try (subst he; exact evR_read _ _))); apply Exists.intro; apply And.intro; (· (intro dd K hK; go_simp; exact hK))) | (refine Cm.unw (ho_of (by conv => lhs; whnf) (by kernel_rfl)) (by rfl) ?_; walk_nrm)))
  refine Cm.callV (x := .int .i64 ((kb : Nat) : Int)) ?_ (ho_of (by conv => lhs; whnf) (by kernel_rfl)) (by rfl) rfl Try.func76 (by kernel_rfl) (by rfl) ?_
  · intro w' e
    subst e
    walk_nrm
    exact hq
  walk_nrm
  repeat (first | (refine Cm.opqA (ho_of (by conv => lhs; whnf) (by kernel_rfl)) (by rfl) (fun dd e he => ?_) ?_; (· (simp [go_sem, *] at he; try (subst he; exact evR_read _ _))); apply Exists.intro; apply And.intro; (· (intro dd K hK; go_simp; exact hK))) | (refine Cm.unw (ho_of (by conv => lhs; whnf) (by kernel_rfl)) (by rfl) ?_; walk_nrm))
  refine Cm.done ?_
  repeat (first | refine Walk.c rfl ?_ | refine Walk.cRet ?_ | refine Walk.cEnd ?_ | (refine Walk.cReg ?_; simp only [size49_0, size49_1, size49_2, size49_3, size49_4, size49_5, size49_6, size49_7, size49_8, size49_9, size49_10, size49_11, size49_12, size49_13, size49_14, size49_15, size49_16, size49_17, size49_18, size49_19, size49_20, List.range, List.range.loop]) | (refine Walk.oq ?_; try walk_nrm) | (refine Walk.un ?_; walk_nrm))
  (refine Walk.os hf hy ?_; try walk_nrm)
  generalize w.setCell ⟨p, 2 + kr, none⟩ (.int .i64 0) = w2 at *
  refine Walk.ctl rfl (fun w => stepG_region_end) ?_
  refine Walk.c rfl ?_
  refine .stop fun d => ⟨at_slots ?_, d, rfl⟩
  simp only [at49b]
  rfl
end Go.Proofs.Ytgiiicdpbdfemaa
end

section
namespace Go.Proofs.Ytgiiicdpbdfemaa
open Go.Conc Go.RowKit Go.Relay
open Go.ConcN (upd upd_ne upd_same)
variable {main : Bool}
def WsR (sw nw : Nat) (words : Nat → Int) (w : World) : Prop := ∃ arr, w.heap[sw]? = some (.cells arr 2 (0, 0)) ∧ ∀ j, j < nw → arr[j]? = some (.int .i64 (words j))
theorem WsR.cell {sw nw : Nat} {words : Nat → Int} {w : World} (H : WsR sw nw words w) {j : Nat} (hj : j < nw) : w.cell? ⟨sw, j, none⟩ = some (.int .i64 (words j)) := by
  obtain ⟨arr, h, h1⟩ := H
  exact (cell_of h j).trans (h1 j hj)
theorem WsR.frz {sw nw : Nat} {words : Nat → Int} {w : World} (H : WsR sw nw words w) (j : Nat) : w.frozen? ⟨sw, j, none⟩ = false := by
  obtain ⟨arr, h, _⟩ := H
  exact frozen_of h j
theorem WsR.same {sw nw : Nat} {words : Nat → Int} {w w' : World} (H : WsR sw nw words w) (h : w'.heap[sw]? = w.heap[sw]?) : WsR sw nw words w' := by
  obtain ⟨arr, h0, h1⟩ := H
  exact ⟨arr, h.trans h0, h1⟩
theorem WsR.set {sw nw : Nat} {words : Nat → Int} {w : World} (H : WsR sw nw words w) (A : Nat) (x : Int) : WsR sw nw (upd words A x) (w.setCell ⟨sw, A, none⟩ (.int .i64 x)) := by
  obtain ⟨arr, h0, h1⟩ := H
  refine ⟨_, heap_set_self _ _ h0, fun j hj => ?_⟩
  by_cases e : j = A
  · subst e
    have := h1 j hj
    have hl := (Array.getElem?_eq_some_iff.1 this).1
    rw [Array.getElem?_setIfInBounds_self_of_lt hl, upd_same]
  · rw [Array.getElem?_setIfInBounds_ne (Ne.symm e), upd_ne _ _ e]
    exact h1 j hj
structure Half (p sw nw : Nat) (cv : Value) (pc : Int) (tv : Value) (e : Bool) (R words : Nat → Int) (w w3 : World) : Prop where
  blk : w3.heap[p]? = some (.cells (rtArr cv pc R tv e) 105)
  ws : WsR sw nw words w3
  size : w.heap.size ≤ w3.heap.size
  same : ∀ b, b < w.heap.size → b ≠ p → b ≠ sw → w3.heap[b]? = w.heap[b]?
section
variable {p sw nw : Nat} {cv : Value} {pc : Int} {tv : Value} {e : Bool} {R words : Nat → Int} {w w3 : World}
theorem Half.at (H : Half p sw nw cv pc tv e R words w w3) (d : Nat) : Half p sw nw cv pc tv e R words w (w3.at d) := ⟨H.blk, H.ws, H.size, H.same⟩
theorem Half.reg (H : Half p sw nw cv pc tv e R words w w3) (hne : sw ≠ p) {k : Nat} (hk : k < 4) (x : Int) : Half p sw nw cv pc tv e (upd R k x) words w (w3.setCell ⟨p, 2 + k, none⟩ (.int .i64 x)) := by
  refine ⟨?_, H.ws.same (heap_set_other _ _ _ _ hne), by rw [size_set]; exact H.size, fun b hb h1 h2 => (heap_set_other _ _ _ _ h1).trans (H.same b hb h1 h2)⟩
  rw [heap_set_self _ _ H.blk]
  exact congrArg (fun a => some (Obj.cells a 105)) (rt_set _ _ _ _ _ hk x)
theorem Half.word (H : Half p sw nw cv pc tv e R words w w3) (hne : sw ≠ p) (A : Nat) (x : Int) : Half p sw nw cv pc tv e R (upd words A x) w (w3.setCell ⟨sw, A, none⟩ (.int .i64 x)) :=
  ⟨(heap_set_other _ _ _ _ (Ne.symm hne)).trans H.blk, H.ws.set A x, by rw [size_set]; exact H.size, fun b hb h1 h2 => (heap_set_other _ _ _ _ h2).trans (H.same b hb h1 h2)⟩
end
theorem step49_mid (p X sw nw cap : Nat) (cv : Value) (pc : Int) (t : Th) (tv : Value) (e : Bool) (words : Nat → Int) (cd : Cd) (u : Nat → Value) (cs : List Frame) (w0 w : World) (H : Half p sw nw cv pc tv e t.regs words w0 w) (hX : w.heap[X]? = some (.cells (cdArr cd) 96)) (hs : isStepX nw cd = true) (hne : sw ≠ p) (hXs : X ≠ sw) :
    Walk Try.prog main (DR (fun _ => none)) (fun g w' => (∃ u', g = G (at49b p (.slice (some ⟨sw, 0, none⟩) nw cap) u') cs) ∧ Half p sw nw cv pc tv e (reachX cd words t).2.regs (reachX cd words t).1 w0 w') (G (at49 p X (.slice (some ⟨sw, 0, none⟩) nw cap) (regN cd.r) u) cs) w := by
  obtain ⟨d, r, a, b, v⟩ := cd
  have x0 : w.cell? ⟨X, 0, none⟩ = some (.int .i64 d) := (cell_of hX 0).trans rfl
  have x2 : w.cell? ⟨X, 2, none⟩ = some (.int .i64 a) := (cell_of hX 2).trans rfl
  have x3 : w.cell? ⟨X, 3, none⟩ = some (.int .i64 b) := (cell_of hX 3).trans rfl
  have x4 : w.cell? ⟨X, 4, none⟩ = some (.int .i64 v) := (cell_of hX 4).trans rfl
  simp only [isStepX, Bool.and_eq_true, decide_eq_true_eq] at hs
  obtain ⟨⟨⟨d1, d2⟩, a1⟩, a2⟩ := hs
  obtain ⟨A, rfl⟩ : ∃ A : Nat, a = A := ⟨a.toNat, by omega⟩
  have hA : A < nw := by omega
  have hx := H.ws.cell hA
  have hz := H.ws.frz A
  have lr := regN_lt r
  simp only at *
  by_cases e7 : d = 7
  · subst e7
    refine (step49_load p X sw nw cap A cv pc t.regs tv e (regN r) lr _ u cs w H.blk x0 x2 hA hx).mono ?_
    rintro g w' ⟨hg, d, rfl⟩
    have : reachX ⟨7, r, (A : Nat), b, v⟩ words t = (words, { t with regs := upd t.regs (regN r) (words A) }) := by simp [reachX]
    rw [this]
    exact ⟨hg, (H.reg hne lr _).at d⟩
  by_cases e8 : d = 8
  · subst e8
    refine (step49_store p X sw nw cap A cv pc t.regs tv e (regN r) lr _ u cs w H.blk x0 x2 hA hx hz).mono ?_
    rintro g w' ⟨hg, d, rfl⟩
    have : reachX ⟨8, r, (A : Nat), b, v⟩ words t = (upd words A (t.regs (regN r)), t) := by simp [reachX]
    rw [this]
    exact ⟨hg, (H.word hne A _).at d⟩
  by_cases e9 : d = 9
  · subst e9
    refine (step49_add p X sw nw cap A cv pc t.regs tv e (regN r) lr _ u cs w H.blk v x0 x4 hXs x2 hA hx hz hne).mono ?_
    rintro g w' ⟨hg, d, rfl⟩
    have : reachX ⟨9, r, (A : Nat), b, v⟩ words t = (upd words A (IntKind.i64.wrap (words A + v)), { t with regs := upd t.regs (regN r) (IntKind.i64.wrap (words A + v)) }) := by simp [reachX]
    rw [this]
    exact ⟨hg, ((H.word hne A _).reg hne lr _).at d⟩
  by_cases e10 : d = 10
  · subst e10
    refine (step49_swap p X sw nw cap A cv pc t.regs tv e (regN r) lr _ u cs w H.blk x0 x2 hA hx hz hne).mono ?_
    rintro g w' ⟨hg, d, rfl⟩
    have : reachX ⟨10, r, (A : Nat), b, v⟩ words t = (upd words A (t.regs (regN r)), { t with regs := upd t.regs (regN r) (words A) }) := by simp [reachX]
    rw [this]
    exact ⟨hg, ((H.word hne A _).reg hne lr _).at d⟩
  have e11 : d = 11 := by omega
  subst e11
  by_cases hc : words A = t.regs (regN b)
  · refine (step49_same p X sw nw cap A cv pc t.regs tv e (regN r) lr _ u cs w H.blk v b x0 x3 x4 hc x2 hA hx hz hne).mono ?_
    rintro g w' ⟨hg, d, rfl⟩
    have : reachX ⟨11, r, (A : Nat), b, v⟩ words t = (upd words A v, { t with regs := upd (upd t.regs (regN r) 0) (regN r) 1 }) := by simp [reachX, hc]
    rw [this]
    have e : upd (upd t.regs (regN r) 0) (regN r) 1 = upd t.regs (regN r) 1 := funext fun j => by
      by_cases ej : j = regN r
      · subst ej; rw [upd_same, upd_same]
      · rw [upd_ne _ _ ej, upd_ne _ _ ej, upd_ne _ _ ej]
    simp only [e]
    exact ⟨hg, ((H.word hne A _).reg hne lr _).at d⟩
  · refine (step49_other p X sw nw cap A cv pc t.regs tv e (regN r) lr _ u cs w H.blk b x0 x3 hc x2 hA hx).mono ?_
    rintro g w' ⟨hg, d, rfl⟩
    have : reachX ⟨11, r, (A : Nat), b, v⟩ words t = (words, { t with regs := upd t.regs (regN r) 0 }) := by simp [reachX, hc]
    rw [this]
    exact ⟨hg, (H.reg hne lr _).at d⟩
set_option maxHeartbeats 8000000 in
set_option maxRecDepth 100000 in
theorem step49_out (p nw cap : Nat) (sa : Option Addr) (Q : Value → World → Prop) (u : Nat → Value) (c : Frame) (cs : List Frame) (w : World) (hgo : CallW Try.prog main (fun _ => none) 46 #[.pointer (some ⟨p, 0, none⟩), .int .i64 nw] w Q) :
    Walk Try.prog main (DR (fun _ => none)) (fun g w' => g = G (c.finish (.tuple #[])) cs ∧ ∃ v w1 d, Q v w1 ∧ w' = w1.at d) (G (at49b p (.slice sa nw cap) u) (c :: cs)) w := by
  unfold at49b
  repeat (first | refine Walk.c rfl ?_ | refine Walk.cRet ?_ | refine Walk.cEnd ?_ | (refine Walk.cReg ?_; simp only [size49_0, size49_1, size49_2, size49_3, size49_4, size49_5, size49_6, size49_7, size49_8, size49_9, size49_10, size49_11, size49_12, size49_13, size49_14, size49_15, size49_16, size49_17, size49_18, size49_19, size49_20, List.range, List.range.loop]) | (refine Walk.oq ?_; try walk_nrm) | (refine Walk.un ?_; walk_nrm))
  refine Walk.callW (Post := Q) ?_ (ho_of (by conv => lhs; whnf) (by kernel_rfl)) (by rfl) (by decide) rfl Try.func46 (by kernel_rfl) (by rfl) ?_
  · walk_nrm
    exact hgo
  intro v w1 hQ
  walk_nrm
  repeat (first | refine Walk.c rfl ?_ | refine Walk.cRet ?_ | refine Walk.cEnd ?_ | (refine Walk.cReg ?_; simp only [size49_0, size49_1, size49_2, size49_3, size49_4, size49_5, size49_6, size49_7, size49_8, size49_9, size49_10, size49_11, size49_12, size49_13, size49_14, size49_15, size49_16, size49_17, size49_18, size49_19, size49_20, List.range, List.range.loop]) | (refine Walk.oq ?_; try walk_nrm) | (refine Walk.un ?_; walk_nrm))
  exact (Walk.ret0 (Post := fun v w' => v = .tuple #[] ∧ ∃ d, w' = w1.at d) rfl rfl Try.func49 rfl fun d => ⟨rfl, d, rfl⟩).mono fun g w' ⟨v', ⟨hv, d, hd⟩, hg⟩ => ⟨by rw [hg, hv], v, w1, d, hQ, hd⟩
end Go.Proofs.Ytgiiicdpbdfemaa
end

section
namespace Go.Proofs.Ytgiiicdpbdfemaa
open Go.Conc Go.RowKit Go.Relay
open Go.ConcN (upd upd_ne upd_same)
variable {main : Bool}
theorem reachX_keeps (c : Cd) (words : Nat → Int) (t : Th) : (reachX c words t).2.told = t.told ∧ (reachX c words t).2.pc = t.pc := by
  unfold reachX
  repeat' split
  all_goals exact ⟨rfl, rfl⟩
structure Stepped (p sw nw cc : Nat) (ca : Option Addr) (codes : List Cd) (t1 : Th) (words1 : Nat → Int) (ta : Option Addr) (n tc : Nat) (w w' : World) : Prop where
  is : ∃ at' ta' tc', AtOf codes.length (ownX codes nw 4096 t1).2.pc at' ∧ RtIs p (.slice ca codes.length cc) at' (ownX codes nw 4096 t1).2 (ownX codes nw 4096 t1).1 ta' tc' w' ∧ ∀ g, (Value.slice ta' (ownX codes nw 4096 t1).2.told.length tc').ownBlock = some g → (Value.slice ta n tc).ownBlock = some g ∨ w.heap.size ≤ g
  ws : WsR sw nw words1 w'
  size : w.heap.size ≤ w'.heap.size
  same : ∀ b, b < w.heap.size → b ≠ p → b ≠ sw → (Value.slice ta n tc).ownBlock ≠ some b → w'.heap[b]? = w.heap[b]?
theorem Stepped.at {p sw nw cc : Nat} {ca : Option Addr} {codes : List Cd} {t1 : Th} {words1 : Nat → Int} {ta : Option Addr} {n tc : Nat} {w w' : World} (H : Stepped p sw nw cc ca codes t1 words1 ta n tc w w') (d : Nat) : Stepped p sw nw cc ca codes t1 words1 ta n tc w (w'.at d) := by
  obtain ⟨⟨at', ta', tc', h1, h2, h3⟩, h4, h5, h6⟩ := H
  exact ⟨⟨at', ta', tc', h1, h2.at d, h3⟩, h4, h5, h6⟩
theorem step49_w {ca : Option Addr} {codes : List Cd} (p sw nw cap cc k : Nat) (hL : codes.length ≤ 4398046511104) {t : Th} {ta : Option Addr} {tc : Nat} {words : Nat → Int} {cd : Cd} {w : World} (H : RtIs p (.slice ca codes.length cc) (k : Nat) t false ta tc w) (hpc : t.pc = k) (hk : codes[k]? = some cd) (hs : isStepX nw cd = true) (hc : CodesIn ca codes w) (hws : WsR sw nw words w) (hne : sw ≠ p) (hno : (Value.slice ta t.told.length tc).ownBlock ≠ some sw)
    (hcb : ∀ cb co, ca = some ⟨cb, co, none⟩ → cb < w.heap.size ∧ cb ≠ p ∧ cb ≠ sw ∧ (Value.slice ta t.told.length tc).ownBlock ≠ some cb) (hlen : t.told.length + 4096 < 1099511627776) :
    CallW Try.prog main (fun _ => none) 49 #[.pointer (some ⟨p, 0, none⟩), .slice (some ⟨sw, 0, none⟩) nw cap] w (fun v w' => v = .tuple #[] ∧ Stepped p sw nw cc ca codes { (reachX cd words t).2 with pc := t.pc + 1 } (reachX cd words t).1 ta t.told.length tc w w') := by
  intro fr cs
  have hkl : k < codes.length := (List.getElem?_eq_some_iff.1 hk).1
  obtain ⟨cb, co, e, hcell⟩ := hc k cd hk
  subst e
  obtain ⟨c1, c2, c3, c4⟩ := hcb cb co rfl
  refine (step49_in p cb co codes.length cc k t.regs _ false (.slice (some ⟨sw, 0, none⟩) nw cap) cd (fr :: cs) w H.blk hkl hL hcell).then ?_
  rintro g w1 ⟨⟨u, rfl⟩, d, rfl⟩
  refine Walk.back ?_ d
  have hlt := H.lt
  have hsl : sw < w.heap.size := by
    obtain ⟨arr, h, _⟩ := hws
    exact (Array.getElem?_eq_some_iff.1 h).1
  have hO := old_alloc w (.cells (cdArr cd) 96)
  have hX := heap_alloc_new w (.cells (cdArr cd) 96)
  have hb1 := (hO.same p hlt).trans H.blk
  have hHalf : Half p sw nw (.slice (some ⟨cb, co, none⟩) codes.length cc) ((k + 1 : Nat) : Int) (.slice ta t.told.length tc) false t.regs words w ((w.alloc (.cells (cdArr cd) 96)).setCell ⟨p, 1, none⟩ (.int .i64 ((k + 1 : Nat) : Int))) := by
    refine ⟨?_, (hws.same (hO.same sw hsl)).same (heap_set_other _ _ _ _ hne), by rw [size_set]; exact hO.size, fun b hb h1 _ => (heap_set_other _ _ _ _ h1).trans (hO.same b hb)⟩
    rw [heap_set_self _ _ hb1]
    simp [rtArr]
  have hX2 : ((w.alloc (.cells (cdArr cd) 96)).setCell ⟨p, 1, none⟩ (.int .i64 ((k + 1 : Nat) : Int))).heap[w.heap.size]? = some (.cells (cdArr cd) 96) := (heap_set_other _ _ _ _ (by show w.heap.size ≠ p; omega)).trans hX
  generalize (w.alloc (.cells (cdArr cd) 96)).setCell ⟨p, 1, none⟩ (.int .i64 ((k + 1 : Nat) : Int)) = w2 at *
  refine (step49_mid p w.heap.size sw nw cap _ _ t _ false words cd u (fr :: cs) w w2 hHalf hX2 hs hne (by omega)).then ?_
  rintro g w3 ⟨⟨u3, rfl⟩, hM⟩
  obtain ⟨htold, hpc'⟩ := reachX_keeps cd words t
  generalize hre : reachX cd words t = re at *
  obtain ⟨words1, t1⟩ := re
  simp only at *
  have hH3 : RtIs p (.slice (some ⟨cb, co, none⟩) codes.length cc) ((k + 1 : Nat) : Int) { t1 with pc := t.pc + 1 } false ta tc w3 := by
    refine ⟨?_, ?_, ?_⟩
    · have := hM.blk
      simp only [htold]
      exact this
    · simp only [htold]
      exact row_same H.row fun g hg => hM.same g (H.row.lt g hg).2 (fun e => H.own (by rw [hg, e])) (fun e => hno (by rw [hg, e]))
    · simp only [htold]
      exact H.own
  have hc3 : CodesIn (some ⟨cb, co, none⟩) codes w3 := fun j c' hj => by
    obtain ⟨cb', co', e, hh⟩ := hc j c' hj
    cases e
    exact ⟨cb, co, rfl, fun m v hv => (World.cell?_of_block (a := ⟨cb, co + j * 5 + m, none⟩) (hM.same cb c1 c2 c3)).trans (hh m v hv)⟩
  have hgo := go46_w (main := main) p nw cc hL hH3 (.inl (by simp [hpc])) hc3 (fun _ cb' co' e => by
    cases e
    refine ⟨Nat.lt_of_lt_of_le c1 hM.size, c2, ?_⟩
    simp only [htold]
    exact c4) (by simp only [htold]; exact hlen)
  refine (step49_out p nw cap (some ⟨sw, 0, none⟩) _ u3 fr cs w3 hgo).mono ?_
  rintro g w' ⟨hg, v, w4, d4, ⟨rfl, at', hat, hT⟩, rfl⟩
  refine ⟨_, ⟨rfl, ?_⟩, hg⟩
  have hT : RtTo p (.slice (some ⟨cb, co, none⟩) codes.length cc) at' (ownX codes nw 4096 { t1 with pc := t.pc + 1 }).2 (ownX codes nw 4096 { t1 with pc := t.pc + 1 }).1 ta t.told.length tc w3 w4 := by
    rw [← htold]
    exact hT
  obtain ⟨ta', tc', h1, h2⟩ := hT.is
  have hk4 := hT.keep
  have hsz := hM.size
  refine Stepped.at ⟨⟨at', ta', tc', hat, h1, fun g hg => ?_⟩, hM.ws.same (hk4.same sw (by omega) hne hno), Nat.le_trans hsz hk4.size, fun b hb e1 e2 e3 => (hk4.same b (by omega) e1 e3).trans (hM.same b hb e1 e2)⟩ d4
  rcases h2 g hg with h | h
  · exact .inl h
  · exact .inr (by omega)
end Go.Proofs.Ytgiiicdpbdfemaa
end

section
namespace Go.Proofs.Ytgiiicdpbdfemaa
open Go.Conc Go.RowKit Go.Relay
open Go.ConcN (upd upd_ne upd_same)
variable {main : Bool}
set_option maxHeartbeats 8000000 in
set_option maxRecDepth 100000 in
theorem pick48_skip (B lb lo L lc : Nat) (most : Int) (p rd : Nat) (ov : Value) (ea : Option Addr) (n ec : Nat) (f : Nat → Bool) (z : Int) (u : Nat → Value) (cs : List Frame) (w : World) (hB : w.heap[B]? = some (.cells (tuArr (.slice (some ⟨lb, lo, none⟩) L lc) most p rd ov) 112)) (hp : p < L) (hL : L ≤ 17592186044416) (hz : w.cell? ⟨lb, lo + p, none⟩ = some (.int .i64 z)) (ha : BoolsAt ea n f w) (hne : ∀ b o, ea = some ⟨b, o, none⟩ → b ≠ B)
    (hno : ¬ (0 ≤ z ∧ z < n ∧ f z.toNat = false)) :
    Walk Try.prog main (DR (fun _ => none)) (fun g w' => (∃ u', g = G (hd48 (.pointer (some ⟨B, 0, none⟩)) (.slice ea n ec) u') cs) ∧ ∃ d, w' = (w.setCell ⟨B, 2, none⟩ (.int .i64 ((p + 1 : Nat) : Int))).at d) (G (hd48 (.pointer (some ⟨B, 0, none⟩)) (.slice ea n ec) u) cs) w := by
  have h0 : w.cell? ⟨B, 0, none⟩ = some (.slice (some ⟨lb, lo, none⟩) L lc) := (cell_of hB 0).trans rfl
  have h2 : w.cell? ⟨B, 2, none⟩ = some (.int .i64 (p : Nat)) := (cell_of hB 2).trans rfl
  have hz2 := frozen_of hB 2
  have hf : Free (fun _ => none) ⟨B, 2, none⟩ := (apart0 B).1 _ rfl
  have hw1 : IntKind.wrap .i64 ((p : Int) + 1) = (p : Int) + 1 := by rw [IntKind.wrap_i64]; omega
  have hc : ((p + 1 : Nat) : Int) = (p : Int) + 1 := by simp
  rw [hc]
  conv => arg 5; unfold hd48
  repeat (first | refine Walk.c rfl ?_ | refine Walk.cRet ?_ | refine Walk.cEnd ?_ | (refine Walk.cReg ?_; simp only [size48_0, size48_1, size48_2, size48_3, size48_4, size48_5, size48_6, size48_7, size48_8, size48_9, size48_10, size48_11, size48_12, size48_13, size48_14, List.range, List.range.loop]) | (refine Walk.oq ?_; try walk_nrm) | (refine Walk.un ?_; walk_nrm))
  (refine Walk.drawnC (by kernel_rfl) size48_3 (by kernel_rfl) (by kernel_rfl) (by decide) ?_; simp only [List.range, List.range.loop]; repeat (first | (refine Cm.opqA (ho_of (by conv => lhs; whnf) (by kernel_rfl)) (by rfl) (fun dd e he => ?_) ?_; (· (simp [go_sem, *] at he; try (subst he; exact evR_read _ _))); apply Exists.intro; apply And.intro; (· (intro dd K hK; go_simp; exact hK))) | (refine Cm.unw (ho_of (by conv => lhs; whnf) (by kernel_rfl)) (by rfl) ?_; walk_nrm)))
  refine Cm.done ?_
  repeat (first | refine Walk.c rfl ?_ | refine Walk.cRet ?_ | refine Walk.cEnd ?_ | (refine Walk.cReg ?_; simp only [size48_0, size48_1, size48_2, size48_3, size48_4, size48_5, size48_6, size48_7, size48_8, size48_9, size48_10, size48_11, size48_12, size48_13, size48_14, List.range, List.range.loop]) | (refine Walk.oq ?_; try walk_nrm) | (refine Walk.un ?_; walk_nrm))
  (refine Walk.drawnC (by kernel_rfl) size48_4 (by kernel_rfl) (by kernel_rfl) (by decide) ?_; simp only [List.range, List.range.loop]; repeat (first | (refine Cm.opqA (ho_of (by conv => lhs; whnf) (by kernel_rfl)) (by rfl) (fun dd e he => ?_) ?_; (· (simp [go_sem, *] at he; try (subst he; exact evR_read _ _))); apply Exists.intro; apply And.intro; (· (intro dd K hK; go_simp; exact hK))) | (refine Cm.unw (ho_of (by conv => lhs; whnf) (by kernel_rfl)) (by rfl) ?_; walk_nrm)))
  refine Cm.done ?_
  repeat (first | refine Walk.c rfl ?_ | refine Walk.cRet ?_ | refine Walk.cEnd ?_ | (refine Walk.cReg ?_; simp only [size48_0, size48_1, size48_2, size48_3, size48_4, size48_5, size48_6, size48_7, size48_8, size48_9, size48_10, size48_11, size48_12, size48_13, size48_14, List.range, List.range.loop]) | (refine Walk.oq ?_; try walk_nrm) | (refine Walk.un ?_; walk_nrm))
  (refine Walk.os hf h2 ?_; try walk_nrm)
  have hk : ∀ i, i < n → 0 ≤ z → z = (i : Int) → ∃ b o, ea = some ⟨b, o, none⟩ ∧ (w.setCell ⟨B, 2, none⟩ (.int .i64 ((p : Int) + 1))).cell? ⟨b, o + i, none⟩ = some (.bool (f i)) := fun i hi _ _ => by
    obtain ⟨b, o, e, h⟩ := ha i hi
    refine ⟨b, o, e, ?_⟩
    exact (World.cell?_of_block (a := ⟨b, o + i, none⟩) (heap_set_other _ _ _ _ (hne b o e))).trans h
  clear h0 h2 hz2 hf hz ha hw1
  generalize w.setCell ⟨B, 2, none⟩ (.int .i64 ((p : Int) + 1)) = w1 at *
  by_cases hz0 : 0 ≤ z
  · by_cases hzn : z < n
    · obtain ⟨m, rfl⟩ : ∃ m : Nat, z = m := ⟨z.toNat, by omega⟩
      have hm : m < n := by omega
      have hfm : f m = true := by
        cases e : f m with
        | true => rfl
        | false => exact absurd ⟨hz0, hzn, by simpa using e⟩ hno
      obtain ⟨b, o, rfl, hx⟩ := hk m hm hz0 rfl
      rw [hfm] at hx
      repeat (first | refine Walk.c rfl ?_ | refine Walk.cRet ?_ | refine Walk.cEnd ?_ | (refine Walk.cReg ?_; simp only [size48_0, size48_1, size48_2, size48_3, size48_4, size48_5, size48_6, size48_7, size48_8, size48_9, size48_10, size48_11, size48_12, size48_13, size48_14, List.range, List.range.loop]) | (refine Walk.oq ?_; try walk_nrm) | (refine Walk.un ?_; walk_nrm))
      refine Walk.ctl rfl (fun w => stepG_inLoop) ?_
      refine .stop fun d' => ⟨at_slots ?_, d', rfl⟩
      simp only [hd48]
      rfl
    · repeat (first | refine Walk.c rfl ?_ | refine Walk.cRet ?_ | refine Walk.cEnd ?_ | (refine Walk.cReg ?_; simp only [size48_0, size48_1, size48_2, size48_3, size48_4, size48_5, size48_6, size48_7, size48_8, size48_9, size48_10, size48_11, size48_12, size48_13, size48_14, List.range, List.range.loop]) | (refine Walk.oq ?_; try walk_nrm) | (refine Walk.un ?_; walk_nrm))
      refine Walk.ctl rfl (fun w => stepG_inLoop) ?_
      refine .stop fun d' => ⟨at_slots ?_, d', rfl⟩
      simp only [hd48]
      rfl
  · repeat (first | refine Walk.c rfl ?_ | refine Walk.cRet ?_ | refine Walk.cEnd ?_ | (refine Walk.cReg ?_; simp only [size48_0, size48_1, size48_2, size48_3, size48_4, size48_5, size48_6, size48_7, size48_8, size48_9, size48_10, size48_11, size48_12, size48_13, size48_14, List.range, List.range.loop]) | (refine Walk.oq ?_; try walk_nrm) | (refine Walk.un ?_; walk_nrm))
    refine Walk.ctl rfl (fun w => stepG_inLoop) ?_
    refine .stop fun d' => ⟨at_slots ?_, d', rfl⟩
    simp only [hd48]
    rfl
end Go.Proofs.Ytgiiicdpbdfemaa
end
