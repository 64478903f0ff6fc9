/- Part 8. -/
import Derived.Test.YtnnakajldnaldaaM6
set_option linter.unusedSimpArgs false
set_option linter.unusedVariables false
set_option maxHeartbeats 8000000
set_option maxRecDepth 100000
namespace Go.Proofs.Ytnnakajldnaldaa
open Go.Conc Go.RowKit Go.Relay
open Go.ConcN (upd upd_ne upd_same)
section
section
variable {main : Bool}
theorem bo_add (m Q tb n thc K Ab k lc oc lm mc : Nat) (oa ta ma : Option Addr) (tc ob oo : Nat) (ansV stV : Value) (tot : Int) (base : Nat) (xs ms : List Value) (hn : K < n) (hn64 : n ≤ 64) (hk : k < lc) (hlc : lc ≤ 40000) (hlm : lm ≤ 40000) (hoa : oa = some ⟨ob, oo, none⟩) (u : Nat → Value) (cs : List Frame) (w : World) (hb : base ≤ w.heap.size)
    (dQ : w.heap[Q]? = some (.cells (trC ansV (.slice oa lc oc) stV false) 31)) (r0 : w.ownsRow base 2 1 (.slice ta k tc) k xs) (q0 : w.ownsRow base 3 1 (.slice ma lm mc) lm ms)
    (i c ln rcc b off : Nat) (ra : Option Addr) (v : Int) (arr : Array Value) (hi : i < K) (hc : c < ln) (hln : ln ≤ 500) (hra : ra = some ⟨b, off, none⟩) (ht0 : 0 ≤ tot) (ht1 : tot ≤ 40000000) (hv0 : 0 ≤ v) (hv1 : v ≤ 999)
    (ho : w.cell? ⟨ob, oo + k, none⟩ = some (.int .i64 i)) (dA : w.heap[Ab]? = some (.cells arr 3)) (ai : arr[i]? = some (.int .i64 c)) (th : w.cell? ⟨tb, 0 + i, none⟩ = some (.slice ra ln rcc)) (ov : w.cell? ⟨b, off + c * 4 + 2, none⟩ = some (.int .i64 v)) (hAb : Ab < base)
    (hap : ∀ g, (Value.slice ta k tc).ownBlock = some g → (Value.slice ma lm mc).ownBlock ≠ some g) :
    Walk Try.prog main (DR (fun _ => none)) (fun g w' => ∃ ta' tc', (∃ u, g = G (hdBo m Q (.slice (some ⟨tb, 0, none⟩) n thc) K (.slice (some ⟨Ab, 0, none⟩) n n) (tot + v) (.slice ta' (k + 1) tc') (.slice ma lm mc) (k + 1) u) cs) ∧ w'.ownsRow base 2 1 (.slice ta' (k + 1) tc') (k + 1) (xs ++ [.int .i64 (tot + v)]) ∧ w'.ownsRow base 3 1 (.slice ma lm mc) lm ms ∧
      (∀ g, (Value.slice ta' (k + 1) tc').ownBlock = some g → (Value.slice ma lm mc).ownBlock ≠ some g) ∧ w'.heap[Ab]? = some (.cells (arr.setIfInBounds i (.int .i64 ((c + 1 : Nat) : Int))) 3) ∧ BoK Ab (.slice ta k tc) (.slice ma lm mc) (.slice ta' (k + 1) tc') (.slice ma lm mc) w w')
      (G (hdBo m Q (.slice (some ⟨tb, 0, none⟩) n thc) K (.slice (some ⟨Ab, 0, none⟩) n n) tot (.slice ta k tc) (.slice ma lm mc) k u) cs) w := by
  subst hoa
  have hk0 : (0 : Int) ≤ k := by omega
  have hk1 : decide ((k : Int) < lc) = true := by simp; omega
  have hk3 : decide (k < lc) = true := by simp; omega
  have hk4 : (k : Int) < lc := by omega
  have hw1 : IntKind.wrap .i64 ((k : Int) + 1) = (k : Int) + 1 := by rw [IntKind.wrap_i64]; omega
  have hcc : ((k + 1 : Nat) : Int) = (k : Int) + 1 := by simp
  have tq : w.cell? ⟨Q, 1, none⟩ = some (.slice (some ⟨ob, oo, none⟩) lc oc) := (cell_of dQ 1).trans rfl
  clear dQ
  subst hra
  have hi0 : (0 : Int) ≤ i := by omega
  have hi1 : decide ((i : Int) < 0) = false := by simp
  have hi2 : decide ((n : Int) ≤ i) = false := by simp; omega
  have hi3 : decide (n ≤ i) = false := by simp; omega
  have hi4 : decide ((i : Int) ≥ n) = false := by simp; omega
  have hi5 : (i : Int) < n := by omega
  have hi6 : ((i : Int) == K) = false := by simp; omega
  have hi7 : (i == K) = false := by simp; omega
  have hc0 : (0 : Int) ≤ c := by omega
  have hc2 : decide ((ln : Int) ≤ c) = false := by simp; omega
  have hc3 : decide (ln ≤ c) = false := by simp; omega
  have hc4 : decide ((c : Int) ≥ ln) = false := by simp; omega
  have hc5 : (c : Int) < ln := by omega
  have hw2 : IntKind.wrap .i64 ((c : Int) + 1) = (c : Int) + 1 := by rw [IntKind.wrap_i64]; omega
  have hw3 : IntKind.wrap .i64 (tot + v) = tot + v := by rw [IntKind.wrap_i64]; omega
  have aC : w.cell? ⟨Ab, 0 + i, none⟩ = some (.int .i64 c) := by rw [Nat.zero_add]; exact (cell_of dA i).trans ai
  have aC' : w.cell? ⟨Ab, i, none⟩ = some (.int .i64 c) := (cell_of dA i).trans ai
  have th' : w.cell? ⟨tb, i, none⟩ = some (.slice (some ⟨b, off, none⟩) ln rcc) := by rw [Nat.zero_add] at th; exact th
  have aF := frozen_of dA i
  unfold hdBo
  repeat (first | refine Walk.c rfl ?_ | refine Walk.cRet ?_ | refine Walk.cEnd ?_ | (refine Walk.cReg ?_; simp only [size5_0, size5_1, size5_2, size5_3, size5_4, size5_5, size5_6, size5_7, size5_8, size5_9, size5_10, size5_11, size5_12, size5_13, size5_14, size5_15, size5_17, size5_18, size5_19, size5_20, size5_21, size5_22, size5_23, size5_24, size5_25, size5_26, size5_16, size5_27, size5_28, size5_29, size5_30, size5_31, size5_32, size5_33, size5_34, size5_35, List.range, List.range.loop]) | (refine Walk.oq ?_; try walk_nrm) | (refine Walk.un ?_; walk_nrm))
  (refine Walk.drawnC (by kernel_rfl) size5_22 (by kernel_rfl) (by kernel_rfl) (by decide) ?_; simp only [List.range, List.range.loop]; repeat (first | (refine Cm.opqA (ho_of (by conv => lhs; whnf) (by kernel_rfl)) (by rfl) (fun dd e he => ?_) ?_; (· (simp [go_sem, *] at he; try (subst he; exact evR_read _ _))); apply Exists.intro; apply And.intro; (· (intro dd K hK; go_simp; exact hK))) | (refine Cm.unw (ho_of (by conv => lhs; whnf) (by kernel_rfl)) (by rfl) ?_; walk_nrm)))
  refine Cm.done ?_
  repeat (first | refine Walk.c rfl ?_ | refine Walk.cRet ?_ | refine Walk.cEnd ?_ | (refine Walk.cReg ?_; simp only [size5_0, size5_1, size5_2, size5_3, size5_4, size5_5, size5_6, size5_7, size5_8, size5_9, size5_10, size5_11, size5_12, size5_13, size5_14, size5_15, size5_17, size5_18, size5_19, size5_20, size5_21, size5_22, size5_23, size5_24, size5_25, size5_26, size5_16, size5_27, size5_28, size5_29, size5_30, size5_31, size5_32, size5_33, size5_34, size5_35, List.range, List.range.loop]) | (refine Walk.oq ?_; try walk_nrm) | (refine Walk.un ?_; walk_nrm))
  refine bo_24_at (bo_24 m Q tb n thc K Ab k i c ln rcc b off (.slice ta k tc) (.slice ma lm mc) tot v (by omega) hc hw3 w th' aC' ov) ?eq fun u h13 => ?main
  case eq => exact act_slots13 (by simp only [tmB]; rfl) rfl
  simp only [tmB, h13]
  repeat (first | refine Walk.c rfl ?_ | refine Walk.cRet ?_ | refine Walk.cEnd ?_ | (refine Walk.cReg ?_; simp only [size5_0, size5_1, size5_2, size5_3, size5_4, size5_5, size5_6, size5_7, size5_8, size5_9, size5_10, size5_11, size5_12, size5_13, size5_14, size5_15, size5_17, size5_18, size5_19, size5_20, size5_21, size5_22, size5_23, size5_24, size5_25, size5_26, size5_16, size5_27, size5_28, size5_29, size5_30, size5_31, size5_32, size5_33, size5_34, size5_35, List.range, List.range.loop]) | (refine Walk.oq ?_; try walk_nrm) | (refine Walk.un ?_; walk_nrm))
  (have hfr := fr0 Ab i; refine Walk.os hfr aC' ?_; clear hfr; try walk_nrm)
  have bA : (w.setCell ⟨Ab, i, none⟩ (.int .i64 ((c : Int) + 1))).heap[Ab]? = some (.cells (arr.setIfInBounds i (.int .i64 ((c + 1 : Nat) : Int))) 3) := by
    rw [heap_set_self _ _ dA]
    rfl
  have oA : ∀ z, z ≠ Ab → (w.setCell ⟨Ab, i, none⟩ (.int .i64 ((c : Int) + 1))).heap[z]? = w.heap[z]? := fun z hz => heap_set_other _ _ _ _ hz
  have zA : (w.setCell ⟨Ab, i, none⟩ (.int .i64 ((c : Int) + 1))).heap.size ≤ w.heap.size := Nat.le_of_eq (size_set _ _ _)
  have zB : w.heap.size ≤ (w.setCell ⟨Ab, i, none⟩ (.int .i64 ((c : Int) + 1))).heap.size := Nat.le_of_eq (size_set _ _ _).symm
  have rA : (w.setCell ⟨Ab, i, none⟩ (.int .i64 ((c : Int) + 1))).ownsRow base 2 1 (.slice ta k tc) k xs := row_same r0 fun b hb' => oA b (by have := (r0.lt b hb').1; omega)
  have qA : (w.setCell ⟨Ab, i, none⟩ (.int .i64 ((c : Int) + 1))).ownsRow base 3 1 (.slice ma lm mc) lm ms := row_same q0 fun b hb' => oA b (by have := (q0.lt b hb').1; omega)
  generalize w.setCell ⟨Ab, i, none⟩ (.int .i64 ((c : Int) + 1)) = x0 at *
  clear aC aC' th th' aF ov ho tq dA ai
  repeat (first | refine Walk.c rfl ?_ | refine Walk.cRet ?_ | refine Walk.cEnd ?_ | (refine Walk.cReg ?_; simp only [size5_0, size5_1, size5_2, size5_3, size5_4, size5_5, size5_6, size5_7, size5_8, size5_9, size5_10, size5_11, size5_12, size5_13, size5_14, size5_15, size5_17, size5_18, size5_19, size5_20, size5_21, size5_22, size5_23, size5_24, size5_25, size5_26, size5_16, size5_27, size5_28, size5_29, size5_30, size5_31, size5_32, size5_33, size5_34, size5_35, List.range, List.range.loop]) | (refine Walk.oq ?_; try walk_nrm) | (refine Walk.un ?_; walk_nrm))
  have hi2 := Option.some_get (show (Try.prog.info? 2).isSome = true by kernel_rfl)
  (refine Walk.oa ?_; try walk_nrm)
  have d2 := heap_alloc_new x0 (.cells #[.int .i64 (tot + v)] 2)
  have p2 : ∀ b, b < x0.heap.size → (x0.alloc (.cells #[.int .i64 (tot + v)] 2)).heap[b]? = x0.heap[b]? := fun b hb => heap_new_lt _ _ hb
  have s2 : (x0.alloc (.cells #[.int .i64 (tot + v)] 2)).heap.size = x0.heap.size + 1 := by simp
  have r2 : (x0.alloc (.cells #[.int .i64 (tot + v)] 2)).ownsRow base 2 1 (.slice ta k tc) k xs := row_same rA fun b hb => p2 b (rA.lt b hb).2
  generalize hQ2 : x0.heap.size = Z2 at *
  generalize x0.alloc (.cells #[.int .i64 (tot + v)] 2) = x2 at *
  repeat (first | (refine Walk.oq ?_; try walk_nrm) | (refine Walk.un ?_; walk_nrm))
  refine Walk.append (.tmp 123) (.tmp 125) 22 (ho_of (by conv => lhs; whnf) (by kernel_rfl)) (by rfl) (by decide) rfl base 2 _ (.int .i64 0) 1 8 (by kernel_rfl) hi2.symm (by rfl) (by rfl) (by rfl) (by rfl) (by decide) (.slice ta k tc) k xs rfl r2 ⟨Z2, 0, none⟩ 1 1 [.int .i64 (tot + v)] rfl (by rfl) (fun y v hv => ?_) (by intro v hv; simp only [List.mem_cons, List.not_mem_nil, or_false] at hv; subst hv; rfl) (by decide) (by simp [maxLen]; omega) (by omega) (by omega) (fun b _ => ap0 b) (fun g2 c2 y2 own2 gr2 at2 lt2 => ?_)
  · rw [add_none, Nat.zero_add]
    refine (cell_of d2 y).trans ?_
    simpa using hv
  clear d2 hi2
  walk_nrm
  have z2 := gr2.size
  have kp : ∀ b, b < w.heap.size → (∀ g, (Value.slice ta k tc).ownBlock = some g → b ≠ g) → y2.heap[b]? = x0.heap[b]? := fun b hb h1 =>
    (gr2.block b (by omega) (fun he => h1 b he.symm rfl)).trans (p2 b (by omega))
  have qM : y2.ownsRow base 3 1 (.slice ma lm mc) lm ms := row_same qA fun b hb' => kp b (by have := (q0.lt b hb').2; omega) fun g hg he => hap g hg (he ▸ hb')
  have hap2 : ∀ g, (Value.slice (some ⟨g2, 0, none⟩) (k + 1) c2).ownBlock = some g → (Value.slice ma lm mc).ownBlock ≠ some g := fun g hg hg' => by
    have e1 : g2 = g := by simpa [Value.ownBlock] using hg
    subst e1
    rcases at2 with h | h
    · exact hap g2 h hg'
    · have := (q0.lt g2 hg').2; omega
  have fT : ∀ g, (Value.slice (some ⟨g2, 0, none⟩) (k + 1) c2).ownBlock = some g → (Value.slice ta k tc).ownBlock = some g ∨ w.heap.size ≤ g := fun g hg => by
    have e1 : g2 = g := by simpa [Value.ownBlock] using hg
    subst e1
    rcases at2 with h | h
    · exact .inl h
    · exact .inr (by omega)
  have hAb2 : y2.heap[Ab]? = some (.cells (arr.setIfInBounds i (.int .i64 ((c + 1 : Nat) : Int))) 3) := (kp Ab (by omega) fun g hg he => by have := (r0.lt g hg).1; omega).trans bA
  repeat (first | refine Walk.c rfl ?_ | refine Walk.cRet ?_ | refine Walk.cEnd ?_ | (refine Walk.cReg ?_; simp only [size5_0, size5_1, size5_2, size5_3, size5_4, size5_5, size5_6, size5_7, size5_8, size5_9, size5_10, size5_11, size5_12, size5_13, size5_14, size5_15, size5_17, size5_18, size5_19, size5_20, size5_21, size5_22, size5_23, size5_24, size5_25, size5_26, size5_16, size5_27, size5_28, size5_29, size5_30, size5_31, size5_32, size5_33, size5_34, size5_35, List.range, List.range.loop]) | (refine Walk.oq ?_; try walk_nrm) | (refine Walk.un ?_; walk_nrm))
  refine Walk.ctl rfl (fun w => stepG_inLoop) ?_
  refine .stop fun d => ⟨some ⟨g2, 0, none⟩, c2, at_slots ?_, own2, qM, hap2, hAb2, ⟨by show w.heap.size ≤ y2.heap.size; omega, fun b hb hbA h1 h2 => (kp b (by omega) h1).trans (oA b hbA), fT, fun g hg => .inl hg⟩⟩
  simp only [hdBo, hcc]
  rfl
end
end
end Go.Proofs.Ytnnakajldnaldaa
