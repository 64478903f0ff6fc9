/- Part 11. -/
import Derived.Test.YtnnakajldnaldaaK10
set_option linter.unusedSimpArgs false
set_option linter.unusedVariables false
set_option maxHeartbeats 8000000
set_option maxRecDepth 100000
namespace Go.Proofs.Ytnnakajldnaldaa
open Go.Conc Go.RowKit Go.Relay
open Go.ConcN (upd upd_ne upd_same)
section
noncomputable def hdCal (sz : Int) (ov : Value) (m Q kb lb p i : Nat) (u : Nat → Value) : Frame :=
  (base 4).at { tmps := #[.int .i64 sz, ov, u 2, u 3, .bool false, .int .i64 m, .pointer (some ⟨Q, 0, none⟩), .pointer (some ⟨kb, 0, none⟩), .pointer (some ⟨lb, 0, none⟩), .pointer (some ⟨p, 0, none⟩), .int .i64 i, u 11, u 12, u 13, u 14, u 15, u 16, u 17, u 18, u 19, u 20, u 21, u 22, u 23, u 24, u 25, u 26, u 27, u 28, u 29, u 30, u 31, u 32, u 33, u 34, u 35, u 36, u 37, u 38, u 39, u 40, u 41, u 42, u 43, u 44, u 45, u 46, u 47, u 48, u 49, u 50, u 51, u 52, u 53, u 54, u 55, u 56, u 57, u 58, u 59, u 60, u 61, u 62, u 63, u 64, u 65, u 66, u 67, u 68, u 69, u 70, u 71, u 72, u 73, u 74, u 75, u 76, u 77, u 78, u 79, u 80, u 81, u 82, u 83, u 84, u 85, u 86, u 87, u 88, u 89, u 90, u 91, u 92, u 93, u 94, u 95, u 96, u 97, u 98, u 99, u 100, u 101, u 102, u 103, u 104, u 105, u 106, u 107, u 108, u 109, u 110, u 111, u 112, u 113, u 114, u 115, u 116, u 117, u 118, u 119, u 120, u 121, u 122, u 123, u 124, u 125, u 126, u 127, u 128, u 129, u 130, u 131, u 132, u 133], defers := [] } [.code (.seq (.seq (.region 9 reg4_9 false) (.cond (.tmp 55 ) (.skip) (.exit 0))) (.seq (.block 1 (.seq (.region 11 reg4_11 true) (.seq (.region 12 reg4_12 true) (.cond (.tmp 91 ) (.seq (.region 13 reg4_13 false) (.ret)) (.skip))))) (.region 10 reg4_10 false))), .inLoop (.seq (.seq (.region 9 reg4_9 false) (.cond (.tmp 55 ) (.skip) (.exit 0))) (.seq (.block 1 (.seq (.region 11 reg4_11 true) (.seq (.region 12 reg4_12 true) (.cond (.tmp 91 ) (.seq (.region 13 reg4_13 false) (.ret)) (.skip))))) (.region 10 reg4_10 false))), .inBlock 0, .code (.seq (.region 14 reg4_14 false) (.seq (.seq (.region 15 reg4_15 false) (.block 2 (.loop (.seq (.seq (.region 16 reg4_16 false) (.cond (.tmp 96 ) (.skip) (.exit 2))) (.seq (.block 3 (.region 18 reg4_18 false)) (.region 17 reg4_17 false)))))) (.seq (.region 19 reg4_19 true) (.ret))))]
noncomputable def hdTot (Q kb lb p : Nat) (t : Int) (j : Nat) (u : Nat → Value) : Frame :=
  (base 4).at { tmps := #[u 0, u 1, u 2, u 3, .bool false, u 5, .pointer (some ⟨Q, 0, none⟩), .pointer (some ⟨kb, 0, none⟩), .pointer (some ⟨lb, 0, none⟩), .pointer (some ⟨p, 0, none⟩), u 10, u 11, u 12, .int .i64 t, .int .i64 j, u 15, u 16, u 17, u 18, u 19, u 20, u 21, u 22, u 23, u 24, u 25, u 26, u 27, u 28, u 29, u 30, u 31, u 32, u 33, u 34, u 35, u 36, u 37, u 38, u 39, u 40, u 41, u 42, u 43, u 44, u 45, u 46, u 47, u 48, u 49, u 50, u 51, u 52, u 53, u 54, u 55, u 56, u 57, u 58, u 59, u 60, u 61, u 62, u 63, u 64, u 65, u 66, u 67, u 68, u 69, u 70, u 71, u 72, u 73, u 74, u 75, u 76, u 77, u 78, u 79, u 80, u 81, u 82, u 83, u 84, u 85, u 86, u 87, u 88, u 89, u 90, u 91, u 92, u 93, u 94, u 95, u 96, u 97, u 98, u 99, u 100, u 101, u 102, u 103, u 104, u 105, u 106, u 107, u 108, u 109, u 110, u 111, u 112, u 113, u 114, u 115, u 116, u 117, u 118, u 119, u 120, u 121, u 122, u 123, u 124, u 125, u 126, u 127, u 128, u 129, u 130, u 131, u 132, u 133], defers := [] } [.code (.seq (.seq (.region 16 reg4_16 false) (.cond (.tmp 96 ) (.skip) (.exit 2))) (.seq (.block 3 (.region 18 reg4_18 false)) (.region 17 reg4_17 false))), .inLoop (.seq (.seq (.region 16 reg4_16 false) (.cond (.tmp 96 ) (.skip) (.exit 2))) (.seq (.block 3 (.region 18 reg4_18 false)) (.region 17 reg4_17 false))), .inBlock 2, .code (.seq (.region 19 reg4_19 true) (.ret))]
structure CalI (kb kr : Nat) (kra : Option Addr) (krc : Nat) (lb lr : Nat) (lra : Option Addr) (lrc m p : Nat) (S : Sp) (c : Nat) (W w : World) : Prop where
  ik : SpI kb kr m kra krc S w
  il : SpI lb lr m lra lrc S w
  cn : w.heap[p]? = some (.cells #[.int .i64 (c : Nat)] 39)
  old : ∀ b, b < W.heap.size → Off kb kr lb lr p m b → w.heap[b]? = W.heap[b]?
  size : W.heap.size ≤ w.heap.size
theorem CalI.at {kb kr : Nat} {kra : Option Addr} {krc lb lr : Nat} {lra : Option Addr} {lrc m p : Nat} {S : Sp} {c : Nat} {W w : World} (h : CalI kb kr kra krc lb lr lra lrc m p S c W w) (d : Nat) : CalI kb kr kra krc lb lr lra lrc m p S c W (w.at d) := ⟨h.ik.old fun _ _ => rfl, h.il.old fun _ _ => rfl, h.cn, h.old, h.size⟩
theorem act_slots {A : Array Value} {T : (Nat → Value) → Array Value} (h : A = T (fun k => A.getD k undef)) : ∃ u, (⟨A, []⟩ : Act) = ⟨T u, []⟩ := ⟨_, congrArg (fun x => (⟨x, []⟩ : Act)) h⟩
section
variable {kb kr : Nat} {kra : Option Addr} {krc lb lr : Nat} {lra : Option Addr} {lrc m p : Nat} {main : Bool}
theorem calls_do_at {sz : Int} {tb toff n0 tc Q i : Nat} {W : World} {R : Nat → Nat → World → Prop} {Stop : Goroutine → World → Prop} {k : List Item} {cs : List Frame} {act : Act}
    (h : ∀ (k : List Item) (cs : List Frame) (u0 : Nat → Value) {Stop : Goroutine → World → Prop}, (∀ (u : Nat → Value) (A B : Nat) (w : World), u 11 = .pointer (some ⟨A, 0, none⟩) → u 12 = .pointer (some ⟨B, 0, none⟩) → R A B w → Walk Try.prog main (DR (fun _ => none)) Stop (G ((base 4).at ⟨tmI sz tb toff n0 tc m Q kb lb p i u, []⟩ (.inRegion reg4_11 [] :: k)) cs) w) → Walk Try.prog main (DR (fun _ => none)) Stop (G ((base 4).at ⟨tmI sz tb toff n0 tc m Q kb lb p i u0, []⟩ (.code (.region 11 reg4_11 true) :: k)) cs) W)
    (he : ∃ u, act = ⟨tmI sz tb toff n0 tc m Q kb lb p i u, []⟩)
    (hend : ∀ (u : Nat → Value) (A B : Nat) (w : World), u 11 = .pointer (some ⟨A, 0, none⟩) → u 12 = .pointer (some ⟨B, 0, none⟩) → R A B w → Walk Try.prog main (DR (fun _ => none)) Stop (G ((base 4).at ⟨tmI sz tb toff n0 tc m Q kb lb p i u, []⟩ (.inRegion reg4_11 [] :: k)) cs) w) :
    Walk Try.prog main (DR (fun _ => none)) Stop (G ((base 4).at act (.code (.region 11 reg4_11 true) :: k)) cs) W := by
  obtain ⟨u, rfl⟩ := he
  exact h k cs u hend
theorem same_do_at {sz : Int} {tb toff n0 tc Q i A B : Nat} {W : World} {R : World → Prop} {Stop : Goroutine → World → Prop} {k : List Item} {cs : List Frame} {act : Act}
    (h : ∀ (k : List Item) (cs : List Frame) (u0 : Nat → Value) {Stop : Goroutine → World → Prop}, (∀ (u : Nat → Value) (w : World), u 91 = .bool false → R w → Walk Try.prog main (DR (fun _ => none)) Stop (G ((base 4).at ⟨tmJ sz tb toff n0 tc m Q kb lb p i A B u, []⟩ (.inRegion reg4_12 [] :: k)) cs) w) → Walk Try.prog main (DR (fun _ => none)) Stop (G ((base 4).at ⟨tmJ sz tb toff n0 tc m Q kb lb p i A B u0, []⟩ (.code (.region 12 reg4_12 true) :: k)) cs) W)
    (he : ∃ u, act = ⟨tmJ sz tb toff n0 tc m Q kb lb p i A B u, []⟩)
    (hend : ∀ (u : Nat → Value) (w : World), u 91 = .bool false → R w → Walk Try.prog main (DR (fun _ => none)) Stop (G ((base 4).at ⟨tmJ sz tb toff n0 tc m Q kb lb p i A B u, []⟩ (.inRegion reg4_12 [] :: k)) cs) w) :
    Walk Try.prog main (DR (fun _ => none)) Stop (G ((base 4).at act (.code (.region 12 reg4_12 true) :: k)) cs) W := by
  obtain ⟨u, rfl⟩ := he
  exact h k cs u hend
theorem cal_round (sz : Int) (tb toff n0 tc Q i ab ao ac b1 o1 ln tc1 : Nat) (S : Sp) (c : Nat) (o : OpV) (hi : i < n0) (hn0 : n0 ≤ 17592186044416) (hil : i < ln) (hln : ln ≤ 65536) (W0 W : World) (hm0 : 0 < m) (I : CalI kb kr kra krc lb lr lra lrc m p S c W0 W) (hfew : c ≤ 9223372036854) (T : Two kb kr lb lr p m) (ht : Off kb kr lb lr p m tb)
    (hQ : Off kb kr lb lr p m Q) (hab : Off kb kr lb lr p m ab) (hb1 : Off kb kr lb lr p m b1)
    (x0 : W.cell? ⟨Q, 0, none⟩ = some (.slice (some ⟨ab, ao, none⟩) 1 ac)) (x1 : W.cell? ⟨ab, ao, none⟩ = some (.slice (some ⟨b1, o1, none⟩) ln tc1))
    (w0 : W.cell? ⟨b1, o1 + i * 3, none⟩ = some (.bool (oneS m S o).2.1.1)) (w1 : W.cell? ⟨b1, o1 + i * 3 + 1, none⟩ = some (.int .i64 (oneS m S o).2.1.2)) (w2 : W.cell? ⟨b1, o1 + i * 3 + 2, none⟩ = some (.slice none 0 0))
    (o0 : W.cell? ⟨tb, toff + i * 4, none⟩ = some (.int .i64 o.k)) (o1' : W.cell? ⟨tb, toff + i * 4 + 1, none⟩ = some (.int .i64 o.a)) (o2 : W.cell? ⟨tb, toff + i * 4 + 2, none⟩ = some (.int .i64 o.b)) (o3 : W.cell? ⟨tb, toff + i * 4 + 3, none⟩ = some (.int .i64 o.c)) (cs : List Frame) (u : Nat → Value) :
    Walk Try.prog main (DR (fun _ => none)) (fun g w => (∃ u, g = G (hdCal sz (.slice (some ⟨tb, toff, none⟩) n0 tc) m Q kb lb p (i + 1) u) cs) ∧ CalI kb kr kra krc lb lr lra lrc m p (oneS m S o).1 (c + (oneS m S o).2.2) W0 w) (G (hdCal sz (.slice (some ⟨tb, toff, none⟩) n0 tc) m Q kb lb p i u) cs) W := by
  have hi0 : (0 : Int) ≤ i := by omega
  have hi1 : decide ((i : Int) < ln) = true := by simp; omega
  have hi3 : decide (i < ln) = true := by simp; omega
  have hi4 : (i : Int) < ln := by omega
  have hw1 : IntKind.wrap .i64 ((i : Int) + 1) = (i : Int) + 1 := by rw [IntKind.wrap_i64]; omega
  have hcc : ((i + 1 : Nat) : Int) = (i : Int) + 1 := by simp
  have hdo := calls_do (main := main) sz tb toff n0 tc Q i o hi hn0 W hm0 I.ik I.il I.cn hfew T ht o0 o1' o2 o3
  have l1 := I.ik.lt
  have l3 := I.il.lt
  have l5 := (Array.getElem?_eq_some_iff.1 I.cn).1
  have lQ := cell_lt' x0
  have lab := cell_lt' x1
  have lb1 := cell_lt' w0
  have hW := I.old
  have hS := I.size
  generalize hX : oneS m S o = X at *
  obtain ⟨S', a, st⟩ := X
  dsimp only at hdo w0 w1 w2 ⊢
  conv => arg 5; unfold hdCal
  repeat (first | refine Walk.c rfl ?_ | refine Walk.cRet ?_ | refine Walk.cEnd ?_ | (refine Walk.cReg ?_; simp only [size4_0, size4_1, size4_2, size4_3, size4_4, size4_5, size4_6, size4_7, size4_8, size4_9, size4_11, size4_12, size4_13, size4_10, size4_14, size4_15, size4_16, size4_18, size4_17, size4_19, List.range, List.range.loop]) | (refine Walk.oq ?_; try walk_nrm) | (refine Walk.un ?_; walk_nrm))
  clear I o0 o1' o2 o3
  refine calls_do_at (R := fun A B w => AloI kb kr kra krc lb lr lra lrc m p S S' c (c + st) a W (fun _ => true) A B w) hdo ?eq fun u A B w h11 h12 AQ => ?main
  case eq => exact act_slots (by simp only [tmI]; rfl)
  case main =>
    clear hdo
    have qa := (AQ.a1 rfl)
    have qb := (AQ.b1 rfl)
    have r1 := AQ.ik
    have r2 := AQ.il
    have r3 := AQ.cn
    have r4 := AQ.old
    have r5 := AQ.size
    simp only [if_true] at r1 r2 r3 qa qb
    have hcell : ∀ {x y : Nat} {v : Value}, Off kb kr lb lr p m x → W.cell? ⟨x, y, none⟩ = some v → w.cell? ⟨x, y, none⟩ = some v := fun {x y v} e h => (World.cell?_of_block (a := ⟨x, y, none⟩) (r4 x (cell_lt' h) e)).trans h
    have hsd := same_do (main := main) sz tb toff n0 tc m Q kb lb p i A B ab ao ac b1 o1 ln tc1 a hil hln w (hcell hQ x0) (hcell hab x1) qa.2 qb.2 (hcell hb1 w0) (hcell hb1 w1) (hcell hb1 w2)
    have lA := (Array.getElem?_eq_some_iff.1 qa.2).1
    clear AQ hcell
    simp only [tmI, h11, h12]
    repeat (first | refine Walk.c rfl ?_ | refine Walk.cRet ?_ | refine Walk.cEnd ?_ | (refine Walk.cReg ?_; simp only [size4_0, size4_1, size4_2, size4_3, size4_4, size4_5, size4_6, size4_7, size4_8, size4_9, size4_11, size4_12, size4_13, size4_10, size4_14, size4_15, size4_16, size4_18, size4_17, size4_19, List.range, List.range.loop]) | (refine Walk.oq ?_; try walk_nrm) | (refine Walk.un ?_; walk_nrm))
    refine same_do_at (R := fun w' => (∀ b, b < w.heap.size → w'.heap[b]? = w.heap[b]?) ∧ w.heap.size ≤ w'.heap.size) (fun k cs u0 Stop hh => hsd k cs u0 fun u w' h1 h2 h3 => hh u w' h1 ⟨h2, h3⟩) ?eq fun u w' h91 hR => ?main
    case eq => exact act_slots (by simp only [tmJ]; rfl)
    case main =>
      obtain ⟨hR1, hR2⟩ := hR
      clear hsd
      simp only [tmJ, h91]
      repeat (first | refine Walk.c rfl ?_ | refine Walk.cRet ?_ | refine Walk.cEnd ?_ | (refine Walk.cReg ?_; simp only [size4_0, size4_1, size4_2, size4_3, size4_4, size4_5, size4_6, size4_7, size4_8, size4_9, size4_11, size4_12, size4_13, size4_10, size4_14, size4_15, size4_16, size4_18, size4_17, size4_19, List.range, List.range.loop]) | (refine Walk.oq ?_; try walk_nrm) | (refine Walk.un ?_; walk_nrm))
      refine Walk.ctl rfl (fun w => stepG_inLoop) ?_
      refine .stop fun d => ⟨at_slots ?_, CalI.at ⟨r1.old fun b hb => hR1 b (by
        rcases hb with rfl | ⟨hm1, rfl⟩
        · exact r1.lt
        · exact r1.ltr hm1), r2.old fun b hb => hR1 b (by
        rcases hb with rfl | ⟨hm1, rfl⟩
        · exact r2.lt
        · exact r2.ltr hm1), (hR1 p (by omega)).trans r3, fun b hb hOf => (hR1 b (by omega)).trans ((r4 b (by omega) hOf).trans (hW b hb hOf)), by omega⟩ d⟩
      simp only [hdCal, hcc]
      rfl
theorem cal_end (sz : Int) (ov : Value) (Q ab ao ac ln tc1 : Nat) (ta : Option Addr) (W : World) (x0 : W.cell? ⟨Q, 0, none⟩ = some (.slice (some ⟨ab, ao, none⟩) 1 ac)) (x1 : W.cell? ⟨ab, ao, none⟩ = some (.slice ta ln tc1)) (cs : List Frame) (u : Nat → Value) :
    Walk Try.prog main (DR (fun _ => none)) (fun g w => (∃ u, g = G (hdTot Q kb lb p 0 0 u) cs) ∧ ∃ d, w = W.at d) (G (hdCal sz ov m Q kb lb p ln u) cs) W := by
  have hj1 : decide ((ln : Int) < ln) = false := by simp
  have hj3 : decide (ln < ln) = false := by simp
  conv => arg 5; unfold hdCal
  repeat (first | refine Walk.c rfl ?_ | refine Walk.cRet ?_ | refine Walk.cEnd ?_ | (refine Walk.cReg ?_; simp only [size4_0, size4_1, size4_2, size4_3, size4_4, size4_5, size4_6, size4_7, size4_8, size4_9, size4_11, size4_12, size4_13, size4_10, size4_14, size4_15, size4_16, size4_18, size4_17, size4_19, List.range, List.range.loop]) | (refine Walk.oq ?_; try walk_nrm) | (refine Walk.un ?_; walk_nrm))
  refine Walk.ctl rfl (fun w => stepG_loop) ?_
  refine .stop fun d => ⟨at_slots ?_, d, rfl⟩
  simp only [hdTot]
  rfl
theorem tot_go (Q sb so sn sc j : Nat) (t x : Int) (hj : j < sn) (hsn : sn ≤ 64) (W : World) (x2 : W.cell? ⟨Q, 2, none⟩ = some (.slice (some ⟨sb, so, none⟩) sn sc)) (y0 : W.cell? ⟨sb, so + j, none⟩ = some (.int .i64 x)) (cs : List Frame) (u : Nat → Value) :
    Walk Try.prog main (DR (fun _ => none)) (fun g w => (∃ u, g = G (hdTot Q kb lb p (IntKind.i64.wrap (t + x)) (j + 1) u) cs) ∧ ∃ d, w = W.at d) (G (hdTot Q kb lb p t j u) cs) W := by
  have hi0 : (0 : Int) ≤ j := by omega
  have hi1 : decide ((j : Int) < sn) = true := by simp; omega
  have hi3 : decide (j < sn) = true := by simp; omega
  have hi4 : (j : Int) < sn := by omega
  have hw1 : IntKind.wrap .i64 ((j : Int) + 1) = (j : Int) + 1 := by rw [IntKind.wrap_i64]; omega
  have hcc : ((j + 1 : Nat) : Int) = (j : Int) + 1 := by simp
  conv => arg 5; unfold hdTot
  repeat (first | refine Walk.c rfl ?_ | refine Walk.cRet ?_ | refine Walk.cEnd ?_ | (refine Walk.cReg ?_; simp only [size4_0, size4_1, size4_2, size4_3, size4_4, size4_5, size4_6, size4_7, size4_8, size4_9, size4_11, size4_12, size4_13, size4_10, size4_14, size4_15, size4_16, size4_18, size4_17, size4_19, List.range, List.range.loop]) | (refine Walk.oq ?_; try walk_nrm) | (refine Walk.un ?_; walk_nrm))
  refine Walk.ctl rfl (fun w => stepG_inLoop) ?_
  refine .stop fun d => ⟨at_slots ?_, d, rfl⟩
  simp only [hdTot, hcc]
  rfl
end
end
end Go.Proofs.Ytnnakajldnaldaa
