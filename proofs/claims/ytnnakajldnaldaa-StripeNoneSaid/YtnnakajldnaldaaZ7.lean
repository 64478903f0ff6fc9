/- Part 7. -/
import Derived.Test.YtnnakajldnaldaaZ5
import Derived.Test.YtnnakajldnaldaaZ6
set_option linter.unusedSimpArgs false
set_option linter.unusedVariables false
set_option maxHeartbeats 8000000
set_option maxRecDepth 100000
namespace Go.Proofs.Ytnnakajldnaldaa
open Go.Conc Go.RowKit Go.Relay
open Go.ConcN (upd upd_ne upd_same)
section
noncomputable def hdNon (ov : Value) (kb lb i : Nat) (u : Nat → Value) : Frame :=
  (base 10).at { tmps := #[ov, u 1, .bool false, .pointer none, .pointer (some ⟨kb, 0, none⟩), .pointer (some ⟨lb, 0, none⟩), .int .i64 i, u 7, u 8, u 9, u 10, u 11, u 12, u 13, u 14, u 15, u 16, u 17, u 18, u 19, u 20, u 21, u 22, u 23, u 24, u 25, u 26, u 27, u 28, u 29, u 30, u 31, u 32, u 33, u 34, u 35, u 36, u 37, u 38, u 39, u 40, u 41, u 42, u 43, u 44, u 45, u 46, u 47, u 48, u 49, u 50, u 51, u 52, u 53, u 54, u 55, u 56, u 57, u 58, u 59, u 60, u 61, u 62, u 63, u 64, u 65, u 66, u 67, u 68, u 69, u 70, u 71, u 72, u 73, u 74, u 75, u 76, u 77, u 78, u 79, u 80, u 81, u 82, u 83, u 84, u 85, u 86, u 87, u 88, u 89, u 90, u 91, u 92, u 93, u 94, u 95, u 96, u 97, u 98, u 99], defers := [] } [.code (.seq (.seq (.region 6 reg10_6 false) (.cond (.tmp 19 ) (.skip) (.exit 0))) (.seq (.block 1 (.seq (.region 8 reg10_8 false) (.seq (.region 9 reg10_9 false) (.seq (.seq (.region 10 reg10_10 false) (.cond (.tmp 68 ) (.seq (.region 11 reg10_11 false) (.ret)) (.skip))) (.seq (.region 12 reg10_12 true) (.seq (.region 13 reg10_13 false) (.cond (.tmp 99 ) (.seq (.region 14 reg10_14 false) (.ret)) (.skip)))))))) (.region 7 reg10_7 false))), .inLoop (.seq (.seq (.region 6 reg10_6 false) (.cond (.tmp 19 ) (.skip) (.exit 0))) (.seq (.block 1 (.seq (.region 8 reg10_8 false) (.seq (.region 9 reg10_9 false) (.seq (.seq (.region 10 reg10_10 false) (.cond (.tmp 68 ) (.seq (.region 11 reg10_11 false) (.ret)) (.skip))) (.seq (.region 12 reg10_12 true) (.seq (.region 13 reg10_13 false) (.cond (.tmp 99 ) (.seq (.region 14 reg10_14 false) (.ret)) (.skip)))))))) (.region 7 reg10_7 false))), .inBlock 0, .code (.seq (.region 15 reg10_15 false) (.ret))]
structure NonI (kb kr : Nat) (kra : Option Addr) (krc lb lr : Nat) (lra : Option Addr) (lrc m : Nat) (S : Sp) (W w : World) : Prop where
  ik : SpI kb kr m kra krc S w
  il : SpI lb lr m lra lrc S w
  old : ∀ b, b < W.heap.size → OffN kb kr lb lr m b → w.heap[b]? = W.heap[b]?
  size : W.heap.size ≤ w.heap.size
def oneA (a : Ans) : Obj := (.cells #[.bool a.1, .int .i64 a.2, .slice none 0 0] 43)
theorem oneA_at {w : World} {X : Nat} {a : Ans} (h : w.heap[X]? = some (oneA a)) : AnsA (some ⟨X, 0, none⟩) [a] w := fun i x hx => by
  match i, hx with
  | 0, hx => cases hx; exact ⟨X, 0, rfl, (cell_of h _).trans rfl, (cell_of h _).trans rfl, (cell_of h _).trans rfl⟩
section
variable {kb kr : Nat} {kra : Option Addr} {krc lb lr : Nat} {lra : Option Addr} {lrc m : Nat} {main : Bool}
theorem NonI.at {S : Sp} {W w : World} (h : NonI kb kr kra krc lb lr lra lrc m S W w) (d : Nat) : NonI kb kr kra krc lb lr lra lrc m S W (w.at d) := ⟨h.ik.old fun _ _ => rfl, h.il.old fun _ _ => rfl, h.old, h.size⟩
theorem NonI.kp {S : Sp} {W w w' : World} (h : NonI kb kr kra krc lb lr lra lrc m S W w) (k : Kp w w') : NonI kb kr kra krc lb lr lra lrc m S W w' := by
  have hs := h.size
  exact ⟨h.ik.old fun b hb => k.2 b (by
    rcases hb with rfl | ⟨hm1, rfl⟩
    · exact h.ik.lt
    · exact h.ik.ltr hm1), h.il.old fun b hb => k.2 b (by
    rcases hb with rfl | ⟨hm1, rfl⟩
    · exact h.il.lt
    · exact h.il.ltr hm1), fun b hb hO => (k.2 b (by omega)).trans (h.old b hb hO), Nat.le_trans h.size k.1⟩
theorem none_do_at {tb toff n0 tc i : Nat} {W : World} {R : Nat → Nat → World → Prop} {Stop : Goroutine → World → Prop} {k : List Item} {cs : List Frame} {act : Act}
    (h : ∀ (k : List Item) (cs : List Frame) (u0 : Nat → Value) {Stop : Goroutine → World → Prop}, (∀ (u : Nat → Value) (A B : Nat) (w : World), u 9 = .pointer (some ⟨A, 0, none⟩) → u 10 = .pointer (some ⟨B, 0, none⟩) → R A B w → Walk Try.prog main (DR (fun _ => none)) Stop (G ((base 10).at ⟨tmN tb toff n0 tc kb lb i u, []⟩ (.inRegion reg10_12 [] :: k)) cs) w) → Walk Try.prog main (DR (fun _ => none)) Stop (G ((base 10).at ⟨tmN tb toff n0 tc kb lb i u0, []⟩ (.code (.region 12 reg10_12 true) :: k)) cs) W)
    (he : ∃ u, act = ⟨tmN tb toff n0 tc kb lb i u, []⟩)
    (hend : ∀ (u : Nat → Value) (A B : Nat) (w : World), u 9 = .pointer (some ⟨A, 0, none⟩) → u 10 = .pointer (some ⟨B, 0, none⟩) → R A B w → Walk Try.prog main (DR (fun _ => none)) Stop (G ((base 10).at ⟨tmN tb toff n0 tc kb lb i u, []⟩ (.inRegion reg10_12 [] :: k)) cs) w) :
    Walk Try.prog main (DR (fun _ => none)) Stop (G ((base 10).at act (.code (.region 12 reg10_12 true) :: k)) cs) W := by
  obtain ⟨u, rfl⟩ := he
  exact h k cs u hend
theorem none_round (tb toff n0 tc i : Nat) (S : Sp) (o : OpV) (hi : i < n0) (hn0 : n0 ≤ 17592186044416) (W0 W : World) (I : NonI kb kr kra krc lb lr lra lrc 1 S W0 W) (T : TwoN kb kr lb lr 1) (ht : OffN kb kr lb lr 1 tb)
    (o0 : W.cell? ⟨tb, toff + i * 4, none⟩ = some (.int .i64 o.k)) (o1 : W.cell? ⟨tb, toff + i * 4 + 1, none⟩ = some (.int .i64 o.a)) (o2 : W.cell? ⟨tb, toff + i * 4 + 2, none⟩ = some (.int .i64 o.b)) (o3 : W.cell? ⟨tb, toff + i * 4 + 3, none⟩ = some (.int .i64 o.c)) (cs : List Frame) (u : Nat → Value) :
    Walk Try.prog main (DR (fun _ => none)) (fun g w => (∃ u, g = G (hdNon (.slice (some ⟨tb, toff, none⟩) n0 tc) kb lb (i + 1) u) cs) ∧ NonI kb kr kra krc lb lr lra lrc 1 (oneS 1 S o).1 W0 w) (G (hdNon (.slice (some ⟨tb, toff, none⟩) n0 tc) kb lb i u) cs) W := by
  have hi0 : (0 : Int) ≤ i := by omega
  have hi1 : decide ((i : Int) < n0) = true := by simp; omega
  have hi3 : decide (i < n0) = true := by simp; omega
  have hi4 : (i : Int) < n0 := by omega
  have hw1 : IntKind.wrap .i64 ((i : Int) + 1) = (i : Int) + 1 := by rw [IntKind.wrap_i64]; omega
  have hcc : ((i + 1 : Nat) : Int) = (i : Int) + 1 := by simp
  obtain ⟨fsO, huO⟩ := structT 46 (by kernel_rfl)
  obtain ⟨fsA, huA⟩ := structT 43 (by kernel_rfl)
  have hcs : ∀ (y : Nat) (v : Value), ([.int .i64 o.k, .int .i64 o.a, .int .i64 o.b, .int .i64 o.c] : List Value)[y]? = some v → W.cell? ⟨tb, toff + i * 4 + y, none⟩ = some v := fun y v hv => by
    match y, hv with
    | 0, hv => cases hv; exact o0
    | 1, hv => cases hv; exact o1
    | 2, hv => cases hv; exact o2
    | 3, hv => cases hv; exact o3
  have tlt := cell_lt' o0
  conv => arg 5; unfold hdNon
  repeat (first | refine Walk.c rfl ?_ | refine Walk.cRet ?_ | refine Walk.cEnd ?_ | (refine Walk.cReg ?_; simp only [size10_0, size10_1, size10_2, size10_3, size10_4, size10_5, size10_6, size10_8, size10_9, size10_10, size10_11, size10_12, size10_13, size10_14, size10_7, size10_15, List.range, List.range.loop]) | (refine Walk.oq ?_; try walk_nrm) | (refine Walk.un ?_; walk_nrm))
  refine Walk.loadS 46 (.tmp 25) (ho_of (by conv => lhs; whnf) (by kernel_rfl)) (by rfl) (by decide) rfl tb (toff + i * 4) [.int .i64 o.k, .int .i64 o.a, .int .i64 o.b, .int .i64 o.c] (.struct fsO) rfl hcs huO rfl (by kernel_rfl) ?_
  walk_nrm
  refine Walk.callW (Post := fun _ w2 => Kp W w2) ?_ (ho_of (by conv => lhs; whnf) (by kernel_rfl)) (by rfl) (by decide) rfl Try.func18 (by kernel_rfl) (by rfl) ?_
  · walk_nrm
    exact call_n ap0 o.k o.a o.b o.c W
  rintro v1 w1 k1
  walk_nrm
  repeat (first | refine Walk.c rfl ?_ | refine Walk.cRet ?_ | refine Walk.cEnd ?_ | (refine Walk.cReg ?_; simp only [size10_0, size10_1, size10_2, size10_3, size10_4, size10_5, size10_6, size10_8, size10_9, size10_10, size10_11, size10_12, size10_13, size10_14, size10_7, size10_15, List.range, List.range.loop]) | (refine Walk.oq ?_; try walk_nrm) | (refine Walk.un ?_; walk_nrm))
  refine Walk.callV (x := .tuple #[.int .i64 0, .bool false]) (W := w1) ?_ (ho_of (by conv => lhs; whnf) (by kernel_rfl)) (by rfl) (by decide) rfl Try.func25 (by kernel_rfl) (by rfl) ?_
  · walk_nrm
    exact even_n .nilIface w1
  walk_nrm
  repeat (first | refine Walk.c rfl ?_ | refine Walk.cRet ?_ | refine Walk.cEnd ?_ | (refine Walk.cReg ?_; simp only [size10_0, size10_1, size10_2, size10_3, size10_4, size10_5, size10_6, size10_8, size10_9, size10_10, size10_11, size10_12, size10_13, size10_14, size10_7, size10_15, List.range, List.range.loop]) | (refine Walk.oq ?_; try walk_nrm) | (refine Walk.un ?_; walk_nrm))
  refine Walk.callV (x := .int .i64 0) (W := w1) ?_ (ho_of (by conv => lhs; whnf) (by kernel_rfl)) (by rfl) (by decide) rfl Try.func26 (by kernel_rfl) (by rfl) ?_
  · walk_nrm
    exact add_n .nilIface 0 5 w1
  walk_nrm
  repeat (first | refine Walk.c rfl ?_ | refine Walk.cRet ?_ | refine Walk.cEnd ?_ | (refine Walk.cReg ?_; simp only [size10_0, size10_1, size10_2, size10_3, size10_4, size10_5, size10_6, size10_8, size10_9, size10_10, size10_11, size10_12, size10_13, size10_14, size10_7, size10_15, List.range, List.range.loop]) | (refine Walk.oq ?_; try walk_nrm) | (refine Walk.un ?_; walk_nrm))
  refine Walk.callW (Post := Nl w1 (.int .i64 0)) ?_ (ho_of (by conv => lhs; whnf) (by kernel_rfl)) (by rfl) (by decide) rfl Try.func27 (by kernel_rfl) (by rfl) ?_
  · walk_nrm
    exact sum_n w1
  rintro v2 w2 ⟨rfl, k2⟩
  walk_nrm
  repeat (first | refine Walk.c rfl ?_ | refine Walk.cRet ?_ | refine Walk.cEnd ?_ | (refine Walk.cReg ?_; simp only [size10_0, size10_1, size10_2, size10_3, size10_4, size10_5, size10_6, size10_8, size10_9, size10_10, size10_11, size10_12, size10_13, size10_14, size10_7, size10_15, List.range, List.range.loop]) | (refine Walk.oq ?_; try walk_nrm) | (refine Walk.un ?_; walk_nrm))
  refine Walk.callW (Post := Nl w2 (.int .i64 0)) ?_ (ho_of (by conv => lhs; whnf) (by kernel_rfl)) (by rfl) (by decide) rfl Try.func28 (by kernel_rfl) (by rfl) ?_
  · walk_nrm
    exact take_n w2
  rintro v3 w3 ⟨rfl, k3⟩
  walk_nrm
  repeat (first | refine Walk.c rfl ?_ | refine Walk.cRet ?_ | refine Walk.cEnd ?_ | (refine Walk.cReg ?_; simp only [size10_0, size10_1, size10_2, size10_3, size10_4, size10_5, size10_6, size10_8, size10_9, size10_10, size10_11, size10_12, size10_13, size10_14, size10_7, size10_15, List.range, List.range.loop]) | (refine Walk.oq ?_; try walk_nrm) | (refine Walk.un ?_; walk_nrm))
  refine Walk.callV (x := .int .i64 0) (W := w3) ?_ (ho_of (by conv => lhs; whnf) (by kernel_rfl)) (by rfl) (by decide) rfl Try.func17 (by kernel_rfl) (by rfl) ?_
  · walk_nrm
    exact stripes_n w3
  walk_nrm
  repeat (first | refine Walk.c rfl ?_ | refine Walk.cRet ?_ | refine Walk.cEnd ?_ | (refine Walk.cReg ?_; simp only [size10_0, size10_1, size10_2, size10_3, size10_4, size10_5, size10_6, size10_8, size10_9, size10_10, size10_11, size10_12, size10_13, size10_14, size10_7, size10_15, List.range, List.range.loop]) | (refine Walk.oq ?_; try walk_nrm) | (refine Walk.un ?_; walk_nrm))
  refine Walk.callW (Post := Nl w3 (.int .i64 0)) ?_ (ho_of (by conv => lhs; whnf) (by kernel_rfl)) (by rfl) (by decide) rfl Try.func22 (by kernel_rfl) (by rfl) ?_
  · walk_nrm
    exact total_n w3
  rintro v4 w4 ⟨rfl, k4⟩
  walk_nrm
  repeat (first | refine Walk.c rfl ?_ | refine Walk.cRet ?_ | refine Walk.cEnd ?_ | (refine Walk.cReg ?_; simp only [size10_0, size10_1, size10_2, size10_3, size10_4, size10_5, size10_6, size10_8, size10_9, size10_10, size10_11, size10_12, size10_13, size10_14, size10_7, size10_15, List.range, List.range.loop]) | (refine Walk.oq ?_; try walk_nrm) | (refine Walk.un ?_; walk_nrm))
  refine Walk.callW (Post := NlR w4) ?_ (ho_of (by conv => lhs; whnf) (by kernel_rfl)) (by rfl) (by decide) rfl Try.func21 (by kernel_rfl) (by rfl) ?_
  · walk_nrm
    exact all_n w4
  rintro v5 w5 ⟨⟨B5, rfl⟩, k5⟩
  walk_nrm
  have kp : Kp W w5 := ⟨by have := k1.1; have := k2.1; have := k3.1; have := k4.1; have := k5.1; omega, fun b hb => (k5.2 b (by have := k1.1; have := k2.1; have := k3.1; have := k4.1; omega)).trans ((k4.2 b (by have := k1.1; have := k2.1; have := k3.1; omega)).trans ((k3.2 b (by have := k1.1; have := k2.1; omega)).trans ((k2.2 b (by have := k1.1; omega)).trans (k1.2 b hb))))⟩
  have hup : ∀ {y : Nat} {v : Value}, W.cell? ⟨tb, y, none⟩ = some v → w5.cell? ⟨tb, y, none⟩ = some v := fun {y v} h => (World.cell?_of_block (a := ⟨tb, y, none⟩) (kp.2 tb tlt)).trans h
  have I5 := I.kp kp
  have hdo := none_do (main := main) tb toff n0 tc i o hi hn0 w5 (by decide) I5.ik I5.il T ht (hup o0) (hup o1) (hup o2) (hup o3)
  have hW := I5.old
  have hS := I5.size
  have l1 := I5.ik.lt
  have l3 := I5.il.lt
  have hkl := T.kl
  clear I I5 k1 k2 k3 k4 k5 kp hup o0 o1 o2 o3 hcs
  generalize hX : oneS 1 S o = X at *
  obtain ⟨S', a, st⟩ := X
  dsimp only at hdo ⊢
  clear hX
  repeat (first | refine Walk.c rfl ?_ | refine Walk.cRet ?_ | refine Walk.cEnd ?_ | (refine Walk.cReg ?_; simp only [size10_0, size10_1, size10_2, size10_3, size10_4, size10_5, size10_6, size10_8, size10_9, size10_10, size10_11, size10_12, size10_13, size10_14, size10_7, size10_15, List.range, List.range.loop]) | (refine Walk.oq ?_; try walk_nrm) | (refine Walk.un ?_; walk_nrm))
  refine none_do_at (R := fun A B w => AloN kb kr kra krc lb lr lra lrc 1 S S' a w5 (fun _ => true) A B w) hdo ?eq fun u A B w h9 h10 AQ => ?main
  case eq => exact act_slots (by simp only [tmN]; rfl)
  case main =>
    clear hdo
    have qa := (AQ.a1 rfl)
    have qb := (AQ.b1 rfl)
    have r1 := AQ.ik
    have r2 := AQ.il
    have r4 := AQ.old
    have r5 := AQ.size
    simp only [if_true] at r1 r2 qa qb
    have lA := (Array.getElem?_eq_some_iff.1 qa.2).1
    have lB := (Array.getElem?_eq_some_iff.1 qb.2).1
    clear AQ
    simp only [tmN, h9, h10]
    repeat (first | refine Walk.c rfl ?_ | refine Walk.cRet ?_ | refine Walk.cEnd ?_ | (refine Walk.cReg ?_; simp only [size10_0, size10_1, size10_2, size10_3, size10_4, size10_5, size10_6, size10_8, size10_9, size10_10, size10_11, size10_12, size10_13, size10_14, size10_7, size10_15, List.range, List.range.loop]) | (refine Walk.oq ?_; try walk_nrm) | (refine Walk.un ?_; walk_nrm))
    refine Walk.loadS 43 (.tmp 9) (ho_of (by conv => lhs; whnf) (by kernel_rfl)) (by rfl) (by decide) rfl A 0 [.bool a.1, .int .i64 a.2, .slice none 0 0] (.struct fsA) rfl (fun j v hj => ?_) huA rfl (by kernel_rfl) ?_
    · rw [Nat.zero_add, cell_of qa.2]
      simpa using hj
    walk_nrm
    have d1 := heap_alloc_new w (oneA a)
    have o1 : ∀ b, b < w.heap.size → (w.alloc (oneA a)).heap[b]? = w.heap[b]? := fun b hb => heap_new_lt _ _ hb
    have s1 : (w.alloc (oneA a)).heap.size = w.heap.size + 1 := by simp
    (refine Walk.oa ?_; try walk_nrm)
    change Walk Try.prog main (DR (fun _ => none)) _ _ (w.alloc (oneA a))
    have qb1 := (o1 B lB).trans qb.2
    generalize hZ : w.heap.size = Z at *
    generalize w.alloc (oneA a) = x1 at *
    repeat (first | (refine Walk.oq ?_; try walk_nrm) | (refine Walk.un ?_; walk_nrm))
    refine Walk.loadS 43 (.tmp 10) (ho_of (by conv => lhs; whnf) (by kernel_rfl)) (by rfl) (by decide) rfl B 0 [.bool a.1, .int .i64 a.2, .slice none 0 0] (.struct fsA) rfl (fun j v hj => ?_) huA rfl (by kernel_rfl) ?_
    · rw [Nat.zero_add, cell_of qb1]
      simpa using hj
    walk_nrm
    have d2 : (x1.alloc (oneA a)).heap[Z + 1]? = some (oneA a) := s1 ▸ heap_alloc_new x1 (oneA a)
    have o2 : ∀ b, b < Z + 1 → (x1.alloc (oneA a)).heap[b]? = x1.heap[b]? := fun b hb => heap_new_lt _ _ (by omega)
    have s2 : (x1.alloc (oneA a)).heap.size = Z + 2 := by simp [s1]
    (refine Walk.oa ?_; try walk_nrm)
    change Walk Try.prog main (DR (fun _ => none)) _ _ (x1.alloc (oneA a))
    try simp only [s1]
    generalize x1.alloc (oneA a) = x2 at *
    have d1' := (o2 Z (by omega)).trans d1
    have hsa := sa_w (main := main) (V := fun _ => none) (some ⟨Z, 0, none⟩) (some ⟨Z + 1, 0, none⟩) [a] 1 1 (by show 1 ≤ 17592186044416; decide) x2 (oneA_at d1') (oneA_at d2)
    have k2 : Kp w x2 := ⟨by omega, fun b hb => (o2 b (by omega)).trans (o1 b (by omega))⟩
    have J2 : NonI kb kr kra krc lb lr lra lrc 1 S' w5 x2 := NonI.kp ⟨r1, r2, r4, by omega⟩ k2
    clear d1 o1 s1 qb1 d2 o2 d1' k2 qa qb
    repeat (first | (refine Walk.oq ?_; try walk_nrm) | (refine Walk.un ?_; walk_nrm))
    refine Walk.callV (x := .bool true) (W := x2) ?_ (ho_of (by conv => lhs; whnf) (by kernel_rfl)) (by rfl) (by decide) rfl Try.func19 (by kernel_rfl) (by rfl) ?_
    · walk_nrm
      exact hsa
    walk_nrm
    have hst : CallV Try.prog main (fun _ => none) 17 #[.pointer (some ⟨kb, 0, none⟩)] x2 (.int .i64 1) x2 := stripesN_w S' x2 J2.ik
    repeat (first | refine Walk.c rfl ?_ | refine Walk.cRet ?_ | refine Walk.cEnd ?_ | (refine Walk.cReg ?_; simp only [size10_0, size10_1, size10_2, size10_3, size10_4, size10_5, size10_6, size10_8, size10_9, size10_10, size10_11, size10_12, size10_13, size10_14, size10_7, size10_15, List.range, List.range.loop]) | (refine Walk.oq ?_; try walk_nrm) | (refine Walk.un ?_; walk_nrm))
    refine Walk.callV (x := .int .i64 1) (W := x2) ?_ (ho_of (by conv => lhs; whnf) (by kernel_rfl)) (by rfl) (by decide) rfl Try.func17 (by kernel_rfl) (by rfl) ?_
    · walk_nrm
      exact hst
    walk_nrm
    have hal := all_w (main := main) (V := fun _ => none) ap0 S' x2 J2.ik
    repeat (first | refine Walk.c rfl ?_ | refine Walk.cRet ?_ | refine Walk.cEnd ?_ | (refine Walk.cReg ?_; simp only [size10_0, size10_1, size10_2, size10_3, size10_4, size10_5, size10_6, size10_8, size10_9, size10_10, size10_11, size10_12, size10_13, size10_14, size10_7, size10_15, List.range, List.range.loop]) | (refine Walk.oq ?_; try walk_nrm) | (refine Walk.un ?_; walk_nrm))
    refine Walk.callW (Post := AllOut kb kr 1 kra krc S' x2) ?_ (ho_of (by conv => lhs; whnf) (by kernel_rfl)) (by rfl) (by decide) rfl Try.func21 (by kernel_rfl) (by rfl) ?_
    · walk_nrm
      exact hal
    rintro v6 x3 ⟨⟨B6, rfl, hB1, hB2, hT6⟩, hI6, hO6, hZ6⟩
    walk_nrm
    have J3 : NonI kb kr kra krc lb lr lra lrc 1 S' w5 x3 := by
      have := J2.size
      refine ⟨hI6, J2.il.old fun b hb => hO6 b ?_ ?_, fun b hb hOf => (hO6 b (by omega) hOf.1).trans (J2.old b hb hOf), by omega⟩
      · rcases hb with rfl | ⟨hm1, rfl⟩
        · omega
        · omega
      · rcases hb with rfl | ⟨hm1, rfl⟩
        · rintro (h | ⟨hm1, h⟩) <;> omega
        · omega
    have hal := all_w (main := main) (V := fun _ => none) ap0 S' x3 J3.il
    repeat (first | refine Walk.c rfl ?_ | refine Walk.cRet ?_ | refine Walk.cEnd ?_ | (refine Walk.cReg ?_; simp only [size10_0, size10_1, size10_2, size10_3, size10_4, size10_5, size10_6, size10_8, size10_9, size10_10, size10_11, size10_12, size10_13, size10_14, size10_7, size10_15, List.range, List.range.loop]) | (refine Walk.oq ?_; try walk_nrm) | (refine Walk.un ?_; walk_nrm))
    refine Walk.callW (Post := AllOut lb lr 1 lra lrc S' x3) ?_ (ho_of (by conv => lhs; whnf) (by kernel_rfl)) (by rfl) (by decide) rfl Try.func21 (by kernel_rfl) (by rfl) ?_
    · walk_nrm
      exact hal
    rintro v7 x4 ⟨⟨B7, rfl, hC1, hC2, hT7⟩, hI7, hO7, hZ7⟩
    walk_nrm
    have J4 : NonI kb kr kra krc lb lr lra lrc 1 S' w5 x4 := by
      have := J3.size
      refine ⟨J3.ik.old fun b hb => hO7 b ?_ ?_, hI7, fun b hb hOf => (hO7 b (by omega) hOf.2).trans (J3.old b hb hOf), by omega⟩
      · rcases hb with rfl | ⟨hm1, rfl⟩
        · omega
        · omega
      · rcases hb with rfl | ⟨hm1, rfl⟩
        · rintro (h | ⟨hm1, h⟩) <;> omega
        · omega
    have hT6' : Told x4 B6 1 (stL S' 1) := by
      obtain ⟨arr, h1, h2, h3⟩ := hT6
      exact ⟨arr, (hO7 B6 hB2 (by rintro (h | ⟨hm1, h⟩) <;> omega)).trans h1, h2, h3⟩
    have hsl : (stL S' 1).length = 1 := stL_len S' 1
    have hsn := sn_w (main := main) (V := fun _ => none) (some ⟨B6, 0, none⟩) (some ⟨B7, 0, none⟩) (stL S' 1) 1 1 (by omega) x4 hT6'.numA hT7.numA
    rw [hsl] at hsn
    clear hT6 hT6' hT7 hI6 hI7 hO6 hO7 hal hst hsa J2 J3
    repeat (first | refine Walk.c rfl ?_ | refine Walk.cRet ?_ | refine Walk.cEnd ?_ | (refine Walk.cReg ?_; simp only [size10_0, size10_1, size10_2, size10_3, size10_4, size10_5, size10_6, size10_8, size10_9, size10_10, size10_11, size10_12, size10_13, size10_14, size10_7, size10_15, List.range, List.range.loop]) | (refine Walk.oq ?_; try walk_nrm) | (refine Walk.un ?_; walk_nrm))
    refine Walk.callV (x := .bool true) (W := x4) ?_ (ho_of (by conv => lhs; whnf) (by kernel_rfl)) (by rfl) (by decide) rfl Try.func20 (by kernel_rfl) (by rfl) ?_
    · walk_nrm
      exact hsn
    walk_nrm
    repeat (first | refine Walk.c rfl ?_ | refine Walk.cRet ?_ | refine Walk.cEnd ?_ | (refine Walk.cReg ?_; simp only [size10_0, size10_1, size10_2, size10_3, size10_4, size10_5, size10_6, size10_8, size10_9, size10_10, size10_11, size10_12, size10_13, size10_14, size10_7, size10_15, List.range, List.range.loop]) | (refine Walk.oq ?_; try walk_nrm) | (refine Walk.un ?_; walk_nrm))
    refine Walk.ctl rfl (fun w => stepG_inLoop) ?_
    refine .stop fun d => ⟨at_slots ?_, J4.at d |> fun h => ⟨h.ik, h.il, fun b hb hOf => (h.old b (by omega) hOf).trans (hW b hb hOf), by have := h.size; omega⟩⟩
    simp only [hdNon, hcc]
    rfl
theorem none_end (ov : Value) (oa : Option Addr) (n0 tc : Nat) (hov : ov = .slice oa n0 tc) (W : World) (u : Nat → Value) :
    Walk Try.prog main (DR (fun _ => none)) (fun g w => Closing 10 2 (.bool true) g ∧ ∃ d, w = W.at d) (G (hdNon ov kb lb n0 u) []) W := by
  subst hov
  have hj1 : decide ((n0 : Int) < n0) = false := by simp
  have hj3 : decide (n0 < n0) = false := by simp
  conv => arg 5; unfold hdNon
  repeat (first | refine Walk.c rfl ?_ | refine Walk.cRet ?_ | refine Walk.cEnd ?_ | (refine Walk.cReg ?_; simp only [size10_0, size10_1, size10_2, size10_3, size10_4, size10_5, size10_6, size10_8, size10_9, size10_10, size10_11, size10_12, size10_13, size10_14, size10_7, size10_15, List.range, List.range.loop]) | (refine Walk.oq ?_; try walk_nrm) | (refine Walk.un ?_; walk_nrm))
  exact .stop fun d => ⟨⟨_, rfl, rfl, rfl, rfl, rfl, rfl⟩, d, rfl⟩
end
end
end Go.Proofs.Ytnnakajldnaldaa
