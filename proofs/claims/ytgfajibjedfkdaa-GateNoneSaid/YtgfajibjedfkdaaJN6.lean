/-
For all lists of operations: GateNone returns true on every schedule of the goroutines, without a data race, and what was there stands. Conditions: none beyond the statement's own.
-/
import Derived.Test.YtgfajibjedfkdaaJN1
import Derived.Test.YtgfajibjedfkdaaJN4
import Derived.Test.YtgfajibjedfkdaaJN5
import Derived.Test.YtgfajibjedfkdaaJN7
import Derived.Test.YtgfajibjedfkdaaJN8
import Derived.Test.YtgfajibjedfkdaaRows
import Derived.Conc.LeavingOf
import Derived.Lib.SmallJoins
import Derived.Handy
import Derived.SizedLaws
import Derived.Carry
import Derived.Deep.Slices
import Derived.Deep.Fields
set_option linter.unusedSimpArgs false
set_option linter.unusedVariables false
set_option maxHeartbeats 8000000
set_option maxRecDepth 100000
namespace Go.Proofs.Ytgfajibjedfkdaa
open Go.Conc Go.RowKit Go.Relay
open Go.ConcN (upd upd_ne upd_same)
theorem zC10 : List.range reg10_0.size = [0] ∧ List.range reg10_1.size = [0, 1] ∧ List.range reg10_2.size = [0] ∧ List.range reg10_3.size = [0] ∧ List.range reg10_4.size = [0, 1, 2] ∧ List.range reg10_5.size = [0, 1] ∧ List.range reg10_6.size = [0] ∧ List.range reg10_7.size = [0, 1] ∧ List.range reg10_8.size = [0, 1, 2] ∧ List.range reg10_9.size = [0, 1, 2] ∧ List.range reg10_10.size = [0] ∧ List.range reg10_11.size = [0, 1, 2, 3] ∧ List.range reg10_12.size = [0, 1, 2] ∧ List.range reg10_13.size = [0, 1, 2, 3, 4, 5] ∧ List.range reg10_29.size = [0, 1, 2, 3, 4, 5, 6, 7, 8, 9, 10, 11, 12, 13, 14, 15, 16, 17] ∧ List.range reg10_30.size = [0] ∧ List.range reg10_31.size = [0] := by refine ⟨?_, ?_, ?_, ?_, ?_, ?_, ?_, ?_, ?_, ?_, ?_, ?_, ?_, ?_, ?_, ?_, ?_⟩ <;> kernel_rfl
section
theorem nilA_14 (ok oa ob oc : Int) (h1 : 1 ≤ ok) (h2 : ok ≤ 4) : nilA ⟨ok, oa, ob, oc⟩ = ⟨false, nilE oa, []⟩ := by
  have h : ok = 1 ∨ ok = 2 ∨ ok = 3 ∨ ok = 4 := by omega
  rcases h with rfl | rfl | rfl | rfl <;> rfl
theorem nilA_no (ok oa ob oc : Int) (h1 : ok < 1 ∨ 7 < ok) : nilA ⟨ok, oa, ob, oc⟩ = ⟨false, 0, []⟩ := by
  unfold nilA
  rw [if_neg (by show ¬ ok = 1; omega), if_neg (by show ¬ ok = 2; omega), if_neg (by show ¬ ok = 3; omega), if_neg (by show ¬ ok = 4; omega), if_neg (by show ¬ ok = 5; omega), if_neg (by show ¬ ok = 6; omega), if_neg (by show ¬ ok = 7; omega)]
section
variable {Fr : Nat → Prop} {zb wb : Nat} {s s' : Gt} {a : Ans} {main : Bool}
theorem no_b (lv : Value) (i E : Nat) (o : OpV) (W0 w : World) (I : NoI Fr zb wb s W0 w) (hE : w.heap[E]? = some (.cells #[.int .i64 o.k, .int .i64 o.a, .int .i64 o.b, .int .i64 o.c] 84)) (cs : List Frame) (u : Nat → Value) :
    Walk Try.prog main (DR (fun _ => none)) (fun g w' => ∃ C D, (∃ u, g = G (mdQ lv zb wb i E C D u) cs) ∧ NoP Fr zb wb s (nilA o) C D W0 w') (G (mdP lv zb wb i E u) cs) w := by
  obtain ⟨ok, oa, ob, oc⟩ := o
  by_cases a1 : 1 ≤ ok
  · by_cases a2 : ok ≤ 4
    · have hn := nilA_14 ok oa ob oc a1 a2
      by_cases a3 : oa < 0
      · have he : nilE oa = 1 := if_neg (by unfold gOK; omega)
        rw [he] at hn
        rw [hn]
        exact no_b1 lv i E ok oa ob oc a1 a2 a3 hn W0 w I hE cs u
      · by_cases a4 : 64 ≤ oa
        · have he : nilE oa = 1 := if_neg (by unfold gOK; omega)
          rw [he] at hn
          rw [hn]
          exact no_b2 lv i E ok oa ob oc a1 a2 a3 a4 hn W0 w I hE cs u
        · have he : nilE oa = 6 := if_pos (by unfold gOK; omega)
          rw [he] at hn
          rw [hn]
          exact no_b3 lv i E ok oa ob oc a1 a2 a3 a4 hn W0 w I hE cs u
    · by_cases a5 : ok = 5
      · subst a5
        have hn : nilA ⟨5, oa, ob, oc⟩ = ⟨true, 0, []⟩ := rfl
        rw [hn]
        exact no_b5 lv i E oa ob oc hn W0 w I hE cs u
      by_cases a6 : ok = 6
      · subst a6
        have hn : nilA ⟨6, oa, ob, oc⟩ = ⟨true, oa, [-1]⟩ := rfl
        rw [hn]
        exact no_b6 lv i E oa ob oc hn W0 w I hE cs u
      by_cases a7 : ok = 7
      · subst a7
        have hn : nilA ⟨7, oa, ob, oc⟩ = ⟨true, -1, []⟩ := rfl
        rw [hn]
        exact no_b7 lv i E oa ob oc hn W0 w I hE cs u
      have hn := nilA_no ok oa ob oc (.inr (by omega))
      rw [hn]
      exact no_b8 lv i E ok oa ob oc a2 a5 a6 a7 hn W0 w I hE cs u
  · have hn := nilA_no ok oa ob oc (.inl (by omega))
    rw [hn]
    exact no_b4 lv i E ok oa ob oc a1 hn W0 w I hE cs u
theorem no_c (lv : Value) (la : Option Addr) (n0 lc : Nat) (hlv : lv = .slice la n0 lc) (hn0 : n0 ≤ 17592186044416) (i E C D : Nat) (hi : i < n0) (X : Ans) (W0 w : World) (M : NoP Fr zb wb s X C D W0 w) (cs : List Frame) (u : Nat → Value) :
    Walk Try.prog main (DR (fun _ => none)) (fun g w' => (∃ u, g = G (hdNo lv zb wb (i + 1) u) cs) ∧ NoI Fr zb wb s W0 w') (G (mdQ lv zb wb i E C D u) cs) w := by
  have hw1 : IntKind.wrap .i64 ((i : Int) + 1) = (i : Int) + 1 := by rw [IntKind.wrap_i64]; omega
  have hcc : ((i + 1 : Nat) : Int) = (i : Int) + 1 := by simp
  clear hlv
  obtain ⟨fsA, huA⟩ := structT 81 (by kernel_rfl)
  obtain ⟨⟨_, qa, ⟨ba, ca, rfl, hln⟩, ra⟩, ⟨_, qb, ⟨bb, cb, rfl, _⟩, rb⟩, I⟩ := M
  have hnm := members_nil (main := main) (V := fun _ => none)
  have hnn := numbers_nil (main := main) (V := fun _ => none)
  conv => arg 5; unfold mdQ
  refine Walk.loadS 81 (.tmp 11) (ho_of (by conv => lhs; whnf) (by kernel_rfl)) (by rfl) (by decide) rfl C 0 [.bool X.ok, .int .i64 X.n, .slice ba X.l.length ca] (.struct fsA) rfl (fun j v hj => ?_) huA rfl (by kernel_rfl) ?_
  · have qa2 := qa
    unfold ansB at qa2
    rw [Nat.zero_add, cell_of qa2]
    simpa using hj
  walk_nrm
  have d1 := heap_alloc_new w (ansB X (.slice ba X.l.length ca))
  have o1 : ∀ b, b < w.heap.size → (w.alloc (ansB X (.slice ba X.l.length ca))).heap[b]? = w.heap[b]? := fun b hb => heap_new_lt _ _ hb
  have s1 : (w.alloc (ansB X (.slice ba X.l.length ca))).heap.size = w.heap.size + 1 := by simp
  (refine Walk.oa ?_; try walk_nrm)
  change Walk Try.prog main (DR (fun _ => none)) _ _ (w.alloc (ansB X (.slice ba X.l.length ca)))
  have hlt : ∀ b, Fr b → b < w.heap.size := fun b hb => by
    obtain ⟨_, _, _, _, _, h4⟩ := I.two
    exact (h4 b hb).1
  have hs0 := I.size
  have I1 : NoI Fr zb wb s W0 (w.alloc (ansB X (.slice ba X.l.length ca))) := ⟨I.two.on o1 (by omega) fun b hb => .inl hb, fun b hb => (o1 b (hlt b hb)).trans (I.old b hb), by omega⟩
  have qb1 := (o1 D (Array.getElem?_eq_some_iff.1 qb).1).trans qb
  have ra1 := row_same ra fun b hb => o1 b (ra.lt b hb).2
  have rb1 := row_same rb fun b hb => o1 b (rb.lt b hb).2
  clear I qa qb ra rb o1 hs0
  generalize hZ : w.heap.size = Z at *
  generalize w.alloc (ansB X (.slice ba X.l.length ca)) = x1 at *
  repeat (first | (refine Walk.oq ?_; try walk_nrm) | (refine Walk.un ?_; walk_nrm))
  refine Walk.loadS 81 (.tmp 12) (ho_of (by conv => lhs; whnf) (by kernel_rfl)) (by rfl) (by decide) rfl D 0 [.bool X.ok, .int .i64 X.n, .slice bb X.l.length cb] (.struct fsA) rfl (fun j v hj => ?_) huA rfl (by kernel_rfl) ?_
  · have qa2 := qb1
    unfold ansB at qa2
    rw [Nat.zero_add, cell_of qa2]
    simpa using hj
  walk_nrm
  have d2 : (x1.alloc (ansB X (.slice bb X.l.length cb))).heap[Z + 1]? = some (ansB X (.slice bb X.l.length cb)) := s1 ▸ heap_alloc_new x1 (ansB X (.slice bb X.l.length cb))
  have o2 : ∀ b, b < Z + 1 → (x1.alloc (ansB X (.slice bb X.l.length cb))).heap[b]? = x1.heap[b]? := fun b hb => heap_new_lt _ _ (by omega)
  have s2 : (x1.alloc (ansB X (.slice bb X.l.length cb))).heap.size = Z + 2 := by simp [s1]
  (refine Walk.oa ?_; try walk_nrm)
  change Walk Try.prog main (DR (fun _ => none)) _ _ (x1.alloc (ansB X (.slice bb X.l.length cb)))
  try simp only [s1]
  have hs1 := I1.size
  have I2 : NoI Fr zb wb s W0 (x1.alloc (ansB X (.slice bb X.l.length cb))) := ⟨I1.two.on (fun b hb => o2 b (by omega)) (by omega) fun b hb => .inl hb, fun b hb => (o2 b (by have := hlt b hb; omega)).trans (I1.old b hb), by omega⟩
  have ra2 := row_same ra1 fun b hb => o2 b (by have := (ra1.lt b hb).2; omega)
  have rb2 := row_same rb1 fun b hb => o2 b (by have := (rb1.lt b hb).2; omega)
  have d1' := (o2 Z (by omega)).trans d1
  generalize x1.alloc (ansB X (.slice bb X.l.length cb)) = x2 at *
  have hsa := sa_w (main := main) (V := fun _ => none) (some ⟨Z, 0, none⟩) (some ⟨Z + 1, 0, none⟩) [X] 1 1 (by show 1 ≤ 17592186044416; decide) x2 (oneA d1' (numA_of ra2) (by omega)) (oneA d2 (numA_of rb2) (by omega))
  clear d1 s1 s2 qb1 d2 o2 d1' ra1 rb1 ra2 rb2 I1 hs1 hlt
  repeat (first | (refine Walk.oq ?_; try walk_nrm) | (refine Walk.un ?_; walk_nrm))
  refine Walk.callV (x := .bool true) (W := x2) ?_ (ho_of (by conv => lhs; whnf) (by kernel_rfl)) (by rfl) (by decide) rfl Try.func31 (by kernel_rfl) (by rfl) ?_
  · walk_nrm
    exact hsa
  walk_nrm
  clear hsa
  repeat (first | refine Walk.cx ?_ | (refine Walk.cReg ?_; simp only [zC10]) | (refine Walk.oq ?_; try walk_nrm) | (refine Walk.un ?_; walk_nrm))
  refine Walk.callV (x := .slice none 0 0) (W := x2) ?_ (ho_of (by conv => lhs; whnf) (by kernel_rfl)) (by rfl) (by decide) rfl Try.func34 (by kernel_rfl) (by rfl) ?_
  · walk_nrm
    exact hnm x2
  walk_nrm
  repeat (first | refine Walk.cx ?_ | (refine Walk.cReg ?_; simp only [zC10]) | (refine Walk.oq ?_; try walk_nrm) | (refine Walk.un ?_; walk_nrm))
  refine Walk.callV (x := .slice none 0 0) (W := x2) ?_ (ho_of (by conv => lhs; whnf) (by kernel_rfl)) (by rfl) (by decide) rfl Try.func35 (by kernel_rfl) (by rfl) ?_
  · walk_nrm
    exact hnn x2
  walk_nrm
  clear hnm hnn
  repeat (first | refine Walk.cx ?_ | (refine Walk.cReg ?_; simp only [zC10]) | (refine Walk.oq ?_; try walk_nrm) | (refine Walk.un ?_; walk_nrm))
  refine Walk.ctl rfl (fun w => stepG_inLoop) ?_
  refine .stop fun d => ⟨at_slots ?_, I2.at d⟩
  simp only [hdNo, hcc]
  rfl
theorem no_end (lv : Value) (la : Option Addr) (n0 lc : Nat) (hlv : lv = .slice la n0 lc) (w : World) (u : Nat → Value) :
    Walk Try.prog main (DR (fun _ => none)) (fun g w' => Closing 10 2 (.bool true) g ∧ ∃ d, w' = w.at d) (G (hdNo lv zb wb n0 u) []) w := by
  subst hlv
  have h1 : decide ((n0 : Int) < n0) = false := by simp
  have h2 : decide (n0 < n0) = false := by simp
  conv => arg 5; unfold hdNo
  repeat (first | refine Walk.cx ?_ | (refine Walk.cReg ?_; simp only [zC10]) | (refine Walk.oq ?_; try walk_nrm) | (refine Walk.un ?_; walk_nrm))
  exact .stop fun d => ⟨⟨_, rfl, rfl, rfl, rfl, rfl, rfl⟩, d, rfl⟩
end
end
section
theorem ngArr_zeroAt (i : Nat) (hi : i < 64) : (ngArr 0)[1 + i]? = some (.int .i64 0) := by
  obtain ⟨n, hn⟩ : ∃ n, n = 64 := ⟨64, rfl⟩
  unfold ngArr
  rw [← hn, Nat.add_comm 1 i]
  simp only [List.replicate_zero, List.nil_append, Nat.sub_zero]
  rw [Array.getElem?_append_right (by simp)]
  simp [List.getElem?_replicate, show i < n by omega]
theorem zero_gt {w : World} {b : Nat} (h : w.heap[b]? = some (.cells (ngArr 0) 105)) : GtI b [Hl.no] ⟨0, [], fun _ => 0⟩ w := by
  refine ⟨rfl, ⟨_, Hl.no, h, by simp [ngArr], rfl, rfl, rfl, fun i hi => ngArr_zeroAt i hi⟩, fun x hx => ?_, fun i j x x' hi hj _ => ?_, fun x hx => ?_⟩
  · rw [List.mem_singleton.1 hx]
    exact HlI.none w
  · have h1 := (List.getElem?_eq_some_iff.1 hi).1
    have h2 := (List.getElem?_eq_some_iff.1 hj).1
    simp at h1 h2
    omega
  · rw [List.mem_singleton.1 hx]
    intro hb
    rcases hb with hb | hb <;> cases hb
theorem sh_no {gb b : Nat} (h : gtSh gb [Hl.no] b) : b = gb := by
  rcases h with h | ⟨x, hx, hb⟩
  · exact h
  · rw [List.mem_singleton.1 hx] at hb
    rcases hb with hb | hb <;> cases hb
theorem GtI.nums {gb : Nat} {y : List Hl} {s s' : Gt} {w : World} (h : GtI gb y s w) (hk : s.k = s'.k) (hl : s.l = s'.l) (hn : ∀ i, i < 64 → s.n i = s'.n i) : GtI gb y s' w := by
  obtain ⟨h1, ⟨arr, x, a1, a2, a3, a4, a5, a6⟩, h3, h4, h5⟩ := h
  exact ⟨by rw [← hk]; exact h1, ⟨arr, x, a1, a2, by rw [← hk]; exact a3, by rw [← hl]; exact a4, a5, fun i hi => by rw [← hn i hi]; exact a6 i hi⟩, h3, h4, h5⟩
def stN : Nat → Gt
  | 0 => ⟨0, [], fun _ => -1⟩
  | i + 1 => (stN i).put i 0
theorem stN_k : ∀ i, (stN i).k = 0
  | 0 => rfl
  | i + 1 => stN_k i
theorem stN_l : ∀ i, (stN i).l = []
  | 0 => rfl
  | i + 1 => stN_l i
theorem stN_n : ∀ i j, j < i → (stN i).n j = 0
  | i + 1, j, h => by
    show upd (stN i).n i 0 j = 0
    by_cases e : j = i
    · rw [e, upd_same]
    · rw [upd_ne _ _ e]
      exact stN_n i j (by omega)
section
variable {main : Bool} {V : Nat → Option Wait} {Fr : Nat → Prop} {zb wb : Nat} {s t : Gt} {w : World}
theorem two_set (hA : ∀ b, Apart V b) (T : Two Fr zb wb s t w) (j : Nat) (hj : j < 64) : CallP main V 36 #[.pointer (some ⟨wb, 0, none⟩), .nilIface, .int .i64 j, .int .i64 0] w (fun v w' => (∃ x, v = .int .i64 x) ∧ Two Fr zb wb s (t.put j 0) w' ∧ (∀ b, Fr b → w'.heap[b]? = w.heap[b]?) ∧ w.heap.size ≤ w'.heap.size) := by
  have hg : gOK (j : Int) := ⟨by omega, by omega⟩
  have hrun : runG 1 (t, if gOK (j : Int) then .inr (.s1 j 0) else gErr 1) = some (t.put j 0, ⟨true, 0, []⟩) := by rw [if_pos hg]; rfl
  refine (two_call hA T.swap (Rel := fun x b _ _ => ∃ c', x = .int .i64 c') 1 _ (fun _ _ _ _ _ h => h) hrun (fun K e hw ht => (gset_all K e j 0 ht).mono fun x e' ⟨c', h1, h2⟩ => ⟨_, ⟨c', h1⟩, h2⟩)).mono ?_
  rintro v w' ⟨Q, hv, _, T', ho, hs⟩
  exact ⟨hv, T'.swap.weak fun b hb => .inl hb, ho, hs⟩
end
noncomputable def hdSt (lv : Value) (zb wb i : Nat) (u : Nat → Value) : Frame :=
  (base 10).at { tmps := #[lv, u 1, u 2, .pointer none, .pointer (some ⟨zb, 0, none⟩), .pointer (some ⟨wb, 0, none⟩), .int .i64 i, u 7, u 8, u 9, u 10, u 11, u 12, u 13, u 14, u 15, u 16, u 17, u 18, u 19, u 20, u 21, u 22, u 23, u 24, u 25, u 26, u 27, u 28, u 29, u 30, u 31, u 32, u 33, u 34, u 35, u 36, u 37, u 38, u 39, u 40, u 41, u 42, u 43, u 44, u 45, u 46, u 47, u 48, u 49, u 50, u 51, u 52, u 53, u 54, u 55, u 56, u 57, u 58, u 59, u 60, u 61, u 62, u 63, u 64, u 65, u 66, u 67, u 68, u 69, u 70, u 71, u 72, u 73, u 74, u 75, u 76, u 77, u 78, u 79, u 80, u 81, u 82, u 83, u 84, u 85, u 86, u 87, u 88, u 89, u 90, u 91, u 92, u 93, u 94, u 95, u 96, u 97, u 98, u 99, u 100, u 101, u 102, u 103, u 104, u 105, u 106, u 107, u 108, u 109, u 110, u 111, u 112, u 113, u 114, u 115, u 116, u 117, u 118, u 119, u 120, u 121, u 122, u 123, u 124, u 125, u 126, u 127, u 128, u 129, u 130, u 131, u 132, u 133, u 134], defers := [] } [.code (.seq (.seq (.region 7 reg10_7 false) (.cond (.tmp 19 ) (.skip) (.exit 0))) (.seq (.block 1 (.region 9 reg10_9 false)) (.region 8 reg10_8 false))), .inLoop (.seq (.seq (.region 7 reg10_7 false) (.cond (.tmp 19 ) (.skip) (.exit 0))) (.seq (.block 1 (.region 9 reg10_9 false)) (.region 8 reg10_8 false))), .inBlock 0, .code (.seq (.seq (.region 10 reg10_10 false) (.block 2 (.loop (.seq (.seq (.region 11 reg10_11 false) (.cond (.tmp 28 ) (.skip) (.exit 2))) (.seq (.block 3 (.seq (.region 13 reg10_13 false) (.seq (.region 14 reg10_14 true) (.seq (.seq (.region 15 reg10_15 false) (.cond (.tmp 64 ) (.seq (.region 16 reg10_16 false) (.ret)) (.skip))) (.seq (.region 17 reg10_17 false) (.seq (.region 18 reg10_18 false) (.seq (.block 4 (.seq (.region 19 reg10_19 false) (.cond (.tmp 69 ) (.region 20 reg10_20 false) (.seq (.region 21 reg10_21 false) (.cond (.tmp 89 ) (.region 22 reg10_22 false) (.seq (.region 23 reg10_23 false) (.cond (.tmp 99 ) (.region 24 reg10_24 false) (.seq (.region 25 reg10_25 false) (.cond (.tmp 104 ) (.region 26 reg10_26 false) (.seq (.region 27 reg10_27 false) (.cond (.tmp 112 ) (.region 28 reg10_28 false) (.skip)))))))))))) (.seq (.region 29 reg10_29 false) (.cond (.tmp 134 ) (.seq (.region 30 reg10_30 false) (.ret)) (.skip)))))))))) (.region 12 reg10_12 false)))))) (.seq (.region 31 reg10_31 false) (.ret)))]
structure NsI (Fr : Nat → Prop) (zb wb i : Nat) (W w : World) : Prop where
  two : Two Fr zb wb ⟨0, [], fun _ => 0⟩ (stN i) w
  old : ∀ b, Fr b → w.heap[b]? = W.heap[b]?
  size : W.heap.size ≤ w.heap.size
theorem NsI.at {Fr : Nat → Prop} {zb wb i : Nat} {W w : World} (h : NsI Fr zb wb i W w) (d : Nat) : NsI Fr zb wb i W (w.at d) := ⟨h.two.at d, h.old, h.size⟩
section
variable {Fr : Nat → Prop} {zb wb : Nat}
theorem st_go (lv : Value) (i : Nat) (hi : i < 64) (W w : World) (M : NsI Fr zb wb i W w) (u : Nat → Value) :
    Walk Try.prog true (DR (fun _ => none)) (fun g w' => (∃ u, g = G (hdSt lv zb wb (i + 1) u) []) ∧ NsI Fr zb wb (i + 1) W w') (G (hdSt lv zb wb i u) []) w := by
  have hset := two_set (main := true) (V := fun _ => none) ap0 M.two i hi
  have hold := M.old
  have hsz := M.size
  clear M
  have hi0 : (0 : Int) ≤ i := by omega
  have hi1 : decide ((i : Int) < 64) = true := by simp; omega
  have hi3 : decide (i < 64) = true := by simp; omega
  have hi4 : (i : Int) < 64 := by omega
  have hw1 : IntKind.wrap .i64 ((i : Int) + 1) = (i : Int) + 1 := by rw [IntKind.wrap_i64]; omega
  have hcc : ((i + 1 : Nat) : Int) = (i : Int) + 1 := by simp
  conv => arg 5; unfold hdSt
  repeat (first | refine Walk.cx ?_ | (refine Walk.cReg ?_; simp only [zC10]) | (refine Walk.oq ?_; try walk_nrm) | (refine Walk.un ?_; walk_nrm))
  refine Walk.callP (Post := fun v w' => (∃ x, v = .int .i64 x) ∧ Two Fr zb wb ⟨0, [], fun _ => 0⟩ ((stN i).put i 0) w' ∧ (∀ b, Fr b → w'.heap[b]? = w.heap[b]?) ∧ w.heap.size ≤ w'.heap.size) ?_ (ho_of (by conv => lhs; whnf) (by kernel_rfl)) (by rfl) (by decide) rfl Try.func36 (by kernel_rfl) (by rfl) ⟨rfl, rfl, _, Try.func10⟩ ?_
  · walk_nrm
    exact hset
  rintro v w1 ⟨⟨x, rfl⟩, T1, o1, z1⟩
  have I1 : NsI Fr zb wb (i + 1) W w1 := ⟨T1, fun b hb => (o1 b hb).trans (hold b hb), by omega⟩
  clear hset hold T1 o1 z1 hsz
  generalize hQ : NsI Fr zb wb (i + 1) W = Q at *
  walk_nrm
  repeat (first | refine Walk.cx ?_ | (refine Walk.cReg ?_; simp only [zC10]) | (refine Walk.oq ?_; try walk_nrm) | (refine Walk.un ?_; walk_nrm))
  refine Walk.ctl rfl (fun w => stepG_inLoop) ?_
  refine .stop fun d => ⟨at_slots ?_, ?_⟩
  · simp only [hdSt, hcc]
    rfl
  · subst hQ
    exact I1.at d
theorem st_end (lv : Value) (W w : World) (M : NsI Fr zb wb 64 W w) (u : Nat → Value) :
    Walk Try.prog true (DR (fun _ => none)) (fun g w' => (∃ u, g = G (hdNo lv zb wb 0 u) []) ∧ NoI Fr zb wb ⟨0, [], fun _ => 0⟩ W w') (G (hdSt lv zb wb 64 u) []) w := by
  have I : NoI Fr zb wb ⟨0, [], fun _ => 0⟩ W w := by
    obtain ⟨⟨y, z, h1, h2, h3, h4⟩, h5, h6⟩ := M
    exact ⟨⟨y, z, h1, h2.nums (stN_k 64) (stN_l 64) fun i hi => stN_n 64 i hi, h3, h4⟩, h5, h6⟩
  clear M
  generalize hQ : NoI Fr zb wb ⟨0, [], fun _ => 0⟩ W = Q at *
  conv => arg 5; unfold hdSt
  repeat (first | refine Walk.cx ?_ | (refine Walk.cReg ?_; simp only [zC10]) | (refine Walk.oq ?_; try walk_nrm) | (refine Walk.un ?_; walk_nrm))
  refine Walk.ctl rfl (fun w => stepG_loop) ?_
  refine .stop fun d => ⟨at_slots ?_, ?_⟩
  · simp only [hdNo]
    rfl
  · subst hQ
    exact I.at d
theorem st_all (lv : Value) (W : World) : ∀ (r i : Nat) (u : Nat → Value) (w : World), i + r = 64 → NsI Fr zb wb i W w →
    Walk Try.prog true (DR (fun _ => none)) (fun g w' => (∃ u, g = G (hdNo lv zb wb 0 u) []) ∧ NoI Fr zb wb ⟨0, [], fun _ => 0⟩ W w') (G (hdSt lv zb wb i u) []) w := by
  intro r
  induction r with
  | zero =>
    intro i u w hi M
    have hi : i = 64 := hi
    subst hi
    exact st_end lv W w M u
  | succ r ih =>
    intro i u w hi M
    refine (st_go lv i (by omega) W w M u).then ?_
    rintro _ w' ⟨⟨u', rfl⟩, M'⟩
    exact ih (i + 1) u' w' (by omega) M'
end
theorem none_in (ov : Value) (w : World) : Walk Try.prog true (DR (fun _ => none)) (fun g w' => ∃ fr, g = G (Frame.enter Try.prog 25 #[] .normal) [fr] ∧ (∃ d, w' = w.at d) ∧ Plain fr ∧ ∀ w1,
      Walk Try.prog true (DR (fun _ => none)) (fun g w' => (∃ u, g = G (hdSt ov w1.heap.size (w1.heap.size + 1) 0 u) []) ∧ NsI (fun b => b < w1.heap.size) w1.heap.size (w1.heap.size + 1) 0 w1 w') (G (fr.finish (.bool true)) []) w1)
    (G (Frame.enter Try.prog 10 #[ov] .normal) []) w := by
  rw [enter_at _ Try.func10 code10_is]
  simp only [Try.ntmps10, List.size_toArray, List.length_cons, List.length_nil, Nat.reduceAdd, Nat.reduceSub, Array.replicate_succ, Array.replicate_zero, List.push_toArray, List.append_toArray, List.nil_append, List.cons_append]
  repeat (first | refine Walk.cx ?_ | (refine Walk.cReg ?_; simp only [zC10]) | (refine Walk.oq ?_; try walk_nrm) | (refine Walk.un ?_; walk_nrm))
  refine Walk.callE (ho_of (by conv => lhs; whnf) (by kernel_rfl)) (by rfl) (by decide) rfl Try.func25 (by kernel_rfl) (by rfl) ?_
  walk_nrm
  refine .stop fun d => ⟨_, rfl, ⟨d, rfl⟩, ⟨rfl, rfl, _, Try.func10⟩, fun w1 => ?_⟩
  refine Walk.finish (ho_of (by conv => lhs; whnf) (by kernel_rfl)) ?_
  walk_nrm
  repeat (first | refine Walk.cx ?_ | (refine Walk.cReg ?_; simp only [zC10]) | (refine Walk.oq ?_; try walk_nrm) | (refine Walk.un ?_; walk_nrm))
  (refine Walk.oa ?_; try walk_nrm)
  have s2 : (w1.alloc (.cells Try.zeroCells105 105)).heap.size = w1.heap.size + 1 := by simp
  have o2 : ∀ b, b < w1.heap.size → (w1.alloc (.cells Try.zeroCells105 105)).heap[b]? = w1.heap[b]? := fun b hb => heap_new_lt _ _ hb
  have d2 : (w1.alloc (.cells Try.zeroCells105 105)).heap[w1.heap.size]? = some (.cells (ngArr 0) 105) := by
    rw [← ngArr_zero]
    exact heap_alloc_new w1 _
  generalize hT : w1.heap.size = T at *
  generalize w1.alloc (.cells Try.zeroCells105 105) = x2 at *
  have hn1 := ngate_w (main := true) (V := fun _ => none) x2 (fun b _ => ap0 b)
  rw [s2] at hn1
  repeat (first | refine Walk.cx ?_ | (refine Walk.cReg ?_; simp only [zC10]) | (refine Walk.oq ?_; try walk_nrm) | (refine Walk.un ?_; walk_nrm))
  refine Walk.callW (Post := fun v w' => v = .pointer (some ⟨T + 1, 0, none⟩) ∧ NgI x2 64 w') ?_ (ho_of (by conv => lhs; whnf) (by kernel_rfl)) (by rfl) (by decide) rfl Try.func29 (by kernel_rfl) (by rfl) ?_
  · walk_nrm
    exact hn1
  rintro v w3 ⟨rfl, N3⟩
  clear hn1
  have g3 := N3.gt
  rw [s2] at g3
  have hb3 := (Array.getElem?_eq_some_iff.1 N3.blk).1
  rw [s2] at hb3
  have hz3 : T + 1 < w3.heap.size := hb3
  have z3 : GtI T [Hl.no] ⟨0, [], fun _ => 0⟩ w3 := zero_gt ((N3.old T (by omega)).trans d2)
  have I3 : NsI (fun b => b < T) T (T + 1) 0 w1 w3 := by
    refine ⟨⟨[Hl.no], [Hl.no], z3, g3, fun b h1 h2 => ?_, fun b hb => ⟨by omega, fun h => ?_, fun h => ?_⟩⟩, fun b hb => (N3.old b (by omega)).trans (o2 b (by omega)), by omega⟩
    · have := sh_no h1
      have := sh_no h2
      omega
    · have := sh_no h
      omega
    · have := sh_no h
      omega
  clear g3 z3 N3 d2 o2 s2 hb3 hz3
  generalize hQ : NsI (fun b => b < T) T (T + 1) 0 w1 = Q at *
  clear hT
  walk_nrm
  repeat (first | refine Walk.cx ?_ | (refine Walk.cReg ?_; simp only [zC10]) | (refine Walk.oq ?_; try walk_nrm) | (refine Walk.un ?_; walk_nrm))
  refine Walk.ctl rfl (fun w => stepG_loop) ?_
  refine .stop fun d => ⟨at_slots ?_, ?_⟩
  · simp only [hdSt]
    rfl
  · subst hQ
    exact I3.at d
end
section
open Go.ChangeShapes Go.WideShapes Go.ChangeAt Go.Joins Go.Deep
theorem prog_own : ownKnob Try.prog.godebug = none := by kernel_rfl
def Left (W : World) (v : Value) (w' : World) : Prop := v = .bool true ∧ w'.os = W.os ∧ w'.output = W.output ∧ ∀ b, b < W.heap.size → w'.heap[b]? = W.heap[b]?
theorem Left.kept {W w' : World} {v : Value} (h : Left W v w') (may : MemPlace → Prop) : W.keptBut w' may := by
  refine ⟨h.2.1, h.2.2.1, fun i hi => ?_⟩
  rw [h.2.2.2 i hi]
  split <;> simp_all
theorem und4_is : Try.prog.underlying 4 = some .bool := by kernel_rfl
theorem stepG_done {P : Program} {fr : Frame} {w : World} {fn : Func} {v : Value} (hm : fr.mode = .returning) (hn : fr.kind = .normal) (hd : fr.defers = []) (hf : P.funcs[fr.fn]? = some fn) (hr : (results fn fr.tmps).run P w = .ok v w) (he : (results fn fr.tmps).events P w #[] = #[]) (hi : P.inits.idxOf? fr.fn = none) :
    stepG P true (G fr []) w = .ended (.done v) w #[] := by
  simp [G, stepG, unwind, doReturn, hm, hd, hn, hf, hr, he, hi, GStep.after, seen_none]
theorem run_claim {f : FuncId} {fn : Func} {args : Array Value} {W : World} {Post : Value → World → Prop} {v : Value} {t : Tmp} (hf : Try.prog.funcs[f]? = some fn) (hres : fn.results = #[.tmp t]) (hi : Try.prog.inits.idxOf? f = none)
    (h : Runs (fun g w' => Closing f t v g ∧ (OsSame W w' → ∀ d, Post v (w'.at d))) (G (Frame.enter Try.prog f args .normal) []) W) :
    ∃ M last o w' t', runNT Try.prog (M + 1) (solo (G (Frame.enter Try.prog f args .normal) []) W) #[] = (.ended o w', t') ∧ Go.runN Try.prog M (solo (G (Frame.enter Try.prog f args .normal) []) W) = .next last ∧ step Try.prog last = .ended o w' ∧ Go.Conc.Good Try.prog Post last o w' t' := by
  rw [solo_eq_crowd]
  have A0 := at_begin (P := Try.prog) (gs := #[G (Frame.enter Try.prog f args .normal) []]) (a := G (Frame.enter Try.prog f args .normal) []) (sl := none) (w := W) rfl (leavers_one Try.prog _) past_nil
  obtain ⟨N1, m1, T1, r1, ⟨nG, g1, w1, _, ⟨⟨fr, rfl, hm, hn, hd, hfn, hv⟩, hP⟩, A1⟩, ho⟩ := h 1 _ _ (Nat.le_refl _) A0
  obtain ⟨gs, sl, q, B, rfl, _, hg0, hL, hPast⟩ := A1.ends (fun _ => rfl)
  have hP := hP ho
  have hs : ∀ d, stepG Try.prog true (G fr []) (w1.at d) = .ended (.done v) (w1.at d) #[] := fun d =>
    stepG_done hm hn hd (by rw [hfn]; exact hf) (by rw [results_tmp hres, hv]) (events_results_tmp hres _ _) (by rw [hfn]; exact hi)
  have hG : Goes Try.prog true AtRel (fun _ _ es => ∀ e ∈ es, EvL (fun _ => False) B e) (AtEnd Try.prog (fun _ => False) B Post) 0 (G fr []) w1 := by
    rintro _ ⟨d, rfl⟩
    exact ⟨rfl, v, #[], hs d, by simp, hP d⟩
  obtain ⟨M8, last, o, w', t', e1, e2, e3, e4⟩ := beside_ends (P := Try.prog) (Post := Post) (sl := sl) (fun _ _ _ h => h) hg0 hL hPast hG
  refine ⟨N1 + M8, last, o, w', t', ?_, ?_, e3, e4⟩
  · rw [Nat.add_assoc, runNT_add, r1]; exact e1
  · rw [Go.runN_add, ← runNT_fst Try.prog _ _ #[], r1]; exact e2
end
section
open Go.Conc Go.RowKit Go.Relay Go.ChangeShapes Go.WideShapes Go.ChangeAt Go.Joins Go.Deep
theorem und3_is : Try.prog.underlying 3 = some (.int .i64) := by kernel_rfl
theorem und2_is : Try.prog.underlying 2 = some (.int .i64) := by kernel_rfl
theorem laid_out : laidOutB Try.prog = true := by kernel_rfl
section
variable {H : Type} {enc : TypeId × Value → H} {W w' : World}
theorem Left.stays {r : Value} {t : TypeId} {v : Value} {d : DataW H} {ps : List MemPlace} (K : Left W r w') (hr : Try.prog.readableRec t = true) (hrow : t < Try.prog.types.size) (h : DataW.Trod enc Try.prog W 0 (fun _ => true) true t v d ps) (hlt : ∀ x ∈ ps, x.block < W.heap.size) :
    DataW.Trod enc Try.prog w' 0 (fun b => decide (b < W.heap.size)) true t v d ps :=
  WideElems.Trod_stays laid_out hr hrow h (fun x hx => by
    have hb := K.2.2.2 x.block (hlt x hx)
    cases x with
    | cell b o => exact World.cell?_of_block (w := W) (a := ⟨b, o, none⟩) hb
    | map b => exact hb) (fun x hx => by simpa using hlt x hx)
theorem addr_form {w : World} {a : Addr} {v : Value} (h : w.cell? a = some v) : a = ⟨a.block, a.off, none⟩ := by
  obtain ⟨b, o, s⟩ := a
  cases s with
  | none => rfl
  | some s =>
    unfold World.cell? at h
    split at h
    · simp at h
    · cases h
end
section
variable {H : Type} {enc : TypeId × Value → H} {W : World}
theorem lit_wraps {z : Int} (h : (Lit.int .i64 z).wf = true) : IntKind.i64.wrap z = z := by
  simp [Lit.wf, IntKind.min, IntKind.max, IntKind.signed, IntKind.bits] at h
  rw [IntKind.wrap_i64]
  omega
variable {base : Nat} {spare : Nat → Bool} {held : Bool}
end
end
section
open Go.Conc Go.RowKit Go.Relay Go.ChangeShapes Go.WideShapes Go.ChangeAt Go.Joins Go.Deep
noncomputable def fldsOp : Array Field := match Try.prog.underlying 84 with | some (.struct fs) => fs | _ => #[]
theorem undOp_is : Try.prog.underlying 84 = some (.struct fldsOp) := by kernel_rfl
theorem fldsOp_four : ∃ f0 f1 f2 f3, fldsOp = #[f0, f1, f2, f3] ∧ f0.type = 3 ∧ f1.type = 2 ∧ f2.type = 2 ∧ f3.type = 2 := by
  have hs : fldsOp.size = 4 := by kernel_rfl
  have h0 : (fldsOp[0]?).map (·.type) = some 3 := by kernel_rfl
  have h1 : (fldsOp[1]?).map (·.type) = some 2 := by kernel_rfl
  have h2 : (fldsOp[2]?).map (·.type) = some 2 := by kernel_rfl
  have h3 : (fldsOp[3]?).map (·.type) = some 2 := by kernel_rfl
  generalize fldsOp = F at *
  obtain ⟨l⟩ := F
  match l, hs with
  | [f0, f1, f2, f3], _ => exact ⟨f0, f1, f2, f3, rfl, by simpa using h0, by simpa using h1, by simpa using h2, by simpa using h3⟩
section
variable {H : Type} {enc : TypeId × Value → H} {W : World} {base : Nat} {spare : Nat → Bool} {held : Bool}
theorem trod_struct4 {P : Program} {t : TypeId} {f0 f1 f2 f3 : Field} {fuel : Nat} {cs : List Value} {x : DataW H × List MemPlace} (ht : P.underlying t = some (.struct #[f0, f1, f2, f3])) (h : DataW.trod enc P W base spare held fuel t cs = some x) :
    ∃ y0 y1 y2 y3 n, cs.length = P.cellsOf t ∧ DataW.trod enc P W base spare held n f0.type ((cs.drop f0.offset).take (P.cellsOf f0.type)) = some y0 ∧
      DataW.trod enc P W base spare held n f1.type ((cs.drop f1.offset).take (P.cellsOf f1.type)) = some y1 ∧ DataW.trod enc P W base spare held n f2.type ((cs.drop f2.offset).take (P.cellsOf f2.type)) = some y2 ∧
      DataW.trod enc P W base spare held n f3.type ((cs.drop f3.offset).take (P.cellsOf f3.type)) = some y3 := by
  obtain ⟨xs, n, _, rfl, hl, hlen, hf⟩ := DataW.trod_struct ht h
  match xs, hlen with
  | [y0, y1, y2, y3], _ => exact ⟨y0, y1, y2, y3, n, hl, by simpa using hf 0 f0 rfl, by simpa using hf 1 f1 rfl, by simpa using hf 2 f2 rfl, by simpa using hf 3 f3 rfl⟩
structure ThIn (W : World) (v : Value) (a : Option Addr) (ln oc : Nat) (l : List OpV) : Prop where
  is : v = .slice a ln oc
  len : l.length = ln
  cap : ln ≤ oc
  ad : (a = none ∧ oc = 0) ∨ ∃ p, a = some p
  ops : ∀ (k : Nat) (o : OpV), l[k]? = some o → ∃ b off, a = some ⟨b, off, none⟩ ∧ W.cell? ⟨b, off + k * 4, none⟩ = some (.int .i64 o.k) ∧ W.cell? ⟨b, off + k * 4 + 1, none⟩ = some (.int .i64 o.a) ∧ W.cell? ⟨b, off + k * 4 + 2, none⟩ = some (.int .i64 o.b) ∧ W.cell? ⟨b, off + k * 4 + 3, none⟩ = some (.int .i64 o.c)
  wr : ∀ (k : Nat) (o : OpV), l[k]? = some o → IntKind.i64.wrap o.k = o.k ∧ IntKind.i64.wrap o.a = o.a ∧ IntKind.i64.wrap o.b = o.b ∧ IntKind.i64.wrap o.c = o.c
theorem open_ops {n : Nat} {v : Value} {x : DataW H × List MemPlace} (hu : Try.prog.underlying 73 = some (.slice 84)) (h : DataW.trod enc Try.prog W base (fun _ => true) held n 73 [v] = some x) :
    ∃ (q : (Option Addr × Nat × Nat) × List OpV), ThIn W v q.1.1 q.1.2.1 q.1.2.2 q.2 := by
  have hC : Try.prog.cellsOf 84 = 4 := by kernel_rfl
  obtain ⟨f0, f1, f2, f3, ef, t0, t1, t2, t3⟩ := fldsOp_four
  have hst : Try.prog.underlying 84 = some (.struct #[f0, f1, f2, f3]) := by rw [undOp_is, ef]
  have hone : oneCellFields Try.prog #[f0, f1, f2, f3] = true := by rw [← ef]; kernel_rfl
  rcases open_slice hu h with ⟨e, _⟩ | ⟨a', len', cap', m, n', D, Pl, e, _, hl, _, hm, hx, hel⟩
  · injection e with e _
    exact ⟨((none, 0, 0), []), e, rfl, Nat.le_refl _, .inl ⟨rfl, rfl⟩, fun k o h => (by simp at h), fun k o h => (by simp at h)⟩
  · injection e with e _
    have hm : m = cap' := by simpa using hm
    have key : ∀ i, i < len' → ∃ o : OpV, (IntKind.i64.wrap o.k = o.k ∧ IntKind.i64.wrap o.a = o.a ∧ IntKind.i64.wrap o.b = o.b ∧ IntKind.i64.wrap o.c = o.c) ∧ ∀ k v, ([.int .i64 o.k, .int .i64 o.a, .int .i64 o.b, .int .i64 o.c] : List Value)[k]? = some v → W.cell? ((a'.add (i * 4)).add k) = some v := fun i hi => by
      obtain ⟨cs', h1, h2⟩ := hel i (by omega)
      rw [hC] at h1
      obtain ⟨_, hlen, hcell⟩ := World.cells?_some h1
      obtain ⟨y0, y1, y2, y3, k, _, u0, u1, u2, u3⟩ := trod_struct4 hst h2
      obtain ⟨o0, k0⟩ := hone_of hone 0 f0 rfl
      obtain ⟨o1, k1⟩ := hone_of hone 1 f1 rfl
      obtain ⟨o2, k2⟩ := hone_of hone 2 f2 rfl
      obtain ⟨o3, k3⟩ := hone_of hone 3 f3 rfl
      match cs', hlen with
      | [c0, c1, c2, c3], _ =>
        rw [o0, k0, t0] at u0
        rw [o1, k1, t1] at u1
        rw [o2, k2, t2] at u2
        rw [o3, k3, t3] at u3
        obtain ⟨z0, e0, _, q0⟩ := DataW.trod_int und3_is u0
        obtain ⟨z1, e1, _, q1⟩ := DataW.trod_int und2_is u1
        obtain ⟨z2, e2, _, q2⟩ := DataW.trod_int und2_is u2
        obtain ⟨z3, e3, _, q3⟩ := DataW.trod_int und2_is u3
        simp at e0 e1 e2 e3
        subst e0 e1 e2 e3
        refine ⟨⟨z0, z1, z2, z3⟩, ⟨lit_wraps q0, lit_wraps q1, lit_wraps q2, lit_wraps q3⟩, fun k v hv => ?_⟩
        have hk4 : k < 4 := (List.getElem?_eq_some_iff.1 hv).1
        have hc := hcell k (by simpa using hk4)
        rw [hc]
        exact hv
    have hI : Inhabited OpV := ⟨⟨0, 0, 0, 0⟩⟩
    obtain ⟨f, hf'⟩ := choose_lt (α := OpV) key
    refine ⟨((some a', len', cap'), (List.range len').map f), e, by simp, hl, .inr ⟨_, rfl⟩, fun k o hd => ?_, fun k o hd => ?_⟩
    rotate_left
    · have hk : k < len' := by simpa using (List.getElem?_eq_some_iff.1 hd).1
      have hd : f k = o := by simpa [hk] using hd
      have hf := (hf' k hk).1
      rwa [hd] at hf
    have hk : k < len' := by simpa using (List.getElem?_eq_some_iff.1 hd).1
    have hd : f k = o := by simpa [hk] using hd
    have hf := (hf' k hk).2
    rw [hd] at hf
    have h0 := (hf' 0 (by omega)).2 0 _ rfl
    have ha : (a'.add (0 * 4)).add 0 = a' := by simp [Addr.add]
    rw [ha] at h0
    have hform := addr_form h0
    have hc : ∀ (m : Nat) (v : Value), ([.int .i64 o.k, .int .i64 o.a, .int .i64 o.b, .int .i64 o.c] : List Value)[m]? = some v → W.cell? ⟨a'.block, a'.off + k * 4 + m, none⟩ = some v := fun m v hv => by
      have := hf m v hv
      rw [hform, add_none, add_none] at this
      exact this
    exact ⟨a'.block, a'.off, congrArg some hform, hc 0 _ rfl, hc 1 _ rfl, hc 2 _ rfl, hc 3 _ rfl⟩
end
section
variable {H : Type} {enc : TypeId × Value → H} {W : World}
theorem open_opsN {base : Nat} {v : Value} {d : DataW H} {ps : List MemPlace} (hu : Try.prog.underlying 73 = some (.slice 84)) (hval : Value.okWide Try.prog W .any base 73 v) (h : DataW.Trod enc Try.prog W 0 (fun _ => true) true 73 v d ps)
    {ts : List TypeId} {ds : List (DataW H)} {j : Nat} (hsz : (DataW.weightsEach Try.prog ts ds).all (· ≤ reachBytes) = true) (ht : ts[j]? = some 73) (hd : ds[j]? = some d) :
    ∃ (a : Option Addr) (n0 tc : Nat) (ops : List OpV), v = .slice a n0 tc ∧ ops.length = n0 ∧ n0 ≤ tc ∧ (a = none ∧ tc = 0 ∨ ∃ p, a = some p) ∧ n0 ≤ 17592186044416 ∧
      ∀ (j : Nat) (o : OpV), ops[j]? = some o → ∃ b off, a = some ⟨b, off, none⟩ ∧ W.cell? ⟨b, off + j * 4, none⟩ = some (.int .i64 o.k) ∧ W.cell? ⟨b, off + j * 4 + 1, none⟩ = some (.int .i64 o.a) ∧ W.cell? ⟨b, off + j * 4 + 2, none⟩ = some (.int .i64 o.b) ∧ W.cell? ⟨b, off + j * 4 + 3, none⟩ = some (.int .i64 o.c) := by
  obtain ⟨sa, sl, sc, rfl⟩ := okWide_slice hu hval
  obtain ⟨fuel, hf⟩ := h
  have hf : DataW.trod enc Try.prog W 0 (fun _ => true) true fuel 73 [.slice sa sl sc] = some (d, ps) := hf
  generalize hv : Value.slice sa sl sc = v at *
  obtain ⟨⟨⟨a, n0, tc⟩, l⟩, I⟩ := open_ops hu hf
  have hb : n0 ≤ 17592186044416 := by
    have hB : Try.prog.bytesOf 84 = 32 := by kernel_rfl
    have hr := reachBytes_lt
    rcases open_slice hu hf with ⟨e, _⟩ | ⟨a', len', cap', m, n', D, Pl, e, _, hl, _, hm, hx, _⟩
    · have e : [v] = [.slice none 0 0] := e
      injection e with e _
      rw [I.is] at e
      injection e with _ e _
      have e : n0 = 0 := e
      omega
    · have e : [v] = [.slice (some a') len' cap'] := e
      injection e with e _
      rw [I.is] at e
      injection e with _ e _
      have e : n0 = len' := e
      injection hx with hx _
      subst hx
      have hs := sized_slice hsz ht hd hu
      rw [hB] at hs
      simp only [List.length_map, List.length_range] at hs
      omega
  exact ⟨a, n0, tc, l, I.is, I.len, I.cap, I.ad, hb, fun j o ho => I.ops j o ho⟩
theorem trodAll_one {P : Program} {base : Nat} {spare : Nat → Bool} {held : Bool} {t : TypeId} {args : Array Value} {ds : List (DataW H)} {ps : List MemPlace} (h : DataW.TrodAll enc P W base spare held [t] args.toList ds ps) : ∃ v d, args = #[v] ∧ ds = [d] ∧ DataW.Trod enc P W base spare held t v d ps := by
  obtain ⟨v, vs, d, ds1, p, q, hargs, rfl, rfl, hd, hrest⟩ := trodAll_cons h
  obtain ⟨rfl, rfl, rfl⟩ := trodAll_nil hrest
  exact ⟨v, d, by cases args; simp_all, rfl, by simpa using hd⟩
end
end
section
open Go.ChangeShapes Go.WideShapes Go.ChangeAt Go.Joins Go.Deep
def OpsAt (W : World) (oa0 : Option Addr) (l : List OpV) : Prop := ∀ (j : Nat) (o : OpV), l[j]? = some o → ∃ b off, oa0 = some ⟨b, off, none⟩ ∧ W.cell? ⟨b, off + j * 4, none⟩ = some (.int .i64 o.k) ∧ W.cell? ⟨b, off + j * 4 + 1, none⟩ = some (.int .i64 o.a) ∧ W.cell? ⟨b, off + j * 4 + 2, none⟩ = some (.int .i64 o.b) ∧ W.cell? ⟨b, off + j * 4 + 3, none⟩ = some (.int .i64 o.c)
theorem none_loop {zb wb : Nat} (oa0 : Option Addr) (n0 tc : Nat) (l : List OpV) (hl : l.length = n0) (hn0 : n0 ≤ 17592186044416) (W0 : World) (hop : OpsAt W0 oa0 l) :
    ∀ (r i : Nat) (w : World) (u : Nat → Value) (s : Gt), i + r = n0 → NoI (fun b => b < W0.heap.size) zb wb s W0 w →
    Walk Try.prog true (DR (fun _ => none)) (fun g w' => Closing 10 2 (.bool true) g ∧ ∀ b, b < W0.heap.size → w'.heap[b]? = W0.heap[b]?) (G (hdNo (.slice oa0 n0 tc) zb wb i u) []) w := by
  intro r
  induction r with
  | zero =>
    intro i w u s hi I
    have hi : i = n0 := hi
    subst hi
    refine (no_end (.slice oa0 i tc) oa0 i tc rfl w u).mono ?_
    rintro g w' ⟨hC, d, rfl⟩
    exact ⟨hC, I.old⟩
  | succ r ih =>
    intro i w u s hi I
    have hil : i < l.length := by omega
    have ho : l[i]? = some l[i] := List.getElem?_eq_getElem hil
    generalize l[i] = o at ho
    obtain ⟨b, off, rfl, o0, o1, o2, o3⟩ := hop i o ho
    have hcell : ∀ {x y : Nat} {v : Value}, W0.cell? ⟨x, y, none⟩ = some v → w.cell? ⟨x, y, none⟩ = some v := fun {x y v} h => (World.cell?_of_block (a := ⟨x, y, none⟩) (I.old x (cell_lt' h))).trans h
    obtain ⟨N, ⟨s', a⟩, hrun⟩ := ends_g s 0 o
    refine (no_a b off n0 tc i N o (by omega) hn0 hrun W0 w I (hcell o0) (hcell o1) (hcell o2) (hcell o3) [] u).then ?_
    rintro _ w1 ⟨E, ⟨u1, rfl⟩, hE, I1⟩
    refine (no_b _ i E o W0 w1 I1 hE [] u1).then ?_
    rintro _ w2 ⟨C, D, ⟨u2, rfl⟩, M⟩
    refine (no_c _ (some ⟨b, off, none⟩) n0 tc rfl hn0 i E C D (by omega) _ W0 w2 M [] u2).then ?_
    rintro _ w3 ⟨⟨u3, rfl⟩, I3⟩
    exact ih (i + 1) w3 u3 s' (by omega) I3
theorem none_all (oa0 : Option Addr) (n0 tc : Nat) (hn0 : n0 ≤ 17592186044416) (l : List OpV) (hl : l.length = n0) (W : World) (hop : OpsAt W oa0 l) :
    Runs (fun g w' => Closing 10 2 (.bool true) g ∧ ∀ b, b < W.heap.size → w'.heap[b]? = W.heap[b]?) (G (Frame.enter Try.prog 10 #[.slice oa0 n0 tc] .normal) []) W := by
  refine Runs.walk (none_in (.slice oa0 n0 tc) W) ?_
  rintro _ _ ⟨fr, rfl, ⟨d, rfl⟩, _, hB⟩
  refine Runs.then (fixed_run fr [] (W.at d)) ?_
  rintro _ w1 ⟨rfl, O1, Z1⟩
  have O1 : ∀ b, b < W.heap.size → w1.heap[b]? = W.heap[b]? := O1
  have Z1 : W.heap.size ≤ w1.heap.size := Z1
  refine Runs.walk (hB w1) ?_
  rintro _ w2 ⟨⟨u2, rfl⟩, N2⟩
  refine Runs.walk (st_all _ w1 64 0 u2 w2 (Nat.zero_add _) N2) ?_
  rintro _ w3 ⟨⟨u3, rfl⟩, I3⟩
  have hop1 : OpsAt w1 oa0 l := fun j o ho => by
    obtain ⟨b, off, e, o0, o1, o2, o3⟩ := hop j o ho
    have up : ∀ {x y : Nat} {v : Value}, W.cell? ⟨x, y, none⟩ = some v → w1.cell? ⟨x, y, none⟩ = some v := fun {x y v} h => (World.cell?_of_block (a := ⟨x, y, none⟩) (O1 x (cell_lt' h))).trans h
    exact ⟨b, off, e, up o0, up o1, up o2, up o3⟩
  refine Runs.walk (none_loop oa0 n0 tc l hl hn0 w1 hop1 n0 0 w3 u3 _ (Nat.zero_add _) I3) ?_
  rintro g w4 ⟨hC, h4⟩
  exact .now ⟨hC, fun b hb => (h4 b (by omega)).trans (O1 b hb)⟩
theorem gateNone_lifted (os : Os) (started : os.Started) (H : Type) (enc : TypeId × Value → H) :
    ReturnsInLeavingWide {} Try.checked os 10 .any (Rows.gateNoneSpec.pre6 enc Try.prog Try.f10 Rows.gateNoneRow.domain false) (Rows.gateNoneSpec.post enc Try.prog Try.f10 false true false false) := by
  refine returnsInLeavingWide_of_change_sized (C := Try.checked) prog_own started Try.func10
    (ChangeSpec.witness6 (enc := enc) (C := Try.checked) false ⟨#[], #[.slice none 0 0], []⟩ 8 (by kernel_rfl) (by kernel_rfl) (by kernel_rfl) (by kernel_rfl)) ?_
  intro W base args ds gs before hval0 hW _ hsz0 _
  have hval : ∀ (j : Nat) t v, Try.f10.params[j]? = some t → args[j]? = some v → Value.okWide Try.prog W .any base t v := hval0
  have hW' := hW
  obtain ⟨p, q, hA0, hV, rfl, _, _⟩ := hW
  have hA : DataW.TrodAll enc Try.prog W 0 (fun _ => true) true Try.f10.params.toList args.toList ds p := hA0
  rw [Try.params10] at hA hval
  have hsz : (DataW.weightsEach Try.prog (Try.f10.params.toList ++ Rows.gateNoneSpec.plain.varTypes Try.prog) (ds ++ gs)).all (· ≤ reachBytes) = true := hsz0
  rw [Try.params10] at hsz
  obtain ⟨v0, d0, rfl, rfl, h0⟩ := trodAll_one hA
  obtain ⟨rfl, rfl⟩ := trodVars_none hV
  have hlt := hW'.lt
  obtain ⟨ta, n0, tc, ops, rfl, hlen, hcap, had, hn0, hop⟩ := open_opsN (by kernel_rfl) (hval 0 73 v0 rfl rfl) h0 (j := 0) hsz rfl rfl
  clear hA0 hval0 hsz0 hsz
  simp only [List.append_nil] at hW' hlt
  obtain ⟨M, last, o, w', t', r1, r2, r3, r4⟩ := run_claim (Post := Left W) (t := 2) Try.func10 rfl (by kernel_rfl) (Runs.then (none_all ta n0 tc hn0 ops hlen W hop) fun g w' ⟨hC, hO⟩ => .now ⟨hC, fun ho d => ⟨rfl, ho.1, ho.2, hO⟩⟩)
  refine ⟨M, last, o, w', t', r1, r2, r3, r4.mono fun v hF => ?_⟩
  have hk : Left W (.bool true) w' := ⟨rfl, hF.2⟩
  obtain rfl : v = .bool true := hF.1
  exact ⟨_, _, _, [], _, [], hW', trodAll_mk1 (shut_bool und4_is true), trodAll_mk1 (hk.stays (by kernel_rfl) (of_decide_eq_true (by kernel_rfl)) h0 fun x hx => hlt x (by simp [hx])), rfl, hk.kept _, fun h => by cases h⟩
theorem gateNone_holds : Rows.GateNoneSaid :=
  OpenClaim.holds_of_wide_leaving 10 Try.f10 rfl rfl rfl rfl rfl rfl rfl ⟨rfl, rfl, rfl, rfl, rfl⟩ rfl rfl rfl rfl rfl (by kernel_rfl) Try.func10 (by kernel_rfl)
    (of_decide_eq_true (by kernel_rfl)) (by unfold Func.isWrapper; first | (rw [if_pos (by decide +kernel)]; kernel_rfl) | (rw [if_neg (by decide +kernel)]; exact ⟨rfl, rfl⟩))
    (fun os started H enc _ => gateNone_lifted os started H enc)
end
end Go.Proofs.Ytgfajibjedfkdaa
