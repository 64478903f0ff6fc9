/- Part 24. -/
import Derived.Test.YtgfajibjedfkdaaJK11
import Derived.Test.YtgfajibjedfkdaaJK14
import Derived.Test.YtgfajibjedfkdaaJK23
set_option linter.unusedSimpArgs false
set_option linter.unusedVariables false
set_option linter.unusedVariables false
set_option maxHeartbeats 8000000
set_option maxRecDepth 100000
namespace Go.Proofs.Ytgfajibjedfkdaa
open Go.Conc Go.RowKit Go.Relay
open Go.ConcN (upd upd_ne upd_same)
section
noncomputable def reg66_0 := rg Try.f66.body [0]
noncomputable def reg66_1 := rg Try.f66.body [1, 0]
noncomputable def reg66_2 := rg Try.f66.body [1, 1, 0]
theorem z66 : List.range reg66_0.size = [0] ∧ List.range reg66_1.size = [0, 1, 2, 3] ∧ List.range reg66_2.size = [0, 1, 2, 3, 4, 5, 6, 7, 8] := by refine ⟨?_, ?_, ?_⟩ <;> kernel_rfl
theorem code66_is : Try.f66.body = some (.seq (.region 0 reg66_0 false) (.seq (.region 1 reg66_1 false) (.seq (.region 2 reg66_2 false) (.ret)))) := by kernel_rfl
def stG (s : Gt) : List Int := ((s.l.length : Int) :: s.l) ++ nuL s 64
section
variable {main : Bool} {V : Nat → Option Wait}
def StG (gb : Nat) (y : List Hl) (s : Gt) (w : World) (v : Value) (w' : World) : Prop := ∃ B c, v = .slice (some ⟨B, 0, none⟩) (stG s).length c ∧ w'.ownsRow w.heap.size 2 1 (.slice (some ⟨B, 0, none⟩) (stG s).length c) (stG s).length ((stG s).map fun z => .int .i64 z) ∧ (∀ b, b < w.heap.size → ¬ gtSh gb y b → w'.heap[b]? = w.heap[b]?) ∧ w.heap.size ≤ w'.heap.size
theorem gstate_w (gb : Nat) (y : List Hl) (s : Gt) (w : World) (I : GtI gb y s w) (hA : ∀ b, Apart V b) : CallW Try.prog main V 66 #[.pointer (some ⟨gb, 0, none⟩)] w (StG gb y s w) := by
  have hi1 := Option.some_get (show (Try.prog.info? 2).isSome = true by kernel_rfl)
  have hme := members_w (main := main) (V := V) gb y s w I hA
  refine callW_in Try.func66 code66_is fun fr cs => ?_
  simp only [Try.ntmps66, ez, Nat.reduceAdd, Nat.reduceSub]
  repeat (first | refine Walk.cx ?_ | (refine Walk.cReg ?_; simp only [z66]) | (refine Walk.oq ?_; try walk_nrm) | (refine Walk.un ?_; walk_nrm))
  refine Walk.callW (Post := MemOut gb y s w) ?_ (ho_of (by conv => lhs; whnf) (by kernel_rfl)) (by rfl) (by decide) rfl Try.func34 (by kernel_rfl) (by rfl) ?_
  · walk_nrm
    exact hme
  rintro v w1 ⟨a, c, y', rfl, hnum, h64, hL⟩
  have hwd := wide_w (main := main) (V := V) a s.l c h64 w1 hnum (fun b _ => hA b)
  clear hme
  walk_nrm
  repeat (first | refine Walk.cx ?_ | (refine Walk.cReg ?_; simp only [z66]) | (refine Walk.oq ?_; try walk_nrm) | (refine Walk.un ?_; walk_nrm))
  refine Walk.callW (Post := WideOf s.l w1) ?_ (ho_of (by conv => lhs; whnf) (by kernel_rfl)) (by rfl) (by decide) rfl Try.func99 (by kernel_rfl) (by rfl) ?_
  · walk_nrm
    exact hwd
  rintro v w2 ⟨rfl, hn2, o2, z2⟩
  clear hwd hnum
  walk_nrm
  repeat (first | refine Walk.cx ?_ | (refine Walk.cReg ?_; simp only [z66]) | (refine Walk.oq ?_; try walk_nrm) | (refine Walk.un ?_; walk_nrm))
  (refine Walk.oa ?_; try walk_nrm)
  have s3 : (w2.alloc (.cells #[.int .i64 (s.l.length : Int)] 2)).heap.size = w2.heap.size + 1 := by simp
  have o3 : ∀ b, b < w2.heap.size → (w2.alloc (.cells #[.int .i64 (s.l.length : Int)] 2)).heap[b]? = w2.heap[b]? := fun b hb => heap_new_lt _ _ hb
  have d3 : NumB (w2.alloc (.cells #[.int .i64 (s.l.length : Int)] 2)) w2.heap.size [(s.l.length : Int)] := heap_alloc_new _ _
  generalize hw3 : w2.alloc (.cells #[.int .i64 (s.l.length : Int)] 2) = w3 at *
  have hrow := d3.row (base := w2.heap.size) (Nat.le_refl _) (show 1 ≤ maxLen by decide)
  have hn3 : NumB w3 w1.heap.size s.l := hn2.same (o3 _ z2)
  repeat (first | (refine Walk.oq ?_; try walk_nrm) | (refine Walk.un ?_; walk_nrm))
  refine Walk.appendM (.tmp 9) (.tmp 10) 28 (ho_of (by conv => lhs; whnf) (by kernel_rfl)) (by rfl) (by decide) rfl w2.heap.size 2 _ (.int .i64 0) 1 8 (by kernel_rfl) hi1.symm (by rfl) (by rfl) (by rfl) (by rfl) (by decide) (.slice (some ⟨w2.heap.size, 0, none⟩) 1 1) 1 _ rfl hrow ⟨w1.heap.size, 0, none⟩ s.l.length s.l.length (s.l.map fun z => .int .i64 z) rfl (by simp) (fun j x hx => ?_) (fun x hx => by obtain ⟨y, _, rfl⟩ := List.mem_map.1 hx; rfl) (by omega) (by simp [maxLen]; omega) (by omega) (by omega) (fun g hg => hA g) (fun g cap w4 r4 hg4 at4 lt4 => ?_)
  · rw [add_none, Nat.zero_add]
    rw [List.getElem?_map, Option.map_eq_some_iff] at hx
    obtain ⟨y, hy, rfl⟩ := hx
    exact hn3.cell hy
  have z4 := hg4.size
  have o4 : ∀ b, b < w2.heap.size → w4.heap[b]? = w2.heap[b]? := fun b hb => (hg4.block b (by omega) fun e => by
    have e : some b = some w2.heap.size := e
    injection e with e
    omega).trans (o3 b hb)
  have I4 : GtI gb y' s w4 := hL.I.same fun b hb => by
    have hlt : b < w1.heap.size := GtI.lt hL.I hb
    exact (o4 b (by omega)).trans (o2 b hlt)
  have hnu := numbers_w (main := main) (V := V) gb y' s w4 I4 (fun b _ => hA b)
  have z1 := hL.size
  have old1 : ∀ b, b < w.heap.size → ¬ gtSh gb y b → w4.heap[b]? = w.heap[b]? := fun b hb hs => (o4 b (by omega)).trans ((o2 b (by omega)).trans (hL.old b hb hs))
  clear hL o2 o3 o4 hn2 hn3 d3 hrow hw3 I4 I
  walk_nrm
  repeat (first | refine Walk.cx ?_ | (refine Walk.cReg ?_; simp only [z66]) | (refine Walk.oq ?_; try walk_nrm) | (refine Walk.un ?_; walk_nrm))
  refine Walk.callW (Post := fun v w' => v = .slice (some ⟨w4.heap.size, 0, none⟩) 64 64 ∧ NuI w4 s 64 w') ?_ (ho_of (by conv => lhs; whnf) (by kernel_rfl)) (by rfl) (by decide) rfl Try.func35 (by kernel_rfl) (by rfl) ?_
  · walk_nrm
    exact hnu
  rintro v w5 ⟨rfl, hN5⟩
  clear hnu
  have hn5 : NumB w5 w4.heap.size (nuL s 64) := by
    have := hN5.num
    rwa [padL_full (by simp [nuL])] at this
  have r5 := row_same r4 fun b hb => hN5.old b (r4.lt b hb).2
  have old5 := hN5.old
  have z5 := hN5.lo
  clear r4 hN5
  walk_nrm
  repeat (first | (refine Walk.oq ?_; try walk_nrm) | (refine Walk.un ?_; walk_nrm))
  refine Walk.append (.tmp 11) (.tmp 13) 28 (ho_of (by conv => lhs; whnf) (by kernel_rfl)) (by rfl) (by decide) rfl w2.heap.size 2 _ (.int .i64 0) 1 8 (by kernel_rfl) hi1.symm (by rfl) (by rfl) (by rfl) (by rfl) (by decide) (.slice (some ⟨g, 0, none⟩) (1 + s.l.length) cap) (1 + s.l.length) _ rfl r5 ⟨w4.heap.size, 0, none⟩ 64 64 ((nuL s 64).map fun z => .int .i64 z) rfl (by simp [nuL]) (fun j x hx => ?_) (fun x hx => by obtain ⟨y, _, rfl⟩ := List.mem_map.1 hx; rfl) (by omega) (by simp [maxLen]; omega) (by omega) (by omega) (fun g hg => hA g) (fun g2 cap2 w6 r6 hg6 at6 lt6 => ?_)
  · rw [add_none, Nat.zero_add]
    rw [List.getElem?_map, Option.map_eq_some_iff] at hx
    obtain ⟨y, hy, rfl⟩ := hx
    exact hn5.cell hy
  have hgl : w2.heap.size ≤ g := (r5.lt g rfl).1
  have z6 := hg6.size
  have o6 : ∀ b, b < w.heap.size → ¬ gtSh gb y b → w6.heap[b]? = w.heap[b]? := fun b hb hs => (hg6.block b (by omega) fun e => by
    have e : some b = some g := e
    injection e with e
    omega).trans ((old5 b (by omega)).trans (old1 b hb hs))
  have hlen : 1 + s.l.length + 64 = (stG s).length := by simp [stG, nuL]; omega
  have r6' : w6.ownsRow w.heap.size 2 1 (.slice (some ⟨g2, 0, none⟩) (stG s).length cap2) (stG s).length ((stG s).map fun z => .int .i64 z) := by
    rw [hlen] at r6
    unfold stG at r6 ⊢
    rw [List.map_append]
    exact ⟨r6.1, r6.2.imp id fun ⟨g', cap', cur, e, hb, r⟩ => ⟨g', cap', cur, e, by omega, r⟩⟩
  rw [hlen]
  clear r6 r5 hn5 hg6 at6 hg4 at4
  walk_nrm
  repeat (first | refine Walk.cx ?_ | (refine Walk.cReg ?_; simp only [z66]) | (refine Walk.oq ?_; try walk_nrm) | (refine Walk.un ?_; walk_nrm))
  exact Walk.ret1 rfl rfl Try.func66 rfl fun d => ⟨g2, cap2, rfl, r6', o6, by show w.heap.size ≤ w6.heap.size; omega⟩
end
end
noncomputable def reg27_0 := rg Try.f27.body [0]
noncomputable def reg27_1 := rg Try.f27.body [1, 0]
noncomputable def reg27_2 := rg Try.f27.body [1, 1, 0]
noncomputable def reg27_3 := rg Try.f27.body [1, 1, 1, 0]
noncomputable def reg27_4 := rg Try.f27.body [1, 1, 1, 1, 0]
theorem z27 : List.range reg27_0.size = [0] ∧ List.range reg27_1.size = [0, 1, 2] ∧ List.range reg27_2.size = [0, 1, 2, 3, 4, 5, 6, 7] ∧ List.range reg27_3.size = [0, 1, 2, 3] ∧ List.range reg27_4.size = [0, 1] := by refine ⟨?_, ?_, ?_, ?_, ?_⟩ <;> kernel_rfl
theorem code27_is : Try.f27.body = some (.seq (.region 0 reg27_0 false) (.seq (.region 1 reg27_1 false) (.seq (.region 2 reg27_2 false) (.seq (.region 3 reg27_3 false) (.seq (.region 4 reg27_4 false) (.ret)))))) := by kernel_rfl
def RPBack (T0 gb : Nat) (fr c : Frame) (cs : List Frame) : Prop := ∀ (A na : Nat) (oo : Option Addr) (ol ok : Nat) (stuck : Bool) (y : List Hl) (s : Gt) (w : World), ¬ gtSh gb y T0 → GtI gb y s w → w.heap[T0]? = some (.cells #[.slice none 0 0, .slice none 0 0, .slice none 0 0, .bool false] 63) →
  Walk Try.prog true (DR (fun _ => none)) (fun g w' => ∃ B bc, g = G (c.finish (.agg #[.slice (some ⟨A, 0, none⟩) na na, .slice oo ol ok, .slice (some ⟨B, 0, none⟩) (stG s).length bc, .bool stuck])) cs ∧ w'.ownsRow w.heap.size 2 1 (.slice (some ⟨B, 0, none⟩) (stG s).length bc) (stG s).length ((stG s).map fun z => .int .i64 z) ∧ (∀ b, b < w.heap.size → b ≠ T0 → ¬ gtSh gb y b → w'.heap[b]? = w.heap[b]?) ∧ w.heap.size ≤ w'.heap.size)
    (G (fr.finish (.agg #[.slice (some ⟨A, 0, none⟩) na na, .slice oo ol ok, .slice none 0 0, .bool stuck])) (c :: cs)) w
theorem splay_in (sl : Value) (xs : List Int) (tv sv : Value) (most : Int) (c : Frame) (cs : List Frame) (w : World) (hx : LsR sl xs w) :
    Walk Try.prog true (DR (fun _ => none)) (fun g w' => ∃ fr, g = G (Frame.enter Try.prog 50 #[tv, .func (.func 65) #[.pointer (some ⟨w.heap.size + 1, 0, none⟩)] #[], sv, .int .i64 most] .normal) (fr :: c :: cs) ∧ (∃ y, GtI (w.heap.size + 1) y (gtN xs (min xs.length 64)) w' ∧ (∀ b, b < w.heap.size + 1 → ¬ gtSh (w.heap.size + 1) y b)) ∧ (∀ b, b < w.heap.size → w'.heap[b]? = w.heap[b]?) ∧ w.heap.size + 1 ≤ w'.heap.size ∧
        w'.heap[w.heap.size]? = some (.cells #[.slice none 0 0, .slice none 0 0, .slice none 0 0, .bool false] 63) ∧ RPBack w.heap.size (w.heap.size + 1) fr c cs)
      (G (Frame.enter Try.prog 27 #[sl, tv, sv, .int .i64 most] .normal) (c :: cs)) w := by
  have hA : ∀ b, Apart (fun _ => none) b := fun b => ⟨fun _ _ _ _ h => (by cases h), fun _ _ h => (by cases h)⟩
  obtain ⟨fsT, huT⟩ := structT 63 (by kernel_rfl)
  rw [enter_at _ Try.func27 code27_is]
  simp only [Try.ntmps27, ez, Nat.reduceAdd, Nat.reduceSub]
  repeat (first | refine Walk.cx ?_ | (refine Walk.cReg ?_; simp only [z27]) | (refine Walk.oq ?_; try walk_nrm) | (refine Walk.un ?_; walk_nrm))
  (refine Walk.oa ?_; try walk_nrm)
  have s1 : (w.alloc (.cells #[.slice none 0 0, .slice none 0 0, .slice none 0 0, .bool false] 63)).heap.size = w.heap.size + 1 := by simp
  have o1 : ∀ b, b < w.heap.size → (w.alloc (.cells #[.slice none 0 0, .slice none 0 0, .slice none 0 0, .bool false] 63)).heap[b]? = w.heap[b]? := fun b hb => heap_new_lt _ _ hb
  have d1 := heap_alloc_new w (.cells #[.slice none 0 0, .slice none 0 0, .slice none 0 0, .bool false] 63)
  generalize hN : w.heap.size = T0 at *
  generalize w.alloc (.cells #[.slice none 0 0, .slice none 0 0, .slice none 0 0, .bool false] 63) = w1 at *
  repeat (first | refine Walk.cx ?_ | (refine Walk.cReg ?_; simp only [z27]) | (refine Walk.oq ?_; try walk_nrm) | (refine Walk.un ?_; walk_nrm))
  have hx1 : LsR sl xs w1 := hx.same (fun b hb => o1 b (by omega))
  obtain ⟨xa, xc, rfl, hxr⟩ := hx
  clear hxr
  obtain ⟨xa', xc', e, hx2, hx3, hx4⟩ := hx1
  injection e with e1 e2 e3
  subst e1 e3
  clear e2
  have hng := newgate_w (main := true) (V := fun _ => none) xa xs xc hx2 hx3 hA w1 hx4
  rw [s1] at hng
  clear hx2 hx3 hx4
  generalize min xs.length 64 = m at *
  generalize hgp : NtI w1 (T0 + 1) xs m = P9 at *
  refine Walk.callW (Post := fun v w' => v = .pointer (some ⟨T0 + 1, 0, none⟩) ∧ P9 w') ?_ (ho_of (by conv => lhs; whnf) (by kernel_rfl)) (by rfl) (by decide) rfl Try.func64 (by kernel_rfl) (by rfl) ?_
  · walk_nrm
    exact hng
  rintro v w2 ⟨rfl, hI⟩
  clear hng
  subst hgp
  obtain ⟨y0, hI, hns, hO, hS⟩ := hI
  rw [s1] at hns hO hS
  walk_nrm
  repeat (first | refine Walk.cx ?_ | (refine Walk.cReg ?_; simp only [z27]) | (refine Walk.oq ?_; try walk_nrm) | (refine Walk.un ?_; walk_nrm))
  refine Walk.callE (ho_of (by conv => lhs; whnf) (by kernel_rfl)) (by rfl) (by decide) rfl Try.func50 (by kernel_rfl) (by rfl) ?_
  walk_nrm
  refine .stop fun d => ⟨_, rfl, ⟨y0, hI.same fun _ _ => rfl, hns⟩, fun b hb => (hO b (by omega)).trans (o1 b (by omega)), hS, (hO T0 (by omega)).trans d1, ?_⟩
  clear hI hns hO hS d1 o1 s1
  intro A na oo ol ok stuck y s w4 hne I4 hT
  refine Walk.finish (ho_of (by conv => lhs; whnf) (by kernel_rfl)) ?_
  walk_nrm
  (refine Walk.oa ?_; try walk_nrm)
  have d5 := heap_alloc_new w4 (.cells #[.slice none 0 0, .slice none 0 0, .slice none 0 0, .bool false] 63)
  have s5 : (w4.alloc (.cells #[.slice none 0 0, .slice none 0 0, .slice none 0 0, .bool false] 63)).heap.size = w4.heap.size + 1 := by simp
  have o5 : ∀ b, b < w4.heap.size → (w4.alloc (.cells #[.slice none 0 0, .slice none 0 0, .slice none 0 0, .bool false] 63)).heap[b]? = w4.heap[b]? := fun b hb => heap_new_lt _ _ hb
  have hT0 : T0 < w4.heap.size := (Array.getElem?_eq_some_iff.1 hT).1
  generalize hT1 : w4.heap.size = T1 at *
  generalize w4.alloc (.cells #[.slice none 0 0, .slice none 0 0, .slice none 0 0, .bool false] 63) = w5 at *
  refine Walk.storeS 63 (.tmp 10) (.tmp 18) (ho_of (by conv => lhs; whnf) (by kernel_rfl)) (by rfl) (by decide) rfl T1 #[.slice (some ⟨A, 0, none⟩) na na, .slice oo ol ok, .slice none 0 0, .bool stuck] _ 63 rfl rfl d5 (by kernel_rfl) (by rfl) (by simp [Value.oneCell']) (hA _) ?_
  have d6 := setRow_self (cells := #[.slice (some ⟨A, 0, none⟩) na na, .slice oo ol ok, .slice none 0 0, .bool stuck]) d5
  have o6 : ∀ b, b < T1 → (w5.setRow T1 #[.slice (some ⟨A, 0, none⟩) na na, .slice oo ol ok, .slice none 0 0, .bool stuck]).heap[b]? = w4.heap[b]? := fun b hb => (setRow_other _ _ (by omega)).trans (o5 b (by omega))
  have s6 := setRow_size w5 T1 #[.slice (some ⟨A, 0, none⟩) na na, .slice oo ol ok, .slice none 0 0, .bool stuck]
  rw [s5] at s6
  generalize w5.setRow T1 #[.slice (some ⟨A, 0, none⟩) na na, .slice oo ol ok, .slice none 0 0, .bool stuck] = w6 at *
  have hns1 : ¬ gtSh (T0 + 1) y T1 := fun h => by have := GtI.lt I4 h; omega
  have I6 : GtI (T0 + 1) y s w6 := I4.same fun b hb => o6 b (by have := GtI.lt I4 hb; omega)
  have hst := gstate_w (main := true) (V := fun _ => none) (T0 + 1) y s w6 I6 hA
  clear I4 I6
  generalize hgp : StG (T0 + 1) y s w6 = P9 at *
  walk_nrm
  repeat (first | refine Walk.cx ?_ | (refine Walk.cReg ?_; simp only [z27]) | (refine Walk.oq ?_; try walk_nrm) | (refine Walk.un ?_; walk_nrm))
  refine Walk.callW (Post := P9) ?_ (ho_of (by conv => lhs; whnf) (by kernel_rfl)) (by rfl) (by decide) rfl Try.func66 (by kernel_rfl) (by rfl) ?_
  · walk_nrm
    exact hst
  clear hst
  subst hgp
  rintro v w7 ⟨B, bc, rfl, hrow, hold7, hs7⟩
  generalize hlN : (stG s).length = N at *
  have hrB := hrow.lt B rfl
  have d7 := (hold7 T1 (by omega) hns1).trans d6
  have c7 := (cell_of d7 2).trans rfl
  have z7 := frozen_of d7 2
  walk_nrm
  repeat (first | (refine Walk.oq ?_; try walk_nrm) | (refine Walk.un ?_; walk_nrm))
  (have hfr := (hA T1).1 ⟨T1, 2, none⟩ rfl; refine Walk.os hfr c7 ?_; clear hfr; try walk_nrm)
  have d8 : (w7.setCell ⟨T1, 2, none⟩ (.slice (some ⟨B, 0, none⟩) N bc)).heap[T1]? = some (.cells #[.slice (some ⟨A, 0, none⟩) na na, .slice oo ol ok, .slice (some ⟨B, 0, none⟩) N bc, .bool stuck] 63) := by
    rw [heap_set_self _ _ d7]
    simp
  have o8 : ∀ b, b ≠ T1 → (w7.setCell ⟨T1, 2, none⟩ (.slice (some ⟨B, 0, none⟩) N bc)).heap[b]? = w7.heap[b]? := fun b hb => heap_set_other _ _ _ _ hb
  have s8 := size_set w7 ⟨T1, 2, none⟩ (.slice (some ⟨B, 0, none⟩) N bc)
  clear c7 z7
  generalize w7.setCell ⟨T1, 2, none⟩ (.slice (some ⟨B, 0, none⟩) N bc) = w8 at *
  repeat (first | refine Walk.cx ?_ | (refine Walk.cReg ?_; simp only [z27]) | (refine Walk.oq ?_; try walk_nrm) | (refine Walk.un ?_; walk_nrm))
  refine Walk.loadS 63 (.tmp 10) (ho_of (by conv => lhs; whnf) (by kernel_rfl)) (by rfl) (by decide) rfl T1 0 [.slice (some ⟨A, 0, none⟩) na na, .slice oo ol ok, .slice (some ⟨B, 0, none⟩) N bc, .bool stuck] (.struct fsT) rfl (fun j v hj => ?_) huT rfl (by kernel_rfl) ?_
  · rw [Nat.zero_add, cell_of d8]
    simpa using hj
  have dT : w8.heap[T0]? = some (.cells #[.slice none 0 0, .slice none 0 0, .slice none 0 0, .bool false] 63) := (o8 T0 (by omega)).trans ((hold7 T0 (by omega) hne).trans ((o6 T0 (by omega)).trans hT))
  walk_nrm
  refine Walk.storeS 63 (.tmp 8) (.tmp 22) (ho_of (by conv => lhs; whnf) (by kernel_rfl)) (by rfl) (by decide) rfl T0 #[.slice (some ⟨A, 0, none⟩) na na, .slice oo ol ok, .slice (some ⟨B, 0, none⟩) N bc, .bool stuck] _ 63 rfl rfl dT (by kernel_rfl) (by rfl) (by simp [Value.oneCell']) (hA _) ?_
  have d9 := setRow_self (cells := #[.slice (some ⟨A, 0, none⟩) na na, .slice oo ol ok, .slice (some ⟨B, 0, none⟩) N bc, .bool stuck]) dT
  walk_nrm
  repeat (first | refine Walk.cx ?_ | (refine Walk.cReg ?_; simp only [z27]) | (refine Walk.oq ?_; try walk_nrm) | (refine Walk.un ?_; walk_nrm))
  refine Walk.onCell (T := T0) rfl rfl rfl Try.func27 rfl (by rfl) d9 (by kernel_rfl) (by kernel_rfl) (.stop fun d => ⟨B, bc, rfl, ?_, fun b hb hbT hbs => ?_, ?_⟩)
  · refine row_same (row_raise hrow fun g hg => ?_) fun g hg => (setRow_other _ _ ?_).trans (o8 g ?_)
    all_goals (have hg : B = g := Option.some.inj hg; omega)
  · exact (setRow_other _ _ hbT).trans ((o8 b (by omega)).trans ((hold7 b (by omega) hbs).trans (o6 b hb)))
  · show T1 ≤ (w8.setRow _ _).heap.size
    rw [setRow_size]
    omega
structure TrO (base : Nat) (cells : Array Value) (n : Nat) (F : Nat → List Ans) (ord : List Nat) (sts : List Int) (k : Bool) (w : World) : Prop where
  all : ∃ (A : Nat) (oo : Option Addr) (ok : Nat) (sv : Value) (hd : Nat → Value) (own : Nat → Nat → Prop), cells = trC (.slice (some ⟨A, 0, none⟩) n n) (.slice oo ord.length ok) sv k ∧ base ≤ A ∧
    w.ownsRow base 3 1 (.slice oo ord.length ok) ord.length (ord.map fun i => .int .i64 (i : Nat)) ∧ w.ownsRow base 2 1 sv sts.length (sts.map fun z => .int .i64 z) ∧
    (∃ arr : Array Value, w.heap[A]? = some (.cells arr 79) ∧ arr.size = n ∧ ∀ i, i < n → arr[i]? = some (hd i)) ∧ (∀ i, i < n → RowA base (own i) (hd i) (F i) w) ∧ (∀ i j b, own i b → own j b → i = j) ∧
    (∀ i b, own i b → b ≠ A ∧ (Value.slice oo ord.length ok).ownBlock ≠ some b ∧ sv.ownBlock ≠ some b) ∧ (Value.slice oo ord.length ok).ownBlock ≠ some A ∧ sv.ownBlock ≠ some A ∧ ∀ b, (Value.slice oo ord.length ok).ownBlock = some b → sv.ownBlock ≠ some b
theorem TrO.tr {base : Nat} {cells : Array Value} {n : Nat} {F : Nat → List Ans} {ord : List Nat} {sts : List Int} {k : Bool} {w : World} (h : TrO base cells n F ord sts k w) : TrA cells n F ord sts k w := by
  obtain ⟨A, oo, ok, sv, hd, own, e, hA, hord, hst, ⟨arr, h1, h2, h3⟩, hrows, _⟩ := h.all
  obtain ⟨sa, sc, rfl⟩ : ∃ sa sc, sv = .slice sa sts.length sc := by
    rcases hst.2 with ⟨e, e0⟩ | ⟨g, cap, cur, e, _⟩
    · exact ⟨none, 0, by rw [e, e0]⟩
    · exact ⟨_, _, e⟩
  refine ⟨⟨some ⟨A, 0, none⟩, n, oo, ok, sa, sc, e, ?_, numA_of hst, fun i hi => ?_⟩⟩
  · refine numA_of (base := base) (e := 3) (m := ord.length) (tc := ok) ?_
    have : ((ord.map fun i => ((i : Nat) : Int)).map (Value.int .i64)) = (ord.map fun i => .int .i64 (i : Nat)) := by simp
    rw [this]
    exact hord
  · obtain ⟨ta, tc, e, hans⟩ := ansA_of (hrows i hi)
    refine ⟨A, 0, ta, tc, rfl, ?_, hans⟩
    rw [Nat.zero_add, ← e]
    exact (cell_of h1 i).trans (h3 i hi)
structure SPAny (n : Nat) (L : La) (stx : L.Sg → List Int) (F : OX L × List Nat) (w w' : World) (cells : Array Value) : Prop where
  tr : TrO w.heap.size cells n (fun i => (F.1.th i).ans) F.2 (stx F.1.s) (stuckO n F.1) w'
  old : ∀ b, b < w.heap.size → w'.heap[b]? = w.heap[b]?
  size : w.heap.size ≤ w'.heap.size
  few : (stx F.1.s).length ≤ 1048576
theorem GtI.ok {gb : Nat} {y : List Hl} {s : Gt} {w : World} (I : GtI gb y s w) : okL s.l := by
  obtain ⟨arr, h, h1, h2, h3, h4, _⟩ := I.top
  rw [← h4]
  exact (I.held h (List.mem_of_getElem? h3)).ok
theorem stG_len {s : Gt} (h : okL s.l) : (stG s).length ≤ 129 := by
  have := h.len
  simp [stG, nuL]
  omega
theorem row_low {w : World} {base base' : Nat} {e : TypeId} {size : Nat} {v : Value} {n : Nat} {xs : List Value} (h : w.ownsRow base e size v n xs) (hb : base' ≤ base) : w.ownsRow base' e size v n xs :=
  ⟨h.1, h.2.imp id fun ⟨g, cap, cur, h1, h2, h3⟩ => ⟨g, cap, cur, h1, Nat.le_trans hb h2, h3⟩⟩
theorem splay_any (xsl : Value) (xs : List Int) (tv : Value) (most : Int) (ta : Option Addr) (tb toff tc n : Nat) (hta : 0 < n → ta = some ⟨tb, toff, none⟩) (hn : n ≤ 64) (oa : Nat → Option Addr) (ln oc : Nat → Nat) (ops : Nat → List OpV) (sa : Option Addr) (sc : Nat) (sl : List Int) (hsl : sl.length ≤ 17592186044416) (c : Frame) (cs : List Frame) (w : World) (hx : LsR xsl xs w)
    (I : OpsIn tb toff n oa ln oc ops w)
    (hsc : ∀ (j : Nat) (z : Int), sl[j]? = some z → ∃ s so, sa = some ⟨s, so, none⟩ ∧ w.cell? ⟨s, so + j, none⟩ = some (.int .i64 z))
    (hp : ∀ w' : World, (∀ b, b < w.heap.size → w'.heap[b]? = w.heap[b]?) → CallV Try.prog true (fun _ => none) 108 #[tv] w' (.slice ta n tc) w') :
    Runs (fun g w' => ∃ cells, SPAny n (gtLa (w.heap.size + 1)) stG (playO (gtLa (w.heap.size + 1)) (gtN xs (min xs.length 64)) ops n most sl) w w' cells ∧ g = G (c.finish (.agg cells)) cs) (G (Frame.enter Try.prog 27 #[xsl, tv, .slice sa sl.length sc, .int .i64 most] .normal) (c :: cs)) w := by
  refine Runs.walk (splay_in xsl xs tv (.slice sa sl.length sc) most c cs w hx) ?_
  rintro _ w1 ⟨fr, rfl, ⟨y0, hI, hns⟩, hO, hS, hT, hB⟩
  have hc1 : ∀ {b j : Nat} {v : Value}, w.cell? ⟨b, j, none⟩ = some v → w1.cell? ⟨b, j, none⟩ = some v := fun {b j v} e => (World.cell?_of_block (a := ⟨b, j, none⟩) (hO b (cell_lt' e))).trans e
  have hsh : ∀ b, b < w.heap.size → ¬ gtSh (w.heap.size + 1) y0 b := fun b hb => hns b (by omega)
  have I1 : OpsIn tb toff n oa ln oc ops w1 := I.old hO
  refine Runs.then (ops_any (L := gtLa (w.heap.size + 1)) gdo_ok y0 (gtN xs (min xs.length 64)) tv most ta tb toff tc n hta hn oa ln oc ops sa sc sl hsl fr (c :: cs) w1 I1 hI (fun i hi j o ho b off e => ?_) (fun j z hz => ?_) (fun w' hw' => hp w' fun b hb => (hw' b (by omega)).trans (hO b hb))) ?_
  · obtain ⟨b', off', e', c0, _⟩ := I.ops i hi j o ho
    rw [e] at e'
    injection e' with e'
    injection e' with e' _
    subst e'
    exact hsh b (cell_lt' c0)
  · obtain ⟨s, so, e, hc⟩ := hsc j z hz
    exact ⟨s, so, e, hc1 hc, hsh s (cell_lt' hc)⟩
  · rintro _ w4 ⟨cells, H, rfl⟩
    obtain ⟨y, A, oo, ok, hd, own, O⟩ := H.all
    have hold := H.old
    have hsz := H.size
    generalize playO (gtLa (w.heap.size + 1)) (gtN xs (min xs.length 64)) ops n most sl = F at *
    obtain rfl := O.eq
    obtain ⟨arr, hAr, hAz, hAi⟩ := O.heads
    have hAl := O.Alo
    have hAlt : A < w4.heap.size := (Array.getElem?_eq_some_iff.1 hAr).1
    have hy : ∀ b, b < w1.heap.size → b < w.heap.size + 1 → ¬ gtSh (w.heap.size + 1) y b := fun b h1 h2 h => hns b h2 (O.pub b h h1)
    have hyA : ¬ gtSh (w.heap.size + 1) y A := fun h => (O.shA A h).1 rfl
    have hT4 : w4.heap[w.heap.size]? = some (.cells #[.slice none 0 0, .slice none 0 0, .slice none 0 0, .bool false] 63) := (hold _ (by omega) (hns _ (Nat.lt_succ_self _))).trans hT
    refine Runs.walk (hB A n oo _ ok _ y _ w4 (hy _ (by omega) (Nat.lt_succ_self _)) O.I hT4) ?_
    rintro _ w5 ⟨B, bc, rfl, hrow, hold5, hsz5⟩
    have hrowlt : ∀ (v : Value) (e : TypeId) (sz m : Nat) (ys : List Value), w4.ownsRow w1.heap.size e sz v m ys → (∀ b, v.ownBlock = some b → ¬ gtSh (w.heap.size + 1) y b) → w5.ownsRow w.heap.size e sz v m ys := fun v e sz m ys h hs => row_low (row_same h fun b hb => hold5 b (h.lt b hb).2 (by have := (h.lt b hb).1; omega) (hs b hb)) (by omega)
    have hBb := fun b (h : (Value.slice (some (⟨B, 0, none⟩ : Addr)) (stG F.1.s).length bc).ownBlock = some b) => (hrow.lt b h).1
    refine .now ⟨_, ⟨⟨A, oo, ok, .slice (some ⟨B, 0, none⟩) (stG F.1.s).length bc, hd, fun i b => own i b ∧ w1.heap.size ≤ b ∧ b < w4.heap.size, rfl, by omega, hrowlt _ _ _ _ _ O.orow (fun b hb hs => (O.shA b hs).2 hb), row_low hrow (by omega), ⟨arr, (hold5 A hAlt (by omega) hyA).trans hAr, hAz, hAi⟩, fun i hi => ?_, fun i j b h1 h2 => O.one i j b h1.1 h2.1, fun i b h => ⟨(O.ownA i b h.1).1, O.ownO i b h.1, fun e => ?_⟩, O.Aord, fun e => ?_, fun b h e => ?_⟩, fun b hb => ?_, by omega, Nat.le_trans (stG_len (GtI.ok O.I)) (by decide)⟩, rfl⟩
    · obtain ⟨ta2, tc2, z, hz1, hz2, hz3, hz4, hz5⟩ := O.rows i hi
      refine ⟨ta2, tc2, z, hz1, hz2, hrowlt _ _ _ _ _ hz3 (fun b hb => (O.ownA i b (hz4 b hb)).2), fun b hb => ⟨hz4 b hb, hz3.lt b hb⟩, fun p hp' => ?_⟩
      obtain ⟨la, lc, e, hlen, hl⟩ := hz5 p hp'
      exact ⟨la, lc, e, hlen, fun hne => ⟨hrowlt _ _ _ _ _ (hl hne).1 (fun b hb => (O.ownA i b ((hl hne).2 b hb)).2), fun b hb => ⟨(hl hne).2 b hb, (hl hne).1.lt b hb⟩⟩⟩
    · have := hBb b e; omega
    · have := hBb A e; omega
    · have := hBb b e; have := (O.orow.lt b h).2; omega
    · exact (hold5 b (by omega) (by omega) (hy b (by omega) (by omega))).trans ((hold b (by omega) (hsh b hb)).trans (hO b hb))
section
def NG (w0 : World) (gb : Nat) (s : Gt) (w : World) : Prop := ∃ y, GtI gb y s w ∧ (∀ b, b < w0.heap.size → ¬ gtSh gb y b) ∧ (∀ b, b < w0.heap.size → w.heap[b]? = w0.heap[b]?) ∧ w0.heap.size ≤ w.heap.size
theorem NG.at {w0 : World} {gb : Nat} {s : Gt} {w : World} (h : NG w0 gb s w) (d : Nat) : NG w0 gb s (w.at d) := by
  obtain ⟨y, h1, h2, h3, h4⟩ := h
  exact ⟨y, h1.same fun _ _ => rfl, h2, h3, h4⟩
theorem NG.on {w0 : World} {gb : Nat} {s : Gt} {w w' : World} (h : NG w0 gb s w) (hb : ∀ b, b < w.heap.size → w'.heap[b]? = w.heap[b]?) (hs : w.heap.size ≤ w'.heap.size) : NG w0 gb s w' := by
  obtain ⟨y, h1, h2, h3, h4⟩ := h
  exact ⟨y, h1.same fun b e => hb b (h1.lt e), h2, fun b e => (hb b (by omega)).trans (h3 b e), by omega⟩
theorem NG.of {w0 w w' : World} {gb : Nat} {s' : Gt} {a : Ans} {y y' : List Hl} (hns : ∀ b, b < w0.heap.size → ¬ gtSh gb y b) (hold : ∀ b, b < w0.heap.size → w.heap[b]? = w0.heap[b]?) (hsz : w0.heap.size ≤ w.heap.size) (hL : Lone (gtLa gb) y w (s', a) w' y') : NG w0 gb s' w' :=
  ⟨y', hL.I, fun b hb hs => hns b hb (hL.pub b hs (by omega)), fun b hb => (hL.old b (by omega) (hns b hb)).trans (hold b hb), Nat.le_trans hsz hL.size⟩
def erA (c : Int) : Ans := ⟨c == 0, if c = 0 then 0 else c, []⟩
theorem erA_inj {c c' : Int} (h : erA c = erA c') : c = c' := by
  unfold erA at h
  injection h with h1 h2
  by_cases e : c = 0
  · subst e
    exact (by simpa using h1.symm : c' = 0).symm
  · have e' : ¬ c' = 0 := fun x => e (by subst x; simpa using h1)
    rw [if_neg e, if_neg e'] at h2
    exact h2
section
variable {main : Bool} {V : Nat → Option Wait} {w0 w : World} {gb : Nat} {s s' : Gt}
theorem gjoin_n (hA : ∀ b, Apart V b) (M : NG w0 gb s w) (N : Nat) (p a c : Int) (hrun : runN (gtLa gb) N (s, if gOK p then .inr (.j1 p a) else gErr 1) = some (s', erA c)) :
    CallP main V 60 #[.pointer (some ⟨gb, 0, none⟩), .nilIface, .int .i64 p, .int .i64 a] w (fun x w' => x = .int .i64 c ∧ NG w0 gb s' w') := by
  obtain ⟨y, I, hns, hold, hsz⟩ := M
  refine (CallP.lone (L := gtLa gb) (Rel := fun x b _ _ => ∃ c', x = .int .i64 c' ∧ b = erA c') N y s _ (fun _ _ _ _ _ h => h) hA I hrun (fun K e hw ht => (join_all K e p a ht).mono fun x e' ⟨c', h1, h2⟩ => ⟨_, ⟨c', h1, rfl⟩, h2⟩)).mono ?_
  rintro v w' ⟨y', ⟨c', rfl, h⟩, hL⟩
  exact ⟨by rw [erA_inj h], NG.of hns hold hsz hL⟩
theorem gleave_n (hA : ∀ b, Apart V b) (M : NG w0 gb s w) (N : Nat) (p c : Int) (hrun : runN (gtLa gb) N (s, if gOK p then .inr (.l1 p) else gErr 1) = some (s', erA c)) :
    CallP main V 63 #[.pointer (some ⟨gb, 0, none⟩), .nilIface, .int .i64 p] w (fun x w' => x = .int .i64 c ∧ NG w0 gb s' w') := by
  obtain ⟨y, I, hns, hold, hsz⟩ := M
  refine (CallP.lone (L := gtLa gb) (Rel := fun x b _ _ => ∃ c', x = .int .i64 c' ∧ b = erA c') N y s _ (fun _ _ _ _ _ h => h) hA I hrun (fun K e hw ht => (leave_all K e p ht).mono fun x e' ⟨c', h1, h2⟩ => ⟨_, ⟨c', h1, rfl⟩, h2⟩)).mono ?_
  rintro v w' ⟨y', ⟨c', rfl, h⟩, hL⟩
  exact ⟨by rw [erA_inj h], NG.of hns hold hsz hL⟩
theorem gleast_n (hA : ∀ b, Apart V b) (M : NG w0 gb s w) (N : Nat) (no ls pl : Int) (hrun : runN (gtLa gb) N (s, .inr (.e1 no)) = some (s', ⟨true, ls, [pl]⟩)) :
    CallP main V 61 #[.pointer (some ⟨gb, 0, none⟩), .nilIface, .int .i64 no] w (fun x w' => x = .tuple #[.int .i64 ls, .int .i64 pl] ∧ NG w0 gb s' w') := by
  obtain ⟨y, I, hns, hold, hsz⟩ := M
  refine (CallP.lone (L := gtLa gb) (Rel := fun x b _ _ => ∃ ls pl, x = .tuple #[.int .i64 ls, .int .i64 pl] ∧ b = ⟨true, ls, [pl]⟩) N y s _ (fun _ _ _ _ _ h => h) hA I hrun (fun K e hw ht => (gleast_all K e no ht).mono fun x e' ⟨a, c', h1, h2⟩ => ⟨_, ⟨a, c', h1, rfl⟩, h2⟩)).mono ?_
  rintro v w' ⟨y', ⟨a, c, rfl, h⟩, hL⟩
  have h : (⟨true, ls, [pl]⟩ : Ans) = ⟨true, a, [c]⟩ := h
  injection h with _ h1 h2
  injection h2 with h2 _
  subst h1 h2
  exact ⟨rfl, NG.of hns hold hsz hL⟩
theorem gmay_n (hA : ∀ b, Apart V b) (M : NG w0 gb s w) (N : Nat) (q z : Int) (ok : Bool) (pl : Int) (hrun : runN (gtLa gb) N (s, .inr (.m1 q z)) = some (s', ⟨ok, pl, []⟩)) :
    CallP main V 62 #[.pointer (some ⟨gb, 0, none⟩), .nilIface, .int .i64 q, .int .i64 z] w (fun x w' => x = .tuple #[.bool ok, .int .i64 pl] ∧ NG w0 gb s' w') := by
  obtain ⟨y, I, hns, hold, hsz⟩ := M
  refine (CallP.lone (L := gtLa gb) (Rel := fun x b _ _ => ∃ ok pl, x = .tuple #[.bool ok, .int .i64 pl] ∧ b = ⟨ok, pl, []⟩) N y s _ (fun _ _ _ _ _ h => h) hA I hrun (fun K e hw ht => (gmay_all K e q z ht).mono fun x e' ⟨a, c', h1, h2⟩ => ⟨_, ⟨a, c', h1, rfl⟩, h2⟩)).mono ?_
  rintro v w' ⟨y', ⟨a, c, rfl, h⟩, hL⟩
  have h : (⟨ok, pl, []⟩ : Ans) = ⟨a, c, []⟩ := h
  injection h with h1 h2 _
  subst h1 h2
  exact ⟨rfl, NG.of hns hold hsz hL⟩
end
end
section
def fxOps : Nat → List OpV := fun i => ([[⟨1, 0, 5, 0⟩], [⟨1, 1, 6, 0⟩]] : List (List OpV)).getD i []
def fxSl : List Int := [0, 1, 0, 1, 0, 1]
def fxA : Array Value := #[.int .i64 1, .int .i64 0, .int .i64 5, .int .i64 0]
def fxB : Array Value := #[.int .i64 1, .int .i64 1, .int .i64 6, .int .i64 0]
def fxH (A B : Nat) : Array Value := #[.slice (some ⟨A, 0, none⟩) 1 1, .slice (some ⟨B, 0, none⟩) 1 1]
def fxS : Array Value := #[.int .i64 0, .int .i64 1, .int .i64 0, .int .i64 1, .int .i64 0, .int .i64 1]
def fxOa (A B : Nat) (i : Nat) : Option Addr := if i = 0 then some ⟨A, 0, none⟩ else some ⟨B, 0, none⟩
def fxSt : List Int := 2 :: 0 :: 1 :: 5 :: 6 :: List.replicate 62 (-1)
theorem fxSt_len : fxSt.length = 67 := by kernel_rfl
theorem fx_ord (gb : Nat) : (playO (gtLa gb) (gtN [] 0) fxOps 2 99 fxSl).2.length = 9 := by kernel_rfl
theorem fx_state (gb : Nat) : stG (playO (gtLa gb) (gtN [] 0) fxOps 2 99 fxSl).1.s = fxSt := by kernel_rfl
theorem fx_ops {A B Hd : Nat} {w : World} (h1 : w.heap[A]? = some (.cells fxA 84)) (h2 : w.heap[B]? = some (.cells fxB 84)) (h4 : w.heap[Hd]? = some (.cells (fxH A B) 73)) : OpsIn Hd 0 2 (fxOa A B) (fun _ => 1) (fun _ => 1) fxOps w := by
  refine ⟨fun i hi => ?_, fun i hi => Nat.le_refl _, fun i hi => .inr ?_, fun i hi => ?_, fun i hi j o ho => ?_⟩
  · rw [Nat.zero_add]
    refine (cell_of h4 i).trans ?_
    match i, hi with
    | 0, _ => rfl
    | 1, _ => rfl
  · match i, hi with
    | 0, _ => exact ⟨_, rfl⟩
    | 1, _ => exact ⟨_, rfl⟩
  · match i, hi with
    | 0, _ => rfl
    | 1, _ => rfl
  · match i, hi, ho with
    | 0, _, ho =>
      match j, ho with
      | 0, ho => cases ho; exact ⟨A, 0, rfl, (cell_of h1 _).trans rfl, (cell_of h1 _).trans rfl, (cell_of h1 _).trans rfl, (cell_of h1 _).trans rfl⟩
      | j + 1, ho => exact absurd ho (by simp [fxOps])
    | 1, _, ho =>
      match j, ho with
      | 0, ho => cases ho; exact ⟨B, 0, rfl, (cell_of h2 _).trans rfl, (cell_of h2 _).trans rfl, (cell_of h2 _).trans rfl, (cell_of h2 _).trans rfl⟩
      | j + 1, ho => exact absurd ho (by simp [fxOps])
def fg0 : Gt := ⟨0, [], fun _ => -1⟩
def fg1 : Gt := (fg0.put 3 10).lay [3]
def fg2 : Gt := (fg1.put 1 7).lay [3, 1]
def fg3 : Gt := fg2.lay [1]
theorem fg_1 (gb : Nat) : runN (gtLa gb) 4 (fg0, if gOK 3 then .inr (.j1 3 10) else gErr 1) = some (fg1, erA 0) := by kernel_rfl
theorem fg_2 (gb : Nat) : runN (gtLa gb) 4 (fg1, if gOK 1 then .inr (.j1 1 7) else gErr 1) = some (fg2, erA 0) := by kernel_rfl
theorem fg_3 (gb : Nat) : runN (gtLa gb) 4 (fg2, if gOK 3 then .inr (.j1 3 0) else gErr 1) = some (fg2, erA 7) := by kernel_rfl
theorem fg_4 (gb : Nat) : runN (gtLa gb) 5 (fg2, .inr (.e1 0)) = some (fg2, ⟨true, 7, [1]⟩) := by kernel_rfl
theorem fg_5 (gb : Nat) : runN (gtLa gb) 5 (fg2, .inr (.m1 15 8)) = some (fg2, ⟨true, -1, []⟩) := by kernel_rfl
theorem fg_6 (gb : Nat) : runN (gtLa gb) 5 (fg2, .inr (.m1 16 8)) = some (fg2, ⟨false, 1, []⟩) := by kernel_rfl
theorem fg_7 (gb : Nat) : runN (gtLa gb) 4 (fg2, if gOK 3 then .inr (.l1 3) else gErr 1) = some (fg3, erA 0) := by kernel_rfl
theorem fg_8 (gb : Nat) : runN (gtLa gb) 4 (fg3, if gOK 3 then .inr (.l1 3) else gErr 1) = some (fg3, erA 6) := by kernel_rfl
noncomputable def reg25_0 := rg Try.f25.body [0]
noncomputable def reg25_1 := rg Try.f25.body [1, 0]
noncomputable def reg25_2 := rg Try.f25.body [1, 1, 0, 0]
noncomputable def reg25_3 := rg Try.f25.body [1, 1, 0, 1, 0, 0]
noncomputable def reg25_4 := rg Try.f25.body [1, 1, 1, 0]
noncomputable def reg25_5 := rg Try.f25.body [1, 1, 1, 1, 0, 0]
noncomputable def reg25_6 := rg Try.f25.body [1, 1, 1, 1, 0, 1, 0, 0]
noncomputable def reg25_7 := rg Try.f25.body [1, 1, 1, 1, 1, 0]
noncomputable def reg25_8 := rg Try.f25.body [1, 1, 1, 1, 1, 1, 0]
noncomputable def reg25_9 := rg Try.f25.body [1, 1, 1, 1, 1, 1, 1, 0]
noncomputable def reg25_10 := rg Try.f25.body [1, 1, 1, 1, 1, 1, 1, 1, 0]
theorem z25 : List.range reg25_0.size = [0] ∧ List.range reg25_1.size = [0, 1, 2, 3, 4, 5, 6, 7, 8] ∧ List.range reg25_2.size = [0, 1, 2, 3, 4, 5, 6, 7, 8, 9, 10, 11, 12, 13, 14, 15, 16, 17, 18, 19, 20, 21, 22, 23, 24, 25, 26, 27, 28, 29, 30, 31, 32, 33, 34, 35, 36, 37, 38, 39, 40, 41, 42, 43, 44, 45, 46, 47, 48, 49, 50] ∧ List.range reg25_3.size = [0] ∧ List.range reg25_4.size = [0, 1] ∧ List.range reg25_5.size = [0, 1, 2, 3, 4, 5, 6, 7, 8, 9, 10, 11, 12, 13, 14, 15, 16] ∧ List.range reg25_6.size = [0] ∧ List.range reg25_7.size = [0, 1, 2, 3, 4, 5, 6] ∧ List.range reg25_8.size = [0, 1, 2, 3, 4, 5, 6] ∧ List.range reg25_9.size = [0, 1, 2, 3, 4, 5, 6] ∧ List.range reg25_10.size = [0, 1, 2, 3, 4, 5, 6, 7, 8, 9, 10, 11, 12, 13, 14, 15, 16, 17, 18, 19, 20, 21, 22, 23, 24, 25, 26, 27] := by refine ⟨?_, ?_, ?_, ?_, ?_, ?_, ?_, ?_, ?_, ?_, ?_⟩ <;> kernel_rfl
theorem code25_is : Try.f25.body = some (.seq (.region 0 reg25_0 false) (.seq (.region 1 reg25_1 false) (.seq (.seq (.region 2 reg25_2 false) (.cond (.tmp 66 ) (.seq (.region 3 reg25_3 false) (.ret)) (.skip))) (.seq (.region 4 reg25_4 false) (.seq (.seq (.region 5 reg25_5 false) (.cond (.tmp 84 ) (.seq (.region 6 reg25_6 false) (.ret)) (.skip))) (.seq (.region 7 reg25_7 false) (.seq (.region 8 reg25_8 false) (.seq (.region 9 reg25_9 false) (.seq (.region 10 reg25_10 false) (.ret)))))))))) := by kernel_rfl
def zTr' : Obj := .cells #[.slice none 0 0, .slice none 0 0, .slice none 0 0, .bool false] 63
def FxBack (fr c : Frame) (cs : List Frame) : Prop := ∀ (cells : Array Value) (F : Nat → List Ans) (ord : List Nat) (k : Bool) (w : World), TrA cells 2 F ord fxSt k w → ord.length = 9 →
  Walk Try.prog true (DR (fun _ => none)) (fun g w' => g = G (c.finish (.bool true)) cs ∧ (∀ b, b < w.heap.size → w'.heap[b]? = w.heap[b]?) ∧ w.heap.size ≤ w'.heap.size) (G (fr.finish (.agg cells)) (c :: cs)) w
section
variable {c : Frame} {cs : List Frame}
theorem fixed_in (c : Frame) (cs : List Frame) (w : World) :
    Walk Try.prog true (DR (fun _ => none)) (fun g w' => ∃ fr, g = G (Frame.enter Try.prog 27 #[.slice none 0 0, .slice (some ⟨w.heap.size + 2, 0, none⟩) 2 2, .slice (some ⟨w.heap.size + 3, 0, none⟩) fxSl.length 6, .int .i64 99] .normal) (fr :: c :: cs) ∧ (∀ b, b < w.heap.size → w'.heap[b]? = w.heap[b]?) ∧ w.heap.size ≤ w'.heap.size ∧
        OpsIn (w.heap.size + 2) 0 2 (fxOa (w.heap.size) (w.heap.size + 1)) (fun _ => 1) (fun _ => 1) fxOps w' ∧ (∀ (j : Nat) (z : Int), fxSl[j]? = some z → w'.cell? ⟨w.heap.size + 3, 0 + j, none⟩ = some (.int .i64 z)) ∧ FxBack fr c cs)
      (G (Frame.enter Try.prog 25 #[] .normal) (c :: cs)) w := by
  have hA : ∀ b, Apart (fun _ => none) b := fun b => ⟨fun _ _ _ _ h => (by cases h), fun _ _ h => (by cases h)⟩
  rw [enter_at _ Try.func25 code25_is]
  simp only [Try.ntmps25, ez, Nat.reduceAdd, Nat.reduceSub]
  obtain ⟨T, hT⟩ : ∃ T, w.heap.size = T := ⟨_, rfl⟩
  rw [hT]
  repeat (first | refine Walk.cx ?_ | (refine Walk.cReg ?_; simp only [z25]) | (refine Walk.oq ?_; try walk_nrm) | (refine Walk.un ?_; walk_nrm))
  (refine Walk.oa ?_; try walk_nrm)
  have s1 : (w.alloc (.cells fxA 84)).heap.size = T + 1 := by simp [hT]
  have o1 : ∀ b, b < T → (w.alloc (.cells fxA 84)).heap[b]? = w.heap[b]? := fun b hb => heap_new_lt _ _ (by omega)
  have d1 : (w.alloc (.cells fxA 84)).heap[T]? = some (.cells fxA 84) := hT ▸ heap_alloc_new w (.cells fxA 84)
  try simp only [hT]
  change Walk Try.prog true _ _ _ (w.alloc (.cells fxA 84))
  generalize w.alloc (.cells fxA 84) = x1 at *
  repeat (first | refine Walk.cx ?_ | (refine Walk.cReg ?_; simp only [z25]) | (refine Walk.oq ?_; try walk_nrm) | (refine Walk.un ?_; walk_nrm))
  (refine Walk.oa ?_; try walk_nrm)
  have s2 : (x1.alloc (.cells fxB 84)).heap.size = (T + 1) + 1 := by simp [s1]
  have o2 : ∀ b, b < (T + 1) → (x1.alloc (.cells fxB 84)).heap[b]? = x1.heap[b]? := fun b hb => heap_new_lt _ _ (by omega)
  have d2 : (x1.alloc (.cells fxB 84)).heap[(T + 1)]? = some (.cells fxB 84) := s1 ▸ heap_alloc_new x1 (.cells fxB 84)
  try simp only [s1]
  change Walk Try.prog true _ _ _ (x1.alloc (.cells fxB 84))
  generalize x1.alloc (.cells fxB 84) = x2 at *
  repeat (first | refine Walk.cx ?_ | (refine Walk.cReg ?_; simp only [z25]) | (refine Walk.oq ?_; try walk_nrm) | (refine Walk.un ?_; walk_nrm))
  (refine Walk.oa ?_; try walk_nrm)
  have s3 : (x2.alloc (.cells (fxH T (T + 1)) 73)).heap.size = (T + 2) + 1 := by simp [s2]
  have o3 : ∀ b, b < (T + 2) → (x2.alloc (.cells (fxH T (T + 1)) 73)).heap[b]? = x2.heap[b]? := fun b hb => heap_new_lt _ _ (by omega)
  have d3 : (x2.alloc (.cells (fxH T (T + 1)) 73)).heap[(T + 2)]? = some (.cells (fxH T (T + 1)) 73) := s2 ▸ heap_alloc_new x2 (.cells (fxH T (T + 1)) 73)
  try simp only [s2]
  change Walk Try.prog true _ _ _ (x2.alloc (.cells (fxH T (T + 1)) 73))
  generalize x2.alloc (.cells (fxH T (T + 1)) 73) = x3 at *
  repeat (first | refine Walk.cx ?_ | (refine Walk.cReg ?_; simp only [z25]) | (refine Walk.oq ?_; try walk_nrm) | (refine Walk.un ?_; walk_nrm))
  (refine Walk.oa ?_; try walk_nrm)
  have s4 : (x3.alloc (.cells fxS 3)).heap.size = (T + 3) + 1 := by simp [s3]
  have o4 : ∀ b, b < (T + 3) → (x3.alloc (.cells fxS 3)).heap[b]? = x3.heap[b]? := fun b hb => heap_new_lt _ _ (by omega)
  have d4 : (x3.alloc (.cells fxS 3)).heap[(T + 3)]? = some (.cells fxS 3) := s3 ▸ heap_alloc_new x3 (.cells fxS 3)
  try simp only [s3]
  change Walk Try.prog true _ _ _ (x3.alloc (.cells fxS 3))
  generalize x3.alloc (.cells fxS 3) = x4 at *
  repeat (first | refine Walk.cx ?_ | (refine Walk.cReg ?_; simp only [z25]) | (refine Walk.oq ?_; try walk_nrm) | (refine Walk.un ?_; walk_nrm))
  refine Walk.callE (ho_of (by conv => lhs; whnf) (by kernel_rfl)) (by rfl) (by decide) rfl Try.func27 (by kernel_rfl) (by rfl) ?_
  walk_nrm
  refine .stop fun d => ⟨_, rfl, fun b hb => (o4 b (by omega)).trans ((o3 b (by omega)).trans ((o2 b (by omega)).trans (o1 b hb))), ?_, fx_ops ((o4 _ (by omega)).trans ((o3 _ (by omega)).trans ((o2 _ (by omega)).trans d1))) ((o4 _ (by omega)).trans ((o3 _ (by omega)).trans d2)) ((o4 _ (by omega)).trans d3), fun j z hz => ?_, ?_⟩
  · show T ≤ x4.heap.size
    omega
  · try rw [Nat.zero_add]
    refine (cell_of (w := x4) d4 j).trans ?_
    have h : (fxSl.map (Value.int .i64))[j]? = some (.int .i64 z) := by rw [List.getElem?_map, hz]; rfl
    simpa [fxSl, fxS] using h
  · clear d1 d2 d3 d4 s1 s2 s3 s4 o1 o2 o3 o4 hT
    intro cells F ord k w6 hTr hord
    obtain ⟨aa, ac, oa, oc, sa, sc, rfl, n1, n2, n3⟩ := hTr.all
    have hst0 : fxSt[0]? = some 2 := rfl
    obtain ⟨sb, so, rfl, q0⟩ := n2 0 2 rfl
    have q1 : w6.cell? ⟨sb, so + 1, none⟩ = some (.int .i64 0) := by
      obtain ⟨sb', so', e, h⟩ := n2 1 0 rfl
      cases e
      exact h
    have q2 : w6.cell? ⟨sb, so + 2, none⟩ = some (.int .i64 1) := by
      obtain ⟨sb', so', e, h⟩ := n2 2 1 rfl
      cases e
      exact h
    have q3 : w6.cell? ⟨sb, so + 3, none⟩ = some (.int .i64 5) := by
      obtain ⟨sb', so', e, h⟩ := n2 3 5 rfl
      cases e
      exact h
    have q4 : w6.cell? ⟨sb, so + 4, none⟩ = some (.int .i64 6) := by
      obtain ⟨sb', so', e, h⟩ := n2 4 6 rfl
      cases e
      exact h
    rw [Nat.add_zero] at q0
    simp only [trC, hord, fxSt_len]
    clear hord hst0 n1 n2 n3 hTr
    refine Walk.finish (ho_of (by conv => lhs; whnf) (by kernel_rfl)) ?_
    walk_nrm
    (refine Walk.oa ?_; try walk_nrm)
    have s7 : (w6.alloc zTr').heap.size = w6.heap.size + 1 := by simp
    have o7 : ∀ b, b < w6.heap.size → (w6.alloc zTr').heap[b]? = w6.heap[b]? := fun b hb => heap_new_lt _ _ hb
    have d7 := heap_alloc_new w6 zTr'
    have e7 : w6.alloc (.cells #[.slice none 0 0, .slice none 0 0, .slice none 0 0, .bool false] 63) = w6.alloc zTr' := rfl
    try rw [e7]
    clear e7
    have l1 := cell_lt' q0
    generalize hT1 : w6.heap.size = T1 at *
    generalize w6.alloc zTr' = w7 at *
    unfold zTr' at d7
    refine Walk.storeS 63 (.tmp 1) (.tmp 15) (ho_of (by conv => lhs; whnf) (by kernel_rfl)) (by rfl) (by decide) rfl T1 #[.slice aa 2 ac, .slice oa 9 oc, .slice (some ⟨sb, so, none⟩) 67 sc, .bool k] _ 63 rfl rfl d7 (by kernel_rfl) (by rfl) (by simp [Value.oneCell']) (hA _) ?_
    have d8 := setRow_self (cells := #[.slice aa 2 ac, .slice oa 9 oc, .slice (some ⟨sb, so, none⟩) 67 sc, .bool k]) d7
    have o8 : ∀ x, x < T1 → (w7.setRow T1 #[.slice aa 2 ac, .slice oa 9 oc, .slice (some ⟨sb, so, none⟩) 67 sc, .bool k]).heap[x]? = w6.heap[x]? := fun x hx => (setRow_other _ _ (by omega)).trans (o7 x hx)
    have s8 := setRow_size w7 T1 #[.slice aa 2 ac, .slice oa 9 oc, .slice (some ⟨sb, so, none⟩) 67 sc, .bool k]
    rw [s7] at s8
    generalize w7.setRow T1 #[.slice aa 2 ac, .slice oa 9 oc, .slice (some ⟨sb, so, none⟩) 67 sc, .bool k] = w8 at *
    have hc8 : ∀ {x j : Nat} {v : Value}, x < T1 → w6.cell? ⟨x, j, none⟩ = some v → w8.cell? ⟨x, j, none⟩ = some v := fun {x j v} h e => (World.cell?_of_block (a := ⟨x, j, none⟩) (o8 x h)).trans e
    have x0 : w8.cell? ⟨T1, 0, none⟩ = some (.slice aa 2 ac) := (cell_of d8 0).trans rfl
    have x1 : w8.cell? ⟨T1, 1, none⟩ = some (.slice oa 9 oc) := (cell_of d8 1).trans rfl
    have x2 : w8.cell? ⟨T1, 2, none⟩ = some (.slice (some ⟨sb, so, none⟩) 67 sc) := (cell_of d8 2).trans rfl
    have y0 := hc8 l1 q0
    have y1 := hc8 l1 q1
    have y2 := hc8 l1 q2
    have y3 := hc8 l1 q3
    have y4 := hc8 l1 q4
    have hnw := ngate_w (main := true) (V := fun _ => none) w8 (fun b _ => hA b)
    have hz8 : T1 + 1 ≤ w8.heap.size := by omega
    clear q0 q1 q2 q3 q4 d7 d8 s7 s8 o7 hc8 l1
    try walk_nrm
    repeat (first | refine Walk.cx ?_ | (refine Walk.cReg ?_; simp only [z25]) | (refine Walk.oq ?_; try walk_nrm) | (refine Walk.un ?_; walk_nrm))
    refine Walk.callW (Post := fun v w' => v = .pointer (some ⟨w8.heap.size, 0, none⟩) ∧ NgI w8 64 w') ?_ (ho_of (by conv => lhs; whnf) (by kernel_rfl)) (by rfl) (by decide) rfl Try.func29 (by kernel_rfl) (by rfl) ?_
    · try walk_nrm
      exact hnw
    rintro v w9 ⟨rfl, E9⟩
    clear hnw x0 x1 x2 y0 y1 y2 y3 y4
    have hns : ∀ b, b < w8.heap.size → ¬ gtSh w8.heap.size [Hl.no] b := fun b hb hs => by
      rcases hs with e | ⟨h, hm, e⟩
      · omega
      · rw [List.mem_singleton.1 hm] at e
        rcases e with e | e <;> cases e
    have M0 : NG w8 w8.heap.size fg0 w9 := ⟨[Hl.no], E9.gt, hns, E9.old, Nat.le_of_lt (Array.getElem?_eq_some_iff.1 E9.blk).1⟩
    clear hns
    clear E9
    generalize w8.heap.size = gb at M0 ⊢
    have hq1 := fun w => run_eql_ptr (P := Try.prog) 74 undGate (some ⟨gb, 0, none⟩) w
    have hq2 := fun w es => ev_eql_ptr (P := Try.prog) 74 undGate (some ⟨gb, 0, none⟩) w es
    simp only [Option.isNone_some] at hq1
    walk_nrm
    repeat (first | refine Walk.cx ?_ | (refine Walk.cReg ?_; simp only [z25]) | (refine Walk.oq ?_; try walk_nrm) | (refine Walk.un ?_; walk_nrm))
    have hc := gjoin_n (main := true) (V := fun _ => none) hA M0 4 3 10 0 (fg_1 gb)
    clear M0
    refine Walk.callP (Post := fun v w' => v = .int .i64 0 ∧ NG w8 gb fg1 w') ?_ (ho_of (by conv => lhs; whnf) (by kernel_rfl)) (by rfl) (by decide) rfl Try.func60 (by kernel_rfl) (by rfl) ⟨rfl, rfl, _, Try.func25⟩ ?_
    · try walk_nrm
      exact hc
    rintro v z0 ⟨rfl, M1⟩
    clear hc
    walk_nrm
    repeat (first | refine Walk.cx ?_ | (refine Walk.cReg ?_; simp only [z25]) | (refine Walk.oq ?_; try walk_nrm) | (refine Walk.un ?_; walk_nrm))
    have hc := gjoin_n (main := true) (V := fun _ => none) hA M1 4 1 7 0 (fg_2 gb)
    clear M1
    refine Walk.callP (Post := fun v w' => v = .int .i64 0 ∧ NG w8 gb fg2 w') ?_ (ho_of (by conv => lhs; whnf) (by kernel_rfl)) (by rfl) (by decide) rfl Try.func60 (by kernel_rfl) (by rfl) ⟨rfl, rfl, _, Try.func25⟩ ?_
    · try walk_nrm
      exact hc
    rintro v z1 ⟨rfl, M2⟩
    clear hc
    walk_nrm
    repeat (first | refine Walk.cx ?_ | (refine Walk.cReg ?_; simp only [z25]) | (refine Walk.oq ?_; try walk_nrm) | (refine Walk.un ?_; walk_nrm))
    have hc := gjoin_n (main := true) (V := fun _ => none) hA M2 4 3 0 7 (fg_3 gb)
    clear M2
    refine Walk.callP (Post := fun v w' => v = .int .i64 7 ∧ NG w8 gb fg2 w') ?_ (ho_of (by conv => lhs; whnf) (by kernel_rfl)) (by rfl) (by decide) rfl Try.func60 (by kernel_rfl) (by rfl) ⟨rfl, rfl, _, Try.func25⟩ ?_
    · try walk_nrm
      exact hc
    rintro v z2 ⟨rfl, M3⟩
    clear hc
    walk_nrm
    repeat (first | refine Walk.cx ?_ | (refine Walk.cReg ?_; simp only [z25]) | (refine Walk.oq ?_; try walk_nrm) | (refine Walk.un ?_; walk_nrm))
    have hc := gleast_n (main := true) (V := fun _ => none) hA M3 5 0 7 1 (fg_4 gb)
    clear M3
    refine Walk.callP (Post := fun v w' => v = .tuple #[.int .i64 7, .int .i64 1] ∧ NG w8 gb fg2 w') ?_ (ho_of (by conv => lhs; whnf) (by kernel_rfl)) (by rfl) (by decide) rfl Try.func61 (by kernel_rfl) (by rfl) ⟨rfl, rfl, _, Try.func25⟩ ?_
    · try walk_nrm
      exact hc
    rintro v z3 ⟨rfl, M4⟩
    clear hc
    walk_nrm
    repeat (first | refine Walk.cx ?_ | (refine Walk.cReg ?_; simp only [z25]) | (refine Walk.oq ?_; try walk_nrm) | (refine Walk.un ?_; walk_nrm))
    have hc := gmay_n (main := true) (V := fun _ => none) hA M4 5 15 8 true (-1) (fg_5 gb)
    clear M4
    refine Walk.callP (Post := fun v w' => v = .tuple #[.bool true, .int .i64 (-1)] ∧ NG w8 gb fg2 w') ?_ (ho_of (by conv => lhs; whnf) (by kernel_rfl)) (by rfl) (by decide) rfl Try.func62 (by kernel_rfl) (by rfl) ⟨rfl, rfl, _, Try.func25⟩ ?_
    · try walk_nrm
      exact hc
    rintro v z4 ⟨rfl, M5⟩
    clear hc
    walk_nrm
    repeat (first | refine Walk.cx ?_ | (refine Walk.cReg ?_; simp only [z25]) | (refine Walk.oq ?_; try walk_nrm) | (refine Walk.un ?_; walk_nrm))
    have hc := gmay_n (main := true) (V := fun _ => none) hA M5 5 16 8 false 1 (fg_6 gb)
    clear M5
    refine Walk.callP (Post := fun v w' => v = .tuple #[.bool false, .int .i64 1] ∧ NG w8 gb fg2 w') ?_ (ho_of (by conv => lhs; whnf) (by kernel_rfl)) (by rfl) (by decide) rfl Try.func62 (by kernel_rfl) (by rfl) ⟨rfl, rfl, _, Try.func25⟩ ?_
    · try walk_nrm
      exact hc
    rintro v z5 ⟨rfl, M6⟩
    clear hc
    walk_nrm
    repeat (first | refine Walk.cx ?_ | (refine Walk.cReg ?_; simp only [z25]) | (refine Walk.oq ?_; try walk_nrm) | (refine Walk.un ?_; walk_nrm))
    have hc := gleave_n (main := true) (V := fun _ => none) hA M6 4 3 0 (fg_7 gb)
    clear M6
    refine Walk.callP (Post := fun v w' => v = .int .i64 0 ∧ NG w8 gb fg3 w') ?_ (ho_of (by conv => lhs; whnf) (by kernel_rfl)) (by rfl) (by decide) rfl Try.func63 (by kernel_rfl) (by rfl) ⟨rfl, rfl, _, Try.func25⟩ ?_
    · try walk_nrm
      exact hc
    rintro v z6 ⟨rfl, M7⟩
    clear hc
    walk_nrm
    repeat (first | refine Walk.cx ?_ | (refine Walk.cReg ?_; simp only [z25]) | (refine Walk.oq ?_; try walk_nrm) | (refine Walk.un ?_; walk_nrm))
    have hc := gleave_n (main := true) (V := fun _ => none) hA M7 4 3 6 (fg_8 gb)
    clear M7
    refine Walk.callP (Post := fun v w' => v = .int .i64 6 ∧ NG w8 gb fg3 w') ?_ (ho_of (by conv => lhs; whnf) (by kernel_rfl)) (by rfl) (by decide) rfl Try.func63 (by kernel_rfl) (by rfl) ⟨rfl, rfl, _, Try.func25⟩ ?_
    · try walk_nrm
      exact hc
    rintro v z7 ⟨rfl, M8⟩
    clear hc
    walk_nrm
    repeat (first | refine Walk.cx ?_ | (refine Walk.cReg ?_; simp only [z25]) | (refine Walk.oq ?_; try walk_nrm) | (refine Walk.un ?_; walk_nrm))
    obtain ⟨yy, _, _, oo, zz⟩ := M8
    exact Walk.on1 rfl rfl Try.func25 rfl (.stop fun d => ⟨rfl, fun b hb => (oo b (by omega)).trans (o8 b (by omega)), by show T1 ≤ z7.heap.size; omega⟩)
end
theorem fixed_run (c : Frame) (cs : List Frame) (w : World) : Runs (fun g w' => g = G (c.finish (.bool true)) cs ∧ (∀ b, b < w.heap.size → w'.heap[b]? = w.heap[b]?) ∧ w.heap.size ≤ w'.heap.size) (G (Frame.enter Try.prog 25 #[] .normal) (c :: cs)) w := by
  refine Runs.walk (fixed_in c cs w) ?_
  rintro _ w1 ⟨fr, rfl, O1, Z1, I1, hs1, hB⟩
  refine Runs.then (splay_any (.slice none 0 0) [] (.slice (some ⟨w.heap.size + 2, 0, none⟩) 2 2) 99 (some ⟨w.heap.size + 2, 0, none⟩) (w.heap.size + 2) 0 2 2 (fun _ => rfl) (by decide) _ _ _ _ (some ⟨w.heap.size + 3, 0, none⟩) 6 fxSl (by decide) fr (c :: cs) w1 (LsR.nil w1) I1 (fun j z hz => ⟨_, 0, rfl, hs1 j z hz⟩) (fun w' _ => firstOps_some _ 2 2 w' (by decide) (.inr ⟨_, rfl⟩))) ?_
  rintro _ w2 ⟨cells, H, rfl⟩
  have O2 := H.old
  have Z2 := H.size
  have hT := H.tr.tr
  have hord := fx_ord (w1.heap.size + 1)
  rw [show min ([] : List Int).length 64 = 0 from rfl] at hT
  rw [fx_state] at hT
  refine Runs.walk (hB cells _ _ _ w2 hT hord) ?_
  rintro _ w3 ⟨rfl, O3, Z3⟩
  exact .now ⟨rfl, fun b hb => (O3 b (by omega)).trans ((O2 b (by omega)).trans (O1 b hb)), by omega⟩
end
end Go.Proofs.Ytgfajibjedfkdaa
