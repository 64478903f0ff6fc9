/- Part 27. -/
import Derived.Test.YtgfajibjedfkdaaJK13
import Derived.Test.YtgfajibjedfkdaaJK14
import Derived.Test.YtgfajibjedfkdaaJK24
import Derived.Test.YtgfajibjedfkdaaJK25
set_option linter.unusedSimpArgs false
set_option linter.unusedVariables false
set_option linter.unusedVariables false
set_option maxHeartbeats 8000000
set_option maxRecDepth 100000
namespace Go.Proofs.Ytgfajibjedfkdaa
open Go.Conc Go.RowKit Go.Relay
open Go.ConcN (upd upd_ne upd_same)
section
variable {main : Bool}
theorem kp_in (xa sa : Option Addr) (xl xc sl sc' : Nat) (tv : Value) (most : Int) (XS SS : List Value) (S2 : Array Value) (hS2 : S2.size = 4) (h1 : (#[.slice xa xl xc, tv, .slice sa sl sc', .int .i64 most] : Array Value).all (·.oneCell') = true) (h2 : S2.all (·.oneCell') = true) (hxl : xl ≤ 17592186044415) (hsl : sl ≤ 17592186044415) (hl1 : XS.length = xl) (hl2 : SS.length = sl) (hone1 : ∀ u ∈ XS, u.oneCell' = true) (hone2 : ∀ u ∈ SS, u.oneCell' = true) (w : World) :
    Walk Try.prog true (DR (fun _ => none)) (fun g w' => ∃ fr, g = G (Frame.enter Try.prog 25 #[] .normal) [fr] ∧ (∃ d, w' = ((w.alloc (.cells #[.slice xa xl xc, tv, .slice sa sl sc', .int .i64 most] 71)).alloc (.cells S2 71)).at d) ∧
      ∀ (w1 : World), w1.heap[w.heap.size]? = some (.cells #[.slice xa xl xc, tv, .slice sa sl sc', .int .i64 most] 71) → RwR (.slice xa xl xc) xl XS w1 → RwR (.slice sa sl sc') sl SS w1 →
        Walk Try.prog true (DR (fun _ => none)) (fun g w' => ∃ k1 c1 k2 c2, (∃ u, g = G (hk0 (.slice (some ⟨k1, 0, none⟩) (xl + 1) c1) (.slice (some ⟨k2, 0, none⟩) (sl + 1) c2) (.slice none 0 0) w.heap.size (w.heap.size + 1) 0 u) []) ∧ (∀ b, b < w1.heap.size → w'.heap[b]? = w1.heap[b]?) ∧ w1.heap.size ≤ w'.heap.size ∧
          w'.ownsRow w1.heap.size 2 1 (.slice (some ⟨k1, 0, none⟩) (xl + 1) c1) (xl + 1) (XS ++ [.int .i64 77]) ∧ w'.ownsRow w1.heap.size 3 1 (.slice (some ⟨k2, 0, none⟩) (sl + 1) c2) (sl + 1) (SS ++ [.int .i64 88])) (G (fr.finish (.bool true)) []) w1)
    (G (Frame.enter Try.prog 11 #[.agg #[.slice xa xl xc, tv, .slice sa sl sc', .int .i64 most], .agg S2] .normal) []) w := by
  have hiI1 := Option.some_get (show (Try.prog.info? 2).isSome = true by kernel_rfl)
  have hiI2 := Option.some_get (show (Try.prog.info? 3).isSome = true by kernel_rfl)
  obtain ⟨L2⟩ := S2
  match L2, hS2 with
  | [p0, p1, p2, p3], _ =>
  rw [enter_at _ Try.func11 code11_is]
  simp only [Try.ntmps11, ez, Nat.reduceAdd, Nat.reduceSub]
  repeat (first | refine Walk.cx ?_ | (refine Walk.cReg ?_; simp only [z11]) | (refine Walk.oq ?_; try walk_nrm) | (refine Walk.un ?_; walk_nrm))
  (refine Walk.oa ?_; try walk_nrm)
  have s1 : (w.alloc (.cells #[.slice xa xl xc, tv, .slice sa sl sc', .int .i64 most] 71)).heap.size = w.heap.size + 1 := by simp
  generalize hw1 : w.alloc (.cells #[.slice xa xl xc, tv, .slice sa sl sc', .int .i64 most] 71) = w1 at *
  generalize hX : w.heap.size = X at *
  repeat (first | (refine Walk.oq ?_; try walk_nrm) | (refine Walk.un ?_; walk_nrm))
  (refine Walk.oa ?_; try walk_nrm)
  try simp only [s1]
  generalize hw2 : w1.alloc (.cells #[p0, p1, p2, p3] 71) = w2 at *
  repeat (first | refine Walk.cx ?_ | (refine Walk.cReg ?_; simp only [z11]) | (refine Walk.oq ?_; try walk_nrm) | (refine Walk.un ?_; walk_nrm))
  refine Walk.callE (ho_of (by conv => lhs; whnf) (by kernel_rfl)) (by rfl) (by decide) rfl Try.func25 (by kernel_rfl) (by rfl) ?_
  walk_nrm
  refine .stop fun d => ⟨_, rfl, ⟨d, rfl⟩, ?_⟩
  clear hw2 w2 hw1 s1 w1 h1 h2
  intro w1 hXb hx hs
  have c0 : w1.cell? ⟨X, 0, none⟩ = some (.slice xa xl xc) := (cell_of hXb 0).trans rfl
  have c2 : w1.cell? ⟨X, 2, none⟩ = some (.slice sa sl sc') := (cell_of hXb 2).trans rfl
  have lX := (Array.getElem?_eq_some_iff.1 hXb).1
  refine Walk.finish (ho_of (by conv => lhs; whnf) (by kernel_rfl)) ?_
  walk_nrm
  repeat (first | refine Walk.cx ?_ | (refine Walk.cReg ?_; simp only [z11]) | (refine Walk.oq ?_; try walk_nrm) | (refine Walk.un ?_; walk_nrm))
  (refine Walk.oa ?_; try walk_nrm)
  have s11 : (w1.alloc (.cells #[] 2)).heap.size = w1.heap.size + 1 := by simp
  have o11 : ∀ b, b < w1.heap.size → (w1.alloc (.cells #[] 2)).heap[b]? = w1.heap[b]? := fun b hb => heap_new_lt _ _ hb
  have e11 := heap_alloc_new w1 (.cells #[] 2)
  have q11 := cell_alloc w1 (.cells #[] 2) c0
  have h11 : RwR (.slice xa xl xc) xl XS (w1.alloc (.cells #[] 2)) := RwR.old hx o11
  try simp only [s11]
  generalize hE1 : w1.heap.size = E1 at *
  generalize w1.alloc (.cells #[] 2) = x1 at *
  repeat (first | (refine Walk.oq ?_; try walk_nrm) | (refine Walk.un ?_; walk_nrm))
  refine Walk.copiedT (.tmp 26) (.tmp 28) 28 2 _ (.int .i64 0) 1 8 (by kernel_rfl) hiI1.symm (by rfl) (by rfl) (by rfl) (by rfl) (by decide) (ho_of (by conv => lhs; whnf) (by kernel_rfl)) (by rfl) (by decide) rfl E1 e11 (ap0 _) (.slice xa xl xc) xl XS h11 (by simp [hl1]) (fun u hu => hone1 u hu) (by simp only [maxLen]; omega) (by omega) rfl rfl (fun g1 cap1 y1 r11 ho1 hs1 => ?_)
  have oo1 : ∀ b, b < E1 → y1.heap[b]? = w1.heap[b]? := fun b hb => (ho1 b (by omega) (by omega)).trans (o11 b hb)
  have lg1 := r11.lt g1 rfl
  clear ho1 e11 o11 h11 q11
  walk_nrm
  repeat (first | (refine Walk.oq ?_; try walk_nrm) | (refine Walk.un ?_; walk_nrm))
  (refine Walk.oa ?_; try walk_nrm)
  have s12 : (y1.alloc (.cells #[.int .i64 77] 2)).heap.size = y1.heap.size + 1 := by simp
  have o12 : ∀ b, b < y1.heap.size → (y1.alloc (.cells #[.int .i64 77] 2)).heap[b]? = y1.heap[b]? := fun b hb => heap_new_lt _ _ hb
  have e12 := heap_alloc_new y1 (.cells #[.int .i64 77] 2)
  have r12 := row_same r11 (w' := y1.alloc (.cells #[.int .i64 77] 2)) fun b hb => o12 b (r11.lt b hb).2
  generalize hF1 : y1.heap.size = F1 at *
  generalize y1.alloc (.cells #[.int .i64 77] 2) = z1 at *
  repeat (first | (refine Walk.oq ?_; try walk_nrm) | (refine Walk.un ?_; walk_nrm))
  refine Walk.append (.tmp 29) (.tmp 30) 28 (ho_of (by conv => lhs; whnf) (by kernel_rfl)) (by rfl) (by decide) rfl E1 2 _ (.int .i64 0) 1 8 (by kernel_rfl) hiI1.symm (by rfl) (by rfl) (by rfl) (by rfl) (by decide) (.slice (some ⟨g1, 0, none⟩) xl cap1) xl XS rfl r12 ⟨F1, 0, none⟩ 1 1 [.int .i64 77] rfl (by rfl) (fun j u hu => ?_) (by simp [Value.oneCell']) (by decide) (by simp [maxLen]; omega) (by omega) (by omega) (fun g _ => ap0 g) (fun k1 c1 v1 R1 hg1 at1 lt1 => ?_)
  · rw [add_none, Nat.zero_add]
    refine (cell_of e12 j).trans ?_
    simpa using hu
  have O1 : ∀ b, b < E1 → v1.heap[b]? = w1.heap[b]? := fun b hb => (hg1.block b (by omega) (fun e => by simp only [Value.ownBlock, Option.some.injEq] at e; omega)).trans ((o12 b (by omega)).trans (oo1 b hb))
  have Z1 := hg1.size
  have Zb1 : E1 ≤ v1.heap.size := by omega
  clear at1 hg1 e12 r12 o12 r11 oo1
  walk_nrm
  repeat (first | refine Walk.cx ?_ | (refine Walk.cReg ?_; simp only [z11]) | (refine Walk.oq ?_; try walk_nrm) | (refine Walk.un ?_; walk_nrm))
  have c2' : v1.cell? ⟨X, 2, none⟩ = some (.slice sa sl sc') := (World.cell?_of_block (a := ⟨X, 2, none⟩) (O1 X lX)).trans c2
  have hs' : RwR (.slice sa sl sc') sl SS v1 := hs.old fun b hb => O1 b (by omega)
  clear c0 c2 hx hs hXb
  (refine Walk.oa ?_; try walk_nrm)
  have s21 : (v1.alloc (.cells #[] 3)).heap.size = v1.heap.size + 1 := by simp
  have o21 : ∀ b, b < v1.heap.size → (v1.alloc (.cells #[] 3)).heap[b]? = v1.heap[b]? := fun b hb => heap_new_lt _ _ hb
  have e21 := heap_alloc_new v1 (.cells #[] 3)
  have q21 := cell_alloc v1 (.cells #[] 3) c2'
  have h21 : RwR (.slice sa sl sc') sl SS (v1.alloc (.cells #[] 3)) := RwR.old hs' o21
  try simp only [s21]
  generalize hE2 : v1.heap.size = E2 at *
  generalize v1.alloc (.cells #[] 3) = x2 at *
  repeat (first | (refine Walk.oq ?_; try walk_nrm) | (refine Walk.un ?_; walk_nrm))
  refine Walk.copiedT (.tmp 32) (.tmp 34) 57 3 _ (.int .i64 0) 1 8 (by kernel_rfl) hiI2.symm (by rfl) (by rfl) (by rfl) (by rfl) (by decide) (ho_of (by conv => lhs; whnf) (by kernel_rfl)) (by rfl) (by decide) rfl E2 e21 (ap0 _) (.slice sa sl sc') sl SS h21 (by simp [hl2]) (fun u hu => hone2 u hu) (by simp only [maxLen]; omega) (by omega) rfl rfl (fun g2 cap2 y2 r21 ho2 hs2 => ?_)
  have oo2 : ∀ b, b < E2 → y2.heap[b]? = v1.heap[b]? := fun b hb => (ho2 b (by omega) (by omega)).trans (o21 b hb)
  have lg2 := r21.lt g2 rfl
  clear ho2 e21 o21 h21 q21
  walk_nrm
  repeat (first | (refine Walk.oq ?_; try walk_nrm) | (refine Walk.un ?_; walk_nrm))
  (refine Walk.oa ?_; try walk_nrm)
  have s22 : (y2.alloc (.cells #[.int .i64 88] 3)).heap.size = y2.heap.size + 1 := by simp
  have o22 : ∀ b, b < y2.heap.size → (y2.alloc (.cells #[.int .i64 88] 3)).heap[b]? = y2.heap[b]? := fun b hb => heap_new_lt _ _ hb
  have e22 := heap_alloc_new y2 (.cells #[.int .i64 88] 3)
  have r22 := row_same r21 (w' := y2.alloc (.cells #[.int .i64 88] 3)) fun b hb => o22 b (r21.lt b hb).2
  generalize hF2 : y2.heap.size = F2 at *
  generalize y2.alloc (.cells #[.int .i64 88] 3) = z2 at *
  repeat (first | (refine Walk.oq ?_; try walk_nrm) | (refine Walk.un ?_; walk_nrm))
  refine Walk.append (.tmp 35) (.tmp 36) 57 (ho_of (by conv => lhs; whnf) (by kernel_rfl)) (by rfl) (by decide) rfl E2 3 _ (.int .i64 0) 1 8 (by kernel_rfl) hiI2.symm (by rfl) (by rfl) (by rfl) (by rfl) (by decide) (.slice (some ⟨g2, 0, none⟩) sl cap2) sl SS rfl r22 ⟨F2, 0, none⟩ 1 1 [.int .i64 88] rfl (by rfl) (fun j u hu => ?_) (by simp [Value.oneCell']) (by decide) (by simp [maxLen]; omega) (by omega) (by omega) (fun g _ => ap0 g) (fun k2 c2 v2 R2 hg2 at2 lt2 => ?_)
  · rw [add_none, Nat.zero_add]
    refine (cell_of e22 j).trans ?_
    simpa using hu
  have O2 : ∀ b, b < E2 → v2.heap[b]? = v1.heap[b]? := fun b hb => (hg2.block b (by omega) (fun e => by simp only [Value.ownBlock, Option.some.injEq] at e; omega)).trans ((o22 b (by omega)).trans (oo2 b hb))
  have Z2 := hg2.size
  have Zb2 : E2 ≤ v2.heap.size := by omega
  clear at2 hg2 e22 r22 o22 r21 oo2
  walk_nrm
  repeat (first | refine Walk.cx ?_ | (refine Walk.cReg ?_; simp only [z11]) | (refine Walk.oq ?_; try walk_nrm) | (refine Walk.un ?_; walk_nrm))
  refine Walk.ctl rfl (fun w => stepG_loop) ?_
  refine .stop fun d => ⟨k1, c1, k2, c2, at_slots ?_, fun b hb => (O2 b (by omega)).trans (O1 b (by omega)), (by show E1 ≤ v2.heap.size; omega), ?_, ?_⟩
  · simp only [hk0]
    rfl
  · exact row_same R1 fun b hb => O2 b (by have := (R1.lt b hb).2; omega)
  · have := R2
    exact row_low this (by omega)
end
section
variable {main : Bool}
structure CpI (T : Nat) (tv : Value) (i : Nat) (g cp : Nat → Nat) (ln : Nat → Nat) (rows : Nat → List Value) (w1 w : World) : Prop where
  size : T ≤ w.heap.size
  old : ∀ b, b < T → w.heap[b]? = w1.heap[b]?
  hd : ∃ a c, tv = .slice a i c
  hdr : w.ownsRow T 73 1 tv i ((List.range i).map fun j => .slice (some ⟨g j, 0, none⟩) (ln j) (cp j))
  row : ∀ j, j < i → w.ownsRow T 84 4 (.slice (some ⟨g j, 0, none⟩) (ln j) (cp j)) (ln j) (rows j)
  one : ∀ j k, j < i → k < i → g j = g k → j = k
theorem CpI.at {T : Nat} {tv : Value} {i : Nat} {g cp ln : Nat → Nat} {rows : Nat → List Value} {w1 w : World} (H : CpI T tv i g cp ln rows w1 w) (d : Nat) : CpI T tv i g cp ln rows w1 (w.at d) := ⟨H.size, H.old, H.hd, H.hdr, H.row, H.one⟩
theorem ks0 (st sc : Value) (X Y i n tcap T ln lc oc sb so : Nat) (ta : Option Addr) (la : Option Addr) (xs : List Value) (row : List Value) (u : Nat → Value) (cs : List Frame) (w : World) (hi : i < n) (hn : n ≤ 5864062014805) (hln : ln ≤ 4398046511104) (hX : w.cell? ⟨X, 1, none⟩ = some (.slice (some ⟨sb, so, none⟩) n lc)) (h1 : w.cell? ⟨sb, so + i, none⟩ = some (.slice la ln oc)) (hr : RwR (.slice la ln oc) ln row w) (hrl : row.length = ln * 4) (hone : ∀ x ∈ row, x.oneCell' = true)
    (hrow : w.ownsRow T 73 1 (.slice ta i tcap) i xs) (hT : T ≤ w.heap.size) :
    Walk Try.prog main (DR (fun _ => none)) (fun g' w' => ∃ (g2 c2 g c : Nat) (w2 : World), (∃ u', g' = G (hk0 st sc (.slice (some ⟨g2, 0, none⟩) (i + 1) c2) X Y (i + 1) u') cs) ∧ (∃ d, w' = w2.at d) ∧ w.heap.size ≤ w2.heap.size ∧ (∀ b, b < w.heap.size → (Value.slice ta i tcap).ownBlock ≠ some b → w2.heap[b]? = w.heap[b]?) ∧ w.heap.size ≤ g ∧
      w2.ownsRow T 84 4 (.slice (some ⟨g, 0, none⟩) ln c) ln row ∧ w2.ownsRow T 73 1 (.slice (some ⟨g2, 0, none⟩) (i + 1) c2) (i + 1) (xs ++ [.slice (some ⟨g, 0, none⟩) ln c])) (G (hk0 st sc (.slice ta i tcap) X Y i u) cs) w := by
  have hw1 : IntKind.wrap .i64 ((i : Int) + 1) = (i : Int) + 1 := by rw [IntKind.wrap_i64]; omega
  have hc : ((i + 1 : Nat) : Int) = (i : Int) + 1 := by simp
  have hiO := Option.some_get (show (Try.prog.info? 84).isSome = true by kernel_rfl)
  have hiH := Option.some_get (show (Try.prog.info? 73).isSome = true by kernel_rfl)
  conv => arg 5; unfold hk0
  repeat (first | refine Walk.cx ?_ | (refine Walk.cReg ?_; simp only [z11]) | (refine Walk.oq ?_; try walk_nrm) | (refine Walk.un ?_; walk_nrm))
  (refine Walk.oa ?_; try walk_nrm)
  have s1 : (w.alloc (.cells #[] 84)).heap.size = w.heap.size + 1 := by simp
  have o1 : ∀ b, b < w.heap.size → (w.alloc (.cells #[] 84)).heap[b]? = w.heap[b]? := fun b hb => heap_new_lt _ _ hb
  have e1 := heap_alloc_new w (.cells #[] 84)
  have qX := cell_alloc w (.cells #[] 84) hX
  have q1 := cell_alloc w (.cells #[] 84) h1
  have hr1 := hr.old o1
  try simp only [s1]
  generalize hE : w.heap.size = E at *
  generalize w.alloc (.cells #[] 84) = x1 at *
  repeat (first | (refine Walk.oq ?_; try walk_nrm) | (refine Walk.un ?_; walk_nrm))
  refine Walk.copiedT (.tmp 46) (.tmp 51) 73 84 _ (.agg #[.int .i64 0, .int .i64 0, .int .i64 0, .int .i64 0]) 4 32 (by kernel_rfl) hiO.symm (by rfl) (by rfl) (by rfl) (by rfl) (by decide) (ho_of (by conv => lhs; whnf) (by kernel_rfl)) (by rfl) (by decide) rfl E e1 (ap0 _) (.slice la ln oc) ln row hr1 hrl hone (by simp only [maxLen]; omega) (by omega) rfl rfl (fun g c x2 r2 ho2 hs2 => ?_)
  have oo2 : ∀ b, b < E → x2.heap[b]? = w.heap[b]? := fun b hb => (ho2 b (by omega) (by omega)).trans (o1 b hb)
  have lg := r2.lt g rfl
  have hrow2 := row_same hrow (w' := x2) fun b hb => oo2 b (by have := (hrow.lt b hb).2; omega)
  clear ho2 e1 o1 hr1 qX q1 hX h1 hr
  walk_nrm
  repeat (first | (refine Walk.oq ?_; try walk_nrm) | (refine Walk.un ?_; walk_nrm))
  (refine Walk.oa ?_; try walk_nrm)
  have s3 : (x2.alloc (.cells #[.slice (some ⟨g, 0, none⟩) ln c] 73)).heap.size = x2.heap.size + 1 := by simp
  have o3 : ∀ b, b < x2.heap.size → (x2.alloc (.cells #[.slice (some ⟨g, 0, none⟩) ln c] 73)).heap[b]? = x2.heap[b]? := fun b hb => heap_new_lt _ _ hb
  have e3 := heap_alloc_new x2 (.cells #[.slice (some ⟨g, 0, none⟩) ln c] 73)
  have r3 := row_same r2 (w' := x2.alloc (.cells #[.slice (some ⟨g, 0, none⟩) ln c] 73)) fun b hb => o3 b (r2.lt b hb).2
  have hrow3 := row_same hrow2 (w' := x2.alloc (.cells #[.slice (some ⟨g, 0, none⟩) ln c] 73)) fun b hb => o3 b (hrow2.lt b hb).2
  generalize hF : x2.heap.size = F at *
  generalize x2.alloc (.cells #[.slice (some ⟨g, 0, none⟩) ln c] 73) = x3 at *
  repeat (first | (refine Walk.oq ?_; try walk_nrm) | (refine Walk.un ?_; walk_nrm))
  refine Walk.append (.tmp 45) (.tmp 53) 56 (ho_of (by conv => lhs; whnf) (by kernel_rfl)) (by rfl) (by decide) rfl T 73 _ (.slice none 0 0) 1 24 (by kernel_rfl) hiH.symm (by rfl) (by rfl) (by rfl) (by rfl) (by decide) (.slice ta i tcap) i xs rfl hrow3 ⟨F, 0, none⟩ 1 1 [.slice (some ⟨g, 0, none⟩) ln c] rfl (by rfl) (fun j x hx => ?_) (by simp [Value.oneCell']) (by decide) (by simp [maxLen]; omega) (by omega) (by omega) (fun g _ => ap0 g) (fun g2 c2 x4 r4 hg4 at4 lt4 => ?_)
  · rw [add_none, Nat.zero_add]
    refine (cell_of e3 j).trans ?_
    simpa using hx
  have Z4 := hg4.size
  have hgE : E ≤ g := lg.1
  have O4 : ∀ b, b < E → (Value.slice ta i tcap).ownBlock ≠ some b → x4.heap[b]? = w.heap[b]? := fun b hb hne => (hg4.block b (by omega) fun e => hne e.symm).trans ((o3 b (by omega)).trans (oo2 b hb))
  have hgn : (Value.slice ta i tcap).ownBlock ≠ some g := fun e => by
    have := (hrow.lt g e).2
    omega
  have R4 := row_same r3 (w' := x4) fun b hb => by
    have hb : some g = some b := hb
    cases hb
    exact hg4.block g (by omega) fun e => hgn e.symm
  have R4' := row_low R4 (show T ≤ E by omega)
  have Zb : E ≤ x4.heap.size := by omega
  clear hg4 at4 e3 r3 o3 r2 oo2 hrow2 hrow3 hrow R4
  walk_nrm
  repeat (first | refine Walk.cx ?_ | (refine Walk.cReg ?_; simp only [z11]) | (refine Walk.oq ?_; try walk_nrm) | (refine Walk.un ?_; walk_nrm))
  refine Walk.ctl rfl (fun w => stepG_inLoop) ?_
  refine .stop fun d => ⟨g2, c2, g, c, x4, at_slots ?_, ⟨d, rfl⟩, Zb, O4, hgE, R4', r4⟩
  simp only [hk0, hc]
  rfl
theorem ks0_all (st sc : Value) (X Y n T lc sb so : Nat) (la : Nat → Option Addr) (ln oc : Nat → Nat) (rows : Nat → List Value) (cs : List Frame) (w1 : World) (hn : n ≤ 5864062014805) (hln : ∀ i, i < n → ln i ≤ 4398046511104) (hX : 0 < n → w1.cell? ⟨X, 1, none⟩ = some (.slice (some ⟨sb, so, none⟩) n lc)) (h1 : ∀ i, i < n → w1.cell? ⟨sb, so + i, none⟩ = some (.slice (la i) (ln i) (oc i))) (hr : ∀ i, i < n → RwR (.slice (la i) (ln i) (oc i)) (ln i) (rows i) w1) (hrl : ∀ i, i < n → (rows i).length = ln i * 4) (hone : ∀ i, i < n → ∀ x ∈ rows i, x.oneCell' = true) (hT : w1.heap.size = T) :
    ∀ (r i : Nat) (tv : Value) (g cp : Nat → Nat) (u : Nat → Value) (w : World), i + r = n → CpI T tv i g cp ln rows w1 w → Walk Try.prog main (DR (fun _ => none)) (fun gz w' => ∃ tv' g' cp', (∃ u', gz = G (hk0 st sc tv' X Y n u') cs) ∧ CpI T tv' n g' cp' ln rows w1 w') (G (hk0 st sc tv X Y i u) cs) w := by
  intro r
  induction r with
  | zero =>
    intro i tv g cp u w hi H
    have hi : i = n := hi
    subst hi
    exact .stop fun d => ⟨tv, g, cp, ⟨u, rfl⟩, H.at d⟩
  | succ r ih =>
    intro i tv g cp u w hi H
    have hin : i < n := by omega
    obtain ⟨ta, tcap, rfl⟩ := H.hd
    have up : ∀ {b j : Nat} {v : Value}, w1.cell? ⟨b, j, none⟩ = some v → w.cell? ⟨b, j, none⟩ = some v := fun {b j v} e => (World.cell?_of_block (a := ⟨b, j, none⟩) (H.old b (by have := cell_lt' e; omega))).trans e
    refine (ks0 st sc X Y i n tcap T (ln i) lc (oc i) sb so ta (la i) _ (rows i) u cs w hin hn (hln i hin) (up (hX (by omega))) (up (h1 i hin)) ((hr i hin).old fun b hb => H.old b (by omega)) (hrl i hin) (hone i hin) H.hdr H.size).then ?_
    rintro _ _ ⟨g2, c2, gn, cn, w2, ⟨u', rfl⟩, ⟨d, rfl⟩, z2, o2, hgn, hrow, hhdr⟩
    refine Walk.back ?_ d
    have hs := H.size
    have hlt : ∀ j, j < i → g j < w.heap.size := fun j hj => ((H.row j hj).lt (g j) rfl).2
    refine ih (i + 1) _ (upd g i gn) (upd cp i cn) u' w2 (by omega) ⟨by omega, fun b hb => (o2 b (by omega) fun e => by have := (H.hdr.lt b e).1; omega).trans (H.old b hb), ⟨_, _, rfl⟩, ?_, fun j hj => ?_, fun j k hj hk e => ?_⟩
    · rw [List.range_succ, List.map_append]
      have e1 : ((List.range i).map fun j => Value.slice (some ⟨upd g i gn j, 0, none⟩) (ln j) (upd cp i cn j)) = (List.range i).map fun j => Value.slice (some ⟨g j, 0, none⟩) (ln j) (cp j) :=
        List.map_congr_left fun j hj => by
          have := List.mem_range.1 hj
          rw [upd_ne _ _ (by omega), upd_ne _ _ (by omega)]
      rw [e1]
      simp only [List.map_cons, List.map_nil, upd_same]
      exact hhdr
    · by_cases e : j = i
      · subst e
        rw [upd_same, upd_same]
        exact hrow
      · rw [upd_ne _ _ e, upd_ne _ _ e]
        refine row_same (H.row j (by omega)) fun b hb => ?_
        have hb : some (g j) = some b := hb
        cases hb
        refine o2 (g j) (hlt j (by omega)) fun eb => ?_
        have hr1 := H.row j (by omega)
        rcases hr1.2 with ⟨e1, _⟩ | ⟨ga, _, ca, e1, _, h1, _⟩
        · cases e1
        · cases e1
          rcases H.hdr.2 with ⟨e2, _⟩ | ⟨gb, _, cb, e2, _, h2, _⟩
          · rw [e2] at eb; cases eb
          · rw [e2] at eb
            cases eb
            rw [h1] at h2
            cases h2
    · by_cases ej : j = i
      · by_cases ek : k = i
        · omega
        · subst ej
          rw [upd_same, upd_ne _ _ ek] at e
          have := hlt k (by omega)
          omega
      · by_cases ek : k = i
        · subst ek
          rw [upd_same, upd_ne _ _ ej] at e
          have := hlt j (by omega)
          omega
        · rw [upd_ne _ _ ej, upd_ne _ _ ek] at e
          exact H.one j k (by omega) (by omega) e
end
section
def OldK (w0 w : World) : Prop := w0.heap.size ≤ w.heap.size ∧ ∀ b, b < w0.heap.size → w.heap[b]? = w0.heap[b]?
theorem OldK.refl (w : World) : OldK w w := ⟨Nat.le_refl _, fun _ _ => rfl⟩
theorem OldK.at {w0 w : World} (h : OldK w0 w) (d : Nat) : OldK w0 (w.at d) := h
theorem OldK.trans {w0 w1 w2 : World} (h1 : OldK w0 w1) (h2 : OldK w1 w2) : OldK w0 w2 := ⟨Nat.le_trans h1.1 h2.1, fun b hb => (h2.2 b (Nat.lt_of_lt_of_le hb h1.1)).trans (h1.2 b hb)⟩
def zTk : Obj := .cells #[.slice none 0 0, .slice none 0 0, .slice none 0 0, .bool false] 63
noncomputable def tmK (k1 k2 xl sl c1 c2 X Y : Nat) (tv : Value) (u : Nat → Value) : Array Value := #[u 0, u 1, .pointer (some ⟨X, 0, none⟩), .pointer (some ⟨Y, 0, none⟩), .bool false, .slice (some ⟨k1, 0, none⟩) (xl + 1) c1, .slice (some ⟨k2, 0, none⟩) (sl + 1) c2, tv, u 8, u 9, u 10, u 11, u 12, u 13, u 14, u 15, u 16, u 17, u 18, u 19, u 20, u 21, u 22, u 23, u 24, u 25, u 26, u 27, u 28, u 29, u 30, u 31, u 32, u 33, u 34, u 35, u 36, u 37, u 38, u 39, u 40, u 41, u 42, u 43, u 44, u 45, u 46, u 47, u 48, u 49, u 50, u 51, u 52, u 53, u 54, u 55, u 56, u 57, u 58, u 59, u 60, u 61, u 62, u 63, u 64, u 65, u 66, u 67, u 68, u 69, u 70, u 71, u 72, u 73, u 74, u 75, u 76, u 77, u 78, u 79, u 80, u 81, u 82, u 83, u 84, u 85, u 86, u 87, u 88, u 89, u 90, u 91, u 92, u 93, u 94, u 95, u 96, u 97, u 98, u 99, u 100, u 101, u 102, u 103, u 104, u 105, u 106, u 107, u 108, u 109, u 110, u 111, u 112, u 113, u 114, u 115, u 116, u 117, u 118, u 119, u 120, u 121, u 122, u 123, u 124, u 125, u 126, u 127, u 128, u 129, u 130, u 131, u 132, u 133, u 134, u 135, u 136, u 137, u 138, u 139, u 140, u 141, u 142, u 143, u 144, u 145, u 146, u 147, u 148, u 149, u 150, u 151, u 152, u 153, u 154, u 155, u 156, u 157, u 158, u 159, u 160, u 161, u 162, u 163, u 164, u 165, u 166, u 167, u 168, u 169, u 170, u 171, u 172, u 173, u 174, u 175, u 176, u 177, u 178, u 179, u 180, u 181, u 182, u 183, u 184, u 185, u 186, u 187, u 188, u 189, u 190, u 191, u 192, u 193, u 194, u 195, u 196, u 197, u 198, u 199, u 200, u 201, u 202, u 203, u 204, u 205, u 206, u 207, u 208, u 209, u 210, u 211, u 212, u 213, u 214, u 215, u 216, u 217, u 218, u 219, u 220, u 221, u 222, u 223, u 224, u 225, u 226, u 227, u 228, u 229, u 230, u 231, u 232, u 233, u 234, u 235, u 236, u 237, u 238, u 239, u 240, u 241, u 242, u 243, u 244, u 245, u 246, u 247, u 248, u 249, u 250, u 251, u 252, u 253, u 254, u 255, u 256, u 257, u 258, u 259, u 260, u 261, u 262, u 263, u 264, u 265, u 266, u 267, u 268, u 269, u 270, u 271, u 272, u 273, u 274, u 275, u 276, u 277, u 278, u 279, u 280, u 281, u 282, u 283, u 284, u 285, u 286, u 287, u 288, u 289, u 290, u 291, u 292, u 293, u 294, u 295, u 296, u 297, u 298, u 299, u 300]
def dsK : List Nat := [55, 56, 57, 58, 59, 60, 61, 62, 63, 64, 65, 66, 67, 68, 9]
def vsK (k1 k2 xl sl c1 c2 X xc sc' : Nat) (xa sa : Option Addr) (tv : Value) (most : Int) (vA : Value) (A : Nat) : List Value := [.slice (some ⟨k1, 0, none⟩) (xl + 1) c1, .pointer (some ⟨X, 0, none⟩), (.slice xa xl xc : Value), .int .i64 xl, .slice (some ⟨k1, 0, none⟩) xl c1, tv, .slice (some ⟨k2, 0, none⟩) (sl + 1) c2, .pointer (some ⟨X, 2, none⟩), (.slice sa sl sc' : Value), .int .i64 sl, .slice (some ⟨k2, 0, none⟩) sl c2, .pointer (some ⟨X, 3, none⟩), .int .i64 most, vA, .pointer (some ⟨A, 0, none⟩)]
theorem facts_valsK {dsts : List Nat} {vals vals' : List Value} {f : Nat → Bool} {u : Nat → Value} (F : Facts dsts vals f u) (h : ∀ j v, f j = true → vals'[j]? = some v → vals[j]? = some v) : Facts dsts vals' f u := fun j d v hf hd hv => F j d v hf hd (h j v hf hv)
structure RK10 (TX : Array Value → World → Prop) (w0 : World) (f : Nat → Bool) (vA : Value) (A : Nat) (w : World) : Prop where
  old : OldK w0 w
  blk : f 14 = true → w0.heap.size ≤ A ∧ A < w.heap.size ∧ (f 15 = false → w.heap[A]? = some zTk)
  tr : f 13 = true → ∃ cells, vA = .agg cells ∧ TX cells w ∧ (f 15 = true → w.heap[A]? = some (.cells cells 63))
section
variable {TX : Array Value → World → Prop} {w0 w : World} {f : Nat → Bool} {vA : Value} {A : Nat}
theorem RK10.quiet (h : RK10 TX w0 f vA A w) {i : Nat} (h1 : i ≠ 13) (h2 : i ≠ 14) (h3 : i ≠ 15) : RK10 TX w0 (upd f i true) vA A w :=
  ⟨h.old, by rw [upd_ne _ _ (Ne.symm h2), upd_ne _ _ (Ne.symm h3)]; exact h.blk, by rw [upd_ne _ _ (Ne.symm h1), upd_ne _ _ (Ne.symm h3)]; exact h.tr⟩
end
theorem kr10 (k1 k2 xl sl c1 c2 X Y xc sc' : Nat) (xa sa : Option Addr) (tv tv0 : Value) (most : Int) (w0 : World) (hX : w0.heap[X]? = some (.cells #[.slice xa xl xc, tv0, .slice sa sl sc', .int .i64 most] 71)) (hc1 : xl ≤ c1) (hc2 : sl ≤ c2)
    (TX : Array Value → World → Prop) (hTX : ∀ cells w w', TX cells w → (∀ (b : Nat) (cur : Array Value) (t : TypeId), w.heap[b]? = some (.cells cur t (0, 0)) → t ≠ 63 → w'.heap[b]? = w.heap[b]?) → TX cells w') (hT4 : ∀ cells w, TX cells w → cells.size = 4 ∧ cells.all (·.oneCell') = true)
    {Post : Goroutine → World → Prop} (hP : ∀ w, OldK w0 w → ∀ d fr, Runs (fun g w' => ∃ cells, g = G (fr.finish (.agg cells)) [] ∧ TX cells w' ∧ OldK w w') (G (Frame.enter Try.prog 27 #[.slice (some ⟨k1, 0, none⟩) xl c1, tv, .slice (some ⟨k2, 0, none⟩) sl c2, .int .i64 most] .normal) [fr]) (w.at d))
    (u0 : Nat → Value) (kx : List Item)
    (hk : ∀ u cells A w, u 9 = .pointer (some ⟨A, 0, none⟩) → OldK w0 w → w0.heap.size ≤ A → A < w.heap.size → w.heap[A]? = some (.cells cells 63) → TX cells w → Runs Post (G ((base 11).at ⟨tmK k1 k2 xl sl c1 c2 X Y tv u, []⟩ (.inRegion reg11_10 [] :: kx)) []) w) :
    Runs Post (G ((base 11).at ⟨tmK k1 k2 xl sl c1 c2 X Y tv u0, []⟩ (.code (.region 10 reg11_10 true) :: kx)) []) w0 := by
  have hu64 : Try.prog.underlying 28 = some (.slice 2) := by kernel_rfl
  have huin : Try.prog.underlying 57 = some (.slice 3) := by kernel_rfl
  have hi64 := Option.some_get (show (Try.prog.info? 2).isSome = true by kernel_rfl)
  have hiin := Option.some_get (show (Try.prog.info? 3).isSome = true by kernel_rfl)
  have ha := fun w => (run_slx hu64 hi64.symm (some ⟨k1, 0, none⟩) (xl + 1) c1 xl hc1 (.inr ⟨_, rfl⟩) w #[]).1
  have hae := fun w es => (run_slx hu64 hi64.symm (some ⟨k1, 0, none⟩) (xl + 1) c1 xl hc1 (.inr ⟨_, rfl⟩) w es).2
  have hb := fun w => (run_slx huin hiin.symm (some ⟨k2, 0, none⟩) (sl + 1) c2 sl hc2 (.inr ⟨_, rfl⟩) w #[]).1
  have hbe := fun w es => (run_slx huin hiin.symm (some ⟨k2, 0, none⟩) (sl + 1) c2 sl hc2 (.inr ⟨_, rfl⟩) w es).2
  have hXl := (Array.getElem?_eq_some_iff.1 hX).1
  refine Runs.drawnR (Inv := fun f a' w => ∃ u vA A, a' = ⟨tmK k1 k2 xl sl c1 c2 X Y tv u, []⟩ ∧ Facts dsK (vsK k1 k2 xl sl c1 c2 X xc sc' xa sa tv most vA A) f u ∧ RK10 TX w0 f vA A w) (by kernel_rfl) (by kernel_rfl) (fun d => ⟨u0, undef, 0, rfl, Facts.none _ _ _, (OldK.refl w0).at d, fun h => (by cases h), fun h => (by cases h)⟩) ?_ ?_
  · rintro f i op act w ⟨u, vA, A, rfl, F0, L⟩ hC hfi ho hdeps rest hr0
    have hi : i < 16 := by have := (Array.getElem?_eq_some_iff.1 ho).1; rw [size11_10] at this; exact this
    have hX' := (L.old.2 X hXl).trans hX
    have c0 : w.cell? ⟨X, 0, none⟩ = some (.slice xa xl xc) := (cell_of hX' 0).trans rfl
    have c2x : w.cell? ⟨X, 2, none⟩ = some (.slice sa sl sc') := (cell_of hX' 2).trans rfl
    have c3 : w.cell? ⟨X, 3, none⟩ = some (.int .i64 most) := (cell_of hX' 3).trans rfl
    have hbeq : RK10 TX w0 f vA A w := L
    by_cases e13 : i = 13
    · subst e13
      have hd := deps_of (l := [4, 5, 10, 12]) (by kernel_rfl) ho hdeps
      have e59 := F0 4 59 _ (hd 4 (by simp)) rfl rfl
      have e60 := F0 5 60 _ (hd 5 (by simp)) rfl rfl
      have e65 := F0 10 65 _ (hd 10 (by simp)) rfl rfl
      have e67 := F0 12 67 _ (hd 12 (by simp)) rfl rfl
      have h15 : f 15 = false := by
        cases h : f 15 with
        | false => rfl
        | true => have := hC.deps (i := 15) (l := [14, 13]) h (by kernel_rfl) 13 (by simp); rw [hfi] at this; cases this
      refine Runs.walk (Stop := fun g w'' => ∃ d fr, w'' = w.at d ∧ g = G (Frame.enter Try.prog 27 #[.slice (some ⟨k1, 0, none⟩) xl c1, tv, .slice (some ⟨k2, 0, none⟩) sl c2, .int .i64 most] .normal) [fr] ∧ ∀ (cells : Array Value) (w3 : World), (∀ x, Runs Post (G ((base 11).at ⟨tmK k1 k2 xl sl c1 c2 X Y tv (upd u 68 (.agg cells)), []⟩ (.inRegion reg11_10 rest :: kx)) []) (w3.at x)) → Runs Post (G (fr.finish (.agg cells)) []) w3) ?_ ?_
      · clear hdeps hC L hbeq hP hr0 hk hTX hT4 c0 c2x c3 hX' ha hae hb hbe
        simp only [tmK]
        refine Walk.callE (ho_of (by conv => lhs; whnf) (by kernel_rfl)) (by rfl) (by decide) rfl Try.func27 (by kernel_rfl) (by rfl) ?_
        walk_nrm
        simp only [e59, e60, e65, e67]
        refine .stop fun d => ⟨d, _, rfl, rfl, fun cells w3 hh => ?_⟩
        refine Runs.walk (Stop := fun g w4 => ∃ x, g = G ((base 11).at ⟨tmK k1 k2 xl sl c1 c2 X Y tv (upd u 68 (.agg cells)), []⟩ (.inRegion reg11_10 rest :: kx)) [] ∧ w4 = w3.at x) ?_ ?_
        · refine Walk.finish (ho_of (by conv => lhs; whnf) (by kernel_rfl)) ?_
          walk_nrm
          refine .stop fun x => ⟨x, ?_, rfl⟩
          simp [tmK, upd, e59, e60, e65, e67]
        · rintro _ _ ⟨x, rfl, rfl⟩
          exact hh x
      · rintro _ _ ⟨d, fr, rfl, rfl, hfr⟩
        refine Runs.then (hP w L.old d fr) ?_
        rintro _ w3 ⟨cells, rfl, hT, O3⟩
        refine hfr cells w3 fun x => hr0 _ _ ⟨upd u 68 (.agg cells), .agg cells, A, rfl, Facts.set (facts_valsK F0 fun j v hf hv => ?_) (by decide) rfl rfl, L.old.trans (O3.at x), fun h => ?_, fun _ => ⟨cells, rfl, hTX _ _ _ hT fun _ _ _ _ _ => rfl, fun h => ?_⟩⟩
        · exact match j, hf, hv with
          | 0, _, hv => hv
          | 1, _, hv => hv
          | 2, _, hv => hv
          | 3, _, hv => hv
          | 4, _, hv => hv
          | 5, _, hv => hv
          | 6, _, hv => hv
          | 7, _, hv => hv
          | 8, _, hv => hv
          | 9, _, hv => hv
          | 10, _, hv => hv
          | 11, _, hv => hv
          | 12, _, hv => hv
          | 13, hf, hv => by rw [hfi] at hf; cases hf
          | 14, _, hv => hv
          | j + 15, _, hv => hv
        · rw [upd_ne _ _ (by decide)] at h
          obtain ⟨b1, b2, b3⟩ := L.blk h
          refine ⟨b1, Nat.lt_of_lt_of_le b2 O3.1, fun _ => (O3.2 A b2).trans (b3 h15)⟩
        · rw [upd_ne _ _ (by decide), h15] at h
          cases h
    refine Runs.walk (Stop := fun g w'' => ∃ a', g = G ((base 11).at a' (.inRegion reg11_10 rest :: kx)) [] ∧ ∃ u vA A, a' = ⟨tmK k1 k2 xl sl c1 c2 X Y tv u, []⟩ ∧ Facts dsK (vsK k1 k2 xl sl c1 c2 X xc sc' xa sa tv most vA A) (upd f i true) u ∧ RK10 TX w0 (upd f i true) vA A w'') ?_ ?_
    rotate_left
    · rintro _ w3 ⟨a', rfl, h⟩
      exact hr0 a' w3 h
    have hr : ∀ a' w'', (∃ u vA A, a' = ⟨tmK k1 k2 xl sl c1 c2 X Y tv u, []⟩ ∧ Facts dsK (vsK k1 k2 xl sl c1 c2 X xc sc' xa sa tv most vA A) (upd f i true) u ∧ RK10 TX w0 (upd f i true) vA A w'') → Walk Try.prog true (DR (fun _ => none)) (fun g w'' => ∃ a', g = G ((base 11).at a' (.inRegion reg11_10 rest :: kx)) [] ∧ ∃ u vA A, a' = ⟨tmK k1 k2 xl sl c1 c2 X Y tv u, []⟩ ∧ Facts dsK (vsK k1 k2 xl sl c1 c2 X xc sc' xa sa tv most vA A) (upd f i true) u ∧ RK10 TX w0 (upd f i true) vA A w'') (G ((base 11).at a' (.inRegion reg11_10 rest :: kx)) []) w'' := by
      rintro a' w'' ⟨u, vA, A, h1, h2, h3⟩
      exact .stop fun d => ⟨a', rfl, u, vA, A, h1, h2, h3.old.at d, h3.blk, fun h => (h3.tr h).imp fun c hc => ⟨hc.1, hTX c w'' (w''.at d) hc.2.1 (fun _ _ _ _ _ => rfl), hc.2.2⟩⟩
    clear hr0 hP hk
    have hcs : i = 0 ∨ i = 1 ∨ i = 2 ∨ i = 3 ∨ i = 4 ∨ i = 5 ∨ i = 6 ∨ i = 7 ∨ i = 8 ∨ i = 9 ∨ i = 10 ∨ i = 11 ∨ i = 12 ∨ i = 14 ∨ i = 15 := by omega
    rcases hcs with rfl | rfl | rfl | rfl | rfl | rfl | rfl | rfl | rfl | rfl | rfl | rfl | rfl | rfl | rfl
    · clear hdeps hC ho hTX hT4 hbeq
      simp only [tmK] at hr ⊢
      (refine Walk.oq ?_; try walk_nrm)
      refine hr _ _ ⟨upd u 55 (.slice (some ⟨k1, 0, none⟩) (xl + 1) c1), vA, A, ?_, F0.set (by decide) rfl rfl, L.quiet (by decide) (by decide) (by decide)⟩
      simp [upd]
    · clear hdeps hC ho hTX hT4 hbeq
      simp only [tmK] at hr ⊢
      (refine Walk.oq ?_; try walk_nrm)
      refine hr _ _ ⟨upd u 56 (.pointer (some ⟨X, 0, none⟩)), vA, A, ?_, F0.set (by decide) rfl rfl, L.quiet (by decide) (by decide) (by decide)⟩
      simp [upd]
    · have hd := deps_of (l := [1]) (by kernel_rfl) ho hdeps
      have e56 := F0 1 56 _ (hd 1 (by simp)) rfl rfl
      clear hdeps hC ho hTX hT4 hbeq
      simp only [tmK] at hr ⊢
      simp only [e56]
      (refine Walk.oq ?_; try walk_nrm)
      refine hr _ _ ⟨upd u 57 ((.slice xa xl xc : Value)), vA, A, ?_, F0.set (by decide) rfl rfl, L.quiet (by decide) (by decide) (by decide)⟩
      simp [upd, e56]
    · have hd := deps_of (l := [2]) (by kernel_rfl) ho hdeps
      have e57 := F0 2 57 _ (hd 2 (by simp)) rfl rfl
      clear hdeps hC ho hTX hT4 hbeq
      simp only [tmK] at hr ⊢
      simp only [e57]
      (refine Walk.oq ?_; try walk_nrm)
      refine hr _ _ ⟨upd u 58 (.int .i64 xl), vA, A, ?_, F0.set (by decide) rfl rfl, L.quiet (by decide) (by decide) (by decide)⟩
      simp [upd, e57]
    · have hd := deps_of (l := [0, 3]) (by kernel_rfl) ho hdeps
      have e55 := F0 0 55 _ (hd 0 (by simp)) rfl rfl
      have e58 := F0 3 58 _ (hd 3 (by simp)) rfl rfl
      clear hdeps hC ho hTX hT4 hbeq
      simp only [tmK] at hr ⊢
      simp only [e55, e58]
      (refine Walk.oq ?_; try walk_nrm)
      refine hr _ _ ⟨upd u 59 (.slice (some ⟨k1, 0, none⟩) xl c1), vA, A, ?_, F0.set (by decide) rfl rfl, L.quiet (by decide) (by decide) (by decide)⟩
      simp [upd, e55, e58]
    · clear hdeps hC ho hTX hT4 hbeq
      simp only [tmK] at hr ⊢
      (refine Walk.oq ?_; try walk_nrm)
      refine hr _ _ ⟨upd u 60 (tv), vA, A, ?_, F0.set (by decide) rfl rfl, L.quiet (by decide) (by decide) (by decide)⟩
      simp [upd]
    · clear hdeps hC ho hTX hT4 hbeq
      simp only [tmK] at hr ⊢
      (refine Walk.oq ?_; try walk_nrm)
      refine hr _ _ ⟨upd u 61 (.slice (some ⟨k2, 0, none⟩) (sl + 1) c2), vA, A, ?_, F0.set (by decide) rfl rfl, L.quiet (by decide) (by decide) (by decide)⟩
      simp [upd]
    · clear hdeps hC ho hTX hT4 hbeq
      simp only [tmK] at hr ⊢
      (refine Walk.oq ?_; try walk_nrm)
      refine hr _ _ ⟨upd u 62 (.pointer (some ⟨X, 2, none⟩)), vA, A, ?_, F0.set (by decide) rfl rfl, L.quiet (by decide) (by decide) (by decide)⟩
      simp [upd]
    · have hd := deps_of (l := [7]) (by kernel_rfl) ho hdeps
      have e62 := F0 7 62 _ (hd 7 (by simp)) rfl rfl
      clear hdeps hC ho hTX hT4 hbeq
      simp only [tmK] at hr ⊢
      simp only [e62]
      (refine Walk.oq ?_; try walk_nrm)
      refine hr _ _ ⟨upd u 63 ((.slice sa sl sc' : Value)), vA, A, ?_, F0.set (by decide) rfl rfl, L.quiet (by decide) (by decide) (by decide)⟩
      simp [upd, e62]
    · have hd := deps_of (l := [8]) (by kernel_rfl) ho hdeps
      have e63 := F0 8 63 _ (hd 8 (by simp)) rfl rfl
      clear hdeps hC ho hTX hT4 hbeq
      simp only [tmK] at hr ⊢
      simp only [e63]
      (refine Walk.oq ?_; try walk_nrm)
      refine hr _ _ ⟨upd u 64 (.int .i64 sl), vA, A, ?_, F0.set (by decide) rfl rfl, L.quiet (by decide) (by decide) (by decide)⟩
      simp [upd, e63]
    · have hd := deps_of (l := [6, 9]) (by kernel_rfl) ho hdeps
      have e61 := F0 6 61 _ (hd 6 (by simp)) rfl rfl
      have e64 := F0 9 64 _ (hd 9 (by simp)) rfl rfl
      clear hdeps hC ho hTX hT4 hbeq
      simp only [tmK] at hr ⊢
      simp only [e61, e64]
      (refine Walk.oq ?_; try walk_nrm)
      refine hr _ _ ⟨upd u 65 (.slice (some ⟨k2, 0, none⟩) sl c2), vA, A, ?_, F0.set (by decide) rfl rfl, L.quiet (by decide) (by decide) (by decide)⟩
      simp [upd, e61, e64]
    · clear hdeps hC ho hTX hT4 hbeq
      simp only [tmK] at hr ⊢
      (refine Walk.oq ?_; try walk_nrm)
      refine hr _ _ ⟨upd u 66 (.pointer (some ⟨X, 3, none⟩)), vA, A, ?_, F0.set (by decide) rfl rfl, L.quiet (by decide) (by decide) (by decide)⟩
      simp [upd]
    · have hd := deps_of (l := [11]) (by kernel_rfl) ho hdeps
      have e66 := F0 11 66 _ (hd 11 (by simp)) rfl rfl
      clear hdeps hC ho hTX hT4 hbeq
      simp only [tmK] at hr ⊢
      simp only [e66]
      (refine Walk.oq ?_; try walk_nrm)
      refine hr _ _ ⟨upd u 67 (.int .i64 most), vA, A, ?_, F0.set (by decide) rfl rfl, L.quiet (by decide) (by decide) (by decide)⟩
      simp [upd, e66]
    · have hC15 : f 15 = true → f 14 = true := fun h => hC.deps (i := 15) (l := [14, 13]) h (by kernel_rfl) 14 (by simp)
      clear hdeps hC ho
      simp only [tmK] at hr ⊢
      (refine Walk.oa ?_; try walk_nrm)
      have ez : w.alloc (.cells #[.slice none 0 0, .slice none 0 0, .slice none 0 0, .bool false] 63) = w.alloc zTk := rfl
      try rw [ez]
      clear ez
      have sz : (w.alloc zTk).heap.size = w.heap.size + 1 := by simp
      have oz : ∀ b, b < w.heap.size → (w.alloc zTk).heap[b]? = w.heap[b]? := fun b hb => heap_new_lt _ _ hb
      have dz := heap_alloc_new w zTk
      have h15 : f 15 = false := by
        cases h : f 15 with
        | false => rfl
        | true => have := hC15 h; rw [hfi] at this; cases this
      refine hr _ _ ⟨upd u 9 (.pointer (some ⟨w.heap.size, 0, none⟩)), vA, w.heap.size, ?_, Facts.set (facts_valsK F0 fun j v hf hv => ?_) (by decide) rfl rfl, L.old.trans ⟨by omega, oz⟩, fun _ => ⟨L.old.1, by omega, fun _ => dz⟩, fun h => ?_⟩
      · simp [upd]
      · exact match j, hf, hv with
        | 0, _, hv => hv
        | 1, _, hv => hv
        | 2, _, hv => hv
        | 3, _, hv => hv
        | 4, _, hv => hv
        | 5, _, hv => hv
        | 6, _, hv => hv
        | 7, _, hv => hv
        | 8, _, hv => hv
        | 9, _, hv => hv
        | 10, _, hv => hv
        | 11, _, hv => hv
        | 12, _, hv => hv
        | 13, _, hv => hv
        | 14, hf, hv => by rw [hfi] at hf; cases hf
        | j + 15, _, hv => hv
      · rw [upd_ne _ _ (by decide)] at h
        exact (L.tr h).imp fun c hc => ⟨hc.1, hTX _ _ _ hc.2.1 fun b cur t hb _ => oz b (Array.getElem?_eq_some_iff.1 hb).1, fun h => by rw [upd_ne _ _ (by decide), h15] at h; cases h⟩
    · have hd := deps_of (l := [14, 13]) (by kernel_rfl) ho hdeps
      have e9 := F0 14 9 _ (hd 14 (by simp)) rfl rfl
      have e68 := F0 13 68 _ (hd 13 (by simp)) rfl rfl
      obtain ⟨cells, rfl, hT, _⟩ := L.tr (hd 13 (by simp))
      obtain ⟨b1, b2, b3⟩ := L.blk (hd 14 (by simp))
      have hz := b3 hfi
      obtain ⟨h4, h41⟩ := hT4 cells w hT
      unfold zTk at hz
      clear hdeps hC ho
      simp only [tmK] at hr ⊢
      simp only [e9, e68]
      refine Walk.storeS 63 (.tmp 9) (.tmp 68) (ho_of (by conv => lhs; whnf) (by kernel_rfl)) (by rfl) (by decide) rfl A cells _ 63 rfl rfl hz (by rw [h4]; kernel_rfl) (by rw [h4]; rfl) h41 (ap0 _) ?_
      have dz := setRow_self (cells := cells) hz
      have oz : ∀ b, b ≠ A → (w.setRow A cells).heap[b]? = w.heap[b]? := fun b hb => setRow_other _ _ hb
      have sz := setRow_size w A cells
      walk_nrm
      refine hr _ _ ⟨u, .agg cells, A, ?_, ?_, ?_, fun _ => ⟨b1, by omega, fun h => ?_⟩, fun _ => ⟨cells, rfl, ?_, fun _ => dz⟩⟩
      · simp [e9, e68]
      · intro j d v hf hd hv
        have hj : j < 15 := (List.getElem?_eq_some_iff.1 hd).1
        rw [upd_ne _ _ (by omega)] at hf
        exact F0 j d v hf hd hv
      · exact ⟨by have := L.old.1; omega, fun b hb => (oz b (by omega)).trans (L.old.2 b hb)⟩
      · rw [upd_same] at h
        cases h
      · exact hTX _ _ _ hT fun b cur t hb ht => oz b fun e => by
          subst e
          rw [hz] at hb
          cases hb
          exact ht rfl
  · rintro f act w ⟨u, vA, A, rfl, F0, L⟩ hall
    have hall' : ∀ i, i < 16 → f i = true := fun i hi => hall i (by rw [size11_10]; exact hi)
    obtain ⟨b1, b2, _⟩ := L.blk (hall' 14 (by decide))
    obtain ⟨cells, rfl, hT, hA⟩ := L.tr (hall' 13 (by decide))
    exact hk u cells A w (F0 14 9 _ (hall' 14 (by decide)) rfl rfl) L.old b1 b2 (hA (hall' 15 (by decide))) hT
end
end Go.Proofs.Ytgfajibjedfkdaa
