/- Part 30. -/
import Derived.Test.YtdmpmoggacjgcaaJ10
import Derived.Test.YtdmpmoggacjgcaaJ14
import Derived.Test.YtdmpmoggacjgcaaJ27
import Derived.Test.YtdmpmoggacjgcaaJ28
import Derived.Test.YtdmpmoggacjgcaaJ29
set_option linter.unusedSimpArgs false
set_option linter.unusedVariables false
set_option maxHeartbeats 8000000
set_option maxRecDepth 100000
namespace Go.Proofs.Ytdmpmoggacjgcaa
open Go.Conc Go.RowKit Go.Relay
open Go.ConcN (upd upd_ne upd_same)
structure Closing (f : FuncId) (t : Tmp) (v : Value) (g : Goroutine) : Prop where
 all : ∃ fr, g = G fr [] ∧ fr.mode = .returning ∧ fr.kind = .normal ∧ fr.defers = [] ∧ fr.fn = f ∧ fr.tmps.getD t undef = v
structure TrIs (st : List Int) (A sg hg hc : Nat) (w : World) : Prop where
 s : ∀ (j : Nat) (x : Value), (intRow st)[j]? = some x → w.cell? ⟨sg, j, none⟩ = some x
 a : w.cell? ⟨A, 0, none⟩ = some (.slice (some ⟨hg, 0, none⟩) 1 hc)
 h : w.cell? ⟨hg, 1, none⟩ = some (.int .i64 4)
def PA1 (sz : Int) (ta : Option Addr) (n0 tc : Nat) (fr : Frame) : Prop := ∀ (w : World) (Y : Array Value → World → Prop) (Z : Array Value → World → Bool → Option Addr → Nat → Prop) (m : Nat),
 (∀ w1, (∀ b, b < w.heap.size → w1.heap[b]? = w.heap[b]?) → w1.heap[w.heap.size]? = some (.cells #[.slice ta n0 tc] 37) → w1.heap.size = w.heap.size + 1 → CallW Try.prog true (fun _ => none) 16 #[.int .i64 sz, .bool true, .slice (some ⟨w.heap.size, 0, none⟩) 1 1, .slice none 0 0, .int .i64 1048576] w1 (fun v w' => ∃ cells, v = .agg cells ∧ Y cells w' ∧ Chg (fun _ => False) w1 w')) →
 (∀ cells w1, Y cells w1 → ∃ a oa ol oc sa sl sc k bb oo aa ac, cells = trC (.slice (some ⟨bb, oo, none⟩) 1 a) (.slice oa ol oc) (.slice sa sl sc) k ∧ w1.cell? ⟨bb, oo, none⟩ = some (.slice aa m ac) ∧ Z cells w1 k aa ac) →
 Walk Try.prog true (DR (fun _ => none)) (fun g w' => (Closing 5 4 (.bool true) g ∧ ∀ b, b < w.heap.size → w'.heap[b]? = w.heap[b]?) ∨
  ∃ cells w1 R aa ac, Z cells w1 false aa ac ∧ (∀ b, b < w1.heap.size → w'.heap[b]? = w1.heap[b]?) ∧ (∀ b, b < w.heap.size → w1.heap[b]? = w.heap[b]?) ∧ w.heap.size ≤ w1.heap.size ∧ w1.heap.size ≤ R ∧ w'.heap[R]? = some (.cells cells 27) ∧
   SkI (R + 2) (R + 1) (sizeN sz) true (sk0 (sizeN sz)) w' ∧ SkI (R + 4) (R + 3) (sizeN sz) false (sk0 (sizeN sz)) w' ∧ w'.heap[R + 5]? = some (.cells #[.int .i64 0] 42) ∧ w'.heap.size = R + 6 ∧
   ∃ u, g = G (hdAlo sz ta n0 tc R (R + 2) (R + 4) (R + 5) aa m ac 0 u) []) (G (fr.finish (.bool true)) []) w
theorem sal_in (sz : Int) (ta : Option Addr) (n0 tc : Nat) (w : World) : Walk Try.prog true (DR (fun _ => none)) (fun g w' => ∃ fr, g = G (Frame.enter Try.prog 11 #[] .normal) [fr] ∧ (∃ d, w' = w.at d) ∧ PA1 sz ta n0 tc fr) (G (Frame.enter Try.prog 5 #[.int .i64 sz, .slice ta n0 tc] .normal) []) w := by
 rw [enter_at _ Try.func5 code5_is]
 simp only [Try.ntmps5, ez, Nat.reduceAdd, Nat.reduceSub]
 refine Walk.gz z5 ?_
 refine Walk.callE hoA (by rfl) (by decide) rfl Try.func11 (by kernel_rfl) (by rfl) ?_
 walk_nrm
 refine .stop fun d => ⟨_, rfl, ⟨d, rfl⟩, ?_⟩
 intro w0 Y Z m hplay hY
 refine Walk.finish hoA ?_
 walk_nrm
 refine Walk.gz z5 ?_
 (refine Walk.oa ?_; try walk_nrm)
 have s1 : (w0.alloc (.cells #[.slice ta n0 tc] 37)).heap.size = w0.heap.size + 1 := by simp
 have o1 : ∀ b, b < w0.heap.size → (w0.alloc (.cells #[.slice ta n0 tc] 37)).heap[b]? = w0.heap[b]? := fun b hb => heap_new_lt _ _ hb
 have d1 := heap_alloc_new w0 (.cells #[.slice ta n0 tc] 37)
 have hp := hplay _ o1 d1 s1
 generalize w0.alloc (.cells #[.slice ta n0 tc] 37) = w1 at *
 repeat (first | (refine Walk.oq ?_; try walk_nrm) | (refine Walk.un ?_; walk_nrm))
 refine Walk.callW (Post := fun v w' => ∃ cells, v = .agg cells ∧ Y cells w' ∧ Chg (fun _ => False) w1 w') ?_ hoA (by rfl) (by decide) rfl Try.func16 (by kernel_rfl) (by rfl) ?_
 ·walk_nrm
  exact hp
 rintro v w2 ⟨cells, rfl, y2, C2⟩
 obtain ⟨ca, oa, ol, oc, sa, sl, sc, k, bb, oo, aa, ac, rfl, hbb, y2⟩ := hY cells w2 y2
 have s2 := C2.size
 have o2 : ∀ b, b < w0.heap.size → w2.heap[b]? = w0.heap[b]? := fun b hb => (C2.same b (by omega) id).trans (o1 b hb)
 clear hp hplay hY
 walk_nrm
 (refine Walk.oa ?_; try walk_nrm)
 have hR := heap_alloc_new w2 (.cells #[.slice none 0 0, .slice none 0 0, .slice none 0 0, .bool false] 27)
 have o3 : ∀ b, b < w2.heap.size → (w2.alloc (.cells #[.slice none 0 0, .slice none 0 0, .slice none 0 0, .bool false] 27)).heap[b]? = w2.heap[b]? := fun b hb => heap_new_lt _ _ hb
 have s3 : (w2.alloc (.cells #[.slice none 0 0, .slice none 0 0, .slice none 0 0, .bool false] 27)).heap.size = w2.heap.size + 1 := by simp
 generalize hRR : w2.heap.size = R at *
 generalize w2.alloc (.cells #[.slice none 0 0, .slice none 0 0, .slice none 0 0, .bool false] 27) = w3 at *
 simp only [trC]
 repeat (first | (refine Walk.oq ?_; try walk_nrm) | (refine Walk.un ?_; walk_nrm))
 refine Walk.storeS 27 (.tmp 5) (.tmp 27) hoA (by rfl) (by decide) rfl R #[.slice (some ⟨bb, oo, none⟩) 1 ca, .slice oa ol oc, .slice sa sl sc, .bool k] _ 27 rfl rfl hR (by kernel_rfl) (by rfl) (by simp [Value.oneCell']) (ap0 _) ?_
 have dR := setRow_self (cells := #[.slice (some ⟨bb, oo, none⟩) 1 ca, .slice oa ol oc, .slice sa sl sc, .bool k]) hR
 have o4 : ∀ b, b < R → (w3.setRow R #[.slice (some ⟨bb, oo, none⟩) 1 ca, .slice oa ol oc, .slice sa sl sc, .bool k]).heap[b]? = w2.heap[b]? := fun b hb => (setRow_other _ _ (by omega)).trans (o3 b hb)
 have s4 : (w3.setRow R #[.slice (some ⟨bb, oo, none⟩) 1 ca, .slice oa ol oc, .slice sa sl sc, .bool k]).heap.size = R + 1 := by rw [setRow_size, s3]
 clear o3 s3 hR
 generalize w3.setRow R #[.slice (some ⟨bb, oo, none⟩) 1 ca, .slice oa ol oc, .slice sa sl sc, .bool k] = w4 at *
 have k3 : w4.cell? ⟨R, 3, none⟩ = some (.bool k) := (cell_of dR 3).trans rfl
 have k0 : w4.cell? ⟨R, 0, none⟩ = some (.slice (some ⟨bb, oo, none⟩) 1 ca) := (cell_of dR 0).trans rfl
 walk_nrm
 refine Walk.gz z5 ?_
 cases k with
 | true =>
  refine Walk.gz z5 ?_
  exact .stop fun d => .inl ⟨⟨_, rfl, rfl, rfl, rfl, rfl, rfl⟩, fun b hb => (o4 b (by omega)).trans (o2 b hb)⟩
 | false =>
  clear k3
  refine Walk.gz z5 ?_
  have hn1 := new_w (main := true) (V := fun _ => none) sz true w4 ap0
  simp only [s4] at hn1
  refine Walk.callW (Post := fun v w' => v = .pointer (some ⟨R + 1 + 1, 0, none⟩) ∧ SkI (R + 1 + 1) (R + 1) (sizeN sz) true (sk0 (sizeN sz)) w' ∧ (∀ b, b < R + 1 → w'.heap[b]? = w4.heap[b]?) ∧ w'.heap.size = R + 1 + 2) ?_ hoA (by rfl) (by decide) rfl Try.func17 (by kernel_rfl) (by rfl) ?_
  ·walk_nrm
   exact hn1
  rintro v w5 ⟨rfl, I5, o5, s5⟩
  clear hn1
  walk_nrm
  repeat (first | (refine Walk.oq ?_; try walk_nrm) | (refine Walk.un ?_; walk_nrm))
  have hn2 := new_w (main := true) (V := fun _ => none) sz false w5 ap0
  simp only [s5] at hn2
  refine Walk.callW (Post := fun v w' => v = .pointer (some ⟨R + 1 + 2 + 1, 0, none⟩) ∧ SkI (R + 1 + 2 + 1) (R + 1 + 2) (sizeN sz) false (sk0 (sizeN sz)) w' ∧ (∀ b, b < R + 1 + 2 → w'.heap[b]? = w5.heap[b]?) ∧ w'.heap.size = R + 1 + 2 + 2) ?_ hoA (by rfl) (by decide) rfl Try.func17 (by kernel_rfl) (by rfl) ?_
  ·walk_nrm
   exact hn2
  rintro v w6 ⟨rfl, I6, o6, s6⟩
  clear hn2
  walk_nrm
  repeat (first | (refine Walk.oq ?_; try walk_nrm) | (refine Walk.un ?_; walk_nrm))
  (refine Walk.oa ?_; try walk_nrm)
  have d7 := heap_alloc_new w6 (.cells #[.int .i64 0] 42)
  have o7 : ∀ b, b < w6.heap.size → (w6.alloc (.cells #[.int .i64 0] 42)).heap[b]? = w6.heap[b]? := fun b hb => heap_new_lt _ _ hb
  have s7 : (w6.alloc (.cells #[.int .i64 0] 42)).heap.size = R + 6 := by simp [s6]
  rw [s6] at d7
  try simp only [s6]
  generalize w6.alloc (.cells #[.int .i64 0] 42) = w7 at *
  have o74 : ∀ b, b < R + 1 → w7.heap[b]? = w4.heap[b]? := fun b hb => (o7 b (by omega)).trans ((o6 b (by omega)).trans (o5 b hb))
  have k7 : w7.cell? ⟨R, 0, none⟩ = some (.slice (some ⟨bb, oo, none⟩) 1 ca) := (World.cell?_of_block (a := ⟨R, 0, none⟩) (o74 R (by omega))).trans k0
  have hbb7 : w7.cell? ⟨bb, oo, none⟩ = some (.slice aa m ac) := (World.cell?_of_block (a := ⟨bb, oo, none⟩) ((o74 bb (by have := cell_lt' hbb; omega)).trans (o4 bb (by have := cell_lt' hbb; omega)))).trans hbb
  have hR7 := (o74 R (by omega)).trans dR
  have I7 : SkI (R + 1 + 1) (R + 1) (sizeN sz) true (sk0 (sizeN sz)) w7 := I5.old fun b hb => (o7 b (by omega)).trans (o6 b (by omega))
  have J7 : SkI (R + 1 + 2 + 1) (R + 1 + 2) (sizeN sz) false (sk0 (sizeN sz)) w7 := I6.old fun b hb => o7 b hb
  clear k0 hbb dR I5 I6
  refine Walk.gz z5 ?_
  refine Walk.ctl rfl (fun w => stepG_loop) ?_
  refine .stop fun d => .inr ⟨_, w2, R, aa, ac, y2, fun b hb => (o74 b (by omega)).trans (o4 b (by omega)), o2, by omega, by omega, hR7, I7.old fun _ _ => rfl, J7.old fun _ _ => rfl, d7, s7, at_slots ?_⟩
  simp only [hdAlo]
  rfl
theorem valsX_len (s : Sk) : ∀ (f : Nat) (i : Int), (valsX s f i).length ≤ f := by
 intro f
 induction f with
 | zero => intro i; simp [valsX]
 | succ f ih =>
  intro i
  simp only [valsX]
  split
  ·simp
  ·have := ih (s.nx i.toNat); simp; omega
def tmZ (R kb lb p : Nat) (S U : Sk) (st : Value) (u : Nat → Value) : Array Value := #[u 0, u 1, u 2, u 3, .bool false, .pointer (some ⟨R, 0, none⟩), .pointer (some ⟨kb, 0, none⟩), .pointer (some ⟨lb, 0, none⟩), .pointer (some ⟨p, 0, none⟩), u 9, u 10, u 11, u 12, .int .i64 (nodeX S.hd), .int .i64 (tagX S.hd), .int .i64 (nodeX S.fr), .int .i64 (tagX S.fr), st, .int .i64 (nodeX U.hd), .int .i64 (tagX U.hd), .int .i64 (nodeX U.fr), .int .i64 (tagX U.fr), u 22, u 23, u 24, u 25, u 26, u 27, u 28, u 29, u 30, u 31, u 32, u 33, u 34, u 35, u 36, u 37, u 38, u 39, u 40, u 41, u 42, u 43, u 44, u 45, u 46, u 47, u 48, u 49, u 50, u 51, u 52, u 53, u 54, u 55, u 56, u 57, u 58, u 59, u 60, u 61, u 62, u 63, u 64, u 65, u 66, u 67, u 68, u 69, u 70, u 71, u 72, u 73, u 74, u 75, u 76, u 77, u 78, u 79, u 80, u 81, u 82, u 83, u 84, u 85, u 86, u 87, u 88, u 89, u 90, u 91, u 92, u 93, u 94, u 95, u 96, u 97, u 98, u 99, u 100, u 101, u 102, u 103, u 104, u 105, u 106, u 107, u 108, u 109, u 110, u 111, u 112, u 113, u 114, u 115, u 116, u 117, u 118, u 119, u 120, u 121, u 122, u 123, u 124, u 125, u 126, u 127, u 128, u 129, u 130, u 131, u 132, u 133, u 134, u 135, u 136, u 137, u 138, u 139, u 140, u 141, u 142, u 143, u 144, u 145, u 146, u 147, u 148, u 149, u 150, u 151, u 152, u 153, u 154]
theorem alone_out (sz : Int) (ta : Option Addr) (n0 tc R kb nb lb mb n p : Nat) (aa : Option Addr) (m ac : Nat) (S U : Sk) (hn : n ≤ 65536) (hne : kb ≠ nb) (u : Nat → Value) (w : World) (hk : SkI kb nb n true S w) (hl : SkI lb mb n false U w) :
  Walk Try.prog true (DR (fun _ => none)) (fun g w' => ∃ sa sc, w'.ownsRow w.heap.size 2 1 (.slice sa (stateX n S).length sc) (stateX n S).length (intRow (stateX n S)) ∧ (∀ b, b < w.heap.size → w'.heap[b]? = w.heap[b]?) ∧ w.heap.size ≤ w'.heap.size ∧
    ∃ u, g = G ((base 5).at ⟨tmZ R kb lb p S U (.slice sa (stateX n S).length sc) u, []⟩ [.code (.region 17 reg5_17 true), .code .ret]) []) (G (hdAlo sz ta n0 tc R kb lb p aa m ac m u) []) w := by
 have hi2 := Option.some_get (show (Try.prog.info? 2).isSome = true by kernel_rfl)
 have hi3 : decide (m < m) = false := by simp
 unfold hdAlo
 refine Walk.gz z5 ?_
 refine Walk.callV (x := headsV S) (W := w) ?_ hoA (by rfl) (by decide) rfl Try.func19 (by kernel_rfl) (by rfl) ?_
 ·walk_nrm
  exact heads_w S w hk
 walk_nrm
 simp only [headsV]
 refine Walk.gz z5 ?_
 (refine Walk.oa ?_; try walk_nrm)
 have hs1 : (w.alloc (.cells #[.int .i64 (nodeX S.hd), .int .i64 (tagX S.hd), .int .i64 (nodeX S.fr), .int .i64 (tagX S.fr)] 2)).heap.size = w.heap.size + 1 := by simp
 have o1 : ∀ b, b < w.heap.size → (w.alloc (.cells #[.int .i64 (nodeX S.hd), .int .i64 (tagX S.hd), .int .i64 (nodeX S.fr), .int .i64 (tagX S.fr)] 2)).heap[b]? = w.heap[b]? := fun b hb => heap_new_lt _ _ hb
 have d1 := heap_alloc_new w (.cells #[.int .i64 (nodeX S.hd), .int .i64 (tagX S.hd), .int .i64 (nodeX S.fr), .int .i64 (tagX S.fr)] 2)
 generalize w.alloc (.cells #[.int .i64 (nodeX S.hd), .int .i64 (tagX S.hd), .int .i64 (nodeX S.fr), .int .i64 (tagX S.fr)] 2) = w1 at *
 have I1 : SkI kb nb n true S w1 := hk.old o1
 repeat (first | (refine Walk.oq ?_; try walk_nrm) | (refine Walk.un ?_; walk_nrm))
 refine Walk.callW (Post := ValOut w1 (valsX S n (nodeX S.hd))) ?_ hoA (by rfl) (by decide) rfl Try.func20 (by kernel_rfl) (by rfl) ?_
 ·walk_nrm
  exact values_w hne S w1 I1 hn ap0
 rintro v w2 ⟨ta2, tc2, rfl, H⟩
 have hlen := valsX_len S n (nodeX S.hd)
 generalize hvl : valsX S n (nodeX S.hd) = vl at *
 have d2 := (H.old _ (by omega)).trans d1
 have hsz2 := H.size
 have hrow : w2.ownsRow w.heap.size 2 1 (.slice (some ⟨w.heap.size, 0, none⟩) 4 4) 4 (intRow [nodeX S.hd, tagX S.hd, nodeX S.fr, tagX S.fr]) := ⟨rfl, .inr ⟨w.heap.size, 4, _, rfl, Nat.le_refl _, d2, Nat.le_refl _, by simp [maxLen], rfl, rfl⟩⟩
 walk_nrm
 refine Walk.appendSl (.tmp 98) (.tmp 100) 25 hoA (by rfl) (by decide) rfl w.heap.size 2 _ (.int .i64 0) 1 8 (by kernel_rfl) hi2.symm (by rfl) (by rfl) (by rfl) (by rfl) (by decide) (.slice (some ⟨w.heap.size, 0, none⟩) 4 4) 4 (intRow [nodeX S.hd, tagX S.hd, nodeX S.fr, tagX S.fr]) rfl hrow ta2 vl.length tc2 (intRow vl) rfl (fun e => ?_) (by simp [intRow]) (fun ad e j x hx => ?_) (by simp [intRow, Value.oneCell']) (by simp [maxLen]; omega) (by omega) (by omega) (fun g _ => ap0 g) fun v w3 hown3 hgr hat => ?_
 ·rcases H.row.2 with ⟨h, h0⟩ | ⟨g, cap, cur, h, _⟩
  ·injection h with _ _ h3
   exact ⟨by simp [intRow, List.length_eq_zero_iff.1 h0], h3⟩
  ·injection h with h1 _ _
   rw [e] at h1; cases h1
 ·obtain ⟨g, e2, _, _, hc⟩ := row_at H.row hx
  rw [e] at e2
  cases e2
  rw [add_none, Nat.zero_add]
  exact hc
 obtain ⟨sa, sc, rfl⟩ := row_shape hown3
 have hold : ∀ b, b < w.heap.size → w3.heap[b]? = w.heap[b]? := fun b hb => (hgr.block b (by omega) (fun he => by simp only [Value.ownBlock, Option.some.injEq] at he; omega)).trans ((H.old b (by omega)).trans (o1 b hb))
 have hs3 := hgr.size
 have hz : w.heap.size ≤ w3.heap.size := by omega
 have J3 : SkI lb mb n false U w3 := hl.old hold
 have he : intRow (stateX n S) = intRow [nodeX S.hd, tagX S.hd, nodeX S.fr, tagX S.fr] ++ intRow vl := by simp [intRow, stateX, hvl]
 have hle : (stateX n S).length = 4 + vl.length := by simp [stateX, hvl]; omega
 rw [← he, ← hle] at hown3
 try rw [← hle]
 clear hle he hgr hat hrow d1 d2 H I1 o1
 walk_nrm
 refine Walk.gz z5 ?_
 refine Walk.callV (x := headsV U) (W := w3) ?_ hoA (by rfl) (by decide) rfl Try.func19 (by kernel_rfl) (by rfl) ?_
 ·walk_nrm
  exact heads_w U w3 J3
 walk_nrm
 simp only [headsV]
 refine Walk.gz z5 ?_
 refine .stop fun d => ⟨sa, sc, hown3, hold, hz, at_slots ?_⟩
 simp only [tmZ]
 rfl
theorem whole_move {kb nb kb' nb' n c2 : Nat} {tg : Bool} {s2 : Sk} {az2 : List Ans} : ∀ (l : List OpV) (c : Nat) (s : Sk) (az : List Ans), Whole (skLa kb nb n tg) 8 c s l az c2 s2 az2 → Whole (skLa kb' nb' n tg) 8 c s l az c2 s2 az2 := by
 intro l
 induction l with
 | nil =>
  intro c s az H
  obtain ⟨rfl, e, rfl⟩ := H.stop
  have e : s2 = s := e
  subst e
  exact @Whole.nil (skLa kb' nb' n tg) 8 _ _ _
 | cons o l ih =>
  intro c s az H
  exact @Whole.cons (skLa kb' nb' n tg) 8 _ _ _ _ _ _ _ _ _ _ _ (oneX_is kb' nb' n tg c s o) (ih _ _ _ (whole_cons H))
structure SalMid (N R : Nat) (S U : Sk) (c2 : Nat) (az : Nat → List Ans) (ord : List Nat) (cells : Array Value) (sa : Option Addr) (W w : World) : Prop where
 ik : SkI (R + 2) (R + 1) N true S w
 il : SkI (R + 4) (R + 3) N false U w
 sim : Sim S U
 cn : w.heap[R + 5]? = some (.cells #[.int .i64 (c2 : Nat)] 42)
 tr : w.heap[R]? = some (.cells cells 27)
 is : TrA cells 1 az ord (stateX N S) false w
 len : ord.length = c2
 st : NumA sa (stateX N S) w
 old : ∀ b, b < W.heap.size → w.heap[b]? = W.heap[b]?
theorem sal_mid (sz : Int) (ta : Option Addr) (n0 tc tb toff : Nat) (ops : List OpV) (W : World) (hlen : ops.length = min n0 65536) (hcap : n0 ≤ tc) (had : (ta = none ∧ tc = 0) ∨ ∃ p, ta = some p) (hn0 : n0 ≤ 17592186044416) (hta : 0 < n0 → ta = some ⟨tb, toff, none⟩)
  (hop : ∀ (j : Nat) (o : OpV), ops[j]? = some o → W.cell? ⟨tb, toff + j * 4, none⟩ = some (.int .i64 o.k) ∧ W.cell? ⟨tb, toff + j * 4 + 1, none⟩ = some (.int .i64 o.a) ∧ W.cell? ⟨tb, toff + j * 4 + 2, none⟩ = some (.int .i64 o.b) ∧ W.cell? ⟨tb, toff + j * 4 + 3, none⟩ = some (.int .i64 o.c)) :
  Runs (fun g w' => (Closing 5 4 (.bool true) g ∧ ∀ b, b < W.heap.size → w'.heap[b]? = W.heap[b]?) ∨
   ∃ R S U c2 az ord cells sa sc, SalMid (sizeN sz) R S U c2 az ord cells sa W w' ∧ ∃ u, g = G ((base 5).at ⟨tmZ R (R + 2) (R + 4) (R + 5) S U (.slice sa (stateX (sizeN sz) S).length sc) u, []⟩ [.code (.region 17 reg5_17 true), .code .ret]) [])
   (G (Frame.enter Try.prog 5 #[.int .i64 sz, .slice ta n0 tc] .normal) []) W := by
 have hN := (sizeN_le sz).2.1
 refine Runs.walk (sal_in sz ta n0 tc W) ?_
 rintro _ _ ⟨fr1, rfl, ⟨d1, rfl⟩, hB1⟩
 refine Runs.then (turns_run fr1 [] (W.at d1)) ?_
 rintro _ w1 ⟨rfl, O1, Z1⟩
 have Z1 : W.heap.size ≤ w1.heap.size := Z1
 have O1 : ∀ b, b < W.heap.size → w1.heap[b]? = W.heap[b]? := O1
 generalize hF : playO (skLa 0 1 (sizeN sz) true) (sk0 (sizeN sz)) (fun _ => ops) 1 1048576 [] = F
 have hbase := hB1 w1 (fun cells w' => TrA cells 1 (fun i => (F.1.th i).ans) F.2 (stateX (sizeN sz) F.1.s) (stuckO 1 F.1) w')
  (fun cells w' k aa ac => k = stuckO 1 F.1 ∧ TrA cells 1 (fun i => (F.1.th i).ans) F.2 (stateX (sizeN sz) F.1.s) (stuckO 1 F.1) w' ∧ AnsA aa (F.1.th 0).ans w') (F.1.th 0).ans.length ?_ ?_
 ·refine Runs.walk hbase ?_
  rintro g w' (⟨hC, hO⟩ | ⟨cells, w2, R, aa, ac, ⟨hk, hT, hA⟩, o2, o1, z1, z2, hR, I, J, hc, hsz, u, rfl⟩)
  ·exact .now (.inl ⟨hC, fun b hb => (hO b (by omega)).trans (O1 b hb)⟩)
  ·obtain ⟨c2, S2, az2, H, e1, e2, e3, e4⟩ := alone_trace 0 1 (sizeN sz) (fun _ => ops) 1048576 (by rw [hF]; exact hk.symm)
   rw [hF] at e1 e2 e3
   have H := whole_move (kb' := R + 2) (nb' := R + 1) ops 0 (sk0 (sizeN sz)) [] H
   have hz0 : ∀ b, b < W.heap.size → w'.heap[b]? = W.heap[b]? := fun b hb => (o2 b (by omega)).trans ((o1 b (by omega)).trans (O1 b hb))
   have hm : (F.1.th 0).ans.length = ops.length := by rw [e2, e4]
   have haz : (F.1.th 0).ans = az2 := e2
   obtain ⟨ab, ao, hab⟩ : ∃ ab ao, ∀ (j : Nat) (x : Ans), az2[j]? = some x → aa = some ⟨ab, ao, none⟩ ∧ w2.cell? ⟨ab, ao + j * 3, none⟩ = some (.bool x.1) ∧ w2.cell? ⟨ab, ao + j * 3 + 1, none⟩ = some (.int .i64 x.2) ∧ w2.cell? ⟨ab, ao + j * 3 + 2, none⟩ = some (.slice none 0 0) := by
    rw [haz] at hA
    cases hl : az2 with
    | nil => exact ⟨0, 0, fun j x h => by simp at h⟩
    | cons y l =>
     obtain ⟨b, o, e, _⟩ := hA 0 y (by rw [hl]; rfl)
     refine ⟨b, o, fun j x h => ?_⟩
     obtain ⟨b', o', e', k1, k2, k3⟩ := hA j x (by rw [hl]; exact h)
     rw [e] at e'
     cases e'
     exact ⟨e, k1, k2, k3⟩
   have hpos : 0 < (F.1.th 0).ans.length → ∃ x, az2[0]? = some x := fun h => ⟨az2[0]'(by rw [← haz]; exact h), List.getElem?_eq_getElem _⟩
   have hposo : 0 < (F.1.th 0).ans.length → ∃ o, ops[0]? = some o := fun h => ⟨ops[0]'(by rw [← hm]; exact h), List.getElem?_eq_getElem _⟩
   have hk6 : ∀ x, x < R → x ≠ R + 2 ∧ x ≠ R + 1 ∧ x ≠ R + 4 ∧ x ≠ R + 3 ∧ x ≠ R + 5 := fun x hx => ⟨by omega, by omega, by omega, by omega, by omega⟩
   refine Runs.walk (alone_loop (main := true) sz ta tb toff n0 tc R (R + 2) (R + 1) (R + 4) (R + 3) (sizeN sz) (R + 5) aa ab ao (F.1.th 0).ans.length ac ops az2 c2 S2 hN hn0 hm (by rw [hm, hlen]; omega) (by rw [hm, hlen]; omega) (fun h => hta (by rw [hm, hlen] at h; omega)) (fun h => by obtain ⟨x, hx⟩ := hpos h; exact (hab 0 x hx).1) ⟨by omega, by omega, by omega, by omega, by omega, by omega, by omega, by omega, by omega, by omega⟩ w' (fun h => by obtain ⟨o, ho⟩ := hposo h; exact hk6 tb (by have := cell_lt' (hop 0 o ho).1; omega)) (fun h => by obtain ⟨x, hx⟩ := hpos h; exact hk6 ab (by have := cell_lt' (hab 0 x hx).2.1; omega)) (fun j o ho => ?_) (fun j x hx => ?_) [] (F.1.th 0).ans.length 0 (sk0 (sizeN sz)) (sk0 (sizeN sz)) 0 [] u w' (by omega) H rfl (by omega) (sim_zero _) ⟨I, hc, J, fun _ _ _ _ _ _ _ => rfl, Nat.le_refl _⟩) ?_
   ·obtain ⟨c0, c1, c2, c3⟩ := hop j o ho
    exact ⟨(World.cell?_of_block (a := ⟨tb, _, none⟩) (hz0 tb (cell_lt' c0))).trans c0, (World.cell?_of_block (a := ⟨tb, _, none⟩) (hz0 tb (cell_lt' c0))).trans c1, (World.cell?_of_block (a := ⟨tb, _, none⟩) (hz0 tb (cell_lt' c0))).trans c2, (World.cell?_of_block (a := ⟨tb, _, none⟩) (hz0 tb (cell_lt' c0))).trans c3⟩
   ·obtain ⟨_, c0, c1, c2⟩ := hab j x hx
    exact ⟨(World.cell?_of_block (a := ⟨ab, _, none⟩) (o2 ab (cell_lt' c0))).trans c0, (World.cell?_of_block (a := ⟨ab, _, none⟩) (o2 ab (cell_lt' c0))).trans c1, (World.cell?_of_block (a := ⟨ab, _, none⟩) (o2 ab (cell_lt' c0))).trans c2⟩
   rintro _ w3 ⟨⟨u3, rfl⟩, U2, hS, hO⟩
   refine Runs.walk (alone_out sz ta n0 tc R (R + 2) (R + 1) (R + 4) (R + 3) (sizeN sz) (R + 5) aa _ ac S2 U2 hN (by omega) u3 w3 hO.ik hO.il) ?_
   rintro _ w4 ⟨sa, sc, hrow, o4, z4, u4, rfl⟩
   have hsz3 := hO.size
   have o43 : ∀ b, b < R + 1 → w4.heap[b]? = w'.heap[b]? := fun b hb => by
    by_cases h : b < R
    ·obtain ⟨k1, k2, k3, k4, k5⟩ := hk6 b h
     exact (o4 b (by omega)).trans (hO.old b (by omega) k1 k2 k3 k4 k5)
    ·have : b = R := by omega
     subst this
     exact (o4 b (by omega)).trans (hO.old b (by omega) (by omega) (by omega) (by omega) (by omega) (by omega))
   refine .now (.inr ⟨R, S2, U2, c2, fun i => (F.1.th i).ans, F.2, cells, sa, sc, ⟨hO.ik.old o4, hO.il.old o4, hS, (o4 _ (by omega)).trans hO.cn, (o43 R (by omega)).trans hR, ?_, e3, ?_, fun b hb => (o43 b (by omega)).trans (hz0 b hb)⟩, u4, rfl⟩)
   ·rw [← e1, hk]
    exact hT.chg ⟨by omega, fun b hb _ => (o43 b (by omega)).trans (o2 b hb)⟩
   ·exact numA_of (base := w3.heap.size) (e := 2) (m := (stateX (sizeN sz) S2).length) (tc := sc) hrow
 ·intro w2 ho hd hs
  have I : OpsIn w1.heap.size 0 1 (fun _ => ta) (fun _ => n0) (fun _ => tc) (fun _ => ops) w2 := by
   refine ⟨fun i hi => ?_, fun _ _ => hcap, fun _ _ => had, fun _ _ => hlen, fun i hi j o hj => ?_⟩
   ·obtain rfl : i = 0 := by omega
    exact (cell_of hd 0).trans rfl
   ·have hW : ∀ b, b < W.heap.size → w2.heap[b]? = W.heap[b]? := fun b hb => (ho b (by omega)).trans (O1 b hb)
    obtain ⟨c0, c1, c2, c3⟩ := hop j o hj
    have hjl := (List.getElem?_eq_some_iff.1 hj).1
    exact ⟨tb, toff, hta (by omega), (World.cell?_of_block (a := ⟨tb, _, none⟩) (hW tb (cell_lt' c0))).trans c0, (World.cell?_of_block (a := ⟨tb, _, none⟩) (hW tb (cell_lt' c0))).trans c1, (World.cell?_of_block (a := ⟨tb, _, none⟩) (hW tb (cell_lt' c0))).trans c2, (World.cell?_of_block (a := ⟨tb, _, none⟩) (hW tb (cell_lt' c0))).trans c3⟩
  have hr := rplay_w (main := true) sz 0 1 true w1.heap.size 0 1 1 1 (some ⟨w1.heap.size, 0, none⟩) (fun _ => ta) (fun _ => n0) (fun _ => tc) (fun _ => ops) none 0 [] 1048576 w2 I rfl (fun _ => rfl) (fun w h => I.old h) (by simp) (fun _ => ⟨rfl, rfl⟩) (fun j z h => by simp at h)
  rw [hF] at hr
  intro c' cs'
  refine (hr c' cs').mono ?_
  rintro g w' ⟨v, ⟨cells, rfl, h1, h2, _, _⟩, hg⟩
  exact ⟨_, ⟨cells, rfl, h1, h2⟩, hg⟩
 ·rintro cells w' hT
  obtain ⟨aa0, ac0, oa, oc, sa, sc, e, h1, h2, h3⟩ := hT.all
  obtain ⟨b, o, ta', tc', e2, k1, k2⟩ := h3 0 (by decide)
  exact ⟨ac0, oa, _, oc, sa, _, sc, _, b, o, ta', tc', by rw [e, e2], k1, rfl, hT, k2⟩
def tmY (R kb lb p : Nat) (hA tA fA gA : Int) (st : Value) (u : Nat → Value) : Array Value := #[u 0, u 1, u 2, u 3, u 4, .pointer (some ⟨R, 0, none⟩), .pointer (some ⟨kb, 0, none⟩), .pointer (some ⟨lb, 0, none⟩), .pointer (some ⟨p, 0, none⟩), u 9, u 10, u 11, u 12, .int .i64 hA, .int .i64 tA, .int .i64 fA, .int .i64 gA, st, .int .i64 hA, .int .i64 0, .int .i64 fA, .int .i64 0, u 22, u 23, u 24, u 25, u 26, u 27, u 28, u 29, u 30, u 31, u 32, u 33, u 34, u 35, u 36, u 37, u 38, u 39, u 40, u 41, u 42, u 43, u 44, u 45, u 46, u 47, u 48, u 49, u 50, u 51, u 52, u 53, u 54, u 55, u 56, u 57, u 58, u 59, u 60, u 61, u 62, u 63, u 64, u 65, u 66, u 67, u 68, u 69, u 70, u 71, u 72, u 73, u 74, u 75, u 76, u 77, u 78, u 79, u 80, u 81, u 82, u 83, u 84, u 85, u 86, u 87, u 88, u 89, u 90, u 91, u 92, u 93, u 94, u 95, u 96, u 97, u 98, u 99, u 100, u 101, u 102, u 103, u 104, u 105, u 106, u 107, u 108, u 109, u 110, u 111, u 112, u 113, u 114, u 115, u 116, u 117, u 118, u 119, u 120, u 121, u 122, u 123, u 124, u 125, u 126, u 127, u 128, u 129, u 130, u 131, u 132, u 133, u 134, u 135, u 136, u 137, u 138, u 139, u 140, u 141, u 142, u 143, u 144, u 145, u 146, u 147, u 148, u 149, u 150, u 151, u 152, u 153, u 154]
theorem tmZ_Y {S U : Sk} (h : Sim S U) (R kb lb p : Nat) (st : Value) (u : Nat → Value) : tmZ R kb lb p S U st u = tmY R kb lb p (nodeX S.hd) (tagX S.hd) (nodeX S.fr) (tagX S.fr) st (upd u 4 (.bool false)) := by
 obtain ⟨h1, h2, h3, h4⟩ := sim_heads h
 simp [tmZ, tmY, h1, h2, h3, h4, upd]
def dsY : List Nat := [109, 110, 111, 112, 113, 114, 115, 116, 117, 118, 119, 120, 121, 122, 123, 124, 125, 126, 127, 128, 129, 130, 131, 132, 133, 134, 135, 136, 137, 138, 139, 140, 141, 142, 143, 144, 145, 146, 147, 148, 149, 150, 151, 152, 153, 154, 4]
def vsY (p c2 R n kb lb : Nat) (hA fA : Int) (oa sa sb : Option Addr) (oc sc sd : Nat) (sts : List Int) (vA vB : Value) : List Value := [.pointer (some ⟨p, 0, none⟩), .pointer (some ⟨p, 0, none⟩), .pointer (some ⟨p, 0, none⟩), .int .i64 (c2 : Nat), .pointer (some ⟨R, 1, none⟩), .slice oa c2 oc, .int .i64 (c2 : Nat), .bool true, .bool true, .slice sa sts.length sc, .pointer (some ⟨R, 2, none⟩), .slice sb sts.length sd, .bool true, .bool true, .bool true, .int .i64 hA, .int .i64 hA, .bool true, .bool true, .bool true, .int .i64 fA, .int .i64 fA, .bool true, .bool true, .bool true, .int .i64 0, .bool true, .bool true, .bool true, .int .i64 0, .bool true, .bool true, .bool true, .pointer (some ⟨lb, 0, none⟩), vA, .pointer (some ⟨kb, 0, none⟩), vB, .bool true, .bool true, .bool true, .pointer (some ⟨kb, 0, none⟩), .int .i64 n, .pointer (some ⟨lb, 0, none⟩), .int .i64 n, .bool true, .bool true, .bool true]
theorem vsY_a (p c2 R n kb lb : Nat) (hA fA : Int) (oa sa sb : Option Addr) (oc sc sd : Nat) (sts : List Int) (vA vB : Value) (v : Value) {j : Nat} (h : j ≠ 34) : (vsY p c2 R n kb lb hA fA oa sa sb oc sc sd sts v vB)[j]? = (vsY p c2 R n kb lb hA fA oa sa sb oc sc sd sts vA vB)[j]? := by
 show _ = ((vsY p c2 R n kb lb hA fA oa sa sb oc sc sd sts v vB).set 34 vA)[j]?
 rw [List.getElem?_set_ne (Ne.symm h)]
theorem vsY_b (p c2 R n kb lb : Nat) (hA fA : Int) (oa sa sb : Option Addr) (oc sc sd : Nat) (sts : List Int) (vA vB : Value) (v : Value) {j : Nat} (h : j ≠ 36) : (vsY p c2 R n kb lb hA fA oa sa sb oc sc sd sts vA v)[j]? = (vsY p c2 R n kb lb hA fA oa sa sb oc sc sd sts vA vB)[j]? := by
 show _ = ((vsY p c2 R n kb lb hA fA oa sa sb oc sc sd sts vA v).set 36 vB)[j]?
 rw [List.getElem?_set_ne (Ne.symm h)]
structure LasW (W : World) (vs : List Int) (f : Nat → Bool) (vA vB : Value) (w : World) : Prop where
 old : ∀ b, b < W.heap.size → w.heap[b]? = W.heap[b]?
 size : W.heap.size ≤ w.heap.size
 a : f 34 = true → ∃ ta tc, vA = .slice ta vs.length tc ∧ NumA ta vs w
 b : f 36 = true → ∃ ta tc, vB = .slice ta vs.length tc ∧ NumA ta vs w
theorem LasW.quiet {W : World} {vs : List Int} {f : Nat → Bool} {vA vB : Value} {w : World} (h : LasW W vs f vA vB w) {i : Nat} (h1 : i ≠ 34) (h2 : i ≠ 36) : LasW W vs (upd f i true) vA vB w :=
 ⟨h.old, h.size, fun e => h.a (by rwa [upd_ne _ _ (Ne.symm h1)] at e), fun e => h.b (by rwa [upd_ne _ _ (Ne.symm h2)] at e)⟩
theorem alone_last {main : Bool} (R kb nb lb mb n p : Nat) (S U : Sk) (c2 : Nat) (hn : n ≤ 65536) (hk1 : kb ≠ nb) (hl1 : lb ≠ mb) (W : World) (hk : SkI kb nb n true S W) (hl : SkI lb mb n false U W) (hsim : Sim S U)
  (hA tA fA gA : Int) (hc : W.heap[p]? = some (.cells #[.int .i64 (c2 : Nat)] 42)) (x0 : Value) (kk : Bool) (oa sa sb : Option Addr) (oc sc sd : Nat) (sts : List Int) (hR : W.heap[R]? = some (.cells (trC x0 (.slice oa c2 oc) (.slice sb sts.length sd) kk) 27))
  (hsa : NumA sa sts W) (hsb : NumA sb sts W) (hsl : sts.length ≤ 17592186044416) (k : List Item) (cs : List Frame) (u0 : Nat → Value) {Stop : Goroutine → World → Prop}
  (hend : ∀ (u : Nat → Value) (w : World), u 4 = .bool true → (∀ b, b < W.heap.size → w.heap[b]? = W.heap[b]?) → Walk Try.prog main (DR (fun _ => none)) Stop (G ((base 5).at ⟨tmY R kb lb p hA tA fA gA (.slice sa sts.length sc) u, []⟩ (.inRegion reg5_17 [] :: k)) cs) w) :
  Walk Try.prog main (DR (fun _ => none)) Stop (G ((base 5).at ⟨tmY R kb lb p hA tA fA gA (.slice sa sts.length sc) u0, []⟩ (.code (.region 17 reg5_17 true) :: k)) cs) W := by
 have hvl := valsX_len S n (nodeX S.hd)
 have hvu : valsX U n (nodeX U.hd) = valsX S n (nodeX S.hd) := by rw [sim_vals hsim, hsim.hd]
 refine Walk.drawnJ (Inv := fun f ac' w => ∃ u vA vB, ac' = ⟨tmY R kb lb p hA tA fA gA (.slice sa sts.length sc) u, []⟩ ∧ Facts dsY (vsY p c2 R n kb lb hA fA oa sa sb oc sc sd sts vA vB) f u ∧ LasW W (valsX S n (nodeX S.hd)) f vA vB w) (by kernel_rfl) (by kernel_rfl) (fun d => ⟨u0, undef, undef, rfl, Facts.none _ _ _, ⟨fun _ _ => rfl, Nat.le_refl _, fun h => (by cases h), fun h => (by cases h)⟩⟩) ?_ ?_
 ·rintro f j op act w ⟨u, vA, vB, rfl, F0, Q⟩ hC hfj ho hdeps rest hr
  have hj : j < 47 := by have := (Array.getElem?_eq_some_iff.1 ho).1; rw [size5_17] at this; exact this
  match j, hj with
  | 0, _ =>
   clear hdeps hC hend
   simp only [tmY] at hr ⊢
   (refine Walk.oq ?_; try walk_nrm)
   refine hr _ _ ⟨upd u 109 (.pointer (some ⟨p, 0, none⟩)), vA, vB, ?_, F0.set (by decide) rfl rfl, Q.quiet (by decide) (by decide)⟩
   simp [tmY, upd]
  | 1, _ =>
   have hd := deps_of (l := [0]) (by kernel_rfl) ho hdeps
   have e109 := F0 0 109 _ (hd 0 (by simp)) rfl rfl
   clear hdeps hC hend
   simp only [tmY] at hr ⊢
   simp only [e109]
   (refine Walk.oq ?_; try walk_nrm)
   refine hr _ _ ⟨upd u 110 (.pointer (some ⟨p, 0, none⟩)), vA, vB, ?_, F0.set (by decide) rfl rfl, Q.quiet (by decide) (by decide)⟩
   simp [tmY, upd, e109]
  | 2, _ =>
   have hd := deps_of (l := [1]) (by kernel_rfl) ho hdeps
   have e110 := F0 1 110 _ (hd 1 (by simp)) rfl rfl
   clear hdeps hC hend
   simp only [tmY] at hr ⊢
   simp only [e110]
   (refine Walk.oq ?_; try walk_nrm)
   refine hr _ _ ⟨upd u 111 (.pointer (some ⟨p, 0, none⟩)), vA, vB, ?_, F0.set (by decide) rfl rfl, Q.quiet (by decide) (by decide)⟩
   simp [tmY, upd, e110]
  | 3, _ =>
   have hd := deps_of (l := [2]) (by kernel_rfl) ho hdeps
   have e111 := F0 2 111 _ (hd 2 (by simp)) rfl rfl
   have c0 : w.cell? ⟨p, 0, none⟩ = some (.int .i64 (c2 : Nat)) := (cell_of ((Q.old p (Array.getElem?_eq_some_iff.1 hc).1).trans hc) 0).trans rfl
   clear hdeps hC hend
   simp only [tmY] at hr ⊢
   simp only [e111]
   (refine Walk.oq ?_; try walk_nrm)
   refine hr _ _ ⟨upd u 112 (.int .i64 (c2 : Nat)), vA, vB, ?_, F0.set (by decide) rfl rfl, Q.quiet (by decide) (by decide)⟩
   simp [tmY, upd, e111]
  | 4, _ =>
   clear hdeps hC hend
   simp only [tmY] at hr ⊢
   (refine Walk.oq ?_; try walk_nrm)
   refine hr _ _ ⟨upd u 113 (.pointer (some ⟨R, 1, none⟩)), vA, vB, ?_, F0.set (by decide) rfl rfl, Q.quiet (by decide) (by decide)⟩
   simp [tmY, upd]
  | 5, _ =>
   have hd := deps_of (l := [4]) (by kernel_rfl) ho hdeps
   have e113 := F0 4 113 _ (hd 4 (by simp)) rfl rfl
   have c0 : w.cell? ⟨R, 1, none⟩ = some (.slice oa c2 oc) := (cell_of ((Q.old R (Array.getElem?_eq_some_iff.1 hR).1).trans hR) 1).trans rfl
   clear hdeps hC hend
   simp only [tmY] at hr ⊢
   simp only [e113]
   (refine Walk.oq ?_; try walk_nrm)
   refine hr _ _ ⟨upd u 114 (.slice oa c2 oc), vA, vB, ?_, F0.set (by decide) rfl rfl, Q.quiet (by decide) (by decide)⟩
   simp [tmY, upd, e113]
  | 6, _ =>
   have hd := deps_of (l := [5]) (by kernel_rfl) ho hdeps
   have e114 := F0 5 114 _ (hd 5 (by simp)) rfl rfl
   clear hdeps hC hend
   simp only [tmY] at hr ⊢
   simp only [e114]
   (refine Walk.oq ?_; try walk_nrm)
   refine hr _ _ ⟨upd u 115 (.int .i64 (c2 : Nat)), vA, vB, ?_, F0.set (by decide) rfl rfl, Q.quiet (by decide) (by decide)⟩
   simp [tmY, upd, e114]
  | 7, _ =>
   have hd := deps_of (l := [3, 6]) (by kernel_rfl) ho hdeps
   have e112 := F0 3 112 _ (hd 3 (by simp)) rfl rfl
   have e115 := F0 6 115 _ (hd 6 (by simp)) rfl rfl
   clear hdeps hC hend
   simp only [tmY] at hr ⊢
   simp only [e112, e115]
   (refine Walk.oq ?_; try walk_nrm)
   refine hr _ _ ⟨upd u 116 (.bool true), vA, vB, ?_, F0.set (by decide) rfl rfl, Q.quiet (by decide) (by decide)⟩
   simp [tmY, upd, e112, e115]
  | 8, _ =>
   have hd := deps_of (l := [7]) (by kernel_rfl) ho hdeps
   have e116 := F0 7 116 _ (hd 7 (by simp)) rfl rfl
   clear hdeps hC hend
   simp only [tmY] at hr ⊢
   simp only [e116]
   (refine Walk.oq ?_; try walk_nrm)
   refine hr _ _ ⟨upd u 117 (.bool true), vA, vB, ?_, F0.set (by decide) rfl rfl, Q.quiet (by decide) (by decide)⟩
   simp [tmY, upd, e116]
  | 9, _ =>
   have hd := deps_of (l := [8]) (by kernel_rfl) ho hdeps
   have e117 := F0 8 117 _ (hd 8 (by simp)) rfl rfl
   clear hdeps hC hend
   simp only [tmY] at hr ⊢
   simp only [e117]
   (refine Walk.oq ?_; try walk_nrm)
   refine hr _ _ ⟨upd u 118 (.slice sa sts.length sc), vA, vB, ?_, F0.set (by decide) rfl rfl, Q.quiet (by decide) (by decide)⟩
   simp [tmY, upd, e117]
  | 10, _ =>
   have hd := deps_of (l := [8]) (by kernel_rfl) ho hdeps
   have e117 := F0 8 117 _ (hd 8 (by simp)) rfl rfl
   clear hdeps hC hend
   simp only [tmY] at hr ⊢
   simp only [e117]
   (refine Walk.oq ?_; try walk_nrm)
   refine hr _ _ ⟨upd u 119 (.pointer (some ⟨R, 2, none⟩)), vA, vB, ?_, F0.set (by decide) rfl rfl, Q.quiet (by decide) (by decide)⟩
   simp [tmY, upd, e117]
  | 11, _ =>
   have hd := deps_of (l := [10, 8]) (by kernel_rfl) ho hdeps
   have e117 := F0 8 117 _ (hd 8 (by simp)) rfl rfl
   have e119 := F0 10 119 _ (hd 10 (by simp)) rfl rfl
   have c0 : w.cell? ⟨R, 2, none⟩ = some (.slice sb sts.length sd) := (cell_of ((Q.old R (Array.getElem?_eq_some_iff.1 hR).1).trans hR) 2).trans rfl
   clear hdeps hC hend
   simp only [tmY] at hr ⊢
   simp only [e117, e119]
   (refine Walk.oq ?_; try walk_nrm)
   refine hr _ _ ⟨upd u 120 (.slice sb sts.length sd), vA, vB, ?_, F0.set (by decide) rfl rfl, Q.quiet (by decide) (by decide)⟩
   simp [tmY, upd, e117, e119]
  | 12, _ =>
   have hd := deps_of (l := [9, 11, 8, 8]) (by kernel_rfl) ho hdeps
   have e117 := F0 8 117 _ (hd 8 (by simp)) rfl rfl
   have e118 := F0 9 118 _ (hd 9 (by simp)) rfl rfl
   have e120 := F0 11 120 _ (hd 11 (by simp)) rfl rfl
   have Hc := sn_w (main := main) (V := fun _ => none) sa sb sts sc sd hsl w (hsa.chg ⟨Q.size, fun b hb _ => Q.old b hb⟩) (hsb.chg ⟨Q.size, fun b hb _ => Q.old b hb⟩)
   clear hdeps hC hend
   simp only [tmY] at hr ⊢
   simp only [e117, e118, e120]
   refine Walk.callV (x := .bool true) (W := w) ?_ hoA (by rfl) (by decide) rfl Try.func13 (by kernel_rfl) (by rfl) ?_
   ·walk_nrm
    exact Hc
   walk_nrm
   refine hr _ _ ⟨upd u 121 (.bool true), vA, vB, ?_, F0.set (by decide) rfl rfl, Q.quiet (by decide) (by decide)⟩
   simp [tmY, upd, e117, e118, e120]
  | 13, _ =>
   have hd := deps_of (l := [8, 12]) (by kernel_rfl) ho hdeps
   have e117 := F0 8 117 _ (hd 8 (by simp)) rfl rfl
   have e121 := F0 12 121 _ (hd 12 (by simp)) rfl rfl
   clear hdeps hC hend
   simp only [tmY] at hr ⊢
   simp only [e117, e121]
   (refine Walk.oq ?_; try walk_nrm)
   refine hr _ _ ⟨upd u 122 (.bool true), vA, vB, ?_, F0.set (by decide) rfl rfl, Q.quiet (by decide) (by decide)⟩
   simp [tmY, upd, e117, e121]
  | 14, _ =>
   have hd := deps_of (l := [13, 12]) (by kernel_rfl) ho hdeps
   have e121 := F0 12 121 _ (hd 12 (by simp)) rfl rfl
   have e122 := F0 13 122 _ (hd 13 (by simp)) rfl rfl
   clear hdeps hC hend
   simp only [tmY] at hr ⊢
   simp only [e121, e122]
   (refine Walk.oq ?_; try walk_nrm)
   refine hr _ _ ⟨upd u 123 (.bool true), vA, vB, ?_, F0.set (by decide) rfl rfl, Q.quiet (by decide) (by decide)⟩
   simp [tmY, upd, e121, e122]
  | 15, _ =>
   have hd := deps_of (l := [14]) (by kernel_rfl) ho hdeps
   have e123 := F0 14 123 _ (hd 14 (by simp)) rfl rfl
   clear hdeps hC hend
   simp only [tmY] at hr ⊢
   simp only [e123]
   (refine Walk.oq ?_; try walk_nrm)
   refine hr _ _ ⟨upd u 124 (.int .i64 hA), vA, vB, ?_, F0.set (by decide) rfl rfl, Q.quiet (by decide) (by decide)⟩
   simp [tmY, upd, e123]
  | 16, _ =>
   have hd := deps_of (l := [14]) (by kernel_rfl) ho hdeps
   have e123 := F0 14 123 _ (hd 14 (by simp)) rfl rfl
   clear hdeps hC hend
   simp only [tmY] at hr ⊢
   simp only [e123]
   (refine Walk.oq ?_; try walk_nrm)
   refine hr _ _ ⟨upd u 125 (.int .i64 hA), vA, vB, ?_, F0.set (by decide) rfl rfl, Q.quiet (by decide) (by decide)⟩
   simp [tmY, upd, e123]
  | 17, _ =>
   have hd := deps_of (l := [15, 16, 14]) (by kernel_rfl) ho hdeps
   have e123 := F0 14 123 _ (hd 14 (by simp)) rfl rfl
   have e124 := F0 15 124 _ (hd 15 (by simp)) rfl rfl
   have e125 := F0 16 125 _ (hd 16 (by simp)) rfl rfl
   clear hdeps hC hend
   simp only [tmY] at hr ⊢
   simp only [e123, e124, e125]
   (refine Walk.oq ?_; try walk_nrm)
   refine hr _ _ ⟨upd u 126 (.bool true), vA, vB, ?_, F0.set (by decide) rfl rfl, Q.quiet (by decide) (by decide)⟩
   simp [tmY, upd, e123, e124, e125]
  | 18, _ =>
   have hd := deps_of (l := [14, 17]) (by kernel_rfl) ho hdeps
   have e123 := F0 14 123 _ (hd 14 (by simp)) rfl rfl
   have e126 := F0 17 126 _ (hd 17 (by simp)) rfl rfl
   clear hdeps hC hend
   simp only [tmY] at hr ⊢
   simp only [e123, e126]
   (refine Walk.oq ?_; try walk_nrm)
   refine hr _ _ ⟨upd u 127 (.bool true), vA, vB, ?_, F0.set (by decide) rfl rfl, Q.quiet (by decide) (by decide)⟩
   simp [tmY, upd, e123, e126]
  | 19, _ =>
   have hd := deps_of (l := [18, 14]) (by kernel_rfl) ho hdeps
   have e123 := F0 14 123 _ (hd 14 (by simp)) rfl rfl
   have e127 := F0 18 127 _ (hd 18 (by simp)) rfl rfl
   clear hdeps hC hend
   simp only [tmY] at hr ⊢
   simp only [e123, e127]
   (refine Walk.oq ?_; try walk_nrm)
   refine hr _ _ ⟨upd u 128 (.bool true), vA, vB, ?_, F0.set (by decide) rfl rfl, Q.quiet (by decide) (by decide)⟩
   simp [tmY, upd, e123, e127]
  | 20, _ =>
   have hd := deps_of (l := [19]) (by kernel_rfl) ho hdeps
   have e128 := F0 19 128 _ (hd 19 (by simp)) rfl rfl
   clear hdeps hC hend
   simp only [tmY] at hr ⊢
   simp only [e128]
   (refine Walk.oq ?_; try walk_nrm)
   refine hr _ _ ⟨upd u 129 (.int .i64 fA), vA, vB, ?_, F0.set (by decide) rfl rfl, Q.quiet (by decide) (by decide)⟩
   simp [tmY, upd, e128]
  | 21, _ =>
   have hd := deps_of (l := [19]) (by kernel_rfl) ho hdeps
   have e128 := F0 19 128 _ (hd 19 (by simp)) rfl rfl
   clear hdeps hC hend
   simp only [tmY] at hr ⊢
   simp only [e128]
   (refine Walk.oq ?_; try walk_nrm)
   refine hr _ _ ⟨upd u 130 (.int .i64 fA), vA, vB, ?_, F0.set (by decide) rfl rfl, Q.quiet (by decide) (by decide)⟩
   simp [tmY, upd, e128]
  | 22, _ =>
   have hd := deps_of (l := [20, 21, 19]) (by kernel_rfl) ho hdeps
   have e128 := F0 19 128 _ (hd 19 (by simp)) rfl rfl
   have e129 := F0 20 129 _ (hd 20 (by simp)) rfl rfl
   have e130 := F0 21 130 _ (hd 21 (by simp)) rfl rfl
   clear hdeps hC hend
   simp only [tmY] at hr ⊢
   simp only [e128, e129, e130]
   (refine Walk.oq ?_; try walk_nrm)
   refine hr _ _ ⟨upd u 131 (.bool true), vA, vB, ?_, F0.set (by decide) rfl rfl, Q.quiet (by decide) (by decide)⟩
   simp [tmY, upd, e128, e129, e130]
  | 23, _ =>
   have hd := deps_of (l := [19, 22]) (by kernel_rfl) ho hdeps
   have e128 := F0 19 128 _ (hd 19 (by simp)) rfl rfl
   have e131 := F0 22 131 _ (hd 22 (by simp)) rfl rfl
   clear hdeps hC hend
   simp only [tmY] at hr ⊢
   simp only [e128, e131]
   (refine Walk.oq ?_; try walk_nrm)
   refine hr _ _ ⟨upd u 132 (.bool true), vA, vB, ?_, F0.set (by decide) rfl rfl, Q.quiet (by decide) (by decide)⟩
   simp [tmY, upd, e128, e131]
  | 24, _ =>
   have hd := deps_of (l := [23, 19]) (by kernel_rfl) ho hdeps
   have e128 := F0 19 128 _ (hd 19 (by simp)) rfl rfl
   have e132 := F0 23 132 _ (hd 23 (by simp)) rfl rfl
   clear hdeps hC hend
   simp only [tmY] at hr ⊢
   simp only [e128, e132]
   (refine Walk.oq ?_; try walk_nrm)
   refine hr _ _ ⟨upd u 133 (.bool true), vA, vB, ?_, F0.set (by decide) rfl rfl, Q.quiet (by decide) (by decide)⟩
   simp [tmY, upd, e128, e132]
  | 25, _ =>
   have hd := deps_of (l := [24]) (by kernel_rfl) ho hdeps
   have e133 := F0 24 133 _ (hd 24 (by simp)) rfl rfl
   clear hdeps hC hend
   simp only [tmY] at hr ⊢
   simp only [e133]
   (refine Walk.oq ?_; try walk_nrm)
   refine hr _ _ ⟨upd u 134 (.int .i64 0), vA, vB, ?_, F0.set (by decide) rfl rfl, Q.quiet (by decide) (by decide)⟩
   simp [tmY, upd, e133]
  | 26, _ =>
   have hd := deps_of (l := [25, 24]) (by kernel_rfl) ho hdeps
   have e133 := F0 24 133 _ (hd 24 (by simp)) rfl rfl
   have e134 := F0 25 134 _ (hd 25 (by simp)) rfl rfl
   clear hdeps hC hend
   simp only [tmY] at hr ⊢
   simp only [e133, e134]
   (refine Walk.oq ?_; try walk_nrm)
   refine hr _ _ ⟨upd u 135 (.bool true), vA, vB, ?_, F0.set (by decide) rfl rfl, Q.quiet (by decide) (by decide)⟩
   simp [tmY, upd, e133, e134]
  | 27, _ =>
   have hd := deps_of (l := [24, 26]) (by kernel_rfl) ho hdeps
   have e133 := F0 24 133 _ (hd 24 (by simp)) rfl rfl
   have e135 := F0 26 135 _ (hd 26 (by simp)) rfl rfl
   clear hdeps hC hend
   simp only [tmY] at hr ⊢
   simp only [e133, e135]
   (refine Walk.oq ?_; try walk_nrm)
   refine hr _ _ ⟨upd u 136 (.bool true), vA, vB, ?_, F0.set (by decide) rfl rfl, Q.quiet (by decide) (by decide)⟩
   simp [tmY, upd, e133, e135]
  | 28, _ =>
   have hd := deps_of (l := [27, 24]) (by kernel_rfl) ho hdeps
   have e133 := F0 24 133 _ (hd 24 (by simp)) rfl rfl
   have e136 := F0 27 136 _ (hd 27 (by simp)) rfl rfl
   clear hdeps hC hend
   simp only [tmY] at hr ⊢
   simp only [e133, e136]
   (refine Walk.oq ?_; try walk_nrm)
   refine hr _ _ ⟨upd u 137 (.bool true), vA, vB, ?_, F0.set (by decide) rfl rfl, Q.quiet (by decide) (by decide)⟩
   simp [tmY, upd, e133, e136]
  | 29, _ =>
   have hd := deps_of (l := [28]) (by kernel_rfl) ho hdeps
   have e137 := F0 28 137 _ (hd 28 (by simp)) rfl rfl
   clear hdeps hC hend
   simp only [tmY] at hr ⊢
   simp only [e137]
   (refine Walk.oq ?_; try walk_nrm)
   refine hr _ _ ⟨upd u 138 (.int .i64 0), vA, vB, ?_, F0.set (by decide) rfl rfl, Q.quiet (by decide) (by decide)⟩
   simp [tmY, upd, e137]
  | 30, _ =>
   have hd := deps_of (l := [29, 28]) (by kernel_rfl) ho hdeps
   have e137 := F0 28 137 _ (hd 28 (by simp)) rfl rfl
   have e138 := F0 29 138 _ (hd 29 (by simp)) rfl rfl
   clear hdeps hC hend
   simp only [tmY] at hr ⊢
   simp only [e137, e138]
   (refine Walk.oq ?_; try walk_nrm)
   refine hr _ _ ⟨upd u 139 (.bool true), vA, vB, ?_, F0.set (by decide) rfl rfl, Q.quiet (by decide) (by decide)⟩
   simp [tmY, upd, e137, e138]
  | 31, _ =>
   have hd := deps_of (l := [28, 30]) (by kernel_rfl) ho hdeps
   have e137 := F0 28 137 _ (hd 28 (by simp)) rfl rfl
   have e139 := F0 30 139 _ (hd 30 (by simp)) rfl rfl
   clear hdeps hC hend
   simp only [tmY] at hr ⊢
   simp only [e137, e139]
   (refine Walk.oq ?_; try walk_nrm)
   refine hr _ _ ⟨upd u 140 (.bool true), vA, vB, ?_, F0.set (by decide) rfl rfl, Q.quiet (by decide) (by decide)⟩
   simp [tmY, upd, e137, e139]
  | 32, _ =>
   have hd := deps_of (l := [31, 28]) (by kernel_rfl) ho hdeps
   have e137 := F0 28 137 _ (hd 28 (by simp)) rfl rfl
   have e140 := F0 31 140 _ (hd 31 (by simp)) rfl rfl
   clear hdeps hC hend
   simp only [tmY] at hr ⊢
   simp only [e137, e140]
   (refine Walk.oq ?_; try walk_nrm)
   refine hr _ _ ⟨upd u 141 (.bool true), vA, vB, ?_, F0.set (by decide) rfl rfl, Q.quiet (by decide) (by decide)⟩
   simp [tmY, upd, e137, e140]
  | 33, _ =>
   have hd := deps_of (l := [32]) (by kernel_rfl) ho hdeps
   have e141 := F0 32 141 _ (hd 32 (by simp)) rfl rfl
   clear hdeps hC hend
   simp only [tmY] at hr ⊢
   simp only [e141]
   (refine Walk.oq ?_; try walk_nrm)
   refine hr _ _ ⟨upd u 142 (.pointer (some ⟨lb, 0, none⟩)), vA, vB, ?_, F0.set (by decide) rfl rfl, Q.quiet (by decide) (by decide)⟩
   simp [tmY, upd, e141]
  | 34, _ =>
   have hd := deps_of (l := [33, 32, 32]) (by kernel_rfl) ho hdeps
   have e141 := F0 32 141 _ (hd 32 (by simp)) rfl rfl
   have e142 := F0 33 142 _ (hd 33 (by simp)) rfl rfl
   have Hc := values_w (main := main) (V := fun _ => none) hl1 U w (hl.old Q.old) hn ap0
   rw [hvu] at Hc
   clear hdeps hC hend
   simp only [tmY] at hr ⊢
   simp only [e141, e142]
   refine Walk.callW (Post := ValOut w (valsX S n (nodeX S.hd))) ?_ hoA (by rfl) (by decide) rfl Try.func20 (by kernel_rfl) (by rfl) ?_
   ·walk_nrm
    exact Hc
   rintro v w2 ⟨ta, tc, rfl, H⟩
   have hQs := Q.size
   have hs2 := H.size
   have hNu : NumA ta (valsX S n (nodeX S.hd)) w2 := numA_of H.row
   walk_nrm
   have hset : Facts dsY (vsY p c2 R n kb lb hA fA oa sa sb oc sc sd sts (.slice ta (valsX S n (nodeX S.hd)).length tc) vB) (upd f 34 true) (upd u 143 (.slice ta (valsX S n (nodeX S.hd)).length tc)) := Facts.set (facts_vals F0 fun j v hf hv => (vsY_a p c2 R n kb lb hA fA oa sa sb oc sc sd sts vA vB (.slice ta (valsX S n (nodeX S.hd)).length tc) (fun e => by rw [e, hfj] at hf; cases hf)).symm.trans hv) (by decide) rfl rfl
   refine hr _ _ ⟨upd u 143 (.slice ta (valsX S n (nodeX S.hd)).length tc), .slice ta (valsX S n (nodeX S.hd)).length tc, vB, ?_, hset, ⟨fun b hb => (H.old b (by omega)).trans (Q.old b hb), by omega, ?_, ?_⟩⟩
   ·simp [tmY, upd, e141, e142]
   ·exact fun _ => ⟨ta, tc, rfl, hNu⟩
   ·intro e
    rw [upd_ne _ _ (by decide)] at e
    obtain ⟨tb, td, e1, e2⟩ := Q.b e
    exact ⟨tb, td, e1, e2.chg ⟨by omega, fun b hb _ => H.old b hb⟩⟩
  | 35, _ =>
   have hd := deps_of (l := [32]) (by kernel_rfl) ho hdeps
   have e141 := F0 32 141 _ (hd 32 (by simp)) rfl rfl
   clear hdeps hC hend
   simp only [tmY] at hr ⊢
   simp only [e141]
   (refine Walk.oq ?_; try walk_nrm)
   refine hr _ _ ⟨upd u 144 (.pointer (some ⟨kb, 0, none⟩)), vA, vB, ?_, F0.set (by decide) rfl rfl, Q.quiet (by decide) (by decide)⟩
   simp [tmY, upd, e141]
  | 36, _ =>
   have hd := deps_of (l := [35, 34, 32]) (by kernel_rfl) ho hdeps
   have e141 := F0 32 141 _ (hd 32 (by simp)) rfl rfl
   have e143 := F0 34 143 _ (hd 34 (by simp)) rfl rfl
   have e144 := F0 35 144 _ (hd 35 (by simp)) rfl rfl
   have Hc := values_w (main := main) (V := fun _ => none) hk1 S w (hk.old Q.old) hn ap0
   clear hdeps hC hend
   simp only [tmY] at hr ⊢
   simp only [e141, e143, e144]
   refine Walk.callW (Post := ValOut w (valsX S n (nodeX S.hd))) ?_ hoA (by rfl) (by decide) rfl Try.func20 (by kernel_rfl) (by rfl) ?_
   ·walk_nrm
    exact Hc
   rintro v w2 ⟨ta, tc, rfl, H⟩
   have hQs := Q.size
   have hs2 := H.size
   have hNu : NumA ta (valsX S n (nodeX S.hd)) w2 := numA_of H.row
   walk_nrm
   have hset : Facts dsY (vsY p c2 R n kb lb hA fA oa sa sb oc sc sd sts vA (.slice ta (valsX S n (nodeX S.hd)).length tc)) (upd f 36 true) (upd u 145 (.slice ta (valsX S n (nodeX S.hd)).length tc)) := Facts.set (facts_vals F0 fun j v hf hv => (vsY_b p c2 R n kb lb hA fA oa sa sb oc sc sd sts vA vB (.slice ta (valsX S n (nodeX S.hd)).length tc) (fun e => by rw [e, hfj] at hf; cases hf)).symm.trans hv) (by decide) rfl rfl
   refine hr _ _ ⟨upd u 145 (.slice ta (valsX S n (nodeX S.hd)).length tc), vA, .slice ta (valsX S n (nodeX S.hd)).length tc, ?_, hset, ⟨fun b hb => (H.old b (by omega)).trans (Q.old b hb), by omega, ?_, ?_⟩⟩
   ·simp [tmY, upd, e141, e143, e144]
   ·intro e
    rw [upd_ne _ _ (by decide)] at e
    obtain ⟨tb, td, e1, e2⟩ := Q.a e
    exact ⟨tb, td, e1, e2.chg ⟨by omega, fun b hb _ => H.old b hb⟩⟩
   ·exact fun _ => ⟨ta, tc, rfl, hNu⟩
  | 37, _ =>
   have hd := deps_of (l := [34, 36, 36, 32]) (by kernel_rfl) ho hdeps
   have e141 := F0 32 141 _ (hd 32 (by simp)) rfl rfl
   have e143 := F0 34 143 _ (hd 34 (by simp)) rfl rfl
   have e145 := F0 36 145 _ (hd 36 (by simp)) rfl rfl
   obtain ⟨ta, tc, rfl, na⟩ := Q.a (hd 34 (by simp))
   obtain ⟨tb, td, rfl, nb⟩ := Q.b (hd 36 (by simp))
   have Hc := sn_w (main := main) (V := fun _ => none) ta tb _ tc td (by omega) w na nb
   clear hdeps hC hend
   simp only [tmY] at hr ⊢
   simp only [e141, e143, e145]
   refine Walk.callV (x := .bool true) (W := w) ?_ hoA (by rfl) (by decide) rfl Try.func13 (by kernel_rfl) (by rfl) ?_
   ·walk_nrm
    exact Hc
   walk_nrm
   refine hr _ _ ⟨upd u 146 (.bool true), _, _, ?_, F0.set (by decide) rfl rfl, Q.quiet (by decide) (by decide)⟩
   simp [tmY, upd, e141, e143, e145]
  | 38, _ =>
   have hd := deps_of (l := [32, 37]) (by kernel_rfl) ho hdeps
   have e141 := F0 32 141 _ (hd 32 (by simp)) rfl rfl
   have e146 := F0 37 146 _ (hd 37 (by simp)) rfl rfl
   clear hdeps hC hend
   simp only [tmY] at hr ⊢
   simp only [e141, e146]
   (refine Walk.oq ?_; try walk_nrm)
   refine hr _ _ ⟨upd u 147 (.bool true), vA, vB, ?_, F0.set (by decide) rfl rfl, Q.quiet (by decide) (by decide)⟩
   simp [tmY, upd, e141, e146]
  | 39, _ =>
   have hd := deps_of (l := [38, 37]) (by kernel_rfl) ho hdeps
   have e146 := F0 37 146 _ (hd 37 (by simp)) rfl rfl
   have e147 := F0 38 147 _ (hd 38 (by simp)) rfl rfl
   clear hdeps hC hend
   simp only [tmY] at hr ⊢
   simp only [e146, e147]
   (refine Walk.oq ?_; try walk_nrm)
   refine hr _ _ ⟨upd u 148 (.bool true), vA, vB, ?_, F0.set (by decide) rfl rfl, Q.quiet (by decide) (by decide)⟩
   simp [tmY, upd, e146, e147]
  | 40, _ =>
   have hd := deps_of (l := [39]) (by kernel_rfl) ho hdeps
   have e148 := F0 39 148 _ (hd 39 (by simp)) rfl rfl
   clear hdeps hC hend
   simp only [tmY] at hr ⊢
   simp only [e148]
   (refine Walk.oq ?_; try walk_nrm)
   refine hr _ _ ⟨upd u 149 (.pointer (some ⟨kb, 0, none⟩)), vA, vB, ?_, F0.set (by decide) rfl rfl, Q.quiet (by decide) (by decide)⟩
   simp [tmY, upd, e148]
  | 41, _ =>
   have hd := deps_of (l := [40, 39, 39]) (by kernel_rfl) ho hdeps
   have e148 := F0 39 148 _ (hd 39 (by simp)) rfl rfl
   have e149 := F0 40 149 _ (hd 40 (by simp)) rfl rfl
   have Hc := size_w (main := main) (V := fun _ => none) kb nb n true S w (hk.old Q.old)
   clear hdeps hC hend
   simp only [tmY] at hr ⊢
   simp only [e148, e149]
   refine Walk.callV (x := .int .i64 n) (W := w) ?_ hoA (by rfl) (by decide) rfl Try.func21 (by kernel_rfl) (by rfl) ?_
   ·walk_nrm
    exact Hc
   walk_nrm
   refine hr _ _ ⟨upd u 150 (.int .i64 n), vA, vB, ?_, F0.set (by decide) rfl rfl, Q.quiet (by decide) (by decide)⟩
   simp [tmY, upd, e148, e149]
  | 42, _ =>
   have hd := deps_of (l := [39]) (by kernel_rfl) ho hdeps
   have e148 := F0 39 148 _ (hd 39 (by simp)) rfl rfl
   clear hdeps hC hend
   simp only [tmY] at hr ⊢
   simp only [e148]
   (refine Walk.oq ?_; try walk_nrm)
   refine hr _ _ ⟨upd u 151 (.pointer (some ⟨lb, 0, none⟩)), vA, vB, ?_, F0.set (by decide) rfl rfl, Q.quiet (by decide) (by decide)⟩
   simp [tmY, upd, e148]
  | 43, _ =>
   have hd := deps_of (l := [42, 41, 39]) (by kernel_rfl) ho hdeps
   have e148 := F0 39 148 _ (hd 39 (by simp)) rfl rfl
   have e150 := F0 41 150 _ (hd 41 (by simp)) rfl rfl
   have e151 := F0 42 151 _ (hd 42 (by simp)) rfl rfl
   have Hc := size_w (main := main) (V := fun _ => none) lb mb n false U w (hl.old Q.old)
   clear hdeps hC hend
   simp only [tmY] at hr ⊢
   simp only [e148, e150, e151]
   refine Walk.callV (x := .int .i64 n) (W := w) ?_ hoA (by rfl) (by decide) rfl Try.func21 (by kernel_rfl) (by rfl) ?_
   ·walk_nrm
    exact Hc
   walk_nrm
   refine hr _ _ ⟨upd u 152 (.int .i64 n), vA, vB, ?_, F0.set (by decide) rfl rfl, Q.quiet (by decide) (by decide)⟩
   simp [tmY, upd, e148, e150, e151]
  | 44, _ =>
   have hd := deps_of (l := [41, 43, 39]) (by kernel_rfl) ho hdeps
   have e148 := F0 39 148 _ (hd 39 (by simp)) rfl rfl
   have e150 := F0 41 150 _ (hd 41 (by simp)) rfl rfl
   have e152 := F0 43 152 _ (hd 43 (by simp)) rfl rfl
   clear hdeps hC hend
   simp only [tmY] at hr ⊢
   simp only [e148, e150, e152]
   (refine Walk.oq ?_; try walk_nrm)
   refine hr _ _ ⟨upd u 153 (.bool true), vA, vB, ?_, F0.set (by decide) rfl rfl, Q.quiet (by decide) (by decide)⟩
   simp [tmY, upd, e148, e150, e152]
  | 45, _ =>
   have hd := deps_of (l := [39, 44]) (by kernel_rfl) ho hdeps
   have e148 := F0 39 148 _ (hd 39 (by simp)) rfl rfl
   have e153 := F0 44 153 _ (hd 44 (by simp)) rfl rfl
   clear hdeps hC hend
   simp only [tmY] at hr ⊢
   simp only [e148, e153]
   (refine Walk.oq ?_; try walk_nrm)
   refine hr _ _ ⟨upd u 154 (.bool true), vA, vB, ?_, F0.set (by decide) rfl rfl, Q.quiet (by decide) (by decide)⟩
   simp [tmY, upd, e148, e153]
  | 46, _ =>
   have hd := deps_of (l := [45, 43, 0, 1, 2, 3, 4, 5, 6, 7, 8, 9, 10, 11, 12, 13, 14, 15, 16, 17, 18, 19, 20, 21, 22, 23, 24, 25, 26, 27, 28, 29, 30, 31, 32, 33, 34, 35, 36, 37, 38, 39, 40, 41, 42, 43, 44, 45]) (by kernel_rfl) ho hdeps
   have e152 := F0 43 152 _ (hd 43 (by simp)) rfl rfl
   have e154 := F0 45 154 _ (hd 45 (by simp)) rfl rfl
   clear hdeps hC hend
   simp only [tmY] at hr ⊢
   simp only [e152, e154]
   (refine Walk.oq ?_; try walk_nrm)
   refine hr _ _ ⟨upd u 4 (.bool true), vA, vB, ?_, F0.set (by decide) rfl rfl, Q.quiet (by decide) (by decide)⟩
   simp [tmY, upd, e152, e154]
 ·rintro f act w ⟨u, vA, vB, rfl, F0, Q⟩ hall
  exact hend u w (F0 46 4 _ (hall 46 (by rw [size5_17]; decide)) rfl rfl) Q.old
end Go.Proofs.Ytdmpmoggacjgcaa
