/- Part 21. -/
import Derived.Test.YtjenoiekfkhafaaJ4
import Derived.Test.YtjenoiekfkhafaaJ11
import Derived.Test.YtjenoiekfkhafaaJ18
import Derived.Test.YtjenoiekfkhafaaJ19
import Derived.Test.YtjenoiekfkhafaaJ20
set_option linter.unusedSimpArgs false
set_option linter.unusedVariables false
set_option linter.unusedVariables false
set_option maxHeartbeats 8000000
set_option maxRecDepth 100000
namespace Go.Proofs.Ytjenoiekfkhafaa
open Go.Conc Go.RowKit Go.Relay
open Go.ConcN (upd upd_ne upd_same)
noncomputable def reg14_0 := rg Try.f14.body [0]
noncomputable def reg14_1 := rg Try.f14.body [1, 0]
noncomputable def reg14_2 := rg Try.f14.body [1, 1, 0]
noncomputable def reg14_3 := rg Try.f14.body [1, 1, 1, 0]
noncomputable def reg14_4 := rg Try.f14.body [1, 1, 1, 1, 0]
theorem z14 : List.range reg14_0.size = [0] ∧ List.range reg14_1.size = [0, 1, 2] ∧ List.range reg14_2.size = [0, 1, 2, 3, 4, 5, 6, 7] ∧ List.range reg14_3.size = [0, 1, 2, 3] ∧ List.range reg14_4.size = [0, 1] := by refine ⟨?_, ?_, ?_, ?_, ?_⟩ <;> kernel_rfl
theorem code14_is : Try.f14.body = some (.seq (.region 0 reg14_0 false) (.seq (.region 1 reg14_1 false) (.seq (.region 2 reg14_2 false) (.seq (.region 3 reg14_3 false) (.seq (.region 4 reg14_4 false) (.ret)))))) := by kernel_rfl
def SPBack (T0 lb k : Nat) (fr c : Frame) (cs : List Frame) : Prop := ∀ (A na : Nat) (oo : Option Addr) (ol ok : Nat) (stuck : Bool) (s : Sq) (w : World), lb ≠ T0 → SqI lb k s w → w.heap[T0]? = some (.cells #[.slice none 0 0, .slice none 0 0, .slice none 0 0, .bool false] 31) →
  Walk Try.prog true (DR (fun _ => none)) (fun g w' => ∃ B bc, g = G (c.finish (.agg #[.slice (some ⟨A, 0, none⟩) na na, .slice oo ol ok, .slice (some ⟨B, 0, none⟩) (k + 2) bc, .bool stuck])) cs ∧ w'.ownsRow w.heap.size 2 1 (.slice (some ⟨B, 0, none⟩) (k + 2) bc) (k + 2) ((stL k s).map fun z => .int .i64 z) ∧ (∀ b, b < w.heap.size → b ≠ T0 → b ≠ lb → w'.heap[b]? = w.heap[b]?) ∧ w.heap.size ≤ w'.heap.size)
    (G (fr.finish (.agg #[.slice (some ⟨A, 0, none⟩) na na, .slice oo ol ok, .slice none 0 0, .bool stuck])) (c :: cs)) w
theorem splay_in (sl : Value) (xs : List Int) (hxn : xs.length ≤ 17592186044416) (tv sv : Value) (most : Int) (c : Frame) (cs : List Frame) (w : World) (hx : LsR sl xs w) :
    Walk Try.prog true (DR (fun _ => none)) (fun g w' => ∃ fr, g = G (Frame.enter Try.prog 33 #[tv, .func (.func 34) #[.pointer (some ⟨w.heap.size + 1, 0, none⟩)] #[], sv, .int .i64 most] .normal) (fr :: c :: cs) ∧ SqI (w.heap.size + 1) (sqK xs.length) (sq0 xs) w' ∧ (∀ b, b < w.heap.size → w'.heap[b]? = w.heap[b]?) ∧ w.heap.size + 2 ≤ w'.heap.size ∧
        w'.heap[w.heap.size]? = some (.cells #[.slice none 0 0, .slice none 0 0, .slice none 0 0, .bool false] 31) ∧ SPBack w.heap.size (w.heap.size + 1) (sqK xs.length) fr c cs)
      (G (Frame.enter Try.prog 14 #[sl, tv, sv, .int .i64 most] .normal) (c :: cs)) w := by
  have hA : ∀ b, Apart (fun _ => none) b := fun b => ⟨fun _ _ _ _ h => (by cases h), fun _ _ h => (by cases h)⟩
  obtain ⟨fsT, huT⟩ := structT 31 (by kernel_rfl)
  rw [enter_at _ Try.func14 code14_is]
  simp only [Try.ntmps14, ez, Nat.reduceAdd, Nat.reduceSub]
  repeat (first | refine Walk.cx ?_ | (refine Walk.cReg ?_; simp only [z14]) | (refine Walk.oq ?_; try walk_nrm) | (refine Walk.un ?_; walk_nrm))
  (refine Walk.oa ?_; try walk_nrm)
  have s1 : (w.alloc (.cells #[.slice none 0 0, .slice none 0 0, .slice none 0 0, .bool false] 31)).heap.size = w.heap.size + 1 := by simp
  have o1 : ∀ b, b < w.heap.size → (w.alloc (.cells #[.slice none 0 0, .slice none 0 0, .slice none 0 0, .bool false] 31)).heap[b]? = w.heap[b]? := fun b hb => heap_new_lt _ _ hb
  have d1 := heap_alloc_new w (.cells #[.slice none 0 0, .slice none 0 0, .slice none 0 0, .bool false] 31)
  generalize hN : w.heap.size = T0 at *
  generalize w.alloc (.cells #[.slice none 0 0, .slice none 0 0, .slice none 0 0, .bool false] 31) = w1 at *
  repeat (first | refine Walk.cx ?_ | (refine Walk.cReg ?_; simp only [z14]) | (refine Walk.oq ?_; try walk_nrm) | (refine Walk.un ?_; walk_nrm))
  have hx1 : LsR sl xs w1 := hx.same (fun b hb => o1 b (by omega))
  obtain ⟨xa, xc, rfl, hxr⟩ := hx
  clear hxr
  refine Walk.callW (Post := fun v w' => v = .pointer (some ⟨w1.heap.size, 0, none⟩) ∧ SqI w1.heap.size (sqK xs.length) (sq0 xs) w' ∧ (∀ b, b < w1.heap.size → w'.heap[b]? = w1.heap[b]?) ∧ w1.heap.size < w'.heap.size) ?_ (ho_of (by conv => lhs; whnf) (by kernel_rfl)) (by rfl) (by decide) rfl Try.func16 (by kernel_rfl) (by rfl) ?_
  · walk_nrm
    exact new_w w1 _ xs hx1 hxn (fun b _ => hA b)
  rintro v w2 ⟨rfl, hI, hO, hS⟩
  rw [s1] at hI hO hS ⊢
  have hk15 := hI.pos
  generalize sq0 xs = s0 at *
  generalize sqK xs.length = k at *
  clear hx1
  walk_nrm
  repeat (first | refine Walk.cx ?_ | (refine Walk.cReg ?_; simp only [z14]) | (refine Walk.oq ?_; try walk_nrm) | (refine Walk.un ?_; walk_nrm))
  refine Walk.callE (ho_of (by conv => lhs; whnf) (by kernel_rfl)) (by rfl) (by decide) rfl Try.func33 (by kernel_rfl) (by rfl) ?_
  walk_nrm
  refine .stop fun d => ⟨_, rfl, hI.old rfl, fun b hb => (hO b (by omega)).trans (o1 b (by omega)), show T0 + 2 ≤ w2.heap.size by omega, (hO T0 (by omega)).trans d1, ?_⟩
  intro A na oo ol ok stuck s w4 hne I4 hT
  refine Walk.finish (ho_of (by conv => lhs; whnf) (by kernel_rfl)) ?_
  walk_nrm
  (refine Walk.oa ?_; try walk_nrm)
  have d5 := heap_alloc_new w4 (.cells #[.slice none 0 0, .slice none 0 0, .slice none 0 0, .bool false] 31)
  have s5 : (w4.alloc (.cells #[.slice none 0 0, .slice none 0 0, .slice none 0 0, .bool false] 31)).heap.size = w4.heap.size + 1 := by simp
  have o5 : ∀ b, b < w4.heap.size → (w4.alloc (.cells #[.slice none 0 0, .slice none 0 0, .slice none 0 0, .bool false] 31)).heap[b]? = w4.heap[b]? := fun b hb => heap_new_lt _ _ hb
  have hT0 : T0 < w4.heap.size := (Array.getElem?_eq_some_iff.1 hT).1
  generalize hT1 : w4.heap.size = T1 at *
  generalize w4.alloc (.cells #[.slice none 0 0, .slice none 0 0, .slice none 0 0, .bool false] 31) = w5 at *
  refine Walk.storeS 31 (.tmp 10) (.tmp 18) (ho_of (by conv => lhs; whnf) (by kernel_rfl)) (by rfl) (by decide) rfl T1 #[.slice (some ⟨A, 0, none⟩) na na, .slice oo ol ok, .slice none 0 0, .bool stuck] _ 31 rfl rfl d5 (by kernel_rfl) (by rfl) (by simp [Value.oneCell']) (hA _) ?_
  have d6 := setRow_self (cells := #[.slice (some ⟨A, 0, none⟩) na na, .slice oo ol ok, .slice none 0 0, .bool stuck]) d5
  have o6 : ∀ b, b < T1 → (w5.setRow T1 #[.slice (some ⟨A, 0, none⟩) na na, .slice oo ol ok, .slice none 0 0, .bool stuck]).heap[b]? = w4.heap[b]? := fun b hb => (setRow_other _ _ (by omega)).trans (o5 b (by omega))
  have s6 := setRow_size w5 T1 #[.slice (some ⟨A, 0, none⟩) na na, .slice oo ol ok, .slice none 0 0, .bool stuck]
  rw [s5] at s6
  generalize w5.setRow T1 #[.slice (some ⟨A, 0, none⟩) na na, .slice oo ol ok, .slice none 0 0, .bool stuck] = w6 at *
  have hlt4 := I4.lt
  rw [hT1] at hlt4
  have I6 : SqI (T0 + 1) k s w6 := I4.old (o6 _ (by omega))
  walk_nrm
  repeat (first | refine Walk.cx ?_ | (refine Walk.cReg ?_; simp only [z14]) | (refine Walk.oq ?_; try walk_nrm) | (refine Walk.un ?_; walk_nrm))
  refine Walk.callW (Post := StOut (T0 + 1) k s w6) ?_ (ho_of (by conv => lhs; whnf) (by kernel_rfl)) (by rfl) (by decide) rfl Try.func35 (by kernel_rfl) (by rfl) ?_
  · walk_nrm
    exact state_w hA w6 I6
  rintro v w7 ⟨B, bc, rfl, hrow, I7, hold7, hs7⟩
  have hrB := hrow.lt B rfl
  have d7 := (hold7 T1 (by omega) (by omega)).trans d6
  have c7 := (cell_of d7 2).trans rfl
  have z7 := frozen_of d7 2
  walk_nrm
  repeat (first | (refine Walk.oq ?_; try walk_nrm) | (refine Walk.un ?_; walk_nrm))
  (have hfr := (hA T1).1 ⟨T1, 2, none⟩ rfl; refine Walk.os hfr c7 ?_; clear hfr; try walk_nrm)
  have d8 : (w7.setCell ⟨T1, 2, none⟩ (.slice (some ⟨B, 0, none⟩) (k + 2) bc)).heap[T1]? = some (.cells #[.slice (some ⟨A, 0, none⟩) na na, .slice oo ol ok, .slice (some ⟨B, 0, none⟩) (k + 2) bc, .bool stuck] 31) := by
    rw [heap_set_self _ _ d7]
    simp
  have o8 : ∀ b, b ≠ T1 → (w7.setCell ⟨T1, 2, none⟩ (.slice (some ⟨B, 0, none⟩) (k + 2) bc)).heap[b]? = w7.heap[b]? := fun b hb => heap_set_other _ _ _ _ hb
  have s8 := size_set w7 ⟨T1, 2, none⟩ (.slice (some ⟨B, 0, none⟩) (k + 2) bc)
  clear c7 z7
  generalize w7.setCell ⟨T1, 2, none⟩ (.slice (some ⟨B, 0, none⟩) (k + 2) bc) = w8 at *
  repeat (first | refine Walk.cx ?_ | (refine Walk.cReg ?_; simp only [z14]) | (refine Walk.oq ?_; try walk_nrm) | (refine Walk.un ?_; walk_nrm))
  refine Walk.loadS 31 (.tmp 10) (ho_of (by conv => lhs; whnf) (by kernel_rfl)) (by rfl) (by decide) rfl T1 0 [.slice (some ⟨A, 0, none⟩) na na, .slice oo ol ok, .slice (some ⟨B, 0, none⟩) (k + 2) bc, .bool stuck] (.struct fsT) rfl (fun j v hj => ?_) huT rfl (by kernel_rfl) ?_
  · rw [Nat.zero_add, cell_of d8]
    simpa using hj
  have dT : w8.heap[T0]? = some (.cells #[.slice none 0 0, .slice none 0 0, .slice none 0 0, .bool false] 31) := (o8 T0 (by omega)).trans ((hold7 T0 (by omega) (by omega)).trans ((o6 T0 (by omega)).trans hT))
  walk_nrm
  refine Walk.storeS 31 (.tmp 8) (.tmp 22) (ho_of (by conv => lhs; whnf) (by kernel_rfl)) (by rfl) (by decide) rfl T0 #[.slice (some ⟨A, 0, none⟩) na na, .slice oo ol ok, .slice (some ⟨B, 0, none⟩) (k + 2) bc, .bool stuck] _ 31 rfl rfl dT (by kernel_rfl) (by rfl) (by simp [Value.oneCell']) (hA _) ?_
  have d9 := setRow_self (cells := #[.slice (some ⟨A, 0, none⟩) na na, .slice oo ol ok, .slice (some ⟨B, 0, none⟩) (k + 2) bc, .bool stuck]) dT
  walk_nrm
  repeat (first | refine Walk.cx ?_ | (refine Walk.cReg ?_; simp only [z14]) | (refine Walk.oq ?_; try walk_nrm) | (refine Walk.un ?_; walk_nrm))
  refine Walk.onCell (T := T0) rfl rfl rfl Try.func14 rfl (by rfl) d9 (by kernel_rfl) (by kernel_rfl) (.stop fun d => ⟨B, bc, rfl, ?_, fun b hb hbT hbs => ?_, ?_⟩)
  · refine row_same (row_raise hrow fun g hg => ?_) fun g hg => (setRow_other _ _ ?_).trans (o8 g ?_)
    all_goals (have hg : B = g := Option.some.inj hg; omega)
  · exact (setRow_other _ _ hbT).trans ((o8 b (by omega)).trans ((hold7 b (by omega) hbs).trans (o6 b hb)))
  · show T1 ≤ (w8.setRow _ _).heap.size
    rw [setRow_size]
    omega
theorem stL_len (k : Nat) (s : Sq) : (stL k s).length = k + 2 := by simp [stL, wdL]
structure TrO (base : Nat) (cells : Array Value) (n : Nat) (F : Nat → List Ans) (ord : List Nat) (sts : List Int) (k : Bool) (w : World) : Prop where
  all : ∃ (A : Nat) (oo : Option Addr) (ok : Nat) (sv : Value) (hd : Nat → Value) (own : Nat → Nat → Prop), cells = trC (.slice (some ⟨A, 0, none⟩) n n) (.slice oo ord.length ok) sv k ∧ base ≤ A ∧
    w.ownsRow base 3 1 (.slice oo ord.length ok) ord.length (ord.map fun i => .int .i64 (i : Nat)) ∧ w.ownsRow base 2 1 sv sts.length (sts.map fun z => .int .i64 z) ∧
    (∃ arr : Array Value, w.heap[A]? = some (.cells arr 42) ∧ arr.size = n ∧ ∀ i, i < n → arr[i]? = some (hd i)) ∧ (∀ i, i < n → RowA base (own i) (hd i) (F i) w) ∧ (∀ i j b, own i b → own j b → i = j) ∧
    (∀ i b, own i b → b ≠ A ∧ (Value.slice oo ord.length ok).ownBlock ≠ some b ∧ sv.ownBlock ≠ some b) ∧ (Value.slice oo ord.length ok).ownBlock ≠ some A ∧ sv.ownBlock ≠ some A ∧ ∀ b, (Value.slice oo ord.length ok).ownBlock = some b → sv.ownBlock ≠ some b
theorem TrO.tr {base : Nat} {cells : Array Value} {n : Nat} {F : Nat → List Ans} {ord : List Nat} {sts : List Int} {k : Bool} {w : World} (h : TrO base cells n F ord sts k w) : TrA cells n F ord sts k w := by
  obtain ⟨A, oo, ok, sv, hd, own, e, hA, hord, hst, ⟨arr, h1, h2, h3⟩, hrows, _⟩ := h.all
  obtain ⟨sa, sc, rfl⟩ : ∃ sa sc, sv = .slice sa sts.length sc := by
    rcases hst.2 with ⟨e, e0⟩ | ⟨g, cap, cur, e, _⟩
    · exact ⟨none, 0, by rw [e, e0]⟩
    · exact ⟨_, _, e⟩
  refine ⟨⟨some ⟨A, 0, none⟩, n, oo, ok, sa, sc, e, ?_, numA_of hst, fun i hi => ?_⟩⟩
  · refine numA_of (base := base) (e := 3) (m := ord.length) (tc := ok) ?_
    have : ((ord.map fun i => ((i : Nat) : Int)).map (Value.int .i64)) = (ord.map fun i => .int .i64 (i : Nat)) := by simp
    rw [this]
    exact hord
  · obtain ⟨ta, tc, e, hans⟩ := ansA_of (hrows i hi)
    refine ⟨A, 0, ta, tc, rfl, ?_, hans⟩
    rw [Nat.zero_add, ← e]
    exact (cell_of h1 i).trans (h3 i hi)
structure SPAny (n : Nat) (L : La) (stx : L.Sg → List Int) (F : OX L × List Nat) (w w' : World) (cells : Array Value) : Prop where
  tr : TrO w.heap.size cells n (fun i => (F.1.th i).ans) F.2 (stx F.1.s) (stuckO n F.1) w'
  old : ∀ b, b < w.heap.size → w'.heap[b]? = w.heap[b]?
  size : w.heap.size ≤ w'.heap.size
theorem row_low {w : World} {base base' : Nat} {e : TypeId} {size : Nat} {v : Value} {n : Nat} {xs : List Value} (h : w.ownsRow base e size v n xs) (hb : base' ≤ base) : w.ownsRow base' e size v n xs :=
  ⟨h.1, h.2.imp id fun ⟨g, cap, cur, h1, h2, h3⟩ => ⟨g, cap, cur, h1, Nat.le_trans hb h2, h3⟩⟩
theorem splay_any (xsl : Value) (xs : List Int) (hxn : xs.length ≤ 17592186044416) (tv : Value) (most : Int) (ta : Option Addr) (tb toff tc n : Nat) (hta : 0 < n → ta = some ⟨tb, toff, none⟩) (hn : n ≤ 64) (oa : Nat → Option Addr) (ln oc : Nat → Nat) (ops : Nat → List OpV) (sa : Option Addr) (sc : Nat) (sl : List Int) (hsl : sl.length ≤ 17592186044416) (c : Frame) (cs : List Frame) (w : World) (hx : LsR xsl xs w)
    (I : OpsIn tb toff n oa ln oc ops w)
    (hsc : ∀ (j : Nat) (z : Int), sl[j]? = some z → ∃ s so, sa = some ⟨s, so, none⟩ ∧ w.cell? ⟨s, so + j, none⟩ = some (.int .i64 z))
    (hp : ∀ w' : World, (∀ b, b < w.heap.size → w'.heap[b]? = w.heap[b]?) → CallV Try.prog true (fun _ => none) 62 #[tv] w' (.slice ta n tc) w') :
    Runs (fun g w' => ∃ cells, SPAny n (sqLa (w.heap.size + 1) (sqK xs.length)) (stL (sqK xs.length)) (playO (sqLa (w.heap.size + 1) (sqK xs.length)) (sq0 xs) ops n most sl) w w' cells ∧ g = G (c.finish (.agg cells)) cs) (G (Frame.enter Try.prog 14 #[xsl, tv, .slice sa sl.length sc, .int .i64 most] .normal) (c :: cs)) w := by
  refine Runs.walk (splay_in xsl xs hxn tv (.slice sa sl.length sc) most c cs w hx) ?_
  rintro _ w1 ⟨fr, rfl, hI, hO, hS, hT, hB⟩
  have hc1 : ∀ {b j : Nat} {v : Value}, w.cell? ⟨b, j, none⟩ = some v → w1.cell? ⟨b, j, none⟩ = some v := fun {b j v} e => (World.cell?_of_block (a := ⟨b, j, none⟩) (hO b (cell_lt' e))).trans e
  have hsh : ∀ b, b < w.heap.size → ¬ (b = w.heap.size + 1) := fun b hb h => by omega
  have I1 : OpsIn tb toff n oa ln oc ops w1 := I.old hO
  refine Runs.then (ops_any (L := sqLa (w.heap.size + 1) (sqK xs.length)) qdo_ok () (sq0 xs) tv most ta tb toff tc n hta hn oa ln oc ops sa sc sl hsl fr (c :: cs) w1 I1 hI (fun i hi j o ho b off e => ?_) (fun j z hz => ?_) (fun w' hw' => hp w' fun b hb => (hw' b (by omega)).trans (hO b hb))) ?_
  · obtain ⟨b', off', e', c0, _⟩ := I.ops i hi j o ho
    rw [e] at e'
    injection e' with e'
    injection e' with e' _
    subst e'
    exact hsh b (cell_lt' c0)
  · obtain ⟨s, so, e, hc⟩ := hsc j z hz
    exact ⟨s, so, e, hc1 hc, hsh s (cell_lt' hc)⟩
  · rintro _ w4 ⟨cells, H, rfl⟩
    obtain ⟨y, A, oo, ok, hd, own, O⟩ := H.all
    have hold := H.old
    have hsz := H.size
    generalize playO (sqLa (w.heap.size + 1) (sqK xs.length)) (sq0 xs) ops n most sl = F at *
    obtain rfl := O.eq
    obtain ⟨arr, hAr, hAz, hAi⟩ := O.heads
    have hAl := O.Alo
    have hAlt : A < w4.heap.size := (Array.getElem?_eq_some_iff.1 hAr).1
    have hT4 : w4.heap[w.heap.size]? = some (.cells #[.slice none 0 0, .slice none 0 0, .slice none 0 0, .bool false] 31) := (hold _ (by omega) (show ¬ (w.heap.size = w.heap.size + 1) by omega)).trans hT
    refine Runs.walk (hB A n oo _ ok _ _ w4 (by omega) O.I hT4) ?_
    rintro _ w5 ⟨B, bc, rfl, hrow, hold5, hsz5⟩
    have hown : ∀ i b, i < n → own i b → (∃ b', b' = b ∧ w1.heap.size ≤ b' ∧ b' < w4.heap.size) → w5.heap[b]? = w4.heap[b]? := fun i b _ _ ⟨b', e, h1, h2⟩ => by
      subst e
      exact hold5 b' h2 (by omega) (by omega)
    have hrowlt : ∀ (v : Value) (e : TypeId) (sz m : Nat) (ys : List Value), w4.ownsRow w1.heap.size e sz v m ys → w5.ownsRow w.heap.size e sz v m ys := fun v e sz m ys h => row_low (row_same h fun b hb => hold5 b (h.lt b hb).2 (by have := (h.lt b hb).1; omega) (by have := (h.lt b hb).1; omega)) (by omega)
    have hBb := fun b (h : (Value.slice (some (⟨B, 0, none⟩ : Addr)) (sqK xs.length + 2) bc).ownBlock = some b) => (hrow.lt b h).1
    refine .now ⟨_, ⟨⟨A, oo, ok, .slice (some ⟨B, 0, none⟩) (sqK xs.length + 2) bc, hd, fun i b => own i b ∧ w1.heap.size ≤ b ∧ b < w4.heap.size, rfl, by omega, hrowlt _ _ _ _ _ O.orow, ?_, ⟨arr, (hold5 A hAlt (by omega) (by omega)).trans hAr, hAz, hAi⟩, fun i hi => ?_, fun i j b h1 h2 => O.one i j b h1.1 h2.1, fun i b h => ⟨(O.ownA i b h.1).1, O.ownO i b h.1, fun e => ?_⟩, O.Aord, fun e => ?_, fun b h e => ?_⟩, fun b hb => ?_, by omega⟩, rfl⟩
    · rw [show (stL (sqK xs.length) F.1.s).length = sqK xs.length + 2 from stL_len _ _]
      exact row_low hrow (by omega)
    · obtain ⟨ta2, tc2, z, hz1, hz2, hz3, hz4, hz5⟩ := O.rows i hi
      refine ⟨ta2, tc2, z, hz1, hz2, hrowlt _ _ _ _ _ hz3, fun b hb => ⟨hz4 b hb, hz3.lt b hb⟩, fun p hp' => ?_⟩
      obtain ⟨la, lc, e, hlen, hl⟩ := hz5 p hp'
      exact ⟨la, lc, e, hlen, fun hne => ⟨hrowlt _ _ _ _ _ (hl hne).1, fun b hb => ⟨(hl hne).2 b hb, (hl hne).1.lt b hb⟩⟩⟩
    · have := hBb b e; omega
    · have := hBb A e; omega
    · have := hBb b e; have := (O.orow.lt b h).2; omega
    · exact (hold5 b (by omega) (by omega) (hsh b hb)).trans ((hold b (by omega) (hsh b hb)).trans (hO b hb))
section
section
variable {b : Frame} {k : List Item} {cs : List Frame} {ops : Array Oper} {Post : Goroutine → World → Prop}
theorem Runs.drawnR {id : Nat} {a : Act} {w : World} {Inv : (Nat → Bool) → Act → World → Prop} (hm : Try.prog.follows .mixedOrders = true) (hlow : lowW ops = true) (h0 : ∀ d, Inv (fun _ => false) a (w.at d))
    (hop : ∀ f i o a w, Inv f a w → Closed ops f → f i = false → ops[i]? = some o → (∀ x ∈ o.after, Region.binds .any x = true → f x.on = true) → ∀ rest, (∀ a' w', Inv (upd f i true) a' w' → Runs Post (G (b.at a' (.inRegion ops rest :: k)) cs) w') → Runs Post (G (b.at a (.inRegion ops (i :: rest) :: k)) cs) w)
    (hend : ∀ f a w, Inv f a w → (∀ i, i < ops.size → f i = true) → Runs Post (G (b.at a (.inRegion ops [] :: k)) cs) w) : Runs Post (G (b.at a (.code (.region id ops true) :: k)) cs) w := by
  have hu : upTo (Array.replicate ops.size false) = fun _ => false := by
    funext j
    unfold upTo
    rw [Array.getD_eq_getD_getElem?, Array.getElem?_replicate]
    split <;> rfl
  refine Runs.walk (Stop := fun g w' => ∃ t d, g = G (b.at a (.inRegion ops (Region.linearise .any ops t) :: k)) cs ∧ w' = w.at d) ?_ ?_
  · refine Walk.step rfl (fun d => G (b.at a (.inRegion ops (Region.linearise .any ops (w.tape d (.order b.fn id))) :: k)) cs) (fun d => w.at (d + 1)) (fun _ => #[]) (fun d => ?_) (fun d => drawsR _) (fun d => .stop fun d' => ⟨w.tape d (.order b.fn id), d', rfl, rfl⟩)
    rw [stepG_region_draw]
    simp only [Region.schedule, hm, Bool.true_or, if_true]
    rfl
  · rintro _ _ ⟨t, d, rfl, rfl⟩
    refine anyE (E := World) (Good := fun rest a w => Runs Post (G (b.at a (.inRegion ops rest :: k)) cs) w) hlow hop hend ops.size _ _ a (w.at d) (by simp) (by rw [hu]; exact h0 d) (by rw [hu]; intro _ _ _ h; cases h) ?_
    unfold Go.Relay.leftOf
    exact Nat.le_trans List.countP_le_length (by simp)
end
end
end Go.Proofs.Ytjenoiekfkhafaa
namespace Go.Relay
section
open Go.Conc Go.RowKit
def Sizes (w w' : World) : Prop := ∀ (b : Nat) (cur : Array Value) (t : TypeId), w.heap[b]? = some (.cells cur t (0, 0)) → ∃ cur' : Array Value, w'.heap[b]? = some (.cells cur' t (0, 0)) ∧ cur'.size = cur.size
theorem Sizes.refl (w : World) : Sizes w w := fun _ cur _ h => ⟨cur, h, rfl⟩
theorem Sizes.trans {w w1 w2 : World} (h : Sizes w w1) (h' : Sizes w1 w2) : Sizes w w2 := fun b cur t hb => by
  obtain ⟨c1, e1, s1⟩ := h b cur t hb
  obtain ⟨c2, e2, s2⟩ := h' b c1 t e1
  exact ⟨c2, e2, s2.trans s1⟩
theorem Sizes.old {w w' : World} (h : ∀ b, b < w.heap.size → w'.heap[b]? = w.heap[b]?) : Sizes w w' := fun b cur t hb => ⟨cur, (h b (Array.getElem?_eq_some_iff.1 hb).1).trans hb, rfl⟩
theorem Sizes.at {w w' : World} (h : Sizes w w') (d : Nat) : Sizes w (w'.at d) := h
theorem append_sizes {P : Program} {w w' : World} {v v' : Value} (t ty : TypeId) (base : Nat) (e : TypeId) (i : TypeInfo) (z : Value) (size bytes : Nat) (ht : P.underlying t = some (.slice e)) (hi : P.info? e = some i) (hz : i.zero = some z)
    (hsize : i.size = size) (hby : i.bytes = bytes) (n : Nat) (xs : List Value) (hown : w.ownsRow base e size v n xs)
    (a : Addr) (m c : Nat) (news : List Value) (hl : news.length = m * size) (hnews : ∀ j u, news[j]? = some u → w.cell? (a.add j) = some u) (h1 : ∀ u ∈ news, u.oneCell' = true)
    (hm : 0 < m) (h63 : n + m ≤ maxLen) (hbytes : (n + m) * bytes ≤ 140737488355328) (hr : (Builtin.append_ #[t, t] ty #[v, .slice (some a) m c]).run P w = .ok v' w') : Sizes w w' ∧ ∀ b, b < w.heap.size → v'.ownBlock ≠ some b → w'.heap[b]? = w.heap[b]? := by
  subst hsize
  subst hby
  have hsmall : n + m ≤ 9223372036854775807 := by simp only [maxLen] at h63; omega
  have new : ∀ (o : Obj) (x : Value), Sizes w (w.drew.alloc o) ∧ ∀ b, b < w.heap.size → x.ownBlock ≠ some b → (w.drew.alloc o).heap[b]? = w.heap[b]? := fun o x => by
    have h : ∀ b, b < w.heap.size → (w.drew.alloc o).heap[b]? = w.heap[b]? := fun b hb => by
      show (w.heap.push o)[b]? = w.heap[b]?
      rw [Array.getElem?_push, if_neg (Nat.ne_of_lt hb)]
    exact ⟨Sizes.old h, fun b hb _ => h b hb⟩
  rcases hown.2 with ⟨rfl, rfl⟩ | ⟨g, cap, cur, rfl, hbg, hg, hnc, hcm, hcs, htake⟩
  · have he := run_append_nil (P := P) w t ty e i z ht hi hz a m c news hl hnews hm (by omega) (by simp only [Nat.zero_add] at hbytes; omega)
    rw [he] at hr
    cases hr
    exact new _ _
  · by_cases hroom : n + m ≤ cap
    · have hfit : n * i.size + news.length ≤ cur.size := by rw [hl, hcs, ← Nat.add_mul]; exact Nat.mul_le_mul_right _ hroom
      have he := run_append_room (P := P) w t ty e i ht hi g n cap cur hg a m c news hl hnews h1 hroom hfit
      rw [he] at hr
      cases hr
      refine ⟨fun b cb tb hb => ?_, fun b hb hne => setRow_other w g b _ fun e => hne (by rw [e]; rfl)⟩
      by_cases hbg : b = g
      · subst hbg
        rw [hg] at hb
        cases hb
        exact ⟨_, setRow_heap w b cur _ e _ hg, by simp only [List.size_toArray, List.length_append, List.length_take, List.length_drop, Array.length_toList]; omega⟩
      · exact ⟨cb, (setRow_other w g b _ hbg).trans hb, rfl⟩
    · have he := run_append_grow (P := P) w t ty e i z ht hi hz ⟨g, 0, none⟩ n cap xs hown.1 (hown.cells (g := g) rfl) a m c news hl hnews (by omega) (by omega) (growslice_fits (by omega) hbytes)
      rw [he] at hr
      cases hr
      exact new _ _
section
variable {P : Program} {main : Bool} {V : Nat → Option Wait} {Stop : Goroutine → World → Prop} {w : World} {b : Frame} {a : Act} {k : List Item} {cs : List Frame} {ops : Array Oper} {i : Nat} {rest : List Nat} {o : Oper}
theorem Walk.appendS (s x : Operand) (t : TypeId) (ho : ops[i]? = some o) (hw : Region.wanted o (yielded ops a.tmps) = true) (hk : b.kind ≠ .early) (hop : o.op = .call { callee := .builtin .append, args := #[s, x], argTypes := #[t, t] })
    (base : Nat) (e : TypeId) (ti : TypeInfo) (z : Value) (size bytes : Nat) (ht : P.underlying t = some (.slice e)) (hi : P.info? e = some ti) (hz : ti.zero = some z) (hsize : ti.size = size) (hby : ti.bytes = bytes) (hzs : z.cells.size = size) (hsz : 0 < size)
    (v : Value) (n : Nat) (xs : List Value) (hs : a.eval s = v) (hown : w.ownsRow base e size v n xs)
    (ad : Addr) (m c : Nat) (news : List Value) (hx : a.eval x = .slice (some ad) m c) (hl : news.length = m * size) (hnews : ∀ j u, news[j]? = some u → w.cell? (ad.add j) = some u) (h1 : ∀ u ∈ news, u.oneCell' = true)
    (hm : 0 < m) (h63 : n + m ≤ maxLen) (hbytes : (n + m) * bytes ≤ 140737488355328) (hbase : base ≤ w.heap.size) (hap : ∀ g, v.ownBlock = some g → Apart V g)
    (h : ∀ g cap w', w'.ownsRow base e size (.slice (some ⟨g, 0, none⟩) (n + m) cap) (n + m) (xs ++ news) → w.grownBy w' v.ownBlock → Sizes w w' → (∀ b, b < w.heap.size → b ≠ g → w'.heap[b]? = w.heap[b]?) → (v.ownBlock = some g ∨ g = w.heap.size) → g < w'.heap.size →
      Walk P main (DR V) Stop (G (b.at (a.put o.dst (.slice (some ⟨g, 0, none⟩) (n + m) cap)) (.inRegion ops rest :: k)) cs) w') :
    Walk P main (DR V) Stop (G (b.at a (.inRegion ops (i :: rest) :: k)) cs) w := by
  refine Walk.go rfl fun d => goes_oper_k ho hw hk fun K hK => ?_
  obtain ⟨g, cap, w', hr, hown', hg, hat, hlt⟩ := run_append_lies (P := P) (w := w.at d) t o.type base e ti z size bytes ht hi hz hsize hby hzs hsz v n xs hown ad m c news hl hnews h1 hm h63 hbytes hbase w.heap.size rfl
  have hS := append_sizes (P := P) (w := w.at d) t o.type base e ti z size bytes ht hi hz hsize hby n xs hown ad m c news hl hnews h1 hm h63 hbytes hr
  refine uponK_append s x t hop hs hx hr (hK _ _ ⟨DR.grown hg hap fun ev hev => ?_, h g cap w' hown' ⟨hg.os, hg.tape, hg.output, hg.size, hg.block⟩ hS.1 (fun b hb hne => hS.2 b hb fun e => hne (Option.some.inj e).symm) hat hlt⟩)
  have hm' := mem_listed hev
  rw [events_append_op s x t hop hs hx] at hm'
  rcases events_append_own (w.at d) base t o.type e ti z size bytes ht hi hz hsize hby v n xs hown ad m c news hl hnews h1 h63 hbytes ev hm' with h' | ⟨ad', h', hb⟩ | ⟨mk, h', hn⟩
  · exact evR_isRead h'
  · exact evR_cell h' ((hap _ hb.symm).1 ad' rfl)
  · rw [h', show mk = .noRoom from hn]; exact evR_noRoom
end
end
end Go.Relay
namespace Go.Proofs.Ytjenoiekfkhafaa
open Go.Conc Go.RowKit Go.Relay
open Go.ConcN (upd upd_ne upd_same)
section
def CallP (main : Bool) (V : Nat → Option Wait) (f : FuncId) (args : Array Value) (w : World) (Post : Value → World → Prop) : Prop :=
  ∀ (c : Frame) (cs : List Frame), Plain c → Walk Try.prog main (DR V) (fun g w' => ∃ v, Post v w' ∧ g = G (c.finish v) cs) (G (Frame.enter Try.prog f args .normal) (c :: cs)) w
section
variable {main : Bool} {V : Nat → Option Wait} {Stop : Goroutine → World → Prop} {w : World} {b : Frame} {a : Act} {k : List Item} {cs : List Frame} {ops : Array Oper} {i : Nat} {rest : List Nat} {o : Oper}
theorem CallP.mono {f : FuncId} {args : Array Value} {Post Post' : Value → World → Prop} (h : CallP main V f args w Post) (hP : ∀ v w', Post v w' → Post' v w') : CallP main V f args w Post' :=
  fun c cs hp => (h c cs hp).mono fun g w' ⟨v, hv, e⟩ => ⟨v, hP v w' hv, e⟩
theorem Walk.callP {f : FuncId} {fn : Func} {args : Array Operand} {ats : Array TypeId} {Post : Value → World → Prop} (hc : CallP main V f (args.map a.eval) w Post) (ho : ops[i]? = some o) (hw : Region.wanted o (yielded ops a.tmps) = true) (hk : b.kind ≠ .early) (hop : o.op = .call { callee := .value (.func f), args, argTypes := ats })
    (hf : Try.prog.funcs[f]? = some fn) (hname : (fn.name == "runtime.NumGoroutine") = false) (hb : fn.body.isNone = false) (hp : Plain (b.at a (.inRegion ops (i :: rest) :: k)))
    (h : ∀ v w', Post v w' → Walk Try.prog main (DR V) Stop (G (b.at (a.put o.dst v) (.inRegion ops rest :: k)) cs) w') : Walk Try.prog main (DR V) Stop (G (b.at a (.inRegion ops (i :: rest) :: k)) cs) w := by
  refine Walk.callE ho hw hk hop hf hname hb ((hc _ cs hp).then ?_)
  rintro _ w' ⟨v, hv, rfl⟩
  rw [Frame.finish_at, ho]
  exact h v w' hv
theorem CallP.lone {L : La} {f : FuncId} {args : Array Value} {Rel : Value → Ans → World → (Nat → Prop) → Prop} {R : L.Sg × Ans} (N : Nat) (y0 : L.Gh) (s : L.Sg) (r0 : Ans ⊕ L.D) (hat : ∀ v x w' P d, Rel v x w' P → Rel v x (w'.at d) P) (hA : ∀ b, Apart V b) (hI : L.I y0 s w) (hrun : runN L N (s, r0) = some R)
    (hc : ∀ (K : Lg L .nilIface) (e : K.E), K.w e = w → K.tgt e = (K.s e, r0) → SCall K.toLb f args e (fun v e' => ∃ x, Rel v x (K.w e') (K.mine e') ∧ K.tgt e' = (K.s e', .inl x))) :
    CallP main V f args w (fun v w' => ∃ y, Rel v R.2 w' (fun b => (w.heap.size ≤ b ∧ b < w'.heap.size) ∧ ¬ L.sh y b) ∧ Lone L y0 w R w' y) := by
  intro c cs hp
  have key := hc (nilL (V := V) hA main (fun g w' => ∃ v, (∃ y, Rel v R.2 w' (fun b => (w.heap.size ≤ b ∧ b < w'.heap.size) ∧ ¬ L.sh y b) ∧ Lone L y0 w R w' y) ∧ g = G (c.finish v) cs) cs y0 w R) { w := w, y := y0, s := s, tgt := (s, r0), fuel := N, le := L.refl _, inv := hI, size := Nat.le_refl _, old := fun _ _ _ => rfl, pub := fun _ h _ => h, run := hrun } rfl rfl c [] hp (fun _ h => by cases h) ?_
  · exact key
  · rintro v e' ⟨x, hr, ht⟩
    have hrn := e'.run
    have ht : e'.tgt = (e'.s, .inl x) := ht
    rw [ht, runN_inl] at hrn
    have hR := Option.some.inj hrn
    have r1 : R.1 = e'.s := (congrArg Prod.fst hR).symm
    have r2 : R.2 = x := (congrArg Prod.snd hR).symm
    refine .stop fun d => ⟨v, ⟨e'.y, ?_, ⟨e'.le, ?_, e'.size, fun b h1 h2 => e'.old b h1 h2, e'.pub⟩⟩, rfl⟩
    · rw [r2]
      exact hat _ _ _ _ d hr
    · rw [r1]; exact L.stable e'.inv fun _ _ => rfl
end
end
section
section
variable {lb k : Nat}
def sqLd (v : Int) (s : Sq) (ad : Bool) (xs : Nat → Int) (i : Nat) : Sq := ⟨v, fun j => if j < i then layV ad (s.w j) (xs j) else s.w j⟩
theorem sqLd_zero (s : Sq) (ad : Bool) (xs : Nat → Int) (v : Int) : sqLd v s ad xs 0 = sqPutV s v := by
  unfold sqLd sqPutV
  congr 1
theorem sqLd_put (v : Int) (s : Sq) (ad : Bool) (xs : Nat → Int) (i : Nat) : sqPutW (sqLd v s ad xs i) i (layV ad ((sqLd v s ad xs i).w i) (xs i)) = sqLd v s ad xs (i + 1) := by
  have h0 : (sqLd v s ad xs i).w i = s.w i := if_neg (Nat.lt_irrefl i)
  rw [h0]
  unfold sqLd sqPutW
  congr 1
  funext j
  by_cases e : j = i
  · subst e
    rw [upd_same, if_pos (by omega)]
  · rw [upd_ne _ _ e]
    show (if j < i then layV ad (s.w j) (xs j) else s.w j) = (if j < i + 1 then layV ad (s.w j) (xs j) else s.w j)
    by_cases h : j < i
    · rw [if_pos h, if_pos (by omega)]
    · rw [if_neg h, if_neg (by omega)]
def sqDone (k : Nat) (s : Sq) (ad : Bool) (xs : Nat → Int) : Sq := sqLd (IntKind.i64.wrap (s.v + 2)) s ad xs (k + 1)
theorem run_lay (v u : Int) (s : Sq) (ad : Bool) (xs : Nat → Int) : ∀ (r i : Nat), i + r = k + 1 → runN (sqLa lb k) (r + 1) (sqLd u s ad xs i, .inr (dLay k ad xs v i)) = some (sqLd (IntKind.i64.wrap (v + 2)) s ad xs (k + 1), ⟨true, 0, []⟩)
  | 0, i, h => by
    have h : i = k + 1 := h
    subst h
    have e : dLay k ad xs v (k + 1) = .w4 v := if_pos rfl
    rw [e]
    rfl
  | r + 1, i, h => by
    have e : dLay k ad xs v i = .w3 ad xs v i := if_neg (by omega)
    rw [e]
    have e2 : sqAct k (sqLd u s ad xs i) (.w3 ad xs v i) = (sqLd u s ad xs (i + 1), .inr (dLay k ad xs v (i + 1))) := by
      rw [act_w3, sqLd_put]
      congr 2
      unfold dLay
      by_cases h : i = k
      · rw [if_pos h, if_pos (by omega)]
      · rw [if_neg h, if_neg (by omega)]
    refine (congrArg (runN (sqLa lb k) (r + 1)) e2).trans ?_
    exact run_lay v u s ad xs r (i + 1) (by omega)
theorem run_change (s : Sq) (hs : ¬ sqOdd s.v) (ad : Bool) (xs : Nat → Int) (t : Nat) : runN (sqLa lb k) (k + 4) (s, .inr (.w1 ad t xs)) = some (sqDone k s ad xs, ⟨true, 0, []⟩) := by
  have e1 : sqAct k s (.w1 ad t xs) = (s, .inr (.w2 ad t xs s.v)) := by
    show (s, if sqOdd s.v then _ else _) = _
    rw [if_neg hs]
  have e2 : sqAct k s (.w2 ad t xs s.v) = (sqLd (IntKind.i64.wrap (s.v + 1)) s ad xs 0, .inr (dLay k ad xs s.v 0)) := by
    show (if s.v = s.v then _ else _) = _
    rw [if_pos rfl, sqLd_zero]
    congr 2
  refine (congrArg (runN (sqLa lb k) (k + 3)) e1).trans ?_
  refine (congrArg (runN (sqLa lb k) (k + 2)) e2).trans ?_
  exact run_lay s.v _ s ad xs (k + 1) 0 (by omega)
theorem run_raw (s : Sq) (t : Nat) (v : Int) : ∀ (r i : Nat) (l : List Int), i + r = k + 1 → runN (sqLa lb k) (r + 1) (s, dRaw k t v i l) = runN (sqLa lb k) 1 (s, .inr (.r3 t v (l ++ (List.range' i r).map s.w)))
  | 0, i, l, h => by
    have h : i = k + 1 := h
    have e : dRaw k t v i l = .inr (.r3 t v l) := by unfold dRaw; rw [if_pos h]
    rw [e]
    simp
    rfl
  | r + 1, i, l, h => by
    have e : dRaw k t v i l = .inr (.r2 t v i l) := by unfold dRaw; rw [if_neg (by omega)]
    rw [e]
    have e2 : sqAct k s (.r2 t v i l) = (s, dRaw k t v (i + 1) (l ++ [s.w i])) := by
      show (s, Sum.inr (if i = k then _ else _)) = _
      unfold dRaw
      by_cases h : i = k
      · rw [if_pos h, if_pos (by omega)]
      · rw [if_neg h, if_neg (by omega)]
    refine (congrArg (runN (sqLa lb k) (r + 1)) e2).trans ?_
    refine (run_raw s t v r (i + 1) (l ++ [s.w i]) (by omega)).trans ?_
    rw [List.range'_succ]
    simp
theorem run_read (s : Sq) (hs : ¬ sqOdd s.v) (t : Nat) : runN (sqLa lb k) (k + 3) (s, .inr (.r1 t)) = some (s, ⟨true, 0, wdL k s⟩) := by
  have e1 : sqAct k s (.r1 t) = (s, dRaw k t s.v 0 []) := by
    show (s, if sqOdd s.v then _ else _) = _
    rw [if_neg hs]
    unfold dRaw
    rw [if_neg (by omega)]
  refine (congrArg (runN (sqLa lb k) (k + 2)) e1).trans ?_
  refine (run_raw s t s.v (k + 1) 0 [] (by omega)).trans ?_
  have e3 : sqAct k s (.r3 t s.v ([] ++ (List.range' 0 (k + 1)).map s.w)) = (s, .inl ⟨true, 0, wdL k s⟩) := by
    show (s, if s.v = s.v then _ else _) = _
    rw [if_pos rfl, List.nil_append, ← List.range_eq_range']
    rfl
  exact congrArg (runN (sqLa lb k) 0) e3
structure Solo (lb k : Nat) (s : Sq) (w w' : World) : Prop where
  I : SqI lb k s w'
  old : ∀ b, b < w.heap.size → b ≠ lb → w'.heap[b]? = w.heap[b]?
  size : w.heap.size ≤ w'.heap.size
theorem Solo.of {s : Sq} {a : Ans} {w w' : World} {y : (sqLa lb k).Gh} (h : Lone (sqLa lb k) () w (s, a) w' y) : Solo lb k s w w' := ⟨h.I, fun b hb hne => h.old b hb hne, h.size⟩
variable {main : Bool} {V : Nat → Option Wait} {s : Sq} {w : World}
theorem lwrite_w (hA : ∀ b, Apart V b) (I : SqI lb k s w) (hs : ¬ sqOdd s.v) (a : Int) (sl : Value) (vs : List Int) (hsl : LsR sl vs w) (xs : Nat → Int) (hxs : ValsIn k xs vs) :
    CallP main V 23 #[.pointer (some ⟨lb, 0, none⟩), .nilIface, .int .i64 a, sl] w (fun v w' => v = .bool true ∧ Solo lb k (sqDone k s false xs) w w') :=
  (CallP.lone (L := sqLa lb k) (Rel := fun v x _ _ => v = .bool x.ok) (k + 4) () s _ (fun _ _ _ _ _ h => h) hA I (run_change s hs false xs (sqTr a)) (fun K e hw ht => (write_s K xs e a sl vs (hw ▸ hsl) hxs ht).mono fun v e' ⟨b, h1, h2⟩ => ⟨⟨b, 0, []⟩, h1, h2⟩)).mono fun v w' ⟨y, h1, h2⟩ => ⟨h1, Solo.of h2⟩
theorem ladd_w (hA : ∀ b, Apart V b) (I : SqI lb k s w) (hs : ¬ sqOdd s.v) (a : Int) (sl : Value) (vs : List Int) (hsl : LsR sl vs w) (xs : Nat → Int) (hxs : ValsIn k xs vs) :
    CallP main V 24 #[.pointer (some ⟨lb, 0, none⟩), .nilIface, .int .i64 a, sl] w (fun v w' => v = .bool true ∧ Solo lb k (sqDone k s true xs) w w') :=
  (CallP.lone (L := sqLa lb k) (Rel := fun v x _ _ => v = .bool x.ok) (k + 4) () s _ (fun _ _ _ _ _ h => h) hA I (run_change s hs true xs (sqTr a)) (fun K e hw ht => (add_s K xs e a sl vs (hw ▸ hsl) hxs ht).mono fun v e' ⟨b, h1, h2⟩ => ⟨⟨b, 0, []⟩, h1, h2⟩)).mono fun v w' ⟨y, h1, h2⟩ => ⟨h1, Solo.of h2⟩
theorem lread_w (hA : ∀ b, Apart V b) (I : SqI lb k s w) (hs : ¬ sqOdd s.v) (a : Int) :
    CallP main V 25 #[.pointer (some ⟨lb, 0, none⟩), .nilIface, .int .i64 a] w (fun v w' => ∃ B, v = .tuple #[.slice (some ⟨B, 0, none⟩) (k + 1) (k + 1), .bool true] ∧ w.heap.size ≤ B ∧ NumB w' B (wdL k s) ∧ Solo lb k s w w') := by
  have hwl : (wdL k s).length = k + 1 := by simp [wdL]
  refine (CallP.lone (L := sqLa lb k) (Rel := fun v x w' P => ∃ sl, v = .tuple #[sl, .bool x.ok] ∧ ((sl = .slice none 0 0 ∧ x.l = []) ∨ ∃ B, sl = .slice (some ⟨B, 0, none⟩) x.l.length x.l.length ∧ P B ∧ NumB w' B x.l)) (k + 3) () s _ (fun _ _ _ _ _ h => h) hA I (run_read s hs (sqTr a)) (fun K e hw ht => (read_s K e a ht).mono fun v e' ⟨sl, b, ls, h1, h2, h3, h4⟩ => ⟨⟨b, 0, ls⟩, ⟨sl, h1, h2⟩, h4⟩)).mono ?_
  rintro v w' ⟨y, ⟨sl, rfl, h | ⟨B, rfl, hB, hN⟩⟩, h2⟩
  · have : (wdL k s) = [] := h.2
    rw [this] at hwl
    simp at hwl
  · refine ⟨B, ?_, hB.1.1, hN, Solo.of h2⟩
    show Value.tuple #[.slice (some ⟨B, 0, none⟩) (wdL k s).length (wdL k s).length, .bool true] = _
    rw [hwl]
end
end
section
section
variable {P : Program}
theorem eqInB (d : Nat) (t : TypeId) (x y : Bool) (w : World) (es : Array Event) (hu : P.underlying t = some .bool) : (Op.equalIn (d + 1) t (.bool x) (.bool y)).run P w = .ok (x == y) w ∧ (Op.equalIn (d + 1) t (.bool x) (.bool y)).events P w es = es := by
  constructor <;> simp [Op.equalIn, run_underlying hu]
theorem run_neqB (t : TypeId) (hu : P.underlying t = some .bool) (x y : Bool) (w : World) : (binOp .neq t (.bool x) (.bool y)).run P w = .ok (.bool (x != y)) w := by
  simp only [binOp]
  simp [Op.equal, Op.maxDepth, (eqInB 9999 t x y w #[] hu).1, bne]
theorem ev_neqB (t : TypeId) (hu : P.underlying t = some .bool) (x y : Bool) (w : World) (es : Array Event) : (binOp .neq t (.bool x) (.bool y)).events P w es = es := by
  simp only [binOp]
  simp [Op.equal, Op.maxDepth, (eqInB 9999 t x y w #[] hu).1, (eqInB 9999 t x y w es hu).2]
end
theorem und4B : Try.prog.underlying 4 = some .bool := by kernel_rfl
noncomputable def reg21_0 := rg Try.f21.body [0]
noncomputable def reg21_1 := rg Try.f21.body [1, 0, 0]
noncomputable def reg21_2 := rg Try.f21.body [1, 0, 1, 0, 0]
noncomputable def reg21_3 := rg Try.f21.body [1, 1, 0, 0]
noncomputable def reg21_4 := rg Try.f21.body [1, 1, 0, 1, 0, 0, 0, 0]
noncomputable def reg21_6 := rg Try.f21.body [1, 1, 0, 1, 0, 0, 1, 0, 0, 0]
theorem size21_6 : reg21_6.size = 9 := by kernel_rfl
noncomputable def reg21_7 := rg Try.f21.body [1, 1, 0, 1, 0, 0, 1, 0, 0, 1, 0, 0]
noncomputable def reg21_5 := rg Try.f21.body [1, 1, 0, 1, 0, 0, 1, 1]
noncomputable def reg21_8 := rg Try.f21.body [1, 1, 1, 0]
theorem z21 : List.range reg21_0.size = [0] ∧ List.range reg21_1.size = [0, 1, 2, 3, 4] ∧ List.range reg21_2.size = [0] ∧ List.range reg21_3.size = [0] ∧ List.range reg21_4.size = [0, 1, 2, 3] ∧ List.range reg21_5.size = [0, 1, 2] ∧ List.range reg21_6.size = [0, 1, 2, 3, 4, 5, 6, 7, 8] ∧ List.range reg21_7.size = [0] ∧ List.range reg21_8.size = [0] := by refine ⟨?_, ?_, ?_, ?_, ?_, ?_, ?_, ?_, ?_⟩ <;> kernel_rfl
theorem code21_is : Try.f21.body = some (.seq (.region 0 reg21_0 false) (.seq (.seq (.region 1 reg21_1 false) (.cond (.tmp 10 ) (.seq (.region 2 reg21_2 false) (.ret)) (.skip))) (.seq (.seq (.region 3 reg21_3 false) (.block 0 (.loop (.seq (.seq (.region 4 reg21_4 false) (.cond (.tmp 14 ) (.skip) (.exit 0))) (.seq (.block 1 (.seq (.region 6 reg21_6 true) (.cond (.tmp 25 ) (.seq (.region 7 reg21_7 false) (.ret)) (.skip)))) (.region 5 reg21_5 false)))))) (.seq (.region 8 reg21_8 false) (.ret))))) := by kernel_rfl
noncomputable def hdSame (av bv : Value) (i : Nat) (u : Nat → Value) : Frame :=
  (base 21).at { tmps := #[av, bv, u 2, u 3, u 4, .int .i64 i, u 6, u 7, u 8, u 9, u 10, u 11, u 12, u 13, u 14, u 15, u 16, u 17, u 18, u 19, u 20, u 21, u 22, u 23, u 24, u 25], defers := [] } [.code (.seq (.seq (.region 4 reg21_4 false) (.cond (.tmp 14 ) (.skip) (.exit 0))) (.seq (.block 1 (.seq (.region 6 reg21_6 true) (.cond (.tmp 25 ) (.seq (.region 7 reg21_7 false) (.ret)) (.skip)))) (.region 5 reg21_5 false))), .inLoop (.seq (.seq (.region 4 reg21_4 false) (.cond (.tmp 14 ) (.skip) (.exit 0))) (.seq (.block 1 (.seq (.region 6 reg21_6 true) (.cond (.tmp 25 ) (.seq (.region 7 reg21_7 false) (.ret)) (.skip)))) (.region 5 reg21_5 false))), .inBlock 0, .code (.seq (.region 8 reg21_8 false) (.ret))]
noncomputable def reg32_0 := rg Try.f32.body [0]
noncomputable def reg32_1 := rg Try.f32.body [1, 0, 0]
noncomputable def reg32_2 := rg Try.f32.body [1, 0, 1, 0, 0]
noncomputable def reg32_3 := rg Try.f32.body [1, 1, 0, 0]
noncomputable def reg32_4 := rg Try.f32.body [1, 1, 0, 1, 0, 0, 0, 0]
noncomputable def reg32_6 := rg Try.f32.body [1, 1, 0, 1, 0, 0, 1, 0, 0, 0]
theorem size32_6 : reg32_6.size = 9 := by kernel_rfl
noncomputable def reg32_7 := rg Try.f32.body [1, 1, 0, 1, 0, 0, 1, 0, 0, 1, 0, 0]
noncomputable def reg32_5 := rg Try.f32.body [1, 1, 0, 1, 0, 0, 1, 1]
noncomputable def reg32_8 := rg Try.f32.body [1, 1, 1, 0]
theorem z32 : List.range reg32_0.size = [0] ∧ List.range reg32_1.size = [0, 1, 2, 3, 4] ∧ List.range reg32_2.size = [0] ∧ List.range reg32_3.size = [0] ∧ List.range reg32_4.size = [0, 1, 2, 3] ∧ List.range reg32_5.size = [0, 1, 2] ∧ List.range reg32_6.size = [0, 1, 2, 3, 4, 5, 6, 7, 8] ∧ List.range reg32_7.size = [0] ∧ List.range reg32_8.size = [0] := by refine ⟨?_, ?_, ?_, ?_, ?_, ?_, ?_, ?_, ?_⟩ <;> kernel_rfl
theorem code32_is : Try.f32.body = some (.seq (.region 0 reg32_0 false) (.seq (.seq (.region 1 reg32_1 false) (.cond (.tmp 10 ) (.seq (.region 2 reg32_2 false) (.ret)) (.skip))) (.seq (.seq (.region 3 reg32_3 false) (.block 0 (.loop (.seq (.seq (.region 4 reg32_4 false) (.cond (.tmp 14 ) (.skip) (.exit 0))) (.seq (.block 1 (.seq (.region 6 reg32_6 true) (.cond (.tmp 25 ) (.seq (.region 7 reg32_7 false) (.ret)) (.skip)))) (.region 5 reg32_5 false)))))) (.seq (.region 8 reg32_8 false) (.ret))))) := by kernel_rfl
noncomputable def hdSameI (av bv : Value) (i : Nat) (u : Nat → Value) : Frame :=
  (base 32).at { tmps := #[av, bv, u 2, u 3, u 4, .int .i64 i, u 6, u 7, u 8, u 9, u 10, u 11, u 12, u 13, u 14, u 15, u 16, u 17, u 18, u 19, u 20, u 21, u 22, u 23, u 24, u 25], defers := [] } [.code (.seq (.seq (.region 4 reg32_4 false) (.cond (.tmp 14 ) (.skip) (.exit 0))) (.seq (.block 1 (.seq (.region 6 reg32_6 true) (.cond (.tmp 25 ) (.seq (.region 7 reg32_7 false) (.ret)) (.skip)))) (.region 5 reg32_5 false))), .inLoop (.seq (.seq (.region 4 reg32_4 false) (.cond (.tmp 14 ) (.skip) (.exit 0))) (.seq (.block 1 (.seq (.region 6 reg32_6 true) (.cond (.tmp 25 ) (.seq (.region 7 reg32_7 false) (.ret)) (.skip)))) (.region 5 reg32_5 false))), .inBlock 0, .code (.seq (.region 8 reg32_8 false) (.ret))]
section
variable {main : Bool} {V : Nat → Option Wait}
theorem sn_in (a b : Option Addr) (n ca cb : Nat) (cs : List Frame) (w : World) :
    Walk Try.prog main (DR V) (fun g w' => (∃ u, g = G (hdSame (.slice a n ca) (.slice b n cb) 0 u) cs) ∧ ∃ d, w' = w.at d) (G (Frame.enter Try.prog 21 #[.slice a n ca, .slice b n cb] .normal) cs) w := by
  rw [enter_at _ Try.func21 code21_is]
  simp only [Try.ntmps21, ez, Nat.reduceAdd, Nat.reduceSub]
  repeat (first | refine Walk.cx ?_ | (refine Walk.cReg ?_; simp only [z21]) | (refine Walk.oq ?_; try walk_nrm) | (refine Walk.un ?_; walk_nrm))
  refine Walk.ctl rfl (fun w => stepG_loop) ?_
  refine .stop fun d => ⟨at_slots ?_, d, rfl⟩
  simp only [hdSame]
  rfl
theorem sn_out (a b : Option Addr) (n ca cb : Nat) (u : Nat → Value) (c : Frame) (cs : List Frame) (w : World) :
    Walk Try.prog main (DR V) (fun g w' => g = G (c.finish (.bool true)) cs ∧ ∃ d, w' = w.at d) (G (hdSame (.slice a n ca) (.slice b n cb) n u) (c :: cs)) w := by
  unfold hdSame
  repeat (first | refine Walk.cx ?_ | (refine Walk.cReg ?_; simp only [z21]) | (refine Walk.oq ?_; try walk_nrm) | (refine Walk.un ?_; walk_nrm))
  exact Walk.on1 rfl rfl Try.func21 rfl (.stop fun d => ⟨rfl, d, rfl⟩)
theorem sn_go (ab ao n ca bb bo cb i : Nat) (x : Int) (u : Nat → Value) (cs : List Frame) (w : World) (hi : i < n) (hn : n ≤ 17592186044416) (ha : w.cell? ⟨ab, ao + i, none⟩ = some (.int .i64 x)) (hb : w.cell? ⟨bb, bo + i, none⟩ = some (.int .i64 x)) :
    Walk Try.prog main (DR V) (fun g w' => (∃ u', g = G (hdSame (.slice (some ⟨ab, ao, none⟩) n ca) (.slice (some ⟨bb, bo, none⟩) n cb) (i + 1) u') cs) ∧ ∃ d, w' = w.at d) (G (hdSame (.slice (some ⟨ab, ao, none⟩) n ca) (.slice (some ⟨bb, bo, none⟩) n cb) i u) cs) w := by
  have hw1 : IntKind.wrap .i64 ((i : Int) + 1) = (i : Int) + 1 := by rw [IntKind.wrap_i64]; omega
  conv => arg 5; unfold hdSame
  repeat (first | refine Walk.cx ?_ | (refine Walk.cReg ?_; simp only [z21]) | (refine Walk.oq ?_; try walk_nrm) | (refine Walk.un ?_; walk_nrm))
  (refine Walk.drawnC (by kernel_rfl) size21_6 (by kernel_rfl) (by kernel_rfl) (by decide) ?_; simp only [List.range, List.range.loop]; repeat (first | (refine Cm.oq ?_) | (refine Cm.unw (ho_of (by conv => lhs; whnf) (by kernel_rfl)) (by rfl) ?_; walk_nrm)))
  refine Cm.done ?_
  repeat (first | refine Walk.cx ?_ | (refine Walk.cReg ?_; simp only [z21]) | (refine Walk.oq ?_; try walk_nrm) | (refine Walk.un ?_; walk_nrm))
  refine Walk.ctl rfl (fun w => stepG_inLoop) ?_
  refine .stop fun d' => ⟨at_slots ?_, d', rfl⟩
  have hc : ((i + 1 : Nat) : Int) = (i : Int) + 1 := by simp
  simp only [hdSame, hc]
  rfl
theorem sn_loop (a b : Option Addr) (l : List Int) (ca cb : Nat) (hn : l.length ≤ 17592186044416) (c : Frame) (cs : List Frame) (w : World) (ha : NumA a l w) (hb : NumA b l w) : ∀ (r i : Nat) (u : Nat → Value), i + r = l.length →
    Walk Try.prog main (DR V) (fun g w' => g = G (c.finish (.bool true)) cs ∧ ∃ d, w' = w.at d) (G (hdSame (.slice a l.length ca) (.slice b l.length cb) i u) (c :: cs)) w := by
  intro r
  induction r with
  | zero =>
    intro i u hi
    have hi : i = l.length := hi
    subst hi
    exact sn_out a b l.length ca cb u c cs w
  | succ r ih =>
    intro i u hi
    have hin : i < l.length := by omega
    have hx := List.getElem?_eq_getElem hin
    obtain ⟨ab, ao, rfl, h1⟩ := ha i _ hx
    obtain ⟨bb, bo, rfl, h2⟩ := hb i _ hx
    refine (sn_go ab ao l.length ca bb bo cb i _ u (c :: cs) w hin hn h1 h2).then ?_
    rintro g w' ⟨⟨u', rfl⟩, d, rfl⟩
    exact Walk.back (ih (i + 1) u' (by omega)) d
theorem sn_w (a b : Option Addr) (l : List Int) (ca cb : Nat) (hn : l.length ≤ 17592186044416) (w : World) (ha : NumA a l w) (hb : NumA b l w) : CallV Try.prog main V 21 #[.slice a l.length ca, .slice b l.length cb] w (.bool true) w := by
  intro fr cs
  refine (sn_in a b l.length ca cb (fr :: cs) w).then ?_
  rintro g w1 ⟨⟨u, rfl⟩, d, rfl⟩
  refine Walk.back ?_ d
  refine (sn_loop a b l ca cb hn fr cs w ha hb l.length 0 u (by omega)).mono ?_
  rintro g w' ⟨rfl, d, rfl⟩
  exact ⟨_, ⟨rfl, d, rfl⟩, rfl⟩
theorem si_in (a b : Option Addr) (n ca cb : Nat) (cs : List Frame) (w : World) :
    Walk Try.prog main (DR V) (fun g w' => (∃ u, g = G (hdSameI (.slice a n ca) (.slice b n cb) 0 u) cs) ∧ ∃ d, w' = w.at d) (G (Frame.enter Try.prog 32 #[.slice a n ca, .slice b n cb] .normal) cs) w := by
  rw [enter_at _ Try.func32 code32_is]
  simp only [Try.ntmps32, ez, Nat.reduceAdd, Nat.reduceSub]
  repeat (first | refine Walk.cx ?_ | (refine Walk.cReg ?_; simp only [z32]) | (refine Walk.oq ?_; try walk_nrm) | (refine Walk.un ?_; walk_nrm))
  refine Walk.ctl rfl (fun w => stepG_loop) ?_
  refine .stop fun d => ⟨at_slots ?_, d, rfl⟩
  simp only [hdSameI]
  rfl
theorem si_out (a b : Option Addr) (n ca cb : Nat) (u : Nat → Value) (c : Frame) (cs : List Frame) (w : World) :
    Walk Try.prog main (DR V) (fun g w' => g = G (c.finish (.bool true)) cs ∧ ∃ d, w' = w.at d) (G (hdSameI (.slice a n ca) (.slice b n cb) n u) (c :: cs)) w := by
  unfold hdSameI
  repeat (first | refine Walk.cx ?_ | (refine Walk.cReg ?_; simp only [z32]) | (refine Walk.oq ?_; try walk_nrm) | (refine Walk.un ?_; walk_nrm))
  exact Walk.on1 rfl rfl Try.func32 rfl (.stop fun d => ⟨rfl, d, rfl⟩)
theorem si_go (ab ao n ca bb bo cb i : Nat) (x : Int) (u : Nat → Value) (cs : List Frame) (w : World) (hi : i < n) (hn : n ≤ 17592186044416) (ha : w.cell? ⟨ab, ao + i, none⟩ = some (.int .i64 x)) (hb : w.cell? ⟨bb, bo + i, none⟩ = some (.int .i64 x)) :
    Walk Try.prog main (DR V) (fun g w' => (∃ u', g = G (hdSameI (.slice (some ⟨ab, ao, none⟩) n ca) (.slice (some ⟨bb, bo, none⟩) n cb) (i + 1) u') cs) ∧ ∃ d, w' = w.at d) (G (hdSameI (.slice (some ⟨ab, ao, none⟩) n ca) (.slice (some ⟨bb, bo, none⟩) n cb) i u) cs) w := by
  have hw1 : IntKind.wrap .i64 ((i : Int) + 1) = (i : Int) + 1 := by rw [IntKind.wrap_i64]; omega
  conv => arg 5; unfold hdSameI
  repeat (first | refine Walk.cx ?_ | (refine Walk.cReg ?_; simp only [z32]) | (refine Walk.oq ?_; try walk_nrm) | (refine Walk.un ?_; walk_nrm))
  (refine Walk.drawnC (by kernel_rfl) size32_6 (by kernel_rfl) (by kernel_rfl) (by decide) ?_; simp only [List.range, List.range.loop]; repeat (first | (refine Cm.oq ?_) | (refine Cm.unw (ho_of (by conv => lhs; whnf) (by kernel_rfl)) (by rfl) ?_; walk_nrm)))
  refine Cm.done ?_
  repeat (first | refine Walk.cx ?_ | (refine Walk.cReg ?_; simp only [z32]) | (refine Walk.oq ?_; try walk_nrm) | (refine Walk.un ?_; walk_nrm))
  refine Walk.ctl rfl (fun w => stepG_inLoop) ?_
  refine .stop fun d' => ⟨at_slots ?_, d', rfl⟩
  have hc : ((i + 1 : Nat) : Int) = (i : Int) + 1 := by simp
  simp only [hdSameI, hc]
  rfl
theorem si_loop (a b : Option Addr) (l : List Int) (ca cb : Nat) (hn : l.length ≤ 17592186044416) (c : Frame) (cs : List Frame) (w : World) (ha : NumA a l w) (hb : NumA b l w) : ∀ (r i : Nat) (u : Nat → Value), i + r = l.length →
    Walk Try.prog main (DR V) (fun g w' => g = G (c.finish (.bool true)) cs ∧ ∃ d, w' = w.at d) (G (hdSameI (.slice a l.length ca) (.slice b l.length cb) i u) (c :: cs)) w := by
  intro r
  induction r with
  | zero =>
    intro i u hi
    have hi : i = l.length := hi
    subst hi
    exact si_out a b l.length ca cb u c cs w
  | succ r ih =>
    intro i u hi
    have hin : i < l.length := by omega
    have hx := List.getElem?_eq_getElem hin
    obtain ⟨ab, ao, rfl, h1⟩ := ha i _ hx
    obtain ⟨bb, bo, rfl, h2⟩ := hb i _ hx
    refine (si_go ab ao l.length ca bb bo cb i _ u (c :: cs) w hin hn h1 h2).then ?_
    rintro g w' ⟨⟨u', rfl⟩, d, rfl⟩
    exact Walk.back (ih (i + 1) u' (by omega)) d
theorem si_w (a b : Option Addr) (l : List Int) (ca cb : Nat) (hn : l.length ≤ 17592186044416) (w : World) (ha : NumA a l w) (hb : NumA b l w) : CallV Try.prog main V 32 #[.slice a l.length ca, .slice b l.length cb] w (.bool true) w := by
  intro fr cs
  refine (si_in a b l.length ca cb (fr :: cs) w).then ?_
  rintro g w1 ⟨⟨u, rfl⟩, d, rfl⟩
  refine Walk.back ?_ d
  refine (si_loop a b l ca cb hn fr cs w ha hb l.length 0 u (by omega)).mono ?_
  rintro g w' ⟨rfl, d, rfl⟩
  exact ⟨_, ⟨rfl, d, rfl⟩, rfl⟩
noncomputable def reg20_0 := rg Try.f20.body [0]
noncomputable def reg20_1 := rg Try.f20.body [1, 0, 0]
noncomputable def reg20_2 := rg Try.f20.body [1, 0, 1, 0, 0]
noncomputable def reg20_3 := rg Try.f20.body [1, 1, 0, 0]
noncomputable def reg20_4 := rg Try.f20.body [1, 1, 0, 1, 0, 0, 0, 0]
noncomputable def reg20_6 := rg Try.f20.body [1, 1, 0, 1, 0, 0, 1, 0, 0, 0]
theorem size20_6 : reg20_6.size = 38 := by kernel_rfl
noncomputable def reg20_7 := rg Try.f20.body [1, 1, 0, 1, 0, 0, 1, 0, 0, 1, 0, 0]
noncomputable def reg20_5 := rg Try.f20.body [1, 1, 0, 1, 0, 0, 1, 1]
noncomputable def reg20_8 := rg Try.f20.body [1, 1, 1, 0]
theorem z20 : List.range reg20_0.size = [0] ∧ List.range reg20_1.size = [0, 1, 2, 3, 4] ∧ List.range reg20_2.size = [0] ∧ List.range reg20_3.size = [0] ∧ List.range reg20_4.size = [0, 1, 2, 3] ∧ List.range reg20_5.size = [0, 1, 2] ∧ List.range reg20_6.size = [0, 1, 2, 3, 4, 5, 6, 7, 8, 9, 10, 11, 12, 13, 14, 15, 16, 17, 18, 19, 20, 21, 22, 23, 24, 25, 26, 27, 28, 29, 30, 31, 32, 33, 34, 35, 36, 37] ∧ List.range reg20_7.size = [0] ∧ List.range reg20_8.size = [0] := by refine ⟨?_, ?_, ?_, ?_, ?_, ?_, ?_, ?_, ?_⟩ <;> kernel_rfl
theorem code20_is : Try.f20.body = some (.seq (.region 0 reg20_0 false) (.seq (.seq (.region 1 reg20_1 false) (.cond (.tmp 10 ) (.seq (.region 2 reg20_2 false) (.ret)) (.skip))) (.seq (.seq (.region 3 reg20_3 false) (.block 0 (.loop (.seq (.seq (.region 4 reg20_4 false) (.cond (.tmp 14 ) (.skip) (.exit 0))) (.seq (.block 1 (.seq (.region 6 reg20_6 true) (.cond (.tmp 54 ) (.seq (.region 7 reg20_7 false) (.ret)) (.skip)))) (.region 5 reg20_5 false)))))) (.seq (.region 8 reg20_8 false) (.ret))))) := by kernel_rfl
noncomputable def hdSA (a b : Value) (i : Nat) (u : Nat → Value) : Frame :=
  (base 20).at { tmps := #[a, b, u 2, u 3, u 4, .int .i64 i, u 6, u 7, u 8, u 9, u 10, u 11, u 12, u 13, u 14, u 15, u 16, u 17, u 18, u 19, u 20, u 21, u 22, u 23, u 24, u 25, u 26, u 27, u 28, u 29, u 30, u 31, u 32, u 33, u 34, u 35, u 36, u 37, u 38, u 39, u 40, u 41, u 42, u 43, u 44, u 45, u 46, u 47, u 48, u 49, u 50, u 51, u 52, u 53, u 54], defers := [] } [.code (.seq (.seq (.region 4 reg20_4 false) (.cond (.tmp 14 ) (.skip) (.exit 0))) (.seq (.block 1 (.seq (.region 6 reg20_6 true) (.cond (.tmp 54 ) (.seq (.region 7 reg20_7 false) (.ret)) (.skip)))) (.region 5 reg20_5 false))), .inLoop (.seq (.seq (.region 4 reg20_4 false) (.cond (.tmp 14 ) (.skip) (.exit 0))) (.seq (.block 1 (.seq (.region 6 reg20_6 true) (.cond (.tmp 54 ) (.seq (.region 7 reg20_7 false) (.ret)) (.skip)))) (.region 5 reg20_5 false))), .inBlock 0, .code (.seq (.region 8 reg20_8 false) (.ret))]
theorem sa_in (a b : Option Addr) (n ca cb : Nat) (cs : List Frame) (w : World) :
    Walk Try.prog main (DR V) (fun g w' => (∃ u, g = G (hdSA (.slice a n ca) (.slice b n cb) 0 u) cs) ∧ ∃ d, w' = w.at d) (G (Frame.enter Try.prog 20 #[.slice a n ca, .slice b n cb] .normal) cs) w := by
  rw [enter_at _ Try.func20 code20_is]
  simp only [Try.ntmps20, ez, Nat.reduceAdd, Nat.reduceSub]
  repeat (first | refine Walk.cx ?_ | (refine Walk.cReg ?_; simp only [z20]) | (refine Walk.oq ?_; try walk_nrm) | (refine Walk.un ?_; walk_nrm))
  refine Walk.ctl rfl (fun w => stepG_loop) ?_
  refine .stop fun d => ⟨at_slots ?_, d, rfl⟩
  simp only [hdSA]
  rfl
theorem sa_out (a b : Option Addr) (n ca cb : Nat) (u : Nat → Value) (c : Frame) (cs : List Frame) (w : World) :
    Walk Try.prog main (DR V) (fun g w' => g = G (c.finish (.bool true)) cs ∧ ∃ d, w' = w.at d) (G (hdSA (.slice a n ca) (.slice b n cb) n u) (c :: cs)) w := by
  unfold hdSA
  repeat (first | refine Walk.cx ?_ | (refine Walk.cReg ?_; simp only [z20]) | (refine Walk.oq ?_; try walk_nrm) | (refine Walk.un ?_; walk_nrm))
  exact Walk.on1 rfl rfl Try.func20 rfl (.stop fun d => ⟨rfl, d, rfl⟩)
theorem sa_go (ab ao n ca bb bo cb i : Nat) (y : Bool) (x : Int) (la lb : Option Addr) (lc ld : Nat) (xl : List Int) (hxl : xl.length ≤ 1048576) (u : Nat → Value) (cs : List Frame) (w : World) (hi : i < n) (hn : n ≤ 17592186044416) (a0 : w.cell? ⟨ab, ao + i * 3, none⟩ = some (.bool y)) (a1 : w.cell? ⟨ab, ao + i * 3 + 1, none⟩ = some (.int .i64 x)) (a2 : w.cell? ⟨ab, ao + i * 3 + 2, none⟩ = some (.slice la xl.length lc)) (b0 : w.cell? ⟨bb, bo + i * 3, none⟩ = some (.bool y)) (b1 : w.cell? ⟨bb, bo + i * 3 + 1, none⟩ = some (.int .i64 x)) (b2 : w.cell? ⟨bb, bo + i * 3 + 2, none⟩ = some (.slice lb xl.length ld)) (n1 : NumA la xl w) (n2 : NumA lb xl w) :
    Walk Try.prog main (DR V) (fun g w' => (∃ u', g = G (hdSA (.slice (some ⟨ab, ao, none⟩) n ca) (.slice (some ⟨bb, bo, none⟩) n cb) (i + 1) u') cs) ∧ ∃ d, w' = w.at d) (G (hdSA (.slice (some ⟨ab, ao, none⟩) n ca) (.slice (some ⟨bb, bo, none⟩) n cb) i u) cs) w := by
  have hw1 : IntKind.wrap .i64 ((i : Int) + 1) = (i : Int) + 1 := by rw [IntKind.wrap_i64]; omega
  have qb := run_neqB (P := Try.prog) 4 und4B y y
  have qe := ev_neqB (P := Try.prog) 4 und4B y y
  have qy : (y != y) = false := by cases y <;> rfl
  have hq := sn_w (main := main) (V := V) la lb xl lc ld (by omega) w n1 n2
  clear n1 n2
  generalize xl.length = m at *
  rw [qy] at qb
  conv => arg 5; unfold hdSA
  repeat (first | refine Walk.cx ?_ | (refine Walk.cReg ?_; simp only [z20]) | (refine Walk.oq ?_; try walk_nrm) | (refine Walk.un ?_; walk_nrm))
  (refine Walk.drawnC (by kernel_rfl) size20_6 (by kernel_rfl) (by kernel_rfl) (by decide) ?_; simp only [List.range, List.range.loop]; repeat (first | (refine Cm.oq ?_) | (refine Cm.unw (ho_of (by conv => lhs; whnf) (by kernel_rfl)) (by rfl) ?_; walk_nrm)))
  refine Cm.callV (x := .bool true) ?_ (ho_of (by conv => lhs; whnf) (by kernel_rfl)) (by rfl) rfl Try.func21 (by kernel_rfl) (by rfl) ?_
  · intro w' e
    subst e
    walk_nrm
    exact hq
  walk_nrm
  repeat (first | (refine Cm.oq ?_) | (refine Cm.unw (ho_of (by conv => lhs; whnf) (by kernel_rfl)) (by rfl) ?_; walk_nrm))
  refine Cm.done ?_
  repeat (first | refine Walk.cx ?_ | (refine Walk.cReg ?_; simp only [z20]) | (refine Walk.oq ?_; try walk_nrm) | (refine Walk.un ?_; walk_nrm))
  refine Walk.ctl rfl (fun w => stepG_inLoop) ?_
  refine .stop fun d' => ⟨at_slots ?_, d', rfl⟩
  have hc : ((i + 1 : Nat) : Int) = (i : Int) + 1 := by simp
  simp only [hdSA, hc]
  rfl
theorem sa_loop (a b : Option Addr) (l : List Ans) (ca cb : Nat) (hn : l.length ≤ 17592186044416) (c : Frame) (cs : List Frame) (w : World) (ha : AnsA a l w) (hb : AnsA b l w) : ∀ (r i : Nat) (u : Nat → Value), i + r = l.length →
    Walk Try.prog main (DR V) (fun g w' => g = G (c.finish (.bool true)) cs ∧ ∃ d, w' = w.at d) (G (hdSA (.slice a l.length ca) (.slice b l.length cb) i u) (c :: cs)) w := by
  intro r
  induction r with
  | zero =>
    intro i u hi
    have hi : i = l.length := hi
    subst hi
    exact sa_out a b l.length ca cb u c cs w
  | succ r ih =>
    intro i u hi
    have hin : i < l.length := by omega
    have hx := List.getElem?_eq_getElem hin
    generalize l[i] = x at hx
    obtain ⟨ab, ao, la, lc, rfl, h1, h2, h3, h4, h5⟩ := ha i _ hx
    obtain ⟨bb, bo, lb, ld, rfl, k1, k2, k3, k4, _⟩ := hb i _ hx
    refine (sa_go ab ao l.length ca bb bo cb i x.ok x.n la lb lc ld x.l h5 u (c :: cs) w hin hn h1 h2 h3 k1 k2 k3 h4 k4).then ?_
    rintro g w' ⟨⟨u', rfl⟩, d, rfl⟩
    exact Walk.back (ih (i + 1) u' (by omega)) d
theorem sa_w (a b : Option Addr) (l : List Ans) (ca cb : Nat) (hn : l.length ≤ 17592186044416) (w : World) (ha : AnsA a l w) (hb : AnsA b l w) : CallV Try.prog main V 20 #[.slice a l.length ca, .slice b l.length cb] w (.bool true) w := by
  intro fr cs
  refine (sa_in a b l.length ca cb (fr :: cs) w).then ?_
  rintro g w1 ⟨⟨u, rfl⟩, d, rfl⟩
  refine Walk.back ?_ d
  refine (sa_loop a b l ca cb hn fr cs w ha hb l.length 0 u (by omega)).mono ?_
  rintro g w' ⟨rfl, d, rfl⟩
  exact ⟨_, ⟨rfl, d, rfl⟩, rfl⟩
end
section
variable {main : Bool}
noncomputable def reg13_0 := rg Try.f13.body [0]
noncomputable def reg13_1 := rg Try.f13.body [1, 0, 0]
noncomputable def reg13_2 := rg Try.f13.body [1, 0, 1, 0, 0]
noncomputable def reg13_3 := rg Try.f13.body [1, 1, 0, 0]
noncomputable def reg13_4 := rg Try.f13.body [1, 1, 0, 1, 0, 0, 0, 0]
noncomputable def reg13_6 := rg Try.f13.body [1, 1, 0, 1, 0, 0, 1, 0, 0, 0]
theorem size13_6 : reg13_6.size = 12 := by kernel_rfl
noncomputable def reg13_7 := rg Try.f13.body [1, 1, 0, 1, 0, 0, 1, 0, 0, 1, 0, 0]
noncomputable def reg13_5 := rg Try.f13.body [1, 1, 0, 1, 0, 0, 1, 1]
noncomputable def reg13_8 := rg Try.f13.body [1, 1, 1, 0]
theorem z13 : List.range reg13_0.size = [0, 1, 2] ∧ List.range reg13_1.size = [0, 1, 2, 3, 4, 5, 6, 7, 8, 9, 10, 11, 12, 13, 14, 15, 16, 17, 18, 19, 20, 21, 22, 23, 24, 25, 26, 27, 28, 29] ∧ List.range reg13_2.size = [0] ∧ List.range reg13_3.size = [0] ∧ List.range reg13_4.size = [0, 1, 2, 3, 4] ∧ List.range reg13_5.size = [0, 1, 2] ∧ List.range reg13_6.size = [0, 1, 2, 3, 4, 5, 6, 7, 8, 9, 10, 11] ∧ List.range reg13_7.size = [0] ∧ List.range reg13_8.size = [0] := by refine ⟨?_, ?_, ?_, ?_, ?_, ?_, ?_, ?_, ?_⟩ <;> kernel_rfl
theorem code13_is : Try.f13.body = some (.seq (.region 0 reg13_0 false) (.seq (.seq (.region 1 reg13_1 false) (.cond (.tmp 35 ) (.seq (.region 2 reg13_2 false) (.ret)) (.skip))) (.seq (.seq (.region 3 reg13_3 false) (.block 0 (.loop (.seq (.seq (.region 4 reg13_4 false) (.cond (.tmp 40 ) (.skip) (.exit 0))) (.seq (.block 1 (.seq (.region 6 reg13_6 true) (.cond (.tmp 54 ) (.seq (.region 7 reg13_7 false) (.ret)) (.skip)))) (.region 5 reg13_5 false)))))) (.seq (.region 8 reg13_8 false) (.ret))))) := by kernel_rfl
noncomputable def hdSm (X Y i : Nat) (u : Nat → Value) : Frame :=
  (base 13).at { tmps := #[u 0, u 1, .pointer (some ⟨X, 0, none⟩), .pointer (some ⟨Y, 0, none⟩), u 4, .int .i64 i, u 6, u 7, u 8, u 9, u 10, u 11, u 12, u 13, u 14, u 15, u 16, u 17, u 18, u 19, u 20, u 21, u 22, u 23, u 24, u 25, u 26, u 27, u 28, u 29, u 30, u 31, u 32, u 33, u 34, u 35, u 36, u 37, u 38, u 39, u 40, u 41, u 42, u 43, u 44, u 45, u 46, u 47, u 48, u 49, u 50, u 51, u 52, u 53, u 54], defers := [] } [.code (.seq (.seq (.region 4 reg13_4 false) (.cond (.tmp 40 ) (.skip) (.exit 0))) (.seq (.block 1 (.seq (.region 6 reg13_6 true) (.cond (.tmp 54 ) (.seq (.region 7 reg13_7 false) (.ret)) (.skip)))) (.region 5 reg13_5 false))), .inLoop (.seq (.seq (.region 4 reg13_4 false) (.cond (.tmp 40 ) (.skip) (.exit 0))) (.seq (.block 1 (.seq (.region 6 reg13_6 true) (.cond (.tmp 54 ) (.seq (.region 7 reg13_7 false) (.ret)) (.skip)))) (.region 5 reg13_5 false))), .inBlock 0, .code (.seq (.region 8 reg13_8 false) (.ret))]
theorem sm_in (aa : Option Addr) (n ac : Nat) (oa : Option Addr) (ord : List Int) (oc : Nat) (sa : Option Addr) (sts : List Int) (sc : Nat) (k : Bool) (ba : Option Addr) (bc : Nat) (pa : Option Addr) (pc : Nat) (ra : Option Addr) (rc : Nat) (cs : List Frame) (w : World) (hsn : sts.length ≤ 17592186044416) (s1 : NumA sa sts w) (s2 : NumA ra sts w) (hon : ord.length ≤ 17592186044416) (t1 : NumA oa ord w) (t2 : NumA pa ord w) :
    Walk Try.prog main (DR (fun _ => none)) (fun g w' => (∃ u, g = G (hdSm w.heap.size (w.heap.size + 1) 0 u) cs) ∧ Chg (fun _ => False) w w' ∧ w'.heap[w.heap.size]? = some (.cells (trC (.slice aa n ac) (.slice oa ord.length oc) (.slice sa sts.length sc) k) 31) ∧ w'.heap[w.heap.size + 1]? = some (.cells (trC (.slice ba n bc) (.slice pa ord.length pc) (.slice ra sts.length rc) k) 31))
      (G (Frame.enter Try.prog 13 #[.agg (trC (.slice aa n ac) (.slice oa ord.length oc) (.slice sa sts.length sc) k), .agg (trC (.slice ba n bc) (.slice pa ord.length pc) (.slice ra sts.length rc) k)] .normal) cs) w := by
  have qb := run_neqB (P := Try.prog) 4 und4B k k
  have qe := ev_neqB (P := Try.prog) 4 und4B k k
  have qk : (k != k) = false := by cases k <;> rfl
  rw [qk] at qb
  rw [enter_at _ Try.func13 code13_is]
  simp only [Try.ntmps13, ez, Nat.reduceAdd, Nat.reduceSub]
  repeat (first | refine Walk.cx ?_ | (refine Walk.cReg ?_; simp only [z13]) | (refine Walk.oq ?_; try walk_nrm) | (refine Walk.un ?_; walk_nrm))
  (refine Walk.oa ?_; try walk_nrm)
  have hO : Chg (fun _ => False) w (w.alloc (.cells (trC (.slice aa n ac) (.slice oa ord.length oc) (.slice sa sts.length sc) k) 31)) := Chg.alloc
  have hX := heap_alloc_new w (.cells (trC (.slice aa n ac) (.slice oa ord.length oc) (.slice sa sts.length sc) k) 31)
  have hsz : (w.alloc (.cells (trC (.slice aa n ac) (.slice oa ord.length oc) (.slice sa sts.length sc) k) 31)).heap.size = w.heap.size + 1 := by simp
  generalize w.alloc (.cells (trC (.slice aa n ac) (.slice oa ord.length oc) (.slice sa sts.length sc) k) 31) = w1 at *
  repeat (first | (refine Walk.oq ?_; try walk_nrm) | (refine Walk.un ?_; walk_nrm))
  (refine Walk.oa ?_; try walk_nrm)
  have hO2 : Chg (fun _ => False) w (w1.alloc (.cells (trC (.slice ba n bc) (.slice pa ord.length pc) (.slice ra sts.length rc) k) 31)) := hO.trans (S' := fun _ => False) Chg.alloc fun _ _ h => h
  have hY := heap_alloc_new w1 (.cells (trC (.slice ba n bc) (.slice pa ord.length pc) (.slice ra sts.length rc) k) 31)
  have hX2 := (heap_new_lt w1 (.cells (trC (.slice ba n bc) (.slice pa ord.length pc) (.slice ra sts.length rc) k) 31) (by rw [hsz]; exact Nat.lt_succ_self _)).trans hX
  rw [hsz] at hY
  clear hX hO hsz
  generalize w1.alloc (.cells (trC (.slice ba n bc) (.slice pa ord.length pc) (.slice ra sts.length rc) k) 31) = w2 at *
  have h17 := si_w (main := main) (V := fun _ => none) oa pa ord oc pc hon w2 (t1.chg hO2) (t2.chg hO2)
  have h18 := sn_w (main := main) (V := fun _ => none) sa ra sts sc rc hsn w2 (s1.chg hO2) (s2.chg hO2)
  generalize w.heap.size = X at *
  have x0 : w2.cell? ⟨X, 0, none⟩ = some (.slice aa n ac) := (cell_of hX2 0).trans rfl
  have x1 : w2.cell? ⟨X, 1, none⟩ = some (.slice oa ord.length oc) := (cell_of hX2 1).trans rfl
  have x2 : w2.cell? ⟨X, 2, none⟩ = some (.slice sa sts.length sc) := (cell_of hX2 2).trans rfl
  have x3 : w2.cell? ⟨X, 3, none⟩ = some (.bool k) := (cell_of hX2 3).trans rfl
  have y0 : w2.cell? ⟨X + 1, 0, none⟩ = some (.slice ba n bc) := (cell_of hY 0).trans rfl
  have y1 : w2.cell? ⟨X + 1, 1, none⟩ = some (.slice pa ord.length pc) := (cell_of hY 1).trans rfl
  have y2 : w2.cell? ⟨X + 1, 2, none⟩ = some (.slice ra sts.length rc) := (cell_of hY 2).trans rfl
  have y3 : w2.cell? ⟨X + 1, 3, none⟩ = some (.bool k) := (cell_of hY 3).trans rfl
  clear s1 s2 t1 t2
  repeat (first | refine Walk.cx ?_ | (refine Walk.cReg ?_; simp only [z13]) | (refine Walk.oq ?_; try walk_nrm) | (refine Walk.un ?_; walk_nrm))
  refine Walk.callV (x := .bool true) (W := w2) ?_ (ho_of (by conv => lhs; whnf) (by kernel_rfl)) (by rfl) (by decide) rfl Try.func32 (by kernel_rfl) (by rfl) ?_
  · walk_nrm
    exact h17
  walk_nrm
  repeat (first | refine Walk.cx ?_ | (refine Walk.cReg ?_; simp only [z13]) | (refine Walk.oq ?_; try walk_nrm) | (refine Walk.un ?_; walk_nrm))
  refine Walk.callV (x := .bool true) (W := w2) ?_ (ho_of (by conv => lhs; whnf) (by kernel_rfl)) (by rfl) (by decide) rfl Try.func21 (by kernel_rfl) (by rfl) ?_
  · walk_nrm
    exact h18
  walk_nrm
  repeat (first | refine Walk.cx ?_ | (refine Walk.cReg ?_; simp only [z13]) | (refine Walk.oq ?_; try walk_nrm) | (refine Walk.un ?_; walk_nrm))
  refine Walk.ctl rfl (fun w => stepG_loop) ?_
  refine .stop fun d => ⟨at_slots ?_, hO2.at d, hX2, hY⟩
  simp only [hdSm]
  rfl
theorem sm_go (X Y n i ab ao ac bb bo bc : Nat) (ta tb : Option Addr) (l : List Ans) (tc td : Nat) (u : Nat → Value) (cs : List Frame) (w : World) (hi : i < n) (hn : n ≤ 17592186044416) (htl : l.length ≤ 17592186044416) (x0 : w.cell? ⟨X, 0, none⟩ = some (.slice (some ⟨ab, ao, none⟩) n ac)) (y0 : w.cell? ⟨Y, 0, none⟩ = some (.slice (some ⟨bb, bo, none⟩) n bc))
    (ha : w.cell? ⟨ab, ao + i, none⟩ = some (.slice ta l.length tc)) (hb : w.cell? ⟨bb, bo + i, none⟩ = some (.slice tb l.length td)) (h1 : AnsA ta l w) (h2 : AnsA tb l w) :
    Walk Try.prog main (DR (fun _ => none)) (fun g w' => (∃ u', g = G (hdSm X Y (i + 1) u') cs) ∧ ∃ d, w' = w.at d) (G (hdSm X Y i u) cs) w := by
  have hw1 : IntKind.wrap .i64 ((i : Int) + 1) = (i : Int) + 1 := by rw [IntKind.wrap_i64]; omega
  have hq := sa_w (main := main) (V := fun _ => none) ta tb l tc td htl w h1 h2
  clear h1 h2
  conv => arg 5; unfold hdSm
  repeat (first | refine Walk.cx ?_ | (refine Walk.cReg ?_; simp only [z13]) | (refine Walk.oq ?_; try walk_nrm) | (refine Walk.un ?_; walk_nrm))
  (refine Walk.drawnC (by kernel_rfl) size13_6 (by kernel_rfl) (by kernel_rfl) (by decide) ?_; simp only [List.range, List.range.loop]; repeat (first | (refine Cm.oq ?_) | (refine Cm.unw (ho_of (by conv => lhs; whnf) (by kernel_rfl)) (by rfl) ?_; walk_nrm)))
  refine Cm.callV (x := .bool true) ?_ (ho_of (by conv => lhs; whnf) (by kernel_rfl)) (by rfl) rfl Try.func20 (by kernel_rfl) (by rfl) ?_
  · intro w' e
    subst e
    walk_nrm
    exact hq
  walk_nrm
  repeat (first | (refine Cm.oq ?_) | (refine Cm.unw (ho_of (by conv => lhs; whnf) (by kernel_rfl)) (by rfl) ?_; walk_nrm))
  refine Cm.done ?_
  repeat (first | refine Walk.cx ?_ | (refine Walk.cReg ?_; simp only [z13]) | (refine Walk.oq ?_; try walk_nrm) | (refine Walk.un ?_; walk_nrm))
  refine Walk.ctl rfl (fun w => stepG_inLoop) ?_
  refine .stop fun d' => ⟨at_slots ?_, d', rfl⟩
  have hc : ((i + 1 : Nat) : Int) = (i : Int) + 1 := by simp
  simp only [hdSm, hc]
  rfl
theorem sm_out (X Y n : Nat) (aa : Option Addr) (ac : Nat) (u : Nat → Value) (c : Frame) (cs : List Frame) (w : World) (x0 : w.cell? ⟨X, 0, none⟩ = some (.slice aa n ac)) :
    Walk Try.prog main (DR (fun _ => none)) (fun g w' => g = G (c.finish (.bool true)) cs ∧ ∃ d, w' = w.at d) (G (hdSm X Y n u) (c :: cs)) w := by
  unfold hdSm
  repeat (first | refine Walk.cx ?_ | (refine Walk.cReg ?_; simp only [z13]) | (refine Walk.oq ?_; try walk_nrm) | (refine Walk.un ?_; walk_nrm))
  exact Walk.on1 rfl rfl Try.func13 rfl (.stop fun d => ⟨rfl, d, rfl⟩)
theorem sm_w (ca cb : Array Value) (n : Nat) (F : Nat → List Ans) (ord : List Nat) (sts : List Int) (k : Bool) (w : World) (hn : n ≤ 64) (hord : ord.length ≤ 1048576) (hsn : sts.length ≤ 1048576) (hF : ∀ i, i < n → (F i).length ≤ 65536) (h1 : TrA ca n F ord sts k w) (h2 : TrA cb n F ord sts k w) :
    CallW Try.prog main (fun _ => none) 13 #[.agg ca, .agg cb] w (fun v w' => v = .bool true ∧ Chg (fun _ => False) w w') := by
  obtain ⟨aa, ac, oa, oc, sa, sc, rfl, n1, n2, n3⟩ := h1.all
  obtain ⟨ba, bc, pa, pc, ra, rc, rfl, m1, m2, m3⟩ := h2.all
  have olen : (ord.map fun i => ((i : Nat) : Int)).length = ord.length := by simp
  intro fr cs
  have hin := sm_in (main := main) aa n ac oa (ord.map fun i => ((i : Nat) : Int)) oc sa sts sc k ba bc pa pc ra rc (fr :: cs) w (by omega) n2 m2 (by omega) n1 m1
  rw [olen] at hin
  refine hin.then ?_
  rintro g w1 ⟨⟨u, rfl⟩, hC, hX, hY⟩
  have x0 : w1.cell? ⟨w.heap.size, 0, none⟩ = some (.slice aa n ac) := (cell_of hX 0).trans rfl
  have y0 : w1.cell? ⟨w.heap.size + 1, 0, none⟩ = some (.slice ba n bc) := (cell_of hY 0).trans rfl
  have hcell : ∀ {x j : Nat} {v : Value}, w.cell? ⟨x, j, none⟩ = some v → w1.cell? ⟨x, j, none⟩ = some v := fun {x j v} h => (World.cell?_of_block (a := ⟨x, j, none⟩) (hC.same x (cell_lt' h) id)).trans h
  have loop : ∀ (r i : Nat) (u : Nat → Value), i + r = n → Walk Try.prog main (DR (fun _ => none)) (fun g w' => g = G (fr.finish (.bool true)) cs ∧ ∃ d, w' = w1.at d) (G (hdSm w.heap.size (w.heap.size + 1) i u) (fr :: cs)) w1 := by
    intro r
    induction r with
    | zero =>
      intro i u hi
      obtain rfl : i = n := hi
      exact sm_out _ _ i aa ac u fr cs w1 x0
    | succ r ih =>
      intro i u hi
      obtain ⟨ab, ao, ta, tc, rfl, k1, k2⟩ := n3 i (by omega)
      obtain ⟨bb, bo, tb, td, rfl, j1, j2⟩ := m3 i (by omega)
      refine (sm_go _ _ n i ab ao ac bb bo bc ta tb (F i) tc td u (fr :: cs) w1 (by omega) (by omega) (by have := hF i (by omega); omega) x0 y0 (hcell k1) (hcell j1) (k2.chg hC) (j2.chg hC)).then ?_
      rintro g w' ⟨⟨u', rfl⟩, d, rfl⟩
      exact Walk.back (ih (i + 1) u' (by omega)) d
  refine (loop n 0 u (by omega)).mono ?_
  rintro g w' ⟨rfl, d, rfl⟩
  exact ⟨_, ⟨rfl, hC.at d⟩, rfl⟩
end
end
end Go.Proofs.Ytjenoiekfkhafaa
