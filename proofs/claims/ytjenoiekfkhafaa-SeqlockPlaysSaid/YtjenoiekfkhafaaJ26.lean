/- Part 26. -/
import Derived.Test.YtjenoiekfkhafaaJ13
import Derived.Test.YtjenoiekfkhafaaJ21
import Derived.Test.YtjenoiekfkhafaaJ22
import Derived.Test.YtjenoiekfkhafaaJ25
set_option linter.unusedSimpArgs false
set_option linter.unusedVariables false
set_option linter.unusedVariables false
set_option maxHeartbeats 8000000
set_option maxRecDepth 100000
namespace Go.Proofs.Ytjenoiekfkhafaa
open Go.Conc Go.RowKit Go.Relay
open Go.ConcN (upd upd_ne upd_same)
noncomputable def reg14_0 := rg Try.f14.body [0]
noncomputable def reg14_1 := rg Try.f14.body [1, 0]
noncomputable def reg14_2 := rg Try.f14.body [1, 1, 0]
noncomputable def reg14_3 := rg Try.f14.body [1, 1, 1, 0]
noncomputable def reg14_4 := rg Try.f14.body [1, 1, 1, 1, 0]
theorem z14 : List.range reg14_0.size = [0] ∧ List.range reg14_1.size = [0, 1, 2] ∧ List.range reg14_2.size = [0, 1, 2, 3, 4, 5, 6, 7] ∧ List.range reg14_3.size = [0, 1, 2, 3] ∧ List.range reg14_4.size = [0, 1] := by refine ⟨?_, ?_, ?_, ?_, ?_⟩ <;> kernel_rfl
theorem code14_is : Try.f14.body = some (.seq (.region 0 reg14_0 false) (.seq (.region 1 reg14_1 false) (.seq (.region 2 reg14_2 false) (.seq (.region 3 reg14_3 false) (.seq (.region 4 reg14_4 false) (.ret)))))) := by kernel_rfl
def SPBack (T0 lb k : Nat) (fr c : Frame) (cs : List Frame) : Prop := ∀ (A na : Nat) (oo : Option Addr) (ol ok : Nat) (stuck : Bool) (s : Sq) (w : World), lb ≠ T0 → SqI lb k s w → w.heap[T0]? = some (.cells #[.slice none 0 0, .slice none 0 0, .slice none 0 0, .bool false] 31) →
 Walk Try.prog true (DR (fun _ => none)) (fun g w' => ∃ B bc, g = G (c.finish (.agg #[.slice (some ⟨A, 0, none⟩) na na, .slice oo ol ok, .slice (some ⟨B, 0, none⟩) (k + 2) bc, .bool stuck])) cs ∧ w'.ownsRow w.heap.size 2 1 (.slice (some ⟨B, 0, none⟩) (k + 2) bc) (k + 2) ((stL k s).map fun z => .int .i64 z) ∧ (∀ b, b < w.heap.size → b ≠ T0 → b ≠ lb → w'.heap[b]? = w.heap[b]?) ∧ w.heap.size ≤ w'.heap.size)
  (G (fr.finish (.agg #[.slice (some ⟨A, 0, none⟩) na na, .slice oo ol ok, .slice none 0 0, .bool stuck])) (c :: cs)) w
theorem splay_in (sl : Value) (xs : List Int) (hxn : xs.length ≤ 17592186044416) (tv sv : Value) (most : Int) (c : Frame) (cs : List Frame) (w : World) (hx : LsR sl xs w) :
  Walk Try.prog true (DR (fun _ => none)) (fun g w' => ∃ fr, g = G (Frame.enter Try.prog 33 #[tv, .func (.func 34) #[.pointer (some ⟨w.heap.size + 1, 0, none⟩)] #[], sv, .int .i64 most] .normal) (fr :: c :: cs) ∧ SqI (w.heap.size + 1) (sqK xs.length) (sq0 xs) w' ∧ (∀ b, b < w.heap.size → w'.heap[b]? = w.heap[b]?) ∧ w.heap.size + 2 ≤ w'.heap.size ∧
    w'.heap[w.heap.size]? = some (.cells #[.slice none 0 0, .slice none 0 0, .slice none 0 0, .bool false] 31) ∧ SPBack w.heap.size (w.heap.size + 1) (sqK xs.length) fr c cs)
   (G (Frame.enter Try.prog 14 #[sl, tv, sv, .int .i64 most] .normal) (c :: cs)) w := by
 have hA : ∀ b, Apart (fun _ => none) b := fun b => ⟨fun _ _ _ _ h => (by cases h), fun _ _ h => (by cases h)⟩
 obtain ⟨fsT, huT⟩ := structT 31 (by kernel_rfl)
 rw [enter_at _ Try.func14 code14_is]
 simp only [Try.ntmps14, ez, Nat.reduceAdd, Nat.reduceSub]
 refine Walk.gz z14 ?_
 (refine Walk.oa ?_; try walk_nrm)
 have s1 : (w.alloc (.cells #[.slice none 0 0, .slice none 0 0, .slice none 0 0, .bool false] 31)).heap.size = w.heap.size + 1 := by simp
 have o1 : ∀ b, b < w.heap.size → (w.alloc (.cells #[.slice none 0 0, .slice none 0 0, .slice none 0 0, .bool false] 31)).heap[b]? = w.heap[b]? := fun b hb => heap_new_lt _ _ hb
 have d1 := heap_alloc_new w (.cells #[.slice none 0 0, .slice none 0 0, .slice none 0 0, .bool false] 31)
 generalize hN : w.heap.size = T0 at *
 generalize w.alloc (.cells #[.slice none 0 0, .slice none 0 0, .slice none 0 0, .bool false] 31) = w1 at *
 refine Walk.gz z14 ?_
 have hx1 : LsR sl xs w1 := hx.same (fun b hb => o1 b (by omega))
 obtain ⟨xa, xc, rfl, hxr⟩ := hx
 clear hxr
 refine Walk.callW (Post := fun v w' => v = .pointer (some ⟨w1.heap.size, 0, none⟩) ∧ SqI w1.heap.size (sqK xs.length) (sq0 xs) w' ∧ (∀ b, b < w1.heap.size → w'.heap[b]? = w1.heap[b]?) ∧ w1.heap.size < w'.heap.size) ?_ hoA (by rfl) (by decide) rfl Try.func16 (by kernel_rfl) (by rfl) ?_
 ·walk_nrm
  exact new_w w1 _ xs hx1 hxn (fun b _ => hA b)
 rintro v w2 ⟨rfl, hI, hO, hS⟩
 rw [s1] at hI hO hS ⊢
 have hk15 := hI.pos
 generalize sq0 xs = s0 at *
 generalize sqK xs.length = k at *
 clear hx1
 walk_nrm
 refine Walk.gz z14 ?_
 refine Walk.callE hoA (by rfl) (by decide) rfl Try.func33 (by kernel_rfl) (by rfl) ?_
 walk_nrm
 refine .stop fun d => ⟨_, rfl, hI.old rfl, fun b hb => (hO b (by omega)).trans (o1 b (by omega)), show T0 + 2 ≤ w2.heap.size by omega, (hO T0 (by omega)).trans d1, ?_⟩
 intro A na oo ol ok stuck s w4 hne I4 hT
 refine Walk.finish hoA ?_
 walk_nrm
 (refine Walk.oa ?_; try walk_nrm)
 have d5 := heap_alloc_new w4 (.cells #[.slice none 0 0, .slice none 0 0, .slice none 0 0, .bool false] 31)
 have s5 : (w4.alloc (.cells #[.slice none 0 0, .slice none 0 0, .slice none 0 0, .bool false] 31)).heap.size = w4.heap.size + 1 := by simp
 have o5 : ∀ b, b < w4.heap.size → (w4.alloc (.cells #[.slice none 0 0, .slice none 0 0, .slice none 0 0, .bool false] 31)).heap[b]? = w4.heap[b]? := fun b hb => heap_new_lt _ _ hb
 have hT0 : T0 < w4.heap.size := (Array.getElem?_eq_some_iff.1 hT).1
 generalize hT1 : w4.heap.size = T1 at *
 generalize w4.alloc (.cells #[.slice none 0 0, .slice none 0 0, .slice none 0 0, .bool false] 31) = w5 at *
 refine Walk.storeS 31 (.tmp 10) (.tmp 18) hoA (by rfl) (by decide) rfl T1 #[.slice (some ⟨A, 0, none⟩) na na, .slice oo ol ok, .slice none 0 0, .bool stuck] _ 31 rfl rfl d5 (by kernel_rfl) (by rfl) (by simp [Value.oneCell']) (hA _) ?_
 have d6 := setRow_self (cells := #[.slice (some ⟨A, 0, none⟩) na na, .slice oo ol ok, .slice none 0 0, .bool stuck]) d5
 have o6 : ∀ b, b < T1 → (w5.setRow T1 #[.slice (some ⟨A, 0, none⟩) na na, .slice oo ol ok, .slice none 0 0, .bool stuck]).heap[b]? = w4.heap[b]? := fun b hb => (setRow_other _ _ (by omega)).trans (o5 b (by omega))
 have s6 := setRow_size w5 T1 #[.slice (some ⟨A, 0, none⟩) na na, .slice oo ol ok, .slice none 0 0, .bool stuck]
 rw [s5] at s6
 generalize w5.setRow T1 #[.slice (some ⟨A, 0, none⟩) na na, .slice oo ol ok, .slice none 0 0, .bool stuck] = w6 at *
 have hlt4 := I4.lt
 rw [hT1] at hlt4
 have I6 : SqI (T0 + 1) k s w6 := I4.old (o6 _ (by omega))
 walk_nrm
 refine Walk.gz z14 ?_
 refine Walk.callW (Post := StOut (T0 + 1) k s w6) ?_ hoA (by rfl) (by decide) rfl Try.func35 (by kernel_rfl) (by rfl) ?_
 ·walk_nrm
  exact state_w hA w6 I6
 rintro v w7 ⟨B, bc, rfl, hrow, I7, hold7, hs7⟩
 have hrB := hrow.lt B rfl
 have d7 := (hold7 T1 (by omega) (by omega)).trans d6
 have c7 := (cell_of d7 2).trans rfl
 have z7 := frozen_of d7 2
 walk_nrm
 repeat (first | (refine Walk.oq ?_; try walk_nrm) | (refine Walk.un ?_; walk_nrm))
 (have hfr := (hA T1).1 ⟨T1, 2, none⟩ rfl; refine Walk.os hfr c7 ?_; clear hfr; try walk_nrm)
 have d8 : (w7.setCell ⟨T1, 2, none⟩ (.slice (some ⟨B, 0, none⟩) (k + 2) bc)).heap[T1]? = some (.cells #[.slice (some ⟨A, 0, none⟩) na na, .slice oo ol ok, .slice (some ⟨B, 0, none⟩) (k + 2) bc, .bool stuck] 31) := by
  rw [heap_set_self _ _ d7]
  simp
 have o8 : ∀ b, b ≠ T1 → (w7.setCell ⟨T1, 2, none⟩ (.slice (some ⟨B, 0, none⟩) (k + 2) bc)).heap[b]? = w7.heap[b]? := fun b hb => heap_set_other _ _ _ _ hb
 have s8 := size_set w7 ⟨T1, 2, none⟩ (.slice (some ⟨B, 0, none⟩) (k + 2) bc)
 clear c7 z7
 generalize w7.setCell ⟨T1, 2, none⟩ (.slice (some ⟨B, 0, none⟩) (k + 2) bc) = w8 at *
 refine Walk.gz z14 ?_
 refine Walk.loadS 31 (.tmp 10) hoA (by rfl) (by decide) rfl T1 0 [.slice (some ⟨A, 0, none⟩) na na, .slice oo ol ok, .slice (some ⟨B, 0, none⟩) (k + 2) bc, .bool stuck] (.struct fsT) rfl (fun j v hj => ?_) huT rfl (by kernel_rfl) ?_
 ·rw [Nat.zero_add, cell_of d8]
  simpa using hj
 have dT : w8.heap[T0]? = some (.cells #[.slice none 0 0, .slice none 0 0, .slice none 0 0, .bool false] 31) := (o8 T0 (by omega)).trans ((hold7 T0 (by omega) (by omega)).trans ((o6 T0 (by omega)).trans hT))
 walk_nrm
 refine Walk.storeS 31 (.tmp 8) (.tmp 22) hoA (by rfl) (by decide) rfl T0 #[.slice (some ⟨A, 0, none⟩) na na, .slice oo ol ok, .slice (some ⟨B, 0, none⟩) (k + 2) bc, .bool stuck] _ 31 rfl rfl dT (by kernel_rfl) (by rfl) (by simp [Value.oneCell']) (hA _) ?_
 have d9 := setRow_self (cells := #[.slice (some ⟨A, 0, none⟩) na na, .slice oo ol ok, .slice (some ⟨B, 0, none⟩) (k + 2) bc, .bool stuck]) dT
 walk_nrm
 refine Walk.gz z14 ?_
 refine Walk.onCell (T := T0) rfl rfl rfl Try.func14 rfl (by rfl) d9 (by kernel_rfl) (by kernel_rfl) (.stop fun d => ⟨B, bc, rfl, ?_, fun b hb hbT hbs => ?_, ?_⟩)
 ·refine row_same (row_raise hrow fun g hg => ?_) fun g hg => (setRow_other _ _ ?_).trans (o8 g ?_)
  all_goals (have hg : B = g := Option.some.inj hg; omega)
 ·exact (setRow_other _ _ hbT).trans ((o8 b (by omega)).trans ((hold7 b (by omega) hbs).trans (o6 b hb)))
 ·show T1 ≤ (w8.setRow _ _).heap.size
  rw [setRow_size]
  omega
theorem stL_len (k : Nat) (s : Sq) : (stL k s).length = k + 2 := by simp [stL, wdL]
structure TrO (base : Nat) (cells : Array Value) (n : Nat) (F : Nat → List Ans) (ord : List Nat) (sts : List Int) (k : Bool) (w : World) : Prop where
 all : ∃ (A : Nat) (oo : Option Addr) (ok : Nat) (sv : Value) (hd : Nat → Value) (own : Nat → Nat → Prop), cells = trC (.slice (some ⟨A, 0, none⟩) n n) (.slice oo ord.length ok) sv k ∧ base ≤ A ∧
  w.ownsRow base 3 1 (.slice oo ord.length ok) ord.length (ord.map fun i => .int .i64 (i : Nat)) ∧ w.ownsRow base 2 1 sv sts.length (sts.map fun z => .int .i64 z) ∧
  (∃ arr : Array Value, w.heap[A]? = some (.cells arr 42) ∧ arr.size = n ∧ ∀ i, i < n → arr[i]? = some (hd i)) ∧ (∀ i, i < n → RowA base (own i) (hd i) (F i) w) ∧ (∀ i j b, own i b → own j b → i = j) ∧
  (∀ i b, own i b → b ≠ A ∧ (Value.slice oo ord.length ok).ownBlock ≠ some b ∧ sv.ownBlock ≠ some b) ∧ (Value.slice oo ord.length ok).ownBlock ≠ some A ∧ sv.ownBlock ≠ some A ∧ ∀ b, (Value.slice oo ord.length ok).ownBlock = some b → sv.ownBlock ≠ some b
theorem TrO.tr {base : Nat} {cells : Array Value} {n : Nat} {F : Nat → List Ans} {ord : List Nat} {sts : List Int} {k : Bool} {w : World} (h : TrO base cells n F ord sts k w) : TrA cells n F ord sts k w := by
 obtain ⟨A, oo, ok, sv, hd, own, e, hA, hord, hst, ⟨arr, h1, h2, h3⟩, hrows, _⟩ := h.all
 obtain ⟨sa, sc, rfl⟩ : ∃ sa sc, sv = .slice sa sts.length sc := by
  rcases hst.2 with ⟨e, e0⟩ | ⟨g, cap, cur, e, _⟩
  ·exact ⟨none, 0, by rw [e, e0]⟩
  ·exact ⟨_, _, e⟩
 refine ⟨⟨some ⟨A, 0, none⟩, n, oo, ok, sa, sc, e, ?_, numA_of hst, fun i hi => ?_⟩⟩
 ·refine numA_of (base := base) (e := 3) (m := ord.length) (tc := ok) ?_
  have : ((ord.map fun i => ((i : Nat) : Int)).map (Value.int .i64)) = (ord.map fun i => .int .i64 (i : Nat)) := by simp
  rw [this]
  exact hord
 ·obtain ⟨ta, tc, e, hans⟩ := ansA_of (hrows i hi)
  refine ⟨A, 0, ta, tc, rfl, ?_, hans⟩
  rw [Nat.zero_add, ← e]
  exact (cell_of h1 i).trans (h3 i hi)
structure SPAny (n : Nat) (L : La) (stx : L.Sg → List Int) (F : OX L × List Nat) (w w' : World) (cells : Array Value) : Prop where
 tr : TrO w.heap.size cells n (fun i => (F.1.th i).ans) F.2 (stx F.1.s) (stuckO n F.1) w'
 old : ∀ b, b < w.heap.size → w'.heap[b]? = w.heap[b]?
 size : w.heap.size ≤ w'.heap.size
theorem row_low {w : World} {base base' : Nat} {e : TypeId} {size : Nat} {v : Value} {n : Nat} {xs : List Value} (h : w.ownsRow base e size v n xs) (hb : base' ≤ base) : w.ownsRow base' e size v n xs :=
 ⟨h.1, h.2.imp id fun ⟨g, cap, cur, h1, h2, h3⟩ => ⟨g, cap, cur, h1, Nat.le_trans hb h2, h3⟩⟩
theorem splay_any (xsl : Value) (xs : List Int) (hxn : xs.length ≤ 17592186044416) (tv : Value) (most : Int) (ta : Option Addr) (tb toff tc n : Nat) (hta : 0 < n → ta = some ⟨tb, toff, none⟩) (hn : n ≤ 64) (oa : Nat → Option Addr) (ln oc : Nat → Nat) (ops : Nat → List OpV) (sa : Option Addr) (sc : Nat) (sl : List Int) (hsl : sl.length ≤ 17592186044416) (c : Frame) (cs : List Frame) (w : World) (hx : LsR xsl xs w)
  (I : OpsIn tb toff n oa ln oc ops w)
  (hsc : ∀ (j : Nat) (z : Int), sl[j]? = some z → ∃ s so, sa = some ⟨s, so, none⟩ ∧ w.cell? ⟨s, so + j, none⟩ = some (.int .i64 z))
  (hp : ∀ w' : World, (∀ b, b < w.heap.size → w'.heap[b]? = w.heap[b]?) → CallV Try.prog true (fun _ => none) 62 #[tv] w' (.slice ta n tc) w') :
  Runs (fun g w' => ∃ cells, SPAny n (sqLa (w.heap.size + 1) (sqK xs.length)) (stL (sqK xs.length)) (playO (sqLa (w.heap.size + 1) (sqK xs.length)) (sq0 xs) ops n most sl) w w' cells ∧ g = G (c.finish (.agg cells)) cs) (G (Frame.enter Try.prog 14 #[xsl, tv, .slice sa sl.length sc, .int .i64 most] .normal) (c :: cs)) w := by
 refine Runs.walk (splay_in xsl xs hxn tv (.slice sa sl.length sc) most c cs w hx) ?_
 rintro _ w1 ⟨fr, rfl, hI, hO, hS, hT, hB⟩
 have hc1 : ∀ {b j : Nat} {v : Value}, w.cell? ⟨b, j, none⟩ = some v → w1.cell? ⟨b, j, none⟩ = some v := fun {b j v} e => (World.cell?_of_block (a := ⟨b, j, none⟩) (hO b (cell_lt' e))).trans e
 have hsh : ∀ b, b < w.heap.size → ¬ (b = w.heap.size + 1) := fun b hb h => by omega
 have I1 : OpsIn tb toff n oa ln oc ops w1 := I.old hO
 refine Runs.then (ops_any (L := sqLa (w.heap.size + 1) (sqK xs.length)) qdo_ok () (sq0 xs) tv most ta tb toff tc n hta hn oa ln oc ops sa sc sl hsl fr (c :: cs) w1 I1 hI (fun i hi j o ho b off e => ?_) (fun j z hz => ?_) (fun w' hw' => hp w' fun b hb => (hw' b (by omega)).trans (hO b hb))) ?_
 ·obtain ⟨b', off', e', c0, _⟩ := I.ops i hi j o ho
  rw [e] at e'
  injection e' with e'
  injection e' with e' _
  subst e'
  exact hsh b (cell_lt' c0)
 ·obtain ⟨s, so, e, hc⟩ := hsc j z hz
  exact ⟨s, so, e, hc1 hc, hsh s (cell_lt' hc)⟩
 ·rintro _ w4 ⟨cells, H, rfl⟩
  obtain ⟨y, A, oo, ok, hd, own, O⟩ := H.all
  have hold := H.old
  have hsz := H.size
  generalize playO (sqLa (w.heap.size + 1) (sqK xs.length)) (sq0 xs) ops n most sl = F at *
  obtain rfl := O.eq
  obtain ⟨arr, hAr, hAz, hAi⟩ := O.heads
  have hAl := O.Alo
  have hAlt : A < w4.heap.size := (Array.getElem?_eq_some_iff.1 hAr).1
  have hT4 : w4.heap[w.heap.size]? = some (.cells #[.slice none 0 0, .slice none 0 0, .slice none 0 0, .bool false] 31) := (hold _ (by omega) (show ¬ (w.heap.size = w.heap.size + 1) by omega)).trans hT
  refine Runs.walk (hB A n oo _ ok _ _ w4 (by omega) O.I hT4) ?_
  rintro _ w5 ⟨B, bc, rfl, hrow, hold5, hsz5⟩
  have hown : ∀ i b, i < n → own i b → (∃ b', b' = b ∧ w1.heap.size ≤ b' ∧ b' < w4.heap.size) → w5.heap[b]? = w4.heap[b]? := fun i b _ _ ⟨b', e, h1, h2⟩ => by
   subst e
   exact hold5 b' h2 (by omega) (by omega)
  have hrowlt : ∀ (v : Value) (e : TypeId) (sz m : Nat) (ys : List Value), w4.ownsRow w1.heap.size e sz v m ys → w5.ownsRow w.heap.size e sz v m ys := fun v e sz m ys h => row_low (row_same h fun b hb => hold5 b (h.lt b hb).2 (by have := (h.lt b hb).1; omega) (by have := (h.lt b hb).1; omega)) (by omega)
  have hBb := fun b (h : (Value.slice (some (⟨B, 0, none⟩ : Addr)) (sqK xs.length + 2) bc).ownBlock = some b) => (hrow.lt b h).1
  refine .now ⟨_, ⟨⟨A, oo, ok, .slice (some ⟨B, 0, none⟩) (sqK xs.length + 2) bc, hd, fun i b => own i b ∧ w1.heap.size ≤ b ∧ b < w4.heap.size, rfl, by omega, hrowlt _ _ _ _ _ O.orow, ?_, ⟨arr, (hold5 A hAlt (by omega) (by omega)).trans hAr, hAz, hAi⟩, fun i hi => ?_, fun i j b h1 h2 => O.one i j b h1.1 h2.1, fun i b h => ⟨(O.ownA i b h.1).1, O.ownO i b h.1, fun e => ?_⟩, O.Aord, fun e => ?_, fun b h e => ?_⟩, fun b hb => ?_, by omega⟩, rfl⟩
  ·rw [show (stL (sqK xs.length) F.1.s).length = sqK xs.length + 2 from stL_len _ _]
   exact row_low hrow (by omega)
  ·obtain ⟨ta2, tc2, z, hz1, hz2, hz3, hz4, hz5⟩ := O.rows i hi
   refine ⟨ta2, tc2, z, hz1, hz2, hrowlt _ _ _ _ _ hz3, fun b hb => ⟨hz4 b hb, hz3.lt b hb⟩, fun p hp' => ?_⟩
   obtain ⟨la, lc, e, hlen, hl⟩ := hz5 p hp'
   exact ⟨la, lc, e, hlen, fun hne => ⟨hrowlt _ _ _ _ _ (hl hne).1, fun b hb => ⟨(hl hne).2 b hb, (hl hne).1.lt b hb⟩⟩⟩
  ·have := hBb b e; omega
  ·have := hBb A e; omega
  ·have := hBb b e; have := (O.orow.lt b h).2; omega
  ·exact (hold5 b (by omega) (by omega) (hsh b hb)).trans ((hold b (by omega) (hsh b hb)).trans (hO b hb))
section
section
variable {X : Type} {A : Abs X}
theorem fold_short : ∀ (l : List Int) (st : X × List Nat), (st.2.length : Int) ≤ A.most → ((l.foldl (stepA A) st).2.length : Int) ≤ A.most
 | [], _, h => h
 | z :: l, st, h => fold_short l _ (step_short h z)
theorem foldn_short : ∀ (l : List Nat) (st : X × List Nat), (st.2.length : Int) ≤ A.most → ((l.foldl (fun st i => stepA A st (i : Nat)) st).2.length : Int) ≤ A.most
 | [], _, h => h
 | z :: l, st, h => foldn_short l _ (step_short h _)
theorem rest_short : ∀ (f : Nat) (st : X × List Nat), (st.2.length : Int) ≤ A.most → ((restA A f st).2.length : Int) ≤ A.most
 | 0, _, h => h
 | f + 1, st, h => by
  unfold restA
  split
  ·exact h
  ·exact rest_short f _ (foldn_short _ _ h)
end
theorem playO_short (L : La) (s0 : L.Sg) (ops : Nat → List OpV) (n : Nat) (most : Int) (sl : List Int) : (playO L s0 ops n most sl).2.length ≤ 1048576 := by
 have h : ((playO L s0 ops n most sl).2.length : Int) ≤ min (max most 0) 1048576 := rest_short (A := absO L n (min (max most 0) 1048576) ops) _ _ (fold_short _ _ (by show ((0 : Nat) : Int) ≤ min (max most 0) 1048576; omega))
 omega
def stM (m : Nat) (s : Sq) : List Int := s.v :: cL s.w m
theorem stM_len (m : Nat) (s : Sq) : (stM m s).length = 1 + m := by simp [stM, cL]; omega
def RunR (n m a0 : Nat) (L : La) (stx : L.Sg → List Int) (W w : World) (F : OX L × List Nat) (v : Value) (w' : World) : Prop := ∃ cells, v = .agg cells ∧ (∀ w'' : World, (∀ b, a0 ≤ b → b < w'.heap.size → w''.heap[b]? = w'.heap[b]?) → TrA cells n (fun i => (F.1.th i).ans) F.2 (stx F.1.s) (stuckO n F.1) w'') ∧ (∀ b, b < a0 → w'.heap[b]? = W.heap[b]?) ∧ w.heap.size ≤ w'.heap.size ∧ ∀ i, i < n → (F.1.th i).ans.length ≤ 65536
section
variable {a0 M cg cc n m R : Nat} {main : Bool} {lb : Nat} {ops : Nat → List OpV} {W : World}
theorem run_tail (hm : m ≤ 64) (hn : n ≤ 64) (hol : ∀ i, i < n → (ops i).length ≤ 65536) (F : OX (sqLa lb (m - 1)) × List Nat) (oa : Option Addr) (oc : Nat) (u : Nat → Value) (c : Frame) (cs : List Frame) (w : World) (H : RS8 lb a0 M cg cc m R ops W n F oa oc w) (hRa : a0 ≤ R) :
  Walk Try.prog main (DR (fun _ => none)) (fun g w' => ∃ v, RunR n m a0 (sqLa lb (m - 1)) (stM m) W w F v w' ∧ g = G (c.finish v) cs) (G (hdRunE M R n (.slice oa F.2.length oc) u) (c :: cs)) w := by
 obtain ⟨tb, tc, ta, T, N, hF⟩ := H.N
 have hRl := (Array.getElem?_eq_some_iff.1 N.res).1
 have hl := RO8.left (main := main) (most := 0) hn H
 have hl : CallV Try.prog main (fun _ => none) 54 #[.pointer (some ⟨M, 0, none⟩)] w (.bool (stuckO n F.1)) w := hl
 have hav : ∀ i, i < n → ∃ aa ac, (T i).av = .slice aa (T i).ans.length ac ∧ RowA a0 (T i).ownA (.slice aa (T i).ans.length ac) (T i).ans w ∧ w.cell? ⟨tb, i * 8 + 1, none⟩ = some (.slice aa (T i).ans.length ac) ∧ (T i).ans = (F.1.th i).ans ∧ (∀ b, (T i).ownA b → a0 ≤ b ∧ b < w.heap.size ∧ b ≠ R) := fun i hi => by
  have hr := (N.I.rows i hi).rA
  have hlo := (N.I.rows i hi).lo
  obtain ⟨aa, ac, z, _, e, _⟩ := id hr
  have hc := N.I.tcell hi (j := 1) (v := (T i).av) rfl
  refine ⟨aa, ac, e, by rw [← e]; exact hr, by rw [← e]; exact hc, (N.th i hi).ans, fun b hb => ⟨(hlo b hb).1, (hlo b hb).2, fun hbR => N.resS ?_⟩⟩
  subst hbR
  exact .inr (.inr (.inr ⟨i, hi, .inl hb⟩))
 refine (last_in M R n (1 + m) oa F.2.length oc (stuckO n F.1) (stM m F.1.s) u (c :: cs) w hl (state8_w w N.I hm)).then ?_
 rintro _ w1 ⟨sa, sc, Q, ⟨u1, rfl⟩, hQ, hQb, hC1, hst, hs1, hsQ⟩
 have loop : ∀ (r i : Nat) (ha : Option Addr) (hc : Nat) (u : Nat → Value) (w2 : World), i + r = n → w2.heap[Q]? = some (.cells (trC (.slice ha i hc) (.slice oa F.2.length oc) (.slice sa (1 + m) sc) (stuckO n F.1)) 31) → w2.ownsRow (Q + 1) 42 1 (.slice ha i hc) i (hdRow (fun i => (T i).av) i) → Chg (fun x => x = Q ∨ Q + 1 ≤ x) w1 w2 →
   Walk Try.prog main (DR (fun _ => none)) (fun g w' => ∃ v, RunR n m a0 (sqLa lb (m - 1)) (stM m) W w F v w' ∧ g = G (c.finish v) cs) (G (hdRun4 M R n Q i u) (c :: cs)) w2 := by
  intro r
  induction r with
  | zero =>
   intro i ha hc u w2 hi h2 h3 h4
   obtain rfl : i = n := hi
   have hR2 : w2.heap[R]? = some zTr := (h4.same R (by have := hC1.size; omega) (by omega)).trans ((hC1.same R hRl id).trans N.res)
   have hs4 := h4.size
   refine (last_out M R i Q _ _ _ _ u c cs w2 h2 hR2 (by simp [Value.oneCell'])).mono ?_
   rintro g w' ⟨rfl, hC5⟩
   have hs5 := hC5.size
   have far : ∀ b, b < w.heap.size → b ≠ R → w'.heap[b]? = w.heap[b]? := fun b hb hbR => (hC5.same b (by have := hC1.size; omega) hbR).trans ((h4.same b (by have := hC1.size; omega) (by omega)).trans (hC1.same b hb id))
   refine ⟨_, ⟨_, rfl, fun w'' h'' => ⟨⟨ha, hc, oa, oc, sa, sc, ?_, ?_, ?_, fun j hj => ?_⟩⟩, fun b hb => ?_, by omega, fun j hj => ?_⟩, rfl⟩
   ·have e : (stM m F.1.s).length = 1 + m := stM_len _ _
    show _ = trC _ _ (.slice sa (stM m F.1.s).length sc) _
    rw [e]; rfl
   ·refine numA_of (base := a0) (e := 3) (m := F.2.length) (tc := oc) ?_
    have e : ((F.2.map fun i => ((i : Nat) : Int)).map (Value.int .i64)) = ordRow F.2 := by simp [ordRow]
    rw [e]
    exact row_same H.row fun g hg => (h'' g (H.row.lt g hg).1 (by have := (H.row.lt g hg).2; have := hC1.size; omega)).trans (far g (H.row.lt g hg).2 (hF g hg).2)
   ·refine numA_of (base := w.heap.size) (e := 2) (m := 1 + m) (tc := sc) ?_
    refine row_same hst fun g hg => ?_
    have g1 := (hst.lt g hg).1
    have g2 := hsQ g hg
    have gN := N.le
    exact (h'' g (by omega) (by omega)).trans <| (hC5.same g (by omega) (by omega)).trans (h4.same g (by omega) (by omega))
   ·obtain ⟨aa, ac, e1, e2, e3, e4, e5⟩ := hav j hj
    obtain ⟨g, eg, hg, hgl, hcell⟩ := row_at h3 (j := j) (x := (T j).av) (by simp [hdRow, hj])
    refine ⟨g, 0, aa, ac, eg, ?_, ?_⟩
    ·rw [Nat.zero_add, ← e4, ← e1]
     have gN := N.le
     have gC := hC1.size
     exact (World.cell?_of_block (a := ⟨g, j, none⟩) ((h'' g (by omega) (by omega)).trans (hC5.same g hgl (by omega)))).trans hcell
    ·rw [← e4]
     have hr : RowA a0 (T j).ownA (.slice aa (T j).ans.length ac) (T j).ans w'' := e2.same fun b hb => (h'' b (e5 b hb).1 (by have := (e5 b hb).2.1; have := hC1.size; omega)).trans (far b (e5 b hb).2.1 (e5 b hb).2.2)
     obtain ⟨ta', tc'', e, hA⟩ := ansA_of hr
     cases e
     exact hA
   ·have := N.le
    exact (far b (by omega) (by omega)).trans (N.old b hb)
   ·obtain ⟨aa, ac, e1, e2, e3, e4, e5⟩ := hav j hj
    rw [← e4]
    have hal := N.al j hj
    have hp : (T j).at' ≤ (ops j).length := by
     rcases (N.th j hj).pos with ⟨_, _, h, _⟩ | ⟨_, o, _, h, _⟩
     ·omega
     ·have := (List.getElem?_eq_some_iff.1 h).1; omega
    have := hol j hj
    omega
  | succ r ih =>
   intro i ha hc u w2 hi h2 h3 h4
   obtain ⟨aa, ac, e1, e2, e3, e4, e5⟩ := hav i (by omega)
   obtain ⟨l1, l2, l3⟩ := N.I.lt
   have l3 := l3 (by omega)
   have hs4 := h4.size
   have hcell : ∀ {x j : Nat} {v : Value}, w.cell? ⟨x, j, none⟩ = some v → w2.cell? ⟨x, j, none⟩ = some v := fun {x j v} h => (World.cell?_of_block (a := ⟨x, j, none⟩) ((h4.same x (by have := cell_lt' h; have := hC1.size; omega) (by have := cell_lt' h; omega)).trans (hC1.same x (cell_lt' h) id))).trans h
   refine (last_go M R n Q i tb tc _ _ _ ha hc aa (T i).ans.length ac (fun i => (T i).av) u (c :: cs) (Q + 1) w2 h2 h3 (by omega) hn e1 (by omega) (by omega) (hcell (N.I.cT (by omega))) (hcell e3) (by omega) (by omega)).then ?_
   rintro g w3 ⟨g', cap, ⟨u', rfl⟩, m1, m2, m3⟩
   exact ih (i + 1) _ cap u' w3 (by omega) m1 m2 (h4.trans m3 fun x hx h => h)
 exact loop n 0 none 0 u1 w1 (by omega) hQb (rowNil _ _ _ _) Chg.refl
theorem run_w (hm0 : 0 < m) (hm : m ≤ 64) (C0 : Sq) (T : Nat → R8) (b off n0 tcc N : Nat) (hN : N = min n0 64) (va : Option Addr) (hv : 0 < N → va = some ⟨b, off, none⟩) (oa : Nat → Option Addr) (ln oc : Nat → Nat) (ops : Nat → List OpV) (sa : Option Addr) (sc : Nat) (sl : List Int) (most : Int) (ha0 : a0 = W.heap.size) (O : OpsIn b off N oa ln oc ops W)
  (hsl : sl.length ≤ 17592186044416) (hs : ∀ (j : Nat) (z : Int), sl[j]? = some z → ∃ s so, sa = some ⟨s, so, none⟩ ∧ W.cell? ⟨s, so + j, none⟩ = some (.int .i64 z)) (w : World) (I : M8 a0 M cg cc 0 0 0 m none C0 T w) (old : ∀ b, b < a0 → w.heap[b]? = W.heap[b]?) (hle : a0 ≤ w.heap.size) :
  CallW Try.prog main (fun _ => none) 37 #[.pointer (some ⟨M, 0, none⟩), .slice va n0 tcc, .slice sa sl.length sc, .int .i64 most] w (RunR N m a0 (sqLa lb (m - 1)) (stM m) W w (playO (sqLa lb (m - 1)) C0 ops N most sl)) := by
 intro c cs
 have hol : ∀ i, i < N → (ops i).length ≤ 65536 := fun i hi => by have := O.len i hi; omega
 have hN64 : N ≤ 64 := by omega
 refine (into_run M va n0 tcc (.slice sa sl.length sc) most (c :: cs) w).then ?_
 rw [← hN]
 rintro _ _ ⟨⟨u0, rfl⟩, d0, rfl⟩
 refine Walk.back ?_ d0
 obtain ⟨l1, l2, l3⟩ := I.lt
 have hsz : (w.alloc zTr).heap.size = w.heap.size + 1 := by simp
 have H0 : RN8 lb a0 M cg cc m w.heap.size ops W M 0 none T 0 (x0O (sqLa lb (m - 1)) C0) (w.alloc zTr) := by
  refine ⟨(I.same fun b hb => heap_new_lt _ _ hb).noT, fun _ => ⟨rfl, rfl⟩, fun _ => rfl, fun i hi => absurd hi (Nat.not_lt_zero i), fun i hi => absurd hi (Nat.not_lt_zero i), fun i hi => absurd hi (Nat.not_lt_zero i), heap_alloc_new _ _, ?_, fun b hb => (heap_new_lt _ _ (by omega)).trans (old b hb), by omega⟩
  rintro (h | h | h | ⟨k, hk, _⟩)
  ·omega
  ·omega
  ·omega
  ·exact absurd hk (Nat.not_lt_zero k)
 refine (run_threads (main := main) hN64 hm0 b off n0 tcc (.slice sa sl.length sc) (min (max most 0) 1048576) (min (max most 0) 1048576) oa ln oc ops (by omega) W ha0 O (.slice va n0 tcc) (fun h => by rw [hv h]) (c :: cs) N 0 M 0 none T _ u0 _ (by omega) H0).then ?_
 rintro _ w1 ⟨⟨u1, rfl⟩, tb, tc', ta', T1, H1⟩
 have hs1 := H1.le
 refine (run_end0 M _ _ _ w.heap.size N u1 (c :: cs) w1).then ?_
 rintro _ _ ⟨⟨u2, rfl⟩, d, rfl⟩
 refine Walk.back ?_ d
 have HO : RS8 lb a0 M cg cc m w.heap.size ops W N (bornsA (absO (sqLa lb (m - 1)) N (min (max most 0) 1048576) ops) N 0 (x0O (sqLa lb (m - 1)) C0), []) none 0 w1 := ⟨⟨tb, tc', ta', T1, H1, fun b hb => by cases hb⟩, rowNil _ _ _ _⟩
 refine (run_sched (main := main) (most := min (max most 0) 1048576) hm0 hm hN64 hol (by omega) sa sc sl hsl (fun j z hz => by
  obtain ⟨s, so, e, h⟩ := hs j z hz
  exact ⟨s, so, e, by rw [ha0]; exact cell_lt' h, h⟩) (c :: cs) sl.length 0 _ none 0 u2 w1 (by omega) HO).then ?_
 rintro _ w2 ⟨oa2, oc2, ⟨u3, rfl⟩, H2⟩
 rw [List.drop_zero] at H2 ⊢
 refine (run_rest (main := main) (most := min (max most 0) 1048576) hm0 hm hN64 hol (by omega) (c :: cs) (min (max most 0) 1048576).toNat _ oa2 oc2 u3 w2 (by omega) H2).then ?_
 rintro _ w3 ⟨oa3, oc3, ⟨u4, rfl⟩, H3⟩
 have eF : restA (absO (sqLa lb (m - 1)) N (min (max most 0) 1048576) ops) (min (max most 0) 1048576).toNat (sl.foldl (stepA (absO (sqLa lb (m - 1)) N (min (max most 0) 1048576) ops)) (bornsA (absO (sqLa lb (m - 1)) N (min (max most 0) 1048576) ops) N 0 (x0O (sqLa lb (m - 1)) C0), [])) = playO (sqLa lb (m - 1)) C0 ops N most sl := rfl
 rw [eF] at H3 ⊢
 obtain ⟨_, _, _, _, N3, _⟩ := H3.N
 have hR3 := (Array.getElem?_eq_some_iff.1 N3.res).1
 refine (run_tail (main := main) hm hN64 hol _ oa3 oc3 u4 c cs w3 H3 hle).mono ?_
 rintro g w' ⟨v, ⟨cells, e1, e2, e3, e4, e5⟩, hg⟩
 exact ⟨v, ⟨cells, e1, e2, e3, by omega, e5⟩, hg⟩
end
end
section
noncomputable def reg36_0 := rg Try.f36.body [0]
noncomputable def reg36_1 := rg Try.f36.body [1, 0]
noncomputable def reg36_2 := rg Try.f36.body [1, 1, 0, 0]
noncomputable def reg36_3 := rg Try.f36.body [1, 1, 0, 1, 0, 0, 0, 0]
noncomputable def reg36_5 := rg Try.f36.body [1, 1, 0, 1, 0, 0, 1, 0, 0]
theorem size36_5 : reg36_5.size = 14 := by kernel_rfl
noncomputable def reg36_4 := rg Try.f36.body [1, 1, 0, 1, 0, 0, 1, 1]
noncomputable def reg36_6 := rg Try.f36.body [1, 1, 1, 0, 0]
noncomputable def reg36_7 := rg Try.f36.body [1, 1, 1, 0, 1, 0]
noncomputable def reg36_8 := rg Try.f36.body [1, 1, 1, 1, 0]
theorem z36 : List.range reg36_0.size = [0] ∧ List.range reg36_1.size = [0, 1, 2] ∧ List.range reg36_2.size = [0] ∧ List.range reg36_3.size = [0, 1, 2, 3, 4, 5, 6, 7] ∧ List.range reg36_4.size = [0, 1, 2] ∧ List.range reg36_5.size = [0, 1, 2, 3, 4, 5, 6, 7, 8, 9, 10, 11, 12, 13] ∧ List.range reg36_6.size = [0, 1, 2, 3, 4, 5] ∧ List.range reg36_7.size = [0, 1, 2, 3, 4] ∧ List.range reg36_8.size = [0, 1] := by refine ⟨?_, ?_, ?_, ?_, ?_, ?_, ?_, ?_, ?_⟩ <;> kernel_rfl
theorem code36_is : Try.f36.body = some (.seq (.region 0 reg36_0 false) (.seq (.region 1 reg36_1 false) (.seq (.seq (.region 2 reg36_2 false) (.block 0 (.loop (.seq (.seq (.region 3 reg36_3 false) (.cond (.tmp 14 ) (.skip) (.exit 0))) (.seq (.block 1 (.region 5 reg36_5 true)) (.region 4 reg36_4 false)))))) (.seq (.seq (.region 6 reg36_6 false) (.cond (.tmp 35 ) (.region 7 reg36_7 false) (.skip))) (.seq (.region 8 reg36_8 false) (.ret)))))) := by kernel_rfl
noncomputable def hdNew8 (xv : Value) (M j : Nat) (u : Nat → Value) : Frame :=
 (base 36).at { tmps := #[xv, u 1, u 2, .pointer (some ⟨M, 0, none⟩), .int .i64 j, u 5, u 6, u 7, u 8, u 9, u 10, u 11, u 12, u 13, u 14, u 15, u 16, u 17, u 18, u 19, u 20, u 21, u 22, u 23, u 24, u 25, u 26, u 27, u 28, u 29, u 30, u 31, u 32, u 33, u 34, u 35, u 36, u 37, u 38, u 39, u 40], defers := [] } [.code (.seq (.seq (.region 3 reg36_3 false) (.cond (.tmp 14 ) (.skip) (.exit 0))) (.seq (.block 1 (.region 5 reg36_5 true)) (.region 4 reg36_4 false))), .inLoop (.seq (.seq (.region 3 reg36_3 false) (.cond (.tmp 14 ) (.skip) (.exit 0))) (.seq (.block 1 (.region 5 reg36_5 true)) (.region 4 reg36_4 false))), .inBlock 0, .code (.seq (.seq (.region 6 reg36_6 false) (.cond (.tmp 35 ) (.region 7 reg36_7 false) (.skip))) (.seq (.region 8 reg36_8 false) (.ret)))]
def SlIn (sa : Option Addr) (sl : List Int) (w : World) : Prop := ∀ (j : Nat) (z : Int), sl[j]? = some z → ∃ s so, sa = some ⟨s, so, none⟩ ∧ w.cell? ⟨s, so + j, none⟩ = some (.int .i64 z)
theorem SlIn.old {sa : Option Addr} {sl : List Int} {w w' : World} (h : SlIn sa sl w) (hb : ∀ b, b < w.heap.size → w'.heap[b]? = w.heap[b]?) : SlIn sa sl w' := fun j z hz => by
 obtain ⟨s, so, e, hc⟩ := h j z hz
 exact ⟨s, so, e, (World.cell?_of_block (a := ⟨s, so + j, none⟩) (hb s (cell_lt' hc))).trans hc⟩
def intB (x : Int) : Obj := .cells #[.int .i64 x] 2
section
variable {main : Bool}
structure NwR (M : Nat) (xs : List Int) (j : Nat) (cv : Value) (w0 w : World) : Prop where
 hd : w.heap[M]? = some (.cells #[.int .i64 0, cv, .slice none 0 0] 110)
 row : w.ownsRow (M + 1) 2 1 cv j (intRow (xs.take j))
 old : ∀ b, b < M → w.heap[b]? = w0.heap[b]?
 lt : M < w.heap.size
theorem rnew_in (xa : Option Addr) (n c : Nat) (cs : List Frame) (w : World) :
  Walk Try.prog main (DR (fun _ => none)) (fun g w' => ∃ u w1, g = G (hdNew8 (.slice xa n c) w.heap.size 0 u) cs ∧ NwR w.heap.size [] 0 (.slice none 0 0) w w1 ∧ ∃ d, w' = w1.at d)
   (G (Frame.enter Try.prog 36 #[.slice xa n c] .normal) cs) w := by
 rw [enter_at _ Try.func36 code36_is]
 simp only [Try.ntmps36, ez, Nat.reduceAdd, Nat.reduceSub]
 refine Walk.gz z36 ?_
 (refine Walk.oa ?_; try walk_nrm)
 have d1 := heap_alloc_new w (.cells #[.int .i64 0, .slice none 0 0, .slice none 0 0] 110)
 have o1 : ∀ b, b < w.heap.size → (w.alloc (.cells #[.int .i64 0, .slice none 0 0, .slice none 0 0] 110)).heap[b]? = w.heap[b]? := fun b hb => heap_new_lt _ _ hb
 have s1 : (w.alloc (.cells #[.int .i64 0, .slice none 0 0, .slice none 0 0] 110)).heap.size = w.heap.size + 1 := by simp
 generalize w.heap.size = M at *
 generalize w.alloc (.cells #[.int .i64 0, .slice none 0 0, .slice none 0 0] 110) = w1 at *
 refine Walk.gz z36 ?_
 refine Walk.ctl rfl (fun w => stepG_loop) ?_
 refine slots_walk (F := fun u => G (hdNew8 (.slice xa n c) M 0 u) cs) (fun u => .stop fun d => ⟨u, w1, rfl, ⟨d1, ⟨rfl, .inl ⟨rfl, rfl⟩⟩, o1, by omega⟩, d, rfl⟩) ?_
 simp only [hdNew8]
 rfl
theorem rnew_go (xa : Option Addr) (xs : List Int) (c j M : Nat) (cv : Value) (hj : j < xs.length) (hj6 : j < 16) (hxn : xs.length ≤ 17592186044416) (w0 w : World) (hM : w0.heap.size = M) (hx : SlIn xa xs w0) (I : NwR M xs j cv w0 w) (u : Nat → Value) (cs : List Frame) :
  Walk Try.prog main (DR (fun _ => none)) (fun g w' => ∃ u w1 cv', g = G (hdNew8 (.slice xa xs.length c) M (j + 1) u) cs ∧ NwR M xs (j + 1) cv' w0 w1 ∧ ∃ d, w' = w1.at d) (G (hdNew8 (.slice xa xs.length c) M j u) cs) w := by
 have hx0 : xs[j]? = some (xs.getD j 0) := by rw [List.getD_eq_getElem?_getD, List.getElem?_eq_getElem (by omega)]; rfl
 have htk : intRow (xs.take (j + 1)) = intRow (xs.take j) ++ [.int .i64 (xs.getD j 0)] := by
  rw [List.take_succ_eq_append_getElem hj, intRow_snoc]
  congr 3
  rw [List.getD_eq_getElem?_getD, List.getElem?_eq_getElem hj]
  rfl
 obtain ⟨s, so, rfl, hc0⟩ := hx j _ hx0
 have hsl := cell_lt' hc0
 have c2 : w.cell? ⟨s, so + j, none⟩ = some (.int .i64 (xs.getD j 0)) := (World.cell?_of_block (a := ⟨s, so + j, none⟩) (I.old s (by omega))).trans hc0
 have c1 : w.cell? ⟨M, 1, none⟩ = some cv := (cell_of I.hd 1).trans rfl
 have hMl := I.lt
 generalize xs.getD j 0 = x at *
 generalize hln : xs.length = ln at *
 have hj0 : (0 : Int) ≤ j := by omega
 have hj1 : decide ((j : Int) < ln) = true := by simp; omega
 have hj3 : decide (j < ln) = true := by simp; omega
 have hj4 : (j : Int) < ln := by omega
 have hj5 : decide ((j : Int) < 16) = true := by simp; omega
 have hw1 : IntKind.wrap .i64 ((j : Int) + 1) = (j : Int) + 1 := by rw [IntKind.wrap_i64]; omega
 have hcc : ((j + 1 : Nat) : Int) = (j : Int) + 1 := by simp
 have hsz1 : w.heap.size + 1 ≤ (w.alloc (intB x)).heap.size ∧ (w.alloc (intB x)).heap.size ≤ w.heap.size + 1 := by simp
 have hO1 : ∀ y, y < w.heap.size → (w.alloc (intB x)).heap[y]? = w.heap[y]? := fun y hy => heap_new_lt _ _ hy
 have hown' : (w.alloc (intB x)).ownsRow (M + 1) 2 1 cv j (intRow (xs.take j)) := row_same I.row fun g hg => hO1 g (I.row.lt g hg).2
 have hnews : ∀ (j : Nat) (u : Value), ([.int .i64 x] : List Value)[j]? = some u → (w.alloc (intB x)).cell? ((⟨w.heap.size, 0, none⟩ : Addr).add j) = some u := fun j u hu => by
  rw [add_none, Nat.zero_add]
  refine (cell_of (heap_alloc_new _ _) j).trans ?_
  simpa using hu
 have hnM : ∀ g, cv.ownBlock = some g → M < g := fun g hg => (I.row.lt g hg).1
 have hfar : ∀ (y : Nat) (w2 : World), y ≤ M → (w.alloc (intB x)).grownBy w2 cv.ownBlock → w2.heap[y]? = w.heap[y]? := fun y w2 hy hg => (hg.block y (by omega) (fun e => by have := hnM y e.symm; omega)).trans (hO1 y (by omega))
 conv => arg 5; unfold hdNew8
 refine Walk.gz z36 ?_
 refine Walk.drawnT (iA := 9) (iB := 10) (w1 := w.alloc (intB x)) (vA := .slice (some ⟨w.heap.size, 0, none⟩) 1 1) (Z := fun y => y.cell? ⟨M, 1, none⟩ = some cv ∧ y.cell? ⟨s, so + j, none⟩ = some (.int .i64 x))
  (fun v w2 => ∃ g cap, v = .slice (some ⟨g, 0, none⟩) (j + 1) cap ∧ w2.ownsRow (M + 1) 2 1 (.slice (some ⟨g, 0, none⟩) (j + 1) cap) (j + 1) (intRow (xs.take j) ++ [.int .i64 x]) ∧ (w.alloc (intB x)).grownBy w2 cv.ownBlock) (by kernel_rfl) size36_5 (by kernel_rfl) (by kernel_rfl) (by kernel_rfl) (by kernel_rfl) (by decide) hoA hoA ⟨c1, c2⟩ ⟨cell_alloc _ _ c1, cell_alloc _ _ c2⟩ ?_ ?_
 ·rintro v w2 ⟨g, cap, _, _, hg⟩
  exact ⟨(World.cell?_of_block (a := ⟨M, 1, none⟩) (hfar M w2 (by omega) hg)).trans c1, (World.cell?_of_block (a := ⟨s, so + j, none⟩) (hfar s w2 (by omega) hg)).trans c2⟩
 rw [show List.filter (quietQ 9 10) (List.range 13) = [0, 1, 2, 3, 4, 5, 6, 7, 8, 11, 12] from by decide]
 repeat (first | (refine Cm.opqZ hoA (by rfl) (fun wz hz dd e he => ?_) ?_; (· (obtain ⟨z1, z2⟩ := hz; simp [go_sem, *] at he; try (subst he; exact evR_read _ _))); apply Exists.intro; apply And.intro; (· (intro wz hz dd K hK; obtain ⟨z1, z2⟩ := hz; go_simp; exact hK))) | (refine Cm.unw hoA (by rfl) ?_; walk_nrm))
 refine Cm.done ⟨?_, ?_, ?_⟩
 ·intro y hev rest hr'
  have e0 : y.eval (.tmp 25) = .int .i64 x := (hev (.tmp 25) (by simp [Op.operands])).trans rfl
  have e1 : y.tmps[25]?.getD undef = .int .i64 x := by
   rw [← Array.getD_eq_getD_getElem?]
   exact e0
  clear e0 hev
  (refine Walk.oa ?_; try walk_nrm)
  exact hr' _ _ ⟨rfl, _, rfl⟩
 ·intro y hev rest hr'
  have e1 : y.eval (.tmp 21) = cv := (hev (.tmp 21) (by simp [Op.operands, Call.operands])).trans rfl
  have e2 : y.eval (.tmp 26) = .slice (some ⟨w.heap.size, 0, none⟩) 1 1 := (hev (.tmp 26) (by simp [Op.operands, Call.operands])).trans rfl
  have hiA := Option.some_get (show (Try.prog.info? 2).isSome = true by kernel_rfl)
  refine Walk.append (.tmp 21) (.tmp 26) 22 hoA (by rfl) (by decide) rfl (M + 1) 2 _ (.int .i64 0) 1 8 (by kernel_rfl) hiA.symm (by rfl) (by rfl) (by rfl) (by rfl) (by decide) cv j (intRow (xs.take j)) e1 hown' ⟨w.heap.size, 0, none⟩ 1 1 [.int .i64 x] e2 (by rfl) hnews (by simp [Value.oneCell']) (by decide) (by simp [maxLen]; omega) (by omega) (by omega) (fun g _ => ap0 g) (fun g cap w3 hown hg hat hlt => ?_)
  exact hr' _ _ ⟨_, w3, ⟨g, cap, rfl, hown, hg⟩, rfl, w3.drawn, rfl⟩
 rintro v w2 ⟨g, cap, rfl, hown, hg⟩ rest hr'
 have hb2 : w2.heap[M]? = w.heap[M]? := hfar M w2 (by omega) hg
 have h12 : w2.cell? ⟨M, 1, none⟩ = some cv := (World.cell?_of_block (a := ⟨M, 1, none⟩) hb2).trans c1
 have z12 : w2.frozen? ⟨M, 1, none⟩ = false := frozen_of (hb2.trans I.hd) 1
 have hgs := hg.size
 have hgM := (hown.lt g rfl).1
 have I3 : NwR M xs (j + 1) (.slice (some ⟨g, 0, none⟩) (j + 1) cap) w0 (w2.setCell ⟨M, 1, none⟩ (.slice (some ⟨g, 0, none⟩) (j + 1) cap)) := by
  refine ⟨?_, ?_, fun b hb => ?_, ?_⟩
  ·rw [heap_set_self _ _ (hb2.trans I.hd)]
   simp
  ·rw [htk]
   exact row_same hown fun y hy => heap_set_other _ _ _ _ (by have := (hown.lt y hy).1; show y ≠ M; omega)
  ·exact (heap_set_other _ _ _ _ (by show b ≠ M; omega)).trans ((hfar b w2 (by omega) hg).trans (I.old b hb))
  ·rw [size_set]; omega
 (have hfr := fr0 M 1; refine Walk.os hfr h12 ?_; clear hfr; try walk_nrm)
 refine hr' _ _ ?_
 generalize w2.setCell ⟨M, 1, none⟩ (.slice (some ⟨g, 0, none⟩) (j + 1) cap) = w3 at *
 clear hb2 h12 z12 hown hg hfar hown' hnews c1 c2
 try walk_nrm
 refine Walk.gz z36 ?_
 refine Walk.ctl rfl (fun w => stepG_inLoop) ?_
 refine slots_walk (F := fun u => G (hdNew8 (.slice (some ⟨s, so, none⟩) ln c) M (j + 1) u) cs) (fun u => .stop fun d => ⟨u, w3, _, rfl, I3, d, rfl⟩) ?_
 simp only [hdNew8, hcc]
 rfl
end
end
section
section
variable {main : Bool}
theorem sq0_w {xs : List Int} {i : Nat} (h : i < min xs.length 16) : (sq0 xs).w i = xs.getD i 0 := by
 have hk : sqK xs.length + 1 = min xs.length 16 := by unfold sqK; omega
 unfold sq0 sqN
 show (if i < sqK xs.length + 1 then (padL (xs.take (sqK xs.length + 1)) (sqK xs.length + 1)).getD i 0 else 0) = _
 rw [if_pos (by omega), padL_full (by simp; omega), List.getD_eq_getElem?_getD, List.getD_eq_getElem?_getD, List.getElem?_take, if_pos (by omega)]
def NewR (xs : List Int) (T : Nat → R8) (w : World) (v : Value) (w' : World) : Prop := v = .pointer (some ⟨w.heap.size, 0, none⟩) ∧ ∃ cg cc, M8 w.heap.size w.heap.size cg cc 0 0 0 ((sqK xs.length + 1)) none (sq0 xs) T w' ∧ Chg (fun _ => False) w w'
theorem rnew_end1 (xa : Option Addr) (xs : List Int) (c : Nat) (k M : Nat) (T : Nat → R8) (cv : Value) (hk : k = min xs.length 16) (hk0 : 0 < k) (w0 w : World) (hM : w0.heap.size = M) (I : NwR M xs k cv w0 w) (u : Nat → Value) (fr : Frame) (cs : List Frame) :
  Walk Try.prog main (DR (fun _ => none)) (fun g w' => g = G (fr.finish (.pointer (some ⟨M, 0, none⟩))) cs ∧ ∃ cg cc, M8 M M cg cc 0 0 0 ((sqK xs.length + 1)) none (sq0 xs) T w' ∧ Chg (fun _ => False) w0 w') (G (hdNew8 (.slice xa xs.length c) M k u) (fr :: cs)) w := by
 have hmk : sqK xs.length + 1 = k := by unfold sqK; omega
 rw [hmk]
 obtain ⟨g, cap, cur, rfl, h1, h2, h3, h4, h5, h6⟩ : ∃ g cap cur, cv = .slice (some ⟨g, 0, none⟩) k cap ∧ M + 1 ≤ g ∧ w.heap[g]? = some (.cells cur 2 (0, 0)) ∧ k ≤ cap ∧ cap ≤ maxLen ∧ cur.size = cap * 1 ∧ cur.toList.take (k * 1) = intRow (xs.take k) := by
  rcases I.row.2 with ⟨_, hn⟩ | h
  ·omega
  ·exact h
 have IM : M8 M M g cap 0 0 0 k none (sq0 xs) T w := by
  refine ⟨I.hd, ⟨cur, h2, fun i hi => ?_⟩, fun h => absurd h (by decide), fun i hi => absurd hi (Nat.not_lt_zero i), fun i hi => absurd hi (Nat.not_lt_zero i), Nat.le_refl _, by omega, by omega, fun h => absurd h (by decide)⟩
  have e : (intRow (xs.take k))[i]? = some (.int .i64 (xs.getD i 0)) := by
   simp only [intRow, List.getElem?_map, List.getElem?_take, if_pos hi]
   rw [List.getD_eq_getElem?_getD, List.getElem?_eq_getElem (by omega)]
   rfl
  rw [← h6, List.getElem?_take, if_pos (by omega)] at e
  rw [sq0_w (xs := xs) (i := i) (by omega)]
  simpa using e
 have hC : Chg (fun _ => False) w0 w := ⟨by have := I.lt; omega, fun b hb _ => I.old b (by omega)⟩
 have c1 : w.cell? ⟨M, 1, none⟩ = some (.slice (some ⟨g, 0, none⟩) k cap) := (cell_of I.hd 1).trans rfl
 have hb0 : ((k : Int) == 0) = false := by simp; omega
 have hb1 : ¬ (k : Int) = 0 := by omega
 have hb2 : ¬ k = 0 := by omega
 generalize xs.length = ln at *
 by_cases hl : ln ≤ 16
 ·have hkl : k = ln := by omega
  subst hkl
  have hj3 : decide (k < k) = false := by simp
  clear hk hmk h1 h2 h3 h4 h5 h6 hl
  conv => arg 5; unfold hdNew8
  refine Walk.gz z36 ?_
  exact Walk.on1 rfl rfl Try.func36 rfl (.stop fun d => ⟨rfl, g, cap, IM.same fun _ _ => rfl, hC.at d⟩)
 ·have hkl : k = 16 := by omega
  have hj1 : decide ((k : Int) < ln) = true := by simp; omega
  have hj3 : decide (k < ln) = true := by simp; omega
  have hj5 : decide ((k : Int) < 16) = false := by simp; omega
  have hj6 : ¬ (k : Int) < 16 := by omega
  clear hkl hk hmk h1 h2 h3 h4 h5 h6 hl
  conv => arg 5; unfold hdNew8
  refine Walk.gz z36 ?_
  exact Walk.on1 rfl rfl Try.func36 rfl (.stop fun d => ⟨rfl, g, cap, IM.same fun _ _ => rfl, hC.at d⟩)
theorem rnew_end0 (xa : Option Addr) (c M : Nat) (T : Nat → R8) (w0 w : World) (hM : w0.heap.size = M) (I : NwR M [] 0 (.slice none 0 0) w0 w) (u : Nat → Value) (fr : Frame) (cs : List Frame) :
  Walk Try.prog main (DR (fun _ => none)) (fun g w' => g = G (fr.finish (.pointer (some ⟨M, 0, none⟩))) cs ∧ ∃ cg cc, M8 M M cg cc 0 0 0 1 none (sq0 []) T w' ∧ Chg (fun _ => False) w0 w') (G (hdNew8 (.slice xa 0 c) M 0 u) (fr :: cs)) w := by
 have c1 : w.cell? ⟨M, 1, none⟩ = some (.slice none 0 0) := (cell_of I.hd 1).trans rfl
 have hMl := I.lt
 conv => arg 5; unfold hdNew8
 refine Walk.gz z36 ?_
 (refine Walk.oa ?_; try walk_nrm)
 have d1 : (w.alloc (intB 0)).heap[w.heap.size]? = some (.cells #[.int .i64 0] 2) := heap_alloc_new _ _
 have o1 : ∀ b, b < w.heap.size → (w.alloc (intB 0)).heap[b]? = w.heap[b]? := fun b hb => heap_new_lt _ _ hb
 have s1 : (w.alloc (intB 0)).heap.size = w.heap.size + 1 := by simp
 have e1 : w.alloc (.cells #[.int .i64 0] 2) = w.alloc (intB 0) := rfl
 try rw [e1]
 clear e1 c1
 generalize hS : w.heap.size = S at *
 generalize w.alloc (intB 0) = w1 at *
 have hd1 := (o1 M hMl).trans I.hd
 have c1 : w1.cell? ⟨M, 1, none⟩ = some (.slice none 0 0) := (cell_of hd1 1).trans rfl
 have z1 : w1.frozen? ⟨M, 1, none⟩ = false := frozen_of hd1 1
 refine Walk.gz z36 ?_
 (have hfr := fr0 M 1; refine Walk.os hfr c1 ?_; clear hfr; try walk_nrm)
 have IM : M8 M M S 1 0 0 0 1 none (sq0 []) T (w1.setCell ⟨M, 1, none⟩ (.slice (some ⟨S, 0, none⟩) 1 1)) := by
  refine ⟨?_, ⟨_, (heap_set_other _ _ _ _ (by show S ≠ M; omega)).trans d1, fun i hi => ?_⟩, fun h => absurd h (by decide), fun i hi => absurd hi (Nat.not_lt_zero i), fun i hi => absurd hi (Nat.not_lt_zero i), Nat.le_refl _, by omega, by omega, fun h => absurd h (by decide)⟩
  ·rw [heap_set_self _ _ hd1]
   simp
   rfl
  ·have : i = 0 := by omega
   subst this
   rfl
 have hC : Chg (fun _ => False) w0 (w1.setCell ⟨M, 1, none⟩ (.slice (some ⟨S, 0, none⟩) 1 1)) := ⟨by rw [size_set]; omega, fun b hb _ => (heap_set_other _ _ _ _ (by show b ≠ M; omega)).trans ((o1 b (by omega)).trans (I.old b (by omega)))⟩
 generalize w1.setCell ⟨M, 1, none⟩ (.slice (some ⟨S, 0, none⟩) 1 1) = w2 at *
 try walk_nrm
 refine Walk.gz z36 ?_
 exact Walk.on1 rfl rfl Try.func36 rfl (.stop fun d => ⟨rfl, S, 1, IM.same fun _ _ => rfl, hC.at d⟩)
end
end
end Go.Proofs.Ytjenoiekfkhafaa
