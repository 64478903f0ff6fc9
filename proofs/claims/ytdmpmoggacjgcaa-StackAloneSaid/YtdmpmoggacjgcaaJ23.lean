/- Part 23. -/
import Derived.Test.YtdmpmoggacjgcaaJ14
import Derived.Test.YtdmpmoggacjgcaaJ15
import Derived.Test.YtdmpmoggacjgcaaJ20
set_option linter.unusedSimpArgs false
set_option linter.unusedVariables false
set_option maxHeartbeats 8000000
set_option maxRecDepth 100000
namespace Go.Proofs.Ytdmpmoggacjgcaa
open Go.Conc Go.RowKit Go.Relay
open Go.ConcN (upd upd_ne upd_same)
section
section
variable {X : Type}
inductive Stps (C : Abs X) : X × List Nat → X × List Nat → Prop
 | refl (st : X × List Nat) : Stps C st st
 | step {st st' : X × List Nat} (i : Nat) (h : Stps C st st') (hi : i < C.n) (ho : C.out st'.1 i = none) : Stps C st (C.next st'.1 i, st'.2 ++ [i])
theorem stepA_len (C : Abs X) (st : X × List Nat) (z : Int) : st.2.length ≤ (stepA C st z).2.length := by
 unfold stepA
 split
 ·simp
 ·exact Nat.le_refl _
theorem roundA_mono (C : Abs X) : ∀ (l : List Nat) (st : X × List Nat), st.2.length ≤ (l.foldl (fun st i => stepA C st (i : Nat)) st).2.length
 | [], _ => Nat.le_refl _
 | _ :: l, _ => Nat.le_trans (stepA_len C _ _) (roundA_mono C l _)
theorem roundA_grow (C : Abs X) {i : Nat} (hi : i < C.n) : ∀ (l : List Nat) (st : X × List Nat), i ∈ l → overA C st = false → C.out st.1 i = none → st.2.length + 1 ≤ (l.foldl (fun st i => stepA C st (i : Nat)) st).2.length
 | [], _, h, _, _ => by cases h
 | a :: l, st, h, ho, hn => by
  rw [List.foldl_cons]
  by_cases hs : overA C st = false ∧ 0 ≤ (a : Int) ∧ (a : Int) < C.n ∧ C.out st.1 (a : Int).toNat = none
  ·have : (stepA C st a).2.length = st.2.length + 1 := by unfold stepA; rw [if_pos hs]; simp
   rw [← this]
   exact roundA_mono C l _
  ·have : stepA C st a = st := by unfold stepA; rw [if_neg hs]
   rw [this]
   rcases List.mem_cons.1 h with rfl | h
   ·exact absurd ⟨ho, by omega, by omega, by simpa using hn⟩ hs
   ·exact roundA_grow C hi l st h ho hn
theorem roundA_one (C : Abs X) {st : X × List Nat} (h : overA C st = false) : st.2.length + 1 ≤ (roundA C st).2.length := by
 have hg : goingA C st.1 ≠ 0 := by
  intro e
  unfold overA at h
  rw [e] at h
  simp at h
 obtain ⟨i, hi, hn⟩ := List.countP_pos_iff.1 (Nat.pos_of_ne_zero hg)
 have hi : i < C.n := List.mem_range.1 hi
 exact roundA_grow C hi _ _ (List.mem_range.2 hi) h (by simpa using hn)
theorem rest_on (C : Abs X) {f : Nat} {st : X × List Nat} (h : overA C st = false) : restA C (f + 1) st = restA C f (roundA C st) := by
 show (if overA C st then st else restA C f (roundA C st)) = _
 rw [h]; rfl
theorem rest_off (C : Abs X) {f : Nat} {st : X × List Nat} (h : overA C st = true) : restA C (f + 1) st = st := by
 show (if overA C st then st else restA C f (roundA C st)) = _
 rw [h]; rfl
def Abs.withMost (C : Abs X) (m : Int) : Abs X := { C with most := m }
section
variable {C : Abs X} {m1 m2 : Nat}
def Both2 (C : Abs X) (m1 : Nat) (a b : X × List Nat) : Prop := Stps C a b ∧ a.2.length ≤ m1 ∧ (a = b ∨ a.2.length = m1)
end
end
end
section
section
variable {X : Type} {A : Abs X} {F st : X × List Nat} {sl : List Int} {p rd : Nat}
structure Ahead (A : Abs X) (F : X × List Nat) (sl : List Int) (p rd : Nat) (st : X × List Nat) : Prop where
 run : ∃ f x, x ≤ A.n ∧ rd % A.n = x % A.n ∧ F = restA A f ((List.range' x (A.n - x)).foldl (fun st i => stepA A st (i : Nat)) ((sl.drop p).foldl (stepA A) st)) ∧
  A.most ≤ (((List.range' x (A.n - x)).foldl (fun st i => stepA A st (i : Nat)) ((sl.drop p).foldl (stepA A) st)).2.length + f : Nat)
 le : p ≤ sl.length
 short : (st.2.length : Int) ≤ A.most
theorem over_stay (h : overA A st = true) (z : Int) : stepA A st z = st := by
 unfold stepA
 rw [if_neg]
 rintro ⟨h', _⟩
 rw [h] at h'; cases h'
theorem over_folds (h : overA A st = true) : ∀ l : List Int, l.foldl (stepA A) st = st
 | [] => rfl
 | z :: l => by rw [List.foldl_cons, over_stay h]; exact over_folds h l
theorem over_foldn (h : overA A st = true) : ∀ l : List Nat, l.foldl (fun st i => stepA A st (i : Nat)) st = st
 | [] => rfl
 | z :: l => by rw [List.foldl_cons, over_stay h]; exact over_foldn h l
theorem step_yes (h : overA A st = false) {i : Nat} (hi : i < A.n) (ho : A.out st.1 i = none) : stepA A st (i : Nat) = (A.next st.1 i, st.2 ++ [i]) := by
 unfold stepA
 rw [if_pos ⟨h, by omega, by omega, by simpa using ho⟩]
 simp
theorem step_no {z : Int} (h : ¬ (0 ≤ z ∧ z < A.n ∧ A.out st.1 z.toNat = none)) : stepA A st z = st := by
 unfold stepA
 rw [if_neg]
 rintro ⟨_, h'⟩
 exact h h'
theorem over_len (h : overA A st = false) : (st.2.length : Int) < A.most ∧ ∃ j, j < A.n ∧ A.out st.1 j = none := by
 unfold overA at h
 simp only [Bool.or_eq_false_iff, decide_eq_false_iff_not] at h
 refine ⟨by omega, ?_⟩
 have : 0 < goingA A st.1 := by omega
 obtain ⟨j, hj, ho⟩ := List.countP_pos_iff.1 this
 exact ⟨j, List.mem_range.1 hj, by simpa using ho⟩
theorem step_short (h : (st.2.length : Int) ≤ A.most) (z : Int) : ((stepA A st z).2.length : Int) ≤ A.most := by
 unfold stepA
 split
 ·next h' => have := (over_len h'.1).1; simp; omega
 ·exact h
theorem ahead_start (h0 : 0 ≤ A.most) (x : X) : Ahead A (followA A (x, []) sl) sl 0 0 (x, []) := by
 refine ⟨⟨A.most.toNat, A.n, Nat.le_refl _, by simp, ?_, ?_⟩, Nat.zero_le _, by simpa using h0⟩
 ·rw [Nat.sub_self]; rfl
 ·rw [Nat.sub_self]
  show A.most ≤ ((_ + A.most.toNat : Nat) : Int)
  omega
theorem Ahead.done (H : Ahead A F sl p rd st) (h : overA A st = true) : F = st := by
 obtain ⟨f, x, _, _, h3, _⟩ := H.run
 rw [h3, over_folds h, over_foldn h]
 cases f with
 | zero => rfl
 | succ f => exact rest_off _ h
theorem Ahead.take (H : Ahead A F sl p rd st) {z : Int} (hz : sl[p]? = some z) : Ahead A F sl (p + 1) rd (stepA A st z) := by
 obtain ⟨f, x, h1, h2, h3, h4⟩ := H.run
 obtain ⟨hl, e⟩ := List.getElem?_eq_some_iff.1 hz
 have ed : sl.drop p = z :: sl.drop (p + 1) := by rw [← e]; exact List.drop_eq_getElem_cons hl
 rw [ed, List.foldl_cons] at h3 h4
 exact ⟨⟨f, x, h1, h2, h3, h4⟩, hl, step_short H.short z⟩
theorem Ahead.here (H : Ahead A F sl sl.length rd st) (h : overA A st = false) : ∃ f x, x < A.n ∧ rd % A.n = x ∧ F = restA A f ((List.range' x (A.n - x)).foldl (fun st i => stepA A st (i : Nat)) st) ∧
  A.most ≤ (((List.range' x (A.n - x)).foldl (fun st i => stepA A st (i : Nat)) st).2.length + f : Nat) := by
 obtain ⟨f, x, h1, h2, h3, h4⟩ := H.run
 have ed : sl.drop sl.length = [] := List.drop_length
 rw [ed] at h3 h4
 simp only [List.foldl_nil] at h3 h4
 obtain ⟨hm, j, hj, _⟩ := over_len h
 by_cases hx : x < A.n
 ·exact ⟨f, x, hx, by rw [h2, Nat.mod_eq_of_lt hx], h3, h4⟩
 ·have hx : x = A.n := by omega
  subst hx
  rw [Nat.sub_self] at h3 h4
  have h3 : F = restA A f st := h3
  have h4 : A.most ≤ (st.2.length + f : Nat) := h4
  obtain ⟨f', rfl⟩ : ∃ f', f = f' + 1 := ⟨f - 1, by omega⟩
  have e : (List.range' 0 (A.n - 0)).foldl (fun st i => stepA A st (i : Nat)) st = roundA A st := by
   unfold roundA
   rw [Nat.sub_zero, ← List.range_eq_range']
  refine ⟨f', 0, by omega, by rw [h2, Nat.mod_self], ?_, ?_⟩
  ·rw [e, h3]; exact rest_on _ h
  ·rw [e]
   have := roundA_one A h
   omega
theorem Ahead.turn (H : Ahead A F sl sl.length rd st) (h : overA A st = false) : Ahead A F sl sl.length (rd % A.n + 1) (stepA A st ((rd % A.n : Nat) : Int)) ∧ Ahead A F sl sl.length (rd + 1) (stepA A st ((rd % A.n : Nat) : Int)) := by
 obtain ⟨f, x, h1, h2, h3, h4⟩ := H.here h
 rw [h2]
 have e : List.range' x (A.n - x) = x :: List.range' (x + 1) (A.n - (x + 1)) := by
  obtain ⟨r, hr⟩ : ∃ r, A.n - x = r + 1 := ⟨A.n - x - 1, by omega⟩
  rw [hr, List.range'_succ]
  congr 2
  omega
 rw [e, List.foldl_cons] at h3 h4
 have ed : sl.drop sl.length = [] := List.drop_length
 refine ⟨⟨⟨f, x + 1, by omega, rfl, ?_, ?_⟩, Nat.le_refl _, step_short H.short _⟩, ⟨⟨f, x + 1, by omega, ?_, ?_, ?_⟩, Nat.le_refl _, step_short H.short _⟩⟩
 ·rw [ed]; exact h3
 ·rw [ed]; exact h4
 ·rw [Nat.add_mod, h2, Nat.add_mod x 1, Nat.mod_eq_of_lt h1]
 ·rw [ed]; exact h3
 ·rw [ed]; exact h4
theorem over_far (h : overA A st = false) (rd : Nat) : ∃ k, k < A.n + A.n ∧ A.out st.1 ((rd + k) % A.n) = none := by
 obtain ⟨_, j, hj, ho⟩ := over_len h
 have hr := Nat.mod_lt rd (show 0 < A.n by omega)
 refine ⟨j + (A.n - rd % A.n), by omega, ?_⟩
 have e : rd + (j + (A.n - rd % A.n)) = j + A.n * (rd / A.n + 1) := by
  have := Nat.div_add_mod rd A.n
  rw [Nat.mul_add, Nat.mul_one]
  omega
 rw [e, Nat.add_mul_mod_self_left, Nat.mod_eq_of_lt hj]
 exact ho
end
end
section
def numRow (l : List Int) : List Value := l.map (.int .i64)
def ordRow (l : List Nat) : List Value := l.map fun i => .int .i64 (i : Nat)
theorem ordRow_snoc (l : List Nat) (x : Nat) : ordRow (l ++ [x]) = ordRow l ++ [.int .i64 (x : Nat)] := by simp [ordRow]
theorem rowNil (w : World) (base : Nat) (e : TypeId) (size : Nat) : w.ownsRow base e size (.slice none 0 0) 0 [] := ⟨by simp, .inl ⟨rfl, rfl⟩⟩
def tuA (lv : Value) (p rd : Nat) (most : Int) (ov : Value) (st : Bool) : Array Value := #[lv, .int .i64 (p : Nat), .int .i64 (rd : Nat), .int .i64 most, ov, .bool st]
structure TuX (S : Nat → Prop) (B : Nat) (la : Option Addr) (lc : Nat) (sl : List Int) (most : Int) (p rd : Nat) (oa : Option Addr) (oc : Nat) (ord : List Nat) (st : Bool) (w : World) : Prop where
 blk : w.heap[B]? = some (.cells (tuA (.slice la sl.length lc) p rd most (.slice oa ord.length oc) st) 124)
 lst : w.ownsRow 0 3 1 (.slice la sl.length lc) sl.length (numRow sl)
 row : w.ownsRow 0 3 1 (.slice oa ord.length oc) ord.length (ordRow ord)
 sb : S B
 sq : ∀ g, (Value.slice la sl.length lc).ownBlock = some g → S g ∧ g ≠ B
 so : ∀ g, (Value.slice oa ord.length oc).ownBlock = some g → S g ∧ g ≠ B ∧ (Value.slice la sl.length lc).ownBlock ≠ some g
section
variable {S S' : Nat → Prop} {B : Nat} {la : Option Addr} {lc : Nat} {sl : List Int} {most : Int} {p rd : Nat} {oa : Option Addr} {oc : Nat} {ord : List Nat} {st : Bool} {w w' : World}
theorem TuX.lt (X : TuX S B la lc sl most p rd oa oc ord st w) : B < w.heap.size := (Array.getElem?_eq_some_iff.1 X.blk).1
theorem TuX.same (X : TuX S B la lc sl most p rd oa oc ord st w) (h : ∀ g, g < w.heap.size → S g → w'.heap[g]? = w.heap[g]?) : TuX S B la lc sl most p rd oa oc ord st w' :=
 ⟨(h B X.lt X.sb).trans X.blk, row_same X.lst fun g hg => h g (X.lst.lt g hg).2 (X.sq g hg).1, row_same X.row fun g hg => h g (X.row.lt g hg).2 (X.so g hg).1, X.sb, X.sq, X.so⟩
theorem TuX.at (X : TuX S B la lc sl most p rd oa oc ord st w) (d : Nat) : TuX S B la lc sl most p rd oa oc ord st (w.at d) := X.same fun _ _ _ => rfl
theorem TuX.mono (X : TuX S B la lc sl most p rd oa oc ord st w) (h : ∀ g, S g → S' g) : TuX S' B la lc sl most p rd oa oc ord st w := ⟨X.blk, X.lst, X.row, h _ X.sb, fun g hg => ⟨h _ (X.sq g hg).1, (X.sq g hg).2⟩, fun g hg => ⟨h _ (X.so g hg).1, (X.so g hg).2⟩⟩
theorem TuX.put {p' rd' : Nat} {st' : Bool} (X : TuX S B la lc sl most p rd oa oc ord st w) (hb : w'.heap[B]? = some (.cells (tuA (.slice la sl.length lc) p' rd' most (.slice oa ord.length oc) st') 124)) (h : ∀ g, g ≠ B → g < w.heap.size → S g → w'.heap[g]? = w.heap[g]?) : TuX S B la lc sl most p' rd' oa oc ord st' w' :=
 ⟨hb, row_same X.lst fun g hg => h g (X.sq g hg).2 (X.lst.lt g hg).2 (X.sq g hg).1, row_same X.row fun g hg => h g (X.so g hg).2.1 (X.row.lt g hg).2 (X.so g hg).1, X.sb, X.sq, X.so⟩
theorem TuX.setP (X : TuX S B la lc sl most p rd oa oc ord st w) (q : Nat) : TuX S B la lc sl most q rd oa oc ord st (w.setCell ⟨B, 1, none⟩ (.int .i64 (q : Nat))) :=
 X.put (by rw [heap_set_self _ _ X.blk]; simp [tuA]) fun g hg _ _ => heap_set_other _ _ _ _ hg
theorem TuX.setR (X : TuX S B la lc sl most p rd oa oc ord st w) (q : Nat) : TuX S B la lc sl most p q oa oc ord st (w.setCell ⟨B, 2, none⟩ (.int .i64 (q : Nat))) :=
 X.put (by rw [heap_set_self _ _ X.blk]; simp [tuA]) fun g hg _ _ => heap_set_other _ _ _ _ hg
theorem TuX.num (X : TuX S B la lc sl most p rd oa oc ord st w) {j : Nat} {z : Int} (hz : sl[j]? = some z) : ∃ g, la = some ⟨g, 0, none⟩ ∧ w.cell? ⟨g, j, none⟩ = some (.int .i64 z) ∧ g ≠ B ∧ S g := by
 obtain ⟨g, e, _, _, h⟩ := row_at X.lst (j := j) (x := .int .i64 z) (by simp [numRow, hz])
 subst e
 exact ⟨g, rfl, h, (X.sq g rfl).2, (X.sq g rfl).1⟩
end
def EndAt (S : Nat → Prop) (ta : Option Addr) (n : Nat) (f : Nat → Bool) (w : World) : Prop := ∀ i, i < n → ∃ tl o q, ta = some ⟨tl, o, none⟩ ∧ w.cell? ⟨tl, o + i, none⟩ = some (.pointer (some ⟨q, 0, none⟩)) ∧ w.cell? ⟨q, 13, none⟩ = some (.bool (f i)) ∧ ¬ S tl ∧ ¬ S q
theorem EndAt.chg {S S' : Nat → Prop} {ta : Option Addr} {n : Nat} {f : Nat → Bool} {w w' : World} (h : EndAt S ta n f w) (hc : Chg S' w w') (hS : ∀ b, b < w.heap.size → S' b → S b) : EndAt S ta n f w' := fun i hi => by
 obtain ⟨tl, o, q, e, h1, h2, h3, h4⟩ := h i hi
 exact ⟨tl, o, q, e, (World.cell?_of_block (a := ⟨tl, o + i, none⟩) (hc.same tl (cell_lt' h1) fun e => h3 (hS _ (cell_lt' h1) e))).trans h1, (World.cell?_of_block (a := ⟨q, 13, none⟩) (hc.same q (cell_lt' h2) fun e => h4 (hS _ (cell_lt' h2) e))).trans h2, h3, h4⟩
noncomputable def reg38_0 := rg Try.f38.body [0]
noncomputable def reg38_1 := rg Try.f38.body [1, 0]
noncomputable def reg38_2 := rg Try.f38.body [1, 1, 0]
noncomputable def reg38_3 := rg Try.f38.body [1, 1, 1, 0, 0]
noncomputable def reg38_4 := rg Try.f38.body [1, 1, 1, 0, 1, 0]
noncomputable def reg38_5 := rg Try.f38.body [1, 1, 1, 1, 0, 0]
noncomputable def reg38_6 := rg Try.f38.body [1, 1, 1, 1, 0, 1, 0]
noncomputable def reg38_7 := rg Try.f38.body [1, 1, 1, 1, 1, 0]
theorem z38 : List.range reg38_0.size = [0] ∧ List.range reg38_1.size = [0, 1, 2, 3] ∧ List.range reg38_2.size = [0, 1, 2, 3, 4, 5, 6, 7, 8, 9] ∧ List.range reg38_3.size = [0, 1, 2, 3, 4] ∧ List.range reg38_4.size = [0, 1, 2, 3] ∧ List.range reg38_5.size = [0, 1, 2, 3, 4] ∧ List.range reg38_6.size = [0, 1, 2, 3] ∧ List.range reg38_7.size = [0, 1] := by refine ⟨?_, ?_, ?_, ?_, ?_, ?_, ?_, ?_⟩ <;> kernel_rfl
theorem code38_is : Try.f38.body = some (.seq (.region 0 reg38_0 false) (.seq (.region 1 reg38_1 false) (.seq (.region 2 reg38_2 false) (.seq (.seq (.region 3 reg38_3 false) (.cond (.tmp 22 ) (.region 4 reg38_4 false) (.skip))) (.seq (.seq (.region 5 reg38_5 false) (.cond (.tmp 30 ) (.region 6 reg38_6 false) (.skip))) (.seq (.region 7 reg38_7 false) (.ret))))))) := by kernel_rfl
section
variable {main : Bool}
def NewTu (sl : List Int) (most : Int) (w : World) (v : Value) (w' : World) : Prop := ∃ B la lc, v = .pointer (some ⟨B, 0, none⟩) ∧ TuX (fun g => w.heap.size ≤ g) B la lc sl (min (max most 0) 1048576) 0 0 none 0 [] false w' ∧ Chg (fun _ => False) w w'
theorem newTurn_w (sa : Option Addr) (sc : Nat) (sl : List Int) (most : Int) (w : World) (hsl : sl.length ≤ 17592186044416) (hnil : sa = none → sl = [] ∧ sc = 0) (hs : ∀ (j : Nat) (z : Int), sl[j]? = some z → ∃ s so, sa = some ⟨s, so, none⟩ ∧ w.cell? ⟨s, so + j, none⟩ = some (.int .i64 z)) :
  CallW Try.prog main (fun _ => none) 38 #[.slice sa sl.length sc, .int .i64 most] w (NewTu sl most w) := by
 intro c cs
 rw [enter_at _ Try.func38 code38_is]
 simp only [Try.ntmps38, ez, Nat.reduceAdd, Nat.reduceSub]
 refine Walk.gz z38 ?_
 (refine Walk.oa ?_; try walk_nrm)
 have s1 : (w.alloc (.cells #[.slice none 0 0, .int .i64 0, .int .i64 0, .int .i64 most, .slice none 0 0, .bool false] 124)).heap.size = w.heap.size + 1 := by simp
 have o1 : ∀ b, b < w.heap.size → (w.alloc (.cells #[.slice none 0 0, .int .i64 0, .int .i64 0, .int .i64 most, .slice none 0 0, .bool false] 124)).heap[b]? = w.heap[b]? := fun b hb => heap_new_lt _ _ hb
 have d1 := heap_alloc_new w (.cells #[.slice none 0 0, .int .i64 0, .int .i64 0, .int .i64 most, .slice none 0 0, .bool false] 124)
 generalize hT : w.heap.size = T at *
 generalize w.alloc (.cells #[.slice none 0 0, .int .i64 0, .int .i64 0, .int .i64 most, .slice none 0 0, .bool false] 124) = w1 at *
 have c0 := (cell_of d1 0).trans rfl
 refine Walk.gz z38 ?_
 have hi3 := Option.some_get (show (Try.prog.info? 3).isSome = true by kernel_rfl)
 refine Walk.appendSl (.tmp 13) (.tmp 14) 24 hoA (by rfl) (by decide) rfl (T + 1) 3 _ (.int .i64 0) 1 8 (by kernel_rfl) hi3.symm (by rfl) (by rfl) (by rfl) (by rfl) (by decide) (.slice none 0 0) 0 [] rfl (rowNil w1 _ _ _) sa sl.length sc (numRow sl) rfl (fun e => ⟨by rw [(hnil e).1]; rfl, (hnil e).2⟩) (by simp [numRow]) (fun ad e j u hu => ?_) (by simp [numRow, Value.oneCell']) (by simp [maxLen]; omega) (by omega) (by omega) (fun g hg => by simp [Value.ownBlock] at hg) fun v w2 hown hg hat => ?_
 ·unfold numRow at hu
  rw [List.getElem?_map] at hu
  obtain ⟨z, hz, rfl⟩ := Option.map_eq_some_iff.1 hu
  obtain ⟨s, so, e', hc⟩ := hs j z hz
  rw [e] at e'
  cases e'
  rw [add_none]
  exact (World.cell?_of_block (a := ⟨s, so + j, none⟩) (o1 s (by have := cell_lt' hc; omega))).trans hc
 clear hi3
 rw [Nat.zero_add, List.nil_append] at hown
 obtain ⟨la, lc, rfl⟩ := row_shape hown
 have hgs := hg.size
 have hO : ∀ b, b < T + 1 → w2.heap[b]? = w1.heap[b]? := fun b hb => hg.block b (by omega) (by simp [Value.ownBlock])
 clear hg hat
 have d2 := (hO T (by omega)).trans d1
 have c2 := (cell_of d2 0).trans rfl
 have z2 := frozen_of d2 0
 walk_nrm
 refine Walk.gz z38 ?_
 (have hfr := fr0 T 0; refine Walk.os hfr c2 ?_; clear hfr; try walk_nrm)
 have d3 : (w2.setCell ⟨T, 0, none⟩ (.slice la sl.length lc)).heap[T]? = some (.cells #[.slice la sl.length lc, .int .i64 0, .int .i64 0, .int .i64 most, .slice none 0 0, .bool false] 124) := by
  rw [heap_set_self _ _ d2]
  simp
 have o3 : ∀ b, b ≠ T → (w2.setCell ⟨T, 0, none⟩ (.slice la sl.length lc)).heap[b]? = w2.heap[b]? := fun b hb => heap_set_other _ _ _ _ hb
 have s3 := size_set w2 ⟨T, 0, none⟩ (.slice la sl.length lc)
 have hown3 : (w2.setCell ⟨T, 0, none⟩ (.slice la sl.length lc)).ownsRow (T + 1) 3 1 (.slice la sl.length lc) sl.length (numRow sl) := row_same hown fun g hg => o3 g (by have := (hown.lt g hg).1; omega)
 clear c2 z2 hown c0 d2 d1
 generalize w2.setCell ⟨T, 0, none⟩ (.slice la sl.length lc) = w3 at *
 have c3 := (cell_of d3 3).trans rfl
 have z3 := frozen_of d3 3
 have old3 : ∀ b, b < T → w3.heap[b]? = w.heap[b]? := fun b hb => (o3 b (by omega)).trans ((hO b (by omega)).trans (o1 b (by omega)))
 have fin : ∀ (m : Int) (w4 : World), m = min (max most 0) 1048576 → w4.heap[T]? = some (.cells #[.slice la sl.length lc, .int .i64 0, .int .i64 0, .int .i64 m, .slice none 0 0, .bool false] 124) → (∀ b, b ≠ T → w4.heap[b]? = w3.heap[b]?) → w4.heap.size = w3.heap.size → ∀ d, ∃ v, NewTu sl most w v (w4.at d) ∧ c.finish (.pointer (some ⟨T, 0, none⟩)) = c.finish v := by
  intro m w4 hm h1 h2 h3 d
  refine ⟨_, ⟨T, la, lc, rfl, TuX.at ⟨by rw [← hm]; exact h1, row_raise (row_same hown3 fun g hg => h2 g (by have := (hown3.lt g hg).1; omega)) (fun g _ => Nat.zero_le _), rowNil _ _ _ _, (by omega : w.heap.size ≤ T), fun g hg => ?_, fun g hg => by simp [Value.ownBlock] at hg⟩ d, Chg.at ⟨by omega, fun b hb _ => (h2 b (by omega)).trans (old3 b (by omega))⟩ d⟩, rfl⟩
  have := (hown3.lt g hg).1
  exact ⟨by omega, by omega⟩
 by_cases h0 : most < 0
 ·have hd : decide (most < 0) = true := by simpa using h0
  refine Walk.gz z38 ?_
  (have hfr := fr0 T 3; refine Walk.os hfr c3 ?_; clear hfr; try walk_nrm)
  have d4 : (w3.setCell ⟨T, 3, none⟩ (.int .i64 0)).heap[T]? = some (.cells #[.slice la sl.length lc, .int .i64 0, .int .i64 0, .int .i64 0, .slice none 0 0, .bool false] 124) := by
   rw [heap_set_self _ _ d3]
   simp
  have o4 : ∀ b, b ≠ T → (w3.setCell ⟨T, 3, none⟩ (.int .i64 0)).heap[b]? = w3.heap[b]? := fun b hb => heap_set_other _ _ _ _ hb
  have s4 := size_set w3 ⟨T, 3, none⟩ (.int .i64 0)
  have hf := fin 0 (w3.setCell ⟨T, 3, none⟩ (.int .i64 0)) (by omega) d4 o4 s4
  clear c3 z3 fin
  generalize w3.setCell ⟨T, 3, none⟩ (.int .i64 0) = w4 at *
  have c4 := (cell_of d4 3).trans rfl
  refine Walk.gz z38 ?_
  refine Walk.on1 rfl rfl Try.func38 rfl (.stop fun d => ?_)
  obtain ⟨v, hv, he⟩ := hf d
  exact ⟨v, hv, congrArg (G · cs) he⟩
 ·have hd : decide (most < 0) = false := by simpa using h0
  by_cases h1 : 1048576 < most
  ·have hd1 : decide (1048576 < most) = true := by simpa using h1
   refine Walk.gz z38 ?_
   (have hfr := fr0 T 3; refine Walk.os hfr c3 ?_; clear hfr; try walk_nrm)
   have d4 : (w3.setCell ⟨T, 3, none⟩ (.int .i64 1048576)).heap[T]? = some (.cells #[.slice la sl.length lc, .int .i64 0, .int .i64 0, .int .i64 1048576, .slice none 0 0, .bool false] 124) := by
    rw [heap_set_self _ _ d3]
    simp
   have o4 : ∀ b, b ≠ T → (w3.setCell ⟨T, 3, none⟩ (.int .i64 1048576)).heap[b]? = w3.heap[b]? := fun b hb => heap_set_other _ _ _ _ hb
   have s4 := size_set w3 ⟨T, 3, none⟩ (.int .i64 1048576)
   have hf := fin 1048576 (w3.setCell ⟨T, 3, none⟩ (.int .i64 1048576)) (by omega) d4 o4 s4
   clear c3 z3 fin
   generalize w3.setCell ⟨T, 3, none⟩ (.int .i64 1048576) = w4 at *
   refine Walk.gz z38 ?_
   refine Walk.on1 rfl rfl Try.func38 rfl (.stop fun d => ?_)
   obtain ⟨v, hv, he⟩ := hf d
   exact ⟨v, hv, congrArg (G · cs) he⟩
  ·have hd1 : decide (1048576 < most) = false := by simpa using h1
   have hf := fin most w3 (by omega) d3 (fun _ _ => rfl) rfl
   clear fin
   refine Walk.gz z38 ?_
   refine Walk.on1 rfl rfl Try.func38 rfl (.stop fun d => ?_)
   obtain ⟨v, hv, he⟩ := hf d
   exact ⟨v, hv, congrArg (G · cs) he⟩
end
end
section
noncomputable def reg57_0 := rg Try.f57.body [0]
noncomputable def reg57_1 := rg Try.f57.body [1, 0, 0]
noncomputable def reg57_2 := rg Try.f57.body [1, 0, 1, 0, 0]
noncomputable def reg57_3 := rg Try.f57.body [1, 1, 0, 0]
noncomputable def reg57_4 := rg Try.f57.body [1, 1, 0, 1, 0, 0]
noncomputable def reg57_5 := rg Try.f57.body [1, 1, 1, 0]
theorem z57 : List.range reg57_0.size = [0] ∧ List.range reg57_1.size = [0, 1, 2] ∧ List.range reg57_2.size = [0, 1] ∧ List.range reg57_3.size = [0, 1, 2] ∧ List.range reg57_4.size = [0, 1] ∧ List.range reg57_5.size = [0, 1] := by refine ⟨?_, ?_, ?_, ?_, ?_, ?_⟩ <;> kernel_rfl
theorem code57_is : Try.f57.body = some (.seq (.region 0 reg57_0 false) (.seq (.seq (.region 1 reg57_1 false) (.cond (.tmp 9 ) (.seq (.region 2 reg57_2 false) (.ret)) (.skip))) (.seq (.seq (.region 3 reg57_3 false) (.cond (.tmp 13 ) (.seq (.region 4 reg57_4 false) (.ret)) (.skip))) (.seq (.region 5 reg57_5 false) (.ret))))) := by kernel_rfl
noncomputable def reg35_0 := rg Try.f35.body [0]
noncomputable def reg35_1 := rg Try.f35.body [1, 0]
noncomputable def reg35_2 := rg Try.f35.body [1, 1, 0]
noncomputable def reg35_3 := rg Try.f35.body [1, 1, 1, 0, 0]
noncomputable def reg35_4 := rg Try.f35.body [1, 1, 1, 0, 1, 0, 0, 0, 0]
noncomputable def reg35_6 := rg Try.f35.body [1, 1, 1, 0, 1, 0, 0, 1, 0, 0, 0]
noncomputable def reg35_7 := rg Try.f35.body [1, 1, 1, 0, 1, 0, 0, 1, 0, 0, 1]
noncomputable def reg35_5 := rg Try.f35.body [1, 1, 1, 0, 1, 0, 0, 1, 1]
noncomputable def reg35_8 := rg Try.f35.body [1, 1, 1, 1, 0]
noncomputable def reg35_9 := rg Try.f35.body [1, 1, 1, 1, 1, 0]
theorem z35 : List.range reg35_0.size = [0] ∧ List.range reg35_1.size = [0, 1, 2] ∧ List.range reg35_2.size = [0, 1, 2, 3, 4] ∧ List.range reg35_3.size = [0] ∧ List.range reg35_4.size = [0, 1, 2] ∧ List.range reg35_5.size = [0, 1, 2] ∧ List.range reg35_6.size = [0, 1, 2, 3, 4, 5, 6, 7, 8, 9, 10, 11] ∧ List.range reg35_7.size = [0, 1, 2, 3, 4, 5, 6, 7, 8, 9] ∧ List.range reg35_8.size = [0, 1, 2, 3, 4, 5, 6, 7] ∧ List.range reg35_9.size = [0, 1] := by refine ⟨?_, ?_, ?_, ?_, ?_, ?_, ?_, ?_, ?_, ?_⟩ <;> kernel_rfl
theorem code35_is : Try.f35.body = some (.seq (.region 0 reg35_0 false) (.seq (.region 1 reg35_1 false) (.seq (.region 2 reg35_2 false) (.seq (.seq (.region 3 reg35_3 false) (.block 0 (.loop (.seq (.seq (.region 4 reg35_4 false) (.cond (.tmp 16 ) (.skip) (.exit 0))) (.seq (.block 1 (.seq (.region 6 reg35_6 false) (.region 7 reg35_7 false))) (.region 5 reg35_5 false)))))) (.seq (.region 8 reg35_8 false) (.seq (.region 9 reg35_9 false) (.ret))))))) := by kernel_rfl
noncomputable def hdRN (n m i : Nat) (u : Nat → Value) : Frame :=
 (base 35).at { tmps := #[u 0, u 1, u 2, u 3, u 4, .int .i64 n, .pointer (some ⟨m, 0, none⟩), .int .i64 i, u 8, u 9, u 10, u 11, u 12, u 13, u 14, u 15, u 16, u 17, u 18, u 19, u 20, u 21, u 22, u 23, u 24, u 25, u 26, u 27, u 28, u 29, u 30, u 31, u 32, u 33, u 34, u 35, u 36, u 37, u 38, u 39, u 40, u 41, u 42, u 43, u 44, u 45, u 46], defers := [] } [.code (.seq (.seq (.region 4 reg35_4 false) (.cond (.tmp 16 ) (.skip) (.exit 0))) (.seq (.block 1 (.seq (.region 6 reg35_6 false) (.region 7 reg35_7 false))) (.region 5 reg35_5 false))), .inLoop (.seq (.seq (.region 4 reg35_4 false) (.cond (.tmp 16 ) (.skip) (.exit 0))) (.seq (.block 1 (.seq (.region 6 reg35_6 false) (.region 7 reg35_7 false))) (.region 5 reg35_5 false))), .inBlock 0, .code (.seq (.region 8 reg35_8 false) (.seq (.region 9 reg35_9 false) (.ret)))]
def nxRow (i : Nat) : List Value := (List.range i).map fun j => .int .i64 ((j + 1 : Nat) : Int)
def zRow (i : Nat) : List Value := (List.range i).map fun _ => .int .i64 0
theorem nxRow_snoc (i : Nat) : nxRow (i + 1) = nxRow i ++ [.int .i64 ((i + 1 : Nat) : Int)] := by simp [nxRow, List.range_succ]
theorem zRow_snoc (i : Nat) : zRow (i + 1) = zRow i ++ [.int .i64 0] := by simp [zRow, List.range_succ]
structure RNew (w0 : World) (tg : Bool) (m i : Nat) (na : Option Addr) (cn : Nat) (va : Option Addr) (cv : Nat) (w : World) : Prop where
 blk : w.heap[m]? = some (.cells (maA (.slice na i cn) (.slice va i cv) (-1) 0 0 0 tg (.slice none 0 0)) 87)
 rn : w.ownsRow w0.heap.size 2 1 (.slice na i cn) i (nxRow i)
 rv : w.ownsRow w0.heap.size 2 1 (.slice va i cv) i (zRow i)
 nm : ∀ g, (Value.slice na i cn).ownBlock = some g → g ≠ m ∧ (Value.slice va i cv).ownBlock ≠ some g
 vm : ∀ g, (Value.slice va i cv).ownBlock = some g → g ≠ m
 base : w0.heap.size ≤ m
 chg : Chg (fun _ => False) w0 w
section
variable {main : Bool}
theorem held_w (x : Int) (w : World) : CallV Try.prog main (fun _ => none) 57 #[.int .i64 x, .int .i64 1, .int .i64 65536] w (.int .i64 (min (max x 1) 65536)) w := by
 intro c cs
 rw [enter_at _ Try.func57 code57_is]
 simp only [Try.ntmps57, ez, Nat.reduceAdd, Nat.reduceSub]
 by_cases h1 : x < 1
 ·have hd1 : decide (x < 1) = true := by simpa using h1
  have he : min (max x 1) 65536 = 1 := by omega
  rw [he]
  refine Walk.gz z57 ?_
  exact Walk.on1 rfl rfl Try.func57 rfl (.stop fun d => ⟨_, ⟨rfl, d, rfl⟩, rfl⟩)
 ·have hd1 : decide (x < 1) = false := by simpa using h1
  by_cases h2 : 65536 < x
  ·have hd2 : decide (65536 < x) = true := by simpa using h2
   have he : min (max x 1) 65536 = 65536 := by omega
   rw [he]
   refine Walk.gz z57 ?_
   exact Walk.on1 rfl rfl Try.func57 rfl (.stop fun d => ⟨_, ⟨rfl, d, rfl⟩, rfl⟩)
  ·have hd2 : decide (65536 < x) = false := by simpa using h2
   have he : min (max x 1) 65536 = x := by omega
   rw [he]
   refine Walk.gz z57 ?_
   exact Walk.on1 rfl rfl Try.func57 rfl (.stop fun d => ⟨_, ⟨rfl, d, rfl⟩, rfl⟩)
theorem rnew_in (sz : Int) (tg : Bool) (cs : List Frame) (w : World) :
  Walk Try.prog main (DR (fun _ => none)) (fun g w' => (∃ u, g = G (hdRN (sizeN sz) w.heap.size 0 u) cs) ∧ RNew w tg w.heap.size 0 none 0 none 0 w') (G (Frame.enter Try.prog 35 #[.int .i64 sz, .bool tg] .normal) cs) w := by
 obtain ⟨q1, q2, q3⟩ := sizeN_le sz
 rw [enter_at _ Try.func35 code35_is]
 simp only [Try.ntmps35, ez, Nat.reduceAdd, Nat.reduceSub]
 refine Walk.gz z35 ?_
 refine Walk.callV (x := .int .i64 (sizeN sz : Nat)) (W := w) ?_ hoA (by rfl) (by decide) rfl Try.func57 (by kernel_rfl) (by rfl) ?_
 ·walk_nrm
  rw [q3]
  exact held_w sz w
 walk_nrm
 generalize sizeN sz = n at *
 clear q3
 refine Walk.gz z35 ?_
 (refine Walk.oa ?_; try walk_nrm)
 have d1 := heap_alloc_new w (.cells (maA (.slice none 0 0) (.slice none 0 0) (-1) 0 0 0 tg (.slice none 0 0)) 87)
 have hC : Chg (fun _ => False) w (w.alloc (.cells (maA (.slice none 0 0) (.slice none 0 0) (-1) 0 0 0 tg (.slice none 0 0)) 87)) := Chg.alloc
 unfold maA at d1 hC
 generalize w.alloc _ = w1 at *
 refine Walk.gz z35 ?_
 refine Walk.ctl rfl (fun w => stepG_loop) ?_
 refine .stop fun d => ⟨at_slots ?_, ⟨d1, rowNil _ _ _ _, rowNil _ _ _ _, fun g hg => by simp [Value.ownBlock] at hg, fun g hg => by simp [Value.ownBlock] at hg, Nat.le_refl _, hC.at d⟩⟩
 simp only [hdRN]
 rfl
theorem rnew_round (n m i : Nat) (tg : Bool) (na : Option Addr) (cn : Nat) (va : Option Addr) (cv : Nat) (u : Nat → Value) (cs : List Frame) (w0 w : World) (hi : i < n) (hn : n ≤ 65536) (H : RNew w0 tg m i na cn va cv w) :
  Walk Try.prog main (DR (fun _ => none)) (fun g w' => (∃ u, g = G (hdRN n m (i + 1) u) cs) ∧ ∃ na' cn' va' cv', RNew w0 tg m (i + 1) na' cn' va' cv' w') (G (hdRN n m i u) cs) w := by
 have hi2 := Option.some_get (show (Try.prog.info? 2).isSome = true by kernel_rfl)
 have hw1 : IntKind.wrap .i64 ((i : Int) + 1) = (i : Int) + 1 := by rw [IntKind.wrap_i64]; omega
 have hc : ((i + 1 : Nat) : Int) = (i : Int) + 1 := by simp
 have c0 := mc0 H.blk
 have hlm : m < w.heap.size := (Array.getElem?_eq_some_iff.1 H.blk).1
 have hb := H.base
 have h0s := H.chg.size
 conv => arg 5; unfold hdRN
 refine Walk.gz z35 ?_
 (refine Walk.oa ?_; try walk_nrm)
 have hrow1 : (w.alloc (.cells #[.int .i64 ((i : Int) + 1)] 2)).ownsRow w0.heap.size 2 1 (.slice na i cn) i (nxRow i) := row_same H.rn fun g hg => heap_new_lt _ _ (H.rn.lt g hg).2
 have hnew1 : ∀ y v, ([.int .i64 ((i : Int) + 1)] : List Value)[y]? = some v → (w.alloc (.cells #[.int .i64 ((i : Int) + 1)] 2)).cell? ((⟨w.heap.size, 0, none⟩ : Addr).add y) = some v := fun y v hv => by
  rw [add_none, Nat.zero_add]
  refine (cell_of (heap_alloc_new _ _) y).trans ?_
  simpa using hv
 have hs1 : (w.alloc (.cells #[.int .i64 ((i : Int) + 1)] 2)).heap.size = w.heap.size + 1 := by simp
 refine Walk.append (.tmp 23) (.tmp 26) 25 hoA (by rfl) (by decide) rfl w0.heap.size 2 _ (.int .i64 0) 1 8 (by kernel_rfl) hi2.symm (by rfl) (by rfl) (by rfl) (by rfl) (by decide) (.slice na i cn) i (nxRow i) rfl hrow1 ⟨w.heap.size, 0, none⟩ 1 1 [.int .i64 ((i : Int) + 1)] rfl (by rfl) hnew1 (by simp [Value.oneCell']) (by decide) (by simp [maxLen]; omega) (by omega) (by omega) (fun g _ => ap0 g) (fun g1 cap1 w2 hown1 hg1 hat1 hlt1 => ?_)
 have far1 : ∀ x, x < w.heap.size → (∀ g, (Value.slice na i cn).ownBlock = some g → g ≠ x) → w2.heap[x]? = w.heap[x]? := fun x hx hne => (hg1.block x (by omega) (fun e => hne x e.symm rfl)).trans (heap_new_lt _ _ hx)
 have hgs1 := hg1.size
 have hm2 : w2.heap[m]? = some (.cells (maA (.slice na i cn) (.slice va i cv) (-1) 0 0 0 tg (.slice none 0 0)) 87) := (far1 m hlm fun g hg => (H.nm g hg).1).trans H.blk
 have k0 := mc0 hm2
 have z0 := frozen_of hm2 0
 have hg1m : g1 ≠ m := fun e => by
  rcases hat1 with h | h
  ·exact (H.nm g1 h).1 e
  ·omega
 walk_nrm
 refine Walk.gz z35 ?_
 (have hfr := fr0 m 0; refine Walk.os hfr k0 ?_; clear hfr; try walk_nrm)
 have hm3 : (w2.setCell ⟨m, 0, none⟩ (.slice (some ⟨g1, 0, none⟩) (i + 1) cap1)).heap[m]? = some (.cells (maA (.slice (some ⟨g1, 0, none⟩) (i + 1) cap1) (.slice va i cv) (-1) 0 0 0 tg (.slice none 0 0)) 87) := by
  rw [heap_set_self _ _ hm2]
  simp [maA]
 have o3 : ∀ x, x ≠ m → (w2.setCell ⟨m, 0, none⟩ (.slice (some ⟨g1, 0, none⟩) (i + 1) cap1)).heap[x]? = w2.heap[x]? := fun x hx => heap_set_other _ _ _ _ hx
 have s3 := size_set w2 ⟨m, 0, none⟩ (.slice (some ⟨g1, 0, none⟩) (i + 1) cap1)
 clear k0 z0
 generalize w2.setCell ⟨m, 0, none⟩ (.slice (some ⟨g1, 0, none⟩) (i + 1) cap1) = w3 at *
 replace s3 : w2.heap.size ≤ w3.heap.size ∧ w3.heap.size ≤ w2.heap.size := by omega
 have hrv3 : w3.ownsRow w0.heap.size 2 1 (.slice va i cv) i (zRow i) := row_same H.rv fun g hg => (o3 g (H.vm g hg)).trans (far1 g (H.rv.lt g hg).2 fun g' hg' e => (H.nm g' hg').2 (by rw [hg, e]))
 have hrn3 : w3.ownsRow w0.heap.size 2 1 (.slice (some ⟨g1, 0, none⟩) (i + 1) cap1) (i + 1) (nxRow (i + 1)) := by
  rw [nxRow_snoc, hc]
  exact row_same hown1 fun g hg => o3 g (by simp only [Value.ownBlock, Option.some.injEq] at hg; omega)
 have hng : ∀ g, (Value.slice va i cv).ownBlock = some g → g ≠ g1 := fun g hg e => by
  subst e
  rcases hat1 with h | h
  ·exact (H.nm g h).2 hg
  ·have := (H.rv.lt g hg).2; omega
 have c1 := mc1 hm3
 refine Walk.gz z35 ?_
 (refine Walk.oa ?_; try walk_nrm)
 have hrow4 : (w3.alloc (.cells #[.int .i64 0] 2)).ownsRow w0.heap.size 2 1 (.slice va i cv) i (zRow i) := row_same hrv3 fun g hg => heap_new_lt _ _ (hrv3.lt g hg).2
 have hnew4 : ∀ y v, ([.int .i64 0] : List Value)[y]? = some v → (w3.alloc (.cells #[.int .i64 0] 2)).cell? ((⟨w3.heap.size, 0, none⟩ : Addr).add y) = some v := fun y v hv => by
  rw [add_none, Nat.zero_add]
  refine (cell_of (heap_alloc_new _ _) y).trans ?_
  simpa using hv
 have hs4 : (w3.alloc (.cells #[.int .i64 0] 2)).heap.size = w3.heap.size + 1 := by simp
 refine Walk.append (.tmp 34) (.tmp 35) 25 hoA (by rfl) (by decide) rfl w0.heap.size 2 _ (.int .i64 0) 1 8 (by kernel_rfl) hi2.symm (by rfl) (by rfl) (by rfl) (by rfl) (by decide) (.slice va i cv) i (zRow i) rfl hrow4 ⟨w3.heap.size, 0, none⟩ 1 1 [.int .i64 0] rfl (by rfl) hnew4 (by simp [Value.oneCell']) (by decide) (by simp [maxLen]; omega) (by omega) (by omega) (fun g _ => ap0 g) (fun g2 cap2 w5 hown2 hg2 hat2 hlt2 => ?_)
 have far2 : ∀ x, x < w3.heap.size → (∀ g, (Value.slice va i cv).ownBlock = some g → g ≠ x) → w5.heap[x]? = w3.heap[x]? := fun x hx hne => (hg2.block x (by omega) (fun e => hne x e.symm rfl)).trans (heap_new_lt _ _ hx)
 have hgs2 := hg2.size
 have hm5 := (far2 m (by omega) H.vm).trans hm3
 have k1 := mc1 hm5
 have z1 := frozen_of hm5 1
 have hg2m : g2 ≠ m := fun e => by
  rcases hat2 with h | h
  ·exact H.vm g2 h e
  ·omega
 walk_nrm
 refine Walk.gz z35 ?_
 (have hfr := fr0 m 1; refine Walk.os hfr k1 ?_; clear hfr; try walk_nrm)
 have hm6 : (w5.setCell ⟨m, 1, none⟩ (.slice (some ⟨g2, 0, none⟩) (i + 1) cap2)).heap[m]? = some (.cells (maA (.slice (some ⟨g1, 0, none⟩) (i + 1) cap1) (.slice (some ⟨g2, 0, none⟩) (i + 1) cap2) (-1) 0 0 0 tg (.slice none 0 0)) 87) := by
  rw [heap_set_self _ _ hm5]
  simp [maA]
 have o6 : ∀ x, x ≠ m → (w5.setCell ⟨m, 1, none⟩ (.slice (some ⟨g2, 0, none⟩) (i + 1) cap2)).heap[x]? = w5.heap[x]? := fun x hx => heap_set_other _ _ _ _ hx
 have s6 := size_set w5 ⟨m, 1, none⟩ (.slice (some ⟨g2, 0, none⟩) (i + 1) cap2)
 clear k1 z1 c0 c1
 have hg1s : g1 < w3.heap.size := (hrn3.lt g1 rfl).2
 have hg12 : g1 ≠ g2 := fun e => by
  rcases hat2 with h | h
  ·exact hng g2 h e.symm
  ·omega
 have fin : RNew w0 tg m (i + 1) (some ⟨g1, 0, none⟩) cap1 (some ⟨g2, 0, none⟩) cap2 (w5.setCell ⟨m, 1, none⟩ (.slice (some ⟨g2, 0, none⟩) (i + 1) cap2)) := by
  refine ⟨hm6, ?_, ?_, fun g hg => ?_, fun g hg => ?_, hb, ⟨by omega, fun x hx _ => ?_⟩⟩
  ·refine row_same hrn3 fun g hg => ?_
   simp only [Value.ownBlock, Option.some.injEq] at hg
   subst hg
   exact (o6 g1 hg1m).trans (far2 g1 hg1s fun g' hg' e => hng g' hg' e)
  ·rw [zRow_snoc]
   exact row_same hown2 fun g hg => o6 g (by simp only [Value.ownBlock, Option.some.injEq] at hg; omega)
  ·simp only [Value.ownBlock, Option.some.injEq] at hg
   subst hg
   exact ⟨hg1m, fun e => by simp only [Value.ownBlock, Option.some.injEq] at e; exact hg12 e.symm⟩
  ·simp only [Value.ownBlock, Option.some.injEq] at hg
   subst hg
   exact hg2m
  ·rw [o6 x (by omega), far2 x (by omega) (fun g' hg' e => by have := (H.rv.lt g' hg').1; omega), o3 x (by omega), far1 x (by omega) (fun g' hg' e => by have := (H.rn.lt g' hg').1; omega)]
   exact H.chg.same x hx id
 generalize w5.setCell ⟨m, 1, none⟩ (.slice (some ⟨g2, 0, none⟩) (i + 1) cap2) = w6 at *
 refine Walk.gz z35 ?_
 refine Walk.ctl rfl (fun w => stepG_inLoop) ?_
 refine .stop fun d => ⟨at_slots ?_, _, _, _, _, ⟨fin.blk, fin.rn, fin.rv, fin.nm, fin.vm, fin.base, fin.chg.at d⟩⟩
 simp only [hdRN, hc]
 rfl
theorem rnew_end (n m : Nat) (tg : Bool) (na : Option Addr) (cn : Nat) (va : Option Addr) (cv : Nat) (u : Nat → Value) (c : Frame) (cs : List Frame) (w0 w : World) (hn1 : 1 ≤ n) (hn : n ≤ 65536) (H : RNew w0 tg m n na cn va cv w) :
  Walk Try.prog main (DR (fun _ => none)) (fun g w' => g = G (c.finish (.pointer (some ⟨m, 0, none⟩))) cs ∧ ∃ nb vb, MaX (fun g => w0.heap.size ≤ g) m nb vb n cn cv tg (.slice none 0 0) (sk0 n) w' ∧ Chg (fun _ => False) w0 w') (G (hdRN n m n u) (c :: cs)) w := by
 obtain ⟨p, hp⟩ : ∃ p, n = p + 1 := ⟨n - 1, by omega⟩
 have hpn : p < n := by omega
 replace hp : n ≤ p + 1 ∧ p + 1 ≤ n := by omega
 obtain ⟨nb, e1, hb1, hl1, x0⟩ := row_at H.rn (j := p) (x := .int .i64 ((p + 1 : Nat) : Int)) (by simp [nxRow, hpn])
 obtain ⟨vb, e2, hb2, hl2, y0⟩ := row_at H.rv (j := p) (x := .int .i64 0) (by simp [zRow, hpn])
 subst e1 e2
 have hw1 : IntKind.wrap .i64 ((n : Int) - 1) = (p : Int) := by rw [IntKind.wrap_i64]; omega
 have c0 := mc0 H.blk
 have hnm := H.nm nb rfl
 have hvm := H.vm vb rfl
 have hnv : nb ≠ vb := fun e => hnm.2 (by rw [e]; rfl)
 have zf : ∃ cur, w.heap[nb]? = some (.cells cur 2) ∧ cur.toList.take (n * 1) = nxRow n ∧ n ≤ cur.size := by
  rcases H.rn.2 with ⟨h, _⟩ | ⟨g, cap, cur, e, h1, h2, h3, h4, h5, h6⟩
  ·cases h
  ·cases e
   exact ⟨cur, h2, h6, by omega⟩
 have zv : ∃ cur, w.heap[vb]? = some (.cells cur 2) ∧ cur.toList.take (n * 1) = zRow n := by
  rcases H.rv.2 with ⟨h, _⟩ | ⟨g, cap, cur, e, h1, h2, h3, h4, h5, h6⟩
  ·cases h
  ·cases e
   exact ⟨cur, h2, h6⟩
 obtain ⟨cur, f1, f2, f3⟩ := zf
 obtain ⟨curv, v1, v2⟩ := zv
 have z0 := frozen_of f1 p
 unfold hdRN
 refine Walk.gz z35 ?_
 (have hfr := fr0 nb p; refine Walk.os hfr x0 ?_; clear hfr; try walk_nrm)
 have fin : MaX (fun g => w0.heap.size ≤ g) m nb vb n cn cv tg (.slice none 0 0) (sk0 n) (w.setCell ⟨nb, p, none⟩ (.int .i64 (-1))) ∧ Chg (fun _ => False) w0 (w.setCell ⟨nb, p, none⟩ (.int .i64 (-1))) := by
  have hg : ∀ j, j < n → cur[j]? = some (.int .i64 ((j + 1 : Nat) : Int)) := fun j hj => by
   have : (cur.toList.take (n * 1))[j]? = some (.int .i64 ((j + 1 : Nat) : Int)) := by rw [f2]; simp [nxRow, hj]
   rw [List.getElem?_take, if_pos (by omega)] at this
   simpa using this
  have hgv : ∀ j, j < n → curv[j]? = some (.int .i64 0) := fun j hj => by
   have : (curv.toList.take (n * 1))[j]? = some (.int .i64 0) := by rw [v2]; simp [zRow, hj]
   rw [List.getElem?_take, if_pos (by omega)] at this
   simpa using this
  refine ⟨⟨?_, ⟨_, heap_set_self _ _ f1, fun j hj => ?_⟩, ⟨curv, (heap_set_other _ _ _ _ (Ne.symm hnv)).trans v1, fun j hj => hgv j hj⟩, okH_zero _, okH_one _ hn1, fun j hj => ?_, fun _ => ⟨(by decide : tagX 0 = 0), (by decide : tagX (heldX 0 0) = 0)⟩, H.base, hb1, hb2, Ne.symm hnm.1, Ne.symm hvm, hnv⟩, Nat.le_trans H.chg.size (Nat.le_of_eq (size_set ..).symm), fun x hx _ => ?_⟩
  ·rw [heap_set_other _ _ _ _ (Ne.symm hnm.1)]
   have a1 : nodeX (sk0 n).hd = -1 := (by decide : nodeX 0 = -1)
   have a2 : tagX (sk0 n).hd = 0 := (by decide : tagX 0 = 0)
   have a3 : nodeX (sk0 n).fr = 0 := (by decide : nodeX (heldX 0 0) = 0)
   have a4 : tagX (sk0 n).fr = 0 := (by decide : tagX (heldX 0 0) = 0)
   rw [a1, a2, a3, a4]
   exact H.blk
  ·show _ = some (Value.int .i64 (nxN n j))
   unfold nxN
   by_cases e : j = p
   ·subst e
    rw [if_pos (by omega), Array.getElem?_setIfInBounds_self_of_lt (by omega)]
   ·rw [if_neg (by omega), Array.getElem?_setIfInBounds_ne (Ne.symm e), hg j hj]
    simp
  ·show -1 ≤ nxN n j ∧ nxN n j < (n : Int)
   unfold nxN
   split <;> omega
  ·rw [heap_set_other _ _ _ _ (show x ≠ nb by omega)]
   exact H.chg.same x hx id
 clear c0 x0 y0 z0
 generalize w.setCell ⟨nb, p, none⟩ (.int .i64 (-1)) = w1 at *
 refine Walk.gz z35 ?_
 exact Walk.on1 rfl rfl Try.func35 rfl (.stop fun d => ⟨rfl, nb, vb, fin.1.at d, fin.2.at d⟩)
theorem rnew_w (sz : Int) (tg : Bool) (w : World) :
  CallW Try.prog main (fun _ => none) 35 #[.int .i64 sz, .bool tg] w (fun v w' => v = .pointer (some ⟨w.heap.size, 0, none⟩) ∧ ∃ nb vb cn cv, MaX (fun g => w.heap.size ≤ g) w.heap.size nb vb (sizeN sz) cn cv tg (.slice none 0 0) (sk0 (sizeN sz)) w' ∧ Chg (fun _ => False) w w') := by
 intro c cs
 obtain ⟨q1, q2, q3⟩ := sizeN_le sz
 refine (rnew_in sz tg (c :: cs) w).then ?_
 rintro g w1 ⟨⟨u, rfl⟩, H⟩
 generalize sizeN sz = n at *
 have loop : ∀ (r i : Nat) (na : Option Addr) (cn : Nat) (va : Option Addr) (cv : Nat) (u : Nat → Value) (w1 : World), i + r = n → RNew w tg w.heap.size i na cn va cv w1 →
   Walk Try.prog main (DR (fun _ => none)) (fun g w' => ∃ v, (v = .pointer (some ⟨w.heap.size, 0, none⟩) ∧ ∃ nb vb cn cv, MaX (fun g => w.heap.size ≤ g) w.heap.size nb vb n cn cv tg (.slice none 0 0) (sk0 n) w' ∧ Chg (fun _ => False) w w') ∧ g = G (c.finish v) cs) (G (hdRN n w.heap.size i u) (c :: cs)) w1 := by
  intro r
  induction r with
  | zero =>
   intro i na cn va cv u w1 hi H
   obtain rfl : i = n := hi
   refine (rnew_end i w.heap.size tg na cn va cv u c cs w w1 q1 q2 H).mono ?_
   rintro g w' ⟨rfl, nb, vb, h⟩
   exact ⟨_, ⟨rfl, nb, vb, cn, cv, h⟩, rfl⟩
  | succ r ih =>
   intro i na cn va cv u w1 hi H
   refine (rnew_round n w.heap.size i tg na cn va cv u (c :: cs) w w1 (by omega) q2 H).then ?_
   rintro g w' ⟨⟨u', rfl⟩, na', cn', va', cv', H'⟩
   exact ih (i + 1) na' cn' va' cv' u' w' (by omega) H'
 exact loop n 0 none 0 none 0 u w1 (by omega) H
end
end
end Go.Proofs.Ytdmpmoggacjgcaa
