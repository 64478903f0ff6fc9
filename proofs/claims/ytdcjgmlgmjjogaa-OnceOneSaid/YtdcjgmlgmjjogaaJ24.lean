/- Part 24. -/
import Derived.Test.YtdcjgmlgmjjogaaJ22
import Derived.Test.YtdcjgmlgmjjogaaJ23
set_option linter.unusedSimpArgs false
set_option linter.unusedVariables false
set_option maxHeartbeats 8000000
set_option maxRecDepth 100000
namespace Go.Proofs.Ytdcjgmlgmjjogaa
open Go.Conc Go.RowKit Go.Relay
open Go.ConcN (upd upd_ne upd_same)
section
section
variable {X : Type} {A : Abs X} {F st : X × List Nat} {sl : List Int} {p rd : Nat}
structure Ahead (A : Abs X) (F : X × List Nat) (sl : List Int) (p rd : Nat) (st : X × List Nat) : Prop where
 run : ∃ f x, x ≤ A.n ∧ rd % A.n = x % A.n ∧ F = restA A f ((List.range' x (A.n - x)).foldl (fun st i => stepA A st (i : Nat)) ((sl.drop p).foldl (stepA A) st)) ∧
  A.most ≤ (((List.range' x (A.n - x)).foldl (fun st i => stepA A st (i : Nat)) ((sl.drop p).foldl (stepA A) st)).2.length + f : Nat)
 le : p ≤ sl.length
 short : (st.2.length : Int) ≤ A.most
theorem over_stay (h : overA A st = true) (z : Int) : stepA A st z = st := by
 unfold stepA
 rw [if_neg]
 rintro ⟨h', _⟩
 rw [h] at h'; cases h'
theorem over_folds (h : overA A st = true) : ∀ l : List Int, l.foldl (stepA A) st = st
 | [] => rfl
 | z :: l => by rw [List.foldl_cons, over_stay h]; exact over_folds h l
theorem over_foldn (h : overA A st = true) : ∀ l : List Nat, l.foldl (fun st i => stepA A st (i : Nat)) st = st
 | [] => rfl
 | z :: l => by rw [List.foldl_cons, over_stay h]; exact over_foldn h l
theorem step_yes (h : overA A st = false) {i : Nat} (hi : i < A.n) (ho : A.out st.1 i = none) : stepA A st (i : Nat) = (A.next st.1 i, st.2 ++ [i]) := by
 unfold stepA
 rw [if_pos ⟨h, by omega, by omega, by simpa using ho⟩]
 simp
theorem step_no {z : Int} (h : ¬ (0 ≤ z ∧ z < A.n ∧ A.out st.1 z.toNat = none)) : stepA A st z = st := by
 unfold stepA
 rw [if_neg]
 rintro ⟨_, h'⟩
 exact h h'
theorem over_len (h : overA A st = false) : (st.2.length : Int) < A.most ∧ ∃ j, j < A.n ∧ A.out st.1 j = none := by
 unfold overA at h
 simp only [Bool.or_eq_false_iff, decide_eq_false_iff_not] at h
 refine ⟨by omega, ?_⟩
 have : 0 < goingA A st.1 := by omega
 obtain ⟨j, hj, ho⟩ := List.countP_pos_iff.1 this
 exact ⟨j, List.mem_range.1 hj, by simpa using ho⟩
theorem step_short (h : (st.2.length : Int) ≤ A.most) (z : Int) : ((stepA A st z).2.length : Int) ≤ A.most := by
 unfold stepA
 split
 ·next h' => have := (over_len h'.1).1; simp; omega
 ·exact h
theorem ahead_start (h0 : 0 ≤ A.most) (x : X) : Ahead A (followA A (x, []) sl) sl 0 0 (x, []) := by
 refine ⟨⟨A.most.toNat, A.n, Nat.le_refl _, by simp, ?_, ?_⟩, Nat.zero_le _, by simpa using h0⟩
 ·rw [Nat.sub_self]; rfl
 ·rw [Nat.sub_self]
  show A.most ≤ ((_ + A.most.toNat : Nat) : Int)
  omega
theorem Ahead.done (H : Ahead A F sl p rd st) (h : overA A st = true) : F = st := by
 obtain ⟨f, x, _, _, h3, _⟩ := H.run
 rw [h3, over_folds h, over_foldn h]
 cases f with
 | zero => rfl
 | succ f => exact rest_off _ h
theorem Ahead.take (H : Ahead A F sl p rd st) {z : Int} (hz : sl[p]? = some z) : Ahead A F sl (p + 1) rd (stepA A st z) := by
 obtain ⟨f, x, h1, h2, h3, h4⟩ := H.run
 obtain ⟨hl, e⟩ := List.getElem?_eq_some_iff.1 hz
 have ed : sl.drop p = z :: sl.drop (p + 1) := by rw [← e]; exact List.drop_eq_getElem_cons hl
 rw [ed, List.foldl_cons] at h3 h4
 exact ⟨⟨f, x, h1, h2, h3, h4⟩, hl, step_short H.short z⟩
theorem Ahead.here (H : Ahead A F sl sl.length rd st) (h : overA A st = false) : ∃ f x, x < A.n ∧ rd % A.n = x ∧ F = restA A f ((List.range' x (A.n - x)).foldl (fun st i => stepA A st (i : Nat)) st) ∧
  A.most ≤ (((List.range' x (A.n - x)).foldl (fun st i => stepA A st (i : Nat)) st).2.length + f : Nat) := by
 obtain ⟨f, x, h1, h2, h3, h4⟩ := H.run
 have ed : sl.drop sl.length = [] := List.drop_length
 rw [ed] at h3 h4
 simp only [List.foldl_nil] at h3 h4
 obtain ⟨hm, j, hj, _⟩ := over_len h
 by_cases hx : x < A.n
 ·exact ⟨f, x, hx, by rw [h2, Nat.mod_eq_of_lt hx], h3, h4⟩
 ·have hx : x = A.n := by omega
  subst hx
  rw [Nat.sub_self] at h3 h4
  have h3 : F = restA A f st := h3
  have h4 : A.most ≤ (st.2.length + f : Nat) := h4
  obtain ⟨f', rfl⟩ : ∃ f', f = f' + 1 := ⟨f - 1, by omega⟩
  have e : (List.range' 0 (A.n - 0)).foldl (fun st i => stepA A st (i : Nat)) st = roundA A st := by
   unfold roundA
   rw [Nat.sub_zero, ← List.range_eq_range']
  refine ⟨f', 0, by omega, by rw [h2, Nat.mod_self], ?_, ?_⟩
  ·rw [e, h3]; exact rest_on _ h
  ·rw [e]
   have := roundA_one A h
   omega
theorem Ahead.turn (H : Ahead A F sl sl.length rd st) (h : overA A st = false) : Ahead A F sl sl.length (rd % A.n + 1) (stepA A st ((rd % A.n : Nat) : Int)) ∧ Ahead A F sl sl.length (rd + 1) (stepA A st ((rd % A.n : Nat) : Int)) := by
 obtain ⟨f, x, h1, h2, h3, h4⟩ := H.here h
 rw [h2]
 have e : List.range' x (A.n - x) = x :: List.range' (x + 1) (A.n - (x + 1)) := by
  obtain ⟨r, hr⟩ : ∃ r, A.n - x = r + 1 := ⟨A.n - x - 1, by omega⟩
  rw [hr, List.range'_succ]
  congr 2
  omega
 rw [e, List.foldl_cons] at h3 h4
 have ed : sl.drop sl.length = [] := List.drop_length
 refine ⟨⟨⟨f, x + 1, by omega, rfl, ?_, ?_⟩, Nat.le_refl _, step_short H.short _⟩, ⟨⟨f, x + 1, by omega, ?_, ?_, ?_⟩, Nat.le_refl _, step_short H.short _⟩⟩
 ·rw [ed]; exact h3
 ·rw [ed]; exact h4
 ·rw [Nat.add_mod, h2, Nat.add_mod x 1, Nat.mod_eq_of_lt h1]
 ·rw [ed]; exact h3
 ·rw [ed]; exact h4
theorem over_far (h : overA A st = false) (rd : Nat) : ∃ k, k < A.n + A.n ∧ A.out st.1 ((rd + k) % A.n) = none := by
 obtain ⟨_, j, hj, ho⟩ := over_len h
 have hr := Nat.mod_lt rd (show 0 < A.n by omega)
 refine ⟨j + (A.n - rd % A.n), by omega, ?_⟩
 have e : rd + (j + (A.n - rd % A.n)) = j + A.n * (rd / A.n + 1) := by
  have := Nat.div_add_mod rd A.n
  rw [Nat.mul_add, Nat.mul_one]
  omega
 rw [e, Nat.add_mul_mod_self_left, Nat.mod_eq_of_lt hj]
 exact ho
end
end
section
def numRow (l : List Int) : List Value := l.map (.int .i64)
def ordRow (l : List Nat) : List Value := l.map fun i => .int .i64 (i : Nat)
theorem ordRow_snoc (l : List Nat) (x : Nat) : ordRow (l ++ [x]) = ordRow l ++ [.int .i64 (x : Nat)] := by simp [ordRow]
theorem rowNil (w : World) (base : Nat) (e : TypeId) (size : Nat) : w.ownsRow base e size (.slice none 0 0) 0 [] := ⟨by simp, .inl ⟨rfl, rfl⟩⟩
def tuA (lv : Value) (p rd : Nat) (most : Int) (ov : Value) (st : Bool) : Array Value := #[lv, .int .i64 (p : Nat), .int .i64 (rd : Nat), .int .i64 most, ov, .bool st]
structure TuX (S : Nat → Prop) (B : Nat) (la : Option Addr) (lc : Nat) (sl : List Int) (most : Int) (p rd : Nat) (oa : Option Addr) (oc : Nat) (ord : List Nat) (st : Bool) (w : World) : Prop where
 blk : w.heap[B]? = some (.cells (tuA (.slice la sl.length lc) p rd most (.slice oa ord.length oc) st) 163)
 lst : w.ownsRow 0 3 1 (.slice la sl.length lc) sl.length (numRow sl)
 row : w.ownsRow 0 3 1 (.slice oa ord.length oc) ord.length (ordRow ord)
 sb : S B
 sq : ∀ g, (Value.slice la sl.length lc).ownBlock = some g → S g ∧ g ≠ B
 so : ∀ g, (Value.slice oa ord.length oc).ownBlock = some g → S g ∧ g ≠ B ∧ (Value.slice la sl.length lc).ownBlock ≠ some g
section
variable {S S' : Nat → Prop} {B : Nat} {la : Option Addr} {lc : Nat} {sl : List Int} {most : Int} {p rd : Nat} {oa : Option Addr} {oc : Nat} {ord : List Nat} {st : Bool} {w w' : World}
theorem TuX.lt (X : TuX S B la lc sl most p rd oa oc ord st w) : B < w.heap.size := (Array.getElem?_eq_some_iff.1 X.blk).1
theorem TuX.same (X : TuX S B la lc sl most p rd oa oc ord st w) (h : ∀ g, g < w.heap.size → S g → w'.heap[g]? = w.heap[g]?) : TuX S B la lc sl most p rd oa oc ord st w' :=
 ⟨(h B X.lt X.sb).trans X.blk, row_same X.lst fun g hg => h g (X.lst.lt g hg).2 (X.sq g hg).1, row_same X.row fun g hg => h g (X.row.lt g hg).2 (X.so g hg).1, X.sb, X.sq, X.so⟩
theorem TuX.at (X : TuX S B la lc sl most p rd oa oc ord st w) (d : Nat) : TuX S B la lc sl most p rd oa oc ord st (w.at d) := X.same fun _ _ _ => rfl
theorem TuX.mono (X : TuX S B la lc sl most p rd oa oc ord st w) (h : ∀ g, S g → S' g) : TuX S' B la lc sl most p rd oa oc ord st w := ⟨X.blk, X.lst, X.row, h _ X.sb, fun g hg => ⟨h _ (X.sq g hg).1, (X.sq g hg).2⟩, fun g hg => ⟨h _ (X.so g hg).1, (X.so g hg).2⟩⟩
theorem TuX.put {p' rd' : Nat} {st' : Bool} (X : TuX S B la lc sl most p rd oa oc ord st w) (hb : w'.heap[B]? = some (.cells (tuA (.slice la sl.length lc) p' rd' most (.slice oa ord.length oc) st') 163)) (h : ∀ g, g ≠ B → g < w.heap.size → S g → w'.heap[g]? = w.heap[g]?) : TuX S B la lc sl most p' rd' oa oc ord st' w' :=
 ⟨hb, row_same X.lst fun g hg => h g (X.sq g hg).2 (X.lst.lt g hg).2 (X.sq g hg).1, row_same X.row fun g hg => h g (X.so g hg).2.1 (X.row.lt g hg).2 (X.so g hg).1, X.sb, X.sq, X.so⟩
theorem TuX.setP (X : TuX S B la lc sl most p rd oa oc ord st w) (q : Nat) : TuX S B la lc sl most q rd oa oc ord st (w.setCell ⟨B, 1, none⟩ (.int .i64 (q : Nat))) :=
 X.put (by rw [heap_set_self _ _ X.blk]; simp [tuA]) fun g hg _ _ => heap_set_other _ _ _ _ hg
theorem TuX.setR (X : TuX S B la lc sl most p rd oa oc ord st w) (q : Nat) : TuX S B la lc sl most p q oa oc ord st (w.setCell ⟨B, 2, none⟩ (.int .i64 (q : Nat))) :=
 X.put (by rw [heap_set_self _ _ X.blk]; simp [tuA]) fun g hg _ _ => heap_set_other _ _ _ _ hg
theorem TuX.num (X : TuX S B la lc sl most p rd oa oc ord st w) {j : Nat} {z : Int} (hz : sl[j]? = some z) : ∃ g, la = some ⟨g, 0, none⟩ ∧ w.cell? ⟨g, j, none⟩ = some (.int .i64 z) ∧ g ≠ B ∧ S g := by
 obtain ⟨g, e, _, _, h⟩ := row_at X.lst (j := j) (x := .int .i64 z) (by simp [numRow, hz])
 subst e
 exact ⟨g, rfl, h, (X.sq g rfl).2, (X.sq g rfl).1⟩
end
def EndAt (S : Nat → Prop) (ta : Option Addr) (n : Nat) (f : Nat → Bool) (w : World) : Prop := ∀ i, i < n → ∃ tl o q, ta = some ⟨tl, o, none⟩ ∧ w.cell? ⟨tl, o + i, none⟩ = some (.pointer (some ⟨q, 0, none⟩)) ∧ w.cell? ⟨q, 13, none⟩ = some (.bool (f i)) ∧ ¬ S tl ∧ ¬ S q
theorem EndAt.chg {S S' : Nat → Prop} {ta : Option Addr} {n : Nat} {f : Nat → Bool} {w w' : World} (h : EndAt S ta n f w) (hc : Chg S' w w') (hS : ∀ b, b < w.heap.size → S' b → S b) : EndAt S ta n f w' := fun i hi => by
 obtain ⟨tl, o, q, e, h1, h2, h3, h4⟩ := h i hi
 exact ⟨tl, o, q, e, (World.cell?_of_block (a := ⟨tl, o + i, none⟩) (hc.same tl (cell_lt' h1) fun e => h3 (hS _ (cell_lt' h1) e))).trans h1, (World.cell?_of_block (a := ⟨q, 13, none⟩) (hc.same q (cell_lt' h2) fun e => h4 (hS _ (cell_lt' h2) e))).trans h2, h3, h4⟩
noncomputable def reg35_0 := rg Try.f35.body [0]
noncomputable def reg35_1 := rg Try.f35.body [1, 0]
noncomputable def reg35_2 := rg Try.f35.body [1, 1, 0]
noncomputable def reg35_3 := rg Try.f35.body [1, 1, 1, 0, 0]
noncomputable def reg35_4 := rg Try.f35.body [1, 1, 1, 0, 1, 0]
noncomputable def reg35_5 := rg Try.f35.body [1, 1, 1, 1, 0, 0]
noncomputable def reg35_6 := rg Try.f35.body [1, 1, 1, 1, 0, 1, 0]
noncomputable def reg35_7 := rg Try.f35.body [1, 1, 1, 1, 1, 0]
theorem z35 : List.range reg35_0.size = [0] ∧ List.range reg35_1.size = [0, 1, 2, 3] ∧ List.range reg35_2.size = [0, 1, 2, 3, 4, 5, 6, 7, 8, 9] ∧ List.range reg35_3.size = [0, 1, 2, 3, 4] ∧ List.range reg35_4.size = [0, 1, 2, 3] ∧ List.range reg35_5.size = [0, 1, 2, 3, 4] ∧ List.range reg35_6.size = [0, 1, 2, 3] ∧ List.range reg35_7.size = [0, 1] := by refine ⟨?_, ?_, ?_, ?_, ?_, ?_, ?_, ?_⟩ <;> kernel_rfl
theorem code35_is : Try.f35.body = some (.seq (.region 0 reg35_0 false) (.seq (.region 1 reg35_1 false) (.seq (.region 2 reg35_2 false) (.seq (.seq (.region 3 reg35_3 false) (.cond (.tmp 22 ) (.region 4 reg35_4 false) (.skip))) (.seq (.seq (.region 5 reg35_5 false) (.cond (.tmp 30 ) (.region 6 reg35_6 false) (.skip))) (.seq (.region 7 reg35_7 false) (.ret))))))) := by kernel_rfl
section
variable {main : Bool}
def NewTu (sl : List Int) (most : Int) (w : World) (v : Value) (w' : World) : Prop := ∃ B la lc, v = .pointer (some ⟨B, 0, none⟩) ∧ TuX (fun g => w.heap.size ≤ g) B la lc sl (min (max most 0) 1048576) 0 0 none 0 [] false w' ∧ Chg (fun _ => False) w w'
theorem newTurn_w (sa : Option Addr) (sc : Nat) (sl : List Int) (most : Int) (w : World) (hsl : sl.length ≤ 17592186044416) (hnil : sa = none → sl = [] ∧ sc = 0) (hs : ∀ (j : Nat) (z : Int), sl[j]? = some z → ∃ s so, sa = some ⟨s, so, none⟩ ∧ w.cell? ⟨s, so + j, none⟩ = some (.int .i64 z)) :
  CallW Try.prog main (fun _ => none) 35 #[.slice sa sl.length sc, .int .i64 most] w (NewTu sl most w) := by
 intro c cs
 rw [enter_at _ Try.func35 code35_is]
 simp only [Try.ntmps35, ez, Nat.reduceAdd, Nat.reduceSub]
 repeat (first | refine Walk.cx ?_ | (refine Walk.cReg ?_; simp only [z35]) | (refine Walk.oq ?_; try walk_nrm) | (refine Walk.un ?_; walk_nrm))
 (refine Walk.oa ?_; try walk_nrm)
 have s1 : (w.alloc (.cells #[.slice none 0 0, .int .i64 0, .int .i64 0, .int .i64 most, .slice none 0 0, .bool false] 163)).heap.size = w.heap.size + 1 := by simp
 have o1 : ∀ b, b < w.heap.size → (w.alloc (.cells #[.slice none 0 0, .int .i64 0, .int .i64 0, .int .i64 most, .slice none 0 0, .bool false] 163)).heap[b]? = w.heap[b]? := fun b hb => heap_new_lt _ _ hb
 have d1 := heap_alloc_new w (.cells #[.slice none 0 0, .int .i64 0, .int .i64 0, .int .i64 most, .slice none 0 0, .bool false] 163)
 generalize hT : w.heap.size = T at *
 generalize w.alloc (.cells #[.slice none 0 0, .int .i64 0, .int .i64 0, .int .i64 most, .slice none 0 0, .bool false] 163) = w1 at *
 have c0 := (cell_of d1 0).trans rfl
 repeat (first | refine Walk.cx ?_ | (refine Walk.cReg ?_; simp only [z35]) | (refine Walk.oq ?_; try walk_nrm) | (refine Walk.un ?_; walk_nrm))
 have hi3 := Option.some_get (show (Try.prog.info? 3).isSome = true by kernel_rfl)
 refine Walk.appendSl (.tmp 13) (.tmp 14) 23 (ho_of (by conv => lhs; whnf) (by kernel_rfl)) (by rfl) (by decide) rfl (T + 1) 3 _ (.int .i64 0) 1 8 (by kernel_rfl) hi3.symm (by rfl) (by rfl) (by rfl) (by rfl) (by decide) (.slice none 0 0) 0 [] rfl (rowNil w1 _ _ _) sa sl.length sc (numRow sl) rfl (fun e => ⟨by rw [(hnil e).1]; rfl, (hnil e).2⟩) (by simp [numRow]) (fun ad e j u hu => ?_) (by simp [numRow, Value.oneCell']) (by simp [maxLen]; omega) (by omega) (by omega) (fun g hg => by simp [Value.ownBlock] at hg) fun v w2 hown hg hat => ?_
 ·unfold numRow at hu
  rw [List.getElem?_map] at hu
  obtain ⟨z, hz, rfl⟩ := Option.map_eq_some_iff.1 hu
  obtain ⟨s, so, e', hc⟩ := hs j z hz
  rw [e] at e'
  cases e'
  rw [add_none]
  exact (World.cell?_of_block (a := ⟨s, so + j, none⟩) (o1 s (by have := cell_lt' hc; omega))).trans hc
 clear hi3
 rw [Nat.zero_add, List.nil_append] at hown
 obtain ⟨la, lc, rfl⟩ := row_shape hown
 have hgs := hg.size
 have hO : ∀ b, b < T + 1 → w2.heap[b]? = w1.heap[b]? := fun b hb => hg.block b (by omega) (by simp [Value.ownBlock])
 clear hg hat
 have d2 := (hO T (by omega)).trans d1
 have c2 := (cell_of d2 0).trans rfl
 have z2 := frozen_of d2 0
 walk_nrm
 repeat (first | refine Walk.cx ?_ | (refine Walk.cReg ?_; simp only [z35]) | (refine Walk.oq ?_; try walk_nrm) | (refine Walk.un ?_; walk_nrm))
 (have hfr := fr0 T 0; refine Walk.os hfr c2 ?_; clear hfr; try walk_nrm)
 have d3 : (w2.setCell ⟨T, 0, none⟩ (.slice la sl.length lc)).heap[T]? = some (.cells #[.slice la sl.length lc, .int .i64 0, .int .i64 0, .int .i64 most, .slice none 0 0, .bool false] 163) := by
  rw [heap_set_self _ _ d2]
  simp
 have o3 : ∀ b, b ≠ T → (w2.setCell ⟨T, 0, none⟩ (.slice la sl.length lc)).heap[b]? = w2.heap[b]? := fun b hb => heap_set_other _ _ _ _ hb
 have s3 := size_set w2 ⟨T, 0, none⟩ (.slice la sl.length lc)
 have hown3 : (w2.setCell ⟨T, 0, none⟩ (.slice la sl.length lc)).ownsRow (T + 1) 3 1 (.slice la sl.length lc) sl.length (numRow sl) := row_same hown fun g hg => o3 g (by have := (hown.lt g hg).1; omega)
 clear c2 z2 hown c0 d2 d1
 generalize w2.setCell ⟨T, 0, none⟩ (.slice la sl.length lc) = w3 at *
 have c3 := (cell_of d3 3).trans rfl
 have z3 := frozen_of d3 3
 have old3 : ∀ b, b < T → w3.heap[b]? = w.heap[b]? := fun b hb => (o3 b (by omega)).trans ((hO b (by omega)).trans (o1 b (by omega)))
 have fin : ∀ (m : Int) (w4 : World), m = min (max most 0) 1048576 → w4.heap[T]? = some (.cells #[.slice la sl.length lc, .int .i64 0, .int .i64 0, .int .i64 m, .slice none 0 0, .bool false] 163) → (∀ b, b ≠ T → w4.heap[b]? = w3.heap[b]?) → w4.heap.size = w3.heap.size → ∀ d, ∃ v, NewTu sl most w v (w4.at d) ∧ c.finish (.pointer (some ⟨T, 0, none⟩)) = c.finish v := by
  intro m w4 hm h1 h2 h3 d
  refine ⟨_, ⟨T, la, lc, rfl, TuX.at ⟨by rw [← hm]; exact h1, row_raise (row_same hown3 fun g hg => h2 g (by have := (hown3.lt g hg).1; omega)) (fun g _ => Nat.zero_le _), rowNil _ _ _ _, (by omega : w.heap.size ≤ T), fun g hg => ?_, fun g hg => by simp [Value.ownBlock] at hg⟩ d, Chg.at ⟨by omega, fun b hb _ => (h2 b (by omega)).trans (old3 b (by omega))⟩ d⟩, rfl⟩
  have := (hown3.lt g hg).1
  exact ⟨by omega, by omega⟩
 by_cases h0 : most < 0
 ·have hd : decide (most < 0) = true := by simpa using h0
  repeat (first | refine Walk.cx ?_ | (refine Walk.cReg ?_; simp only [z35]) | (refine Walk.oq ?_; try walk_nrm) | (refine Walk.un ?_; walk_nrm))
  (have hfr := fr0 T 3; refine Walk.os hfr c3 ?_; clear hfr; try walk_nrm)
  have d4 : (w3.setCell ⟨T, 3, none⟩ (.int .i64 0)).heap[T]? = some (.cells #[.slice la sl.length lc, .int .i64 0, .int .i64 0, .int .i64 0, .slice none 0 0, .bool false] 163) := by
   rw [heap_set_self _ _ d3]
   simp
  have o4 : ∀ b, b ≠ T → (w3.setCell ⟨T, 3, none⟩ (.int .i64 0)).heap[b]? = w3.heap[b]? := fun b hb => heap_set_other _ _ _ _ hb
  have s4 := size_set w3 ⟨T, 3, none⟩ (.int .i64 0)
  have hf := fin 0 (w3.setCell ⟨T, 3, none⟩ (.int .i64 0)) (by omega) d4 o4 s4
  clear c3 z3 fin
  generalize w3.setCell ⟨T, 3, none⟩ (.int .i64 0) = w4 at *
  have c4 := (cell_of d4 3).trans rfl
  repeat (first | refine Walk.cx ?_ | (refine Walk.cReg ?_; simp only [z35]) | (refine Walk.oq ?_; try walk_nrm) | (refine Walk.un ?_; walk_nrm))
  refine Walk.on1 rfl rfl Try.func35 rfl (.stop fun d => ?_)
  obtain ⟨v, hv, he⟩ := hf d
  exact ⟨v, hv, congrArg (G · cs) he⟩
 ·have hd : decide (most < 0) = false := by simpa using h0
  by_cases h1 : 1048576 < most
  ·have hd1 : decide (1048576 < most) = true := by simpa using h1
   repeat (first | refine Walk.cx ?_ | (refine Walk.cReg ?_; simp only [z35]) | (refine Walk.oq ?_; try walk_nrm) | (refine Walk.un ?_; walk_nrm))
   (have hfr := fr0 T 3; refine Walk.os hfr c3 ?_; clear hfr; try walk_nrm)
   have d4 : (w3.setCell ⟨T, 3, none⟩ (.int .i64 1048576)).heap[T]? = some (.cells #[.slice la sl.length lc, .int .i64 0, .int .i64 0, .int .i64 1048576, .slice none 0 0, .bool false] 163) := by
    rw [heap_set_self _ _ d3]
    simp
   have o4 : ∀ b, b ≠ T → (w3.setCell ⟨T, 3, none⟩ (.int .i64 1048576)).heap[b]? = w3.heap[b]? := fun b hb => heap_set_other _ _ _ _ hb
   have s4 := size_set w3 ⟨T, 3, none⟩ (.int .i64 1048576)
   have hf := fin 1048576 (w3.setCell ⟨T, 3, none⟩ (.int .i64 1048576)) (by omega) d4 o4 s4
   clear c3 z3 fin
   generalize w3.setCell ⟨T, 3, none⟩ (.int .i64 1048576) = w4 at *
   repeat (first | refine Walk.cx ?_ | (refine Walk.cReg ?_; simp only [z35]) | (refine Walk.oq ?_; try walk_nrm) | (refine Walk.un ?_; walk_nrm))
   refine Walk.on1 rfl rfl Try.func35 rfl (.stop fun d => ?_)
   obtain ⟨v, hv, he⟩ := hf d
   exact ⟨v, hv, congrArg (G · cs) he⟩
  ·have hd1 : decide (1048576 < most) = false := by simpa using h1
   have hf := fin most w3 (by omega) d3 (fun _ _ => rfl) rfl
   clear fin
   repeat (first | refine Walk.cx ?_ | (refine Walk.cReg ?_; simp only [z35]) | (refine Walk.oq ?_; try walk_nrm) | (refine Walk.un ?_; walk_nrm))
   refine Walk.on1 rfl rfl Try.func35 rfl (.stop fun d => ?_)
   obtain ⟨v, hv, he⟩ := hf d
   exact ⟨v, hv, congrArg (G · cs) he⟩
end
end
section
noncomputable def reg37_0 := rg Try.f37.body [0]
noncomputable def reg37_1 := rg Try.f37.body [1, 0]
theorem size37_1 : reg37_1.size = 12 := by kernel_rfl
noncomputable def reg37_2 := rg Try.f37.body [1, 1, 0, 0]
noncomputable def reg37_3 := rg Try.f37.body [1, 1, 0, 1, 0, 0, 0, 0]
noncomputable def reg37_5 := rg Try.f37.body [1, 1, 0, 1, 0, 0, 1, 0, 0]
theorem size37_5 : reg37_5.size = 13 := by kernel_rfl
noncomputable def reg37_4 := rg Try.f37.body [1, 1, 0, 1, 0, 0, 1, 1]
noncomputable def reg37_6 := rg Try.f37.body [1, 1, 1, 0]
theorem z37 : List.range reg37_0.size = [0] ∧ List.range reg37_1.size = [0, 1, 2, 3, 4, 5, 6, 7, 8, 9, 10, 11] ∧ List.range reg37_2.size = [0] ∧ List.range reg37_3.size = [0, 1, 2, 3] ∧ List.range reg37_4.size = [0, 1, 2] ∧ List.range reg37_5.size = [0, 1, 2, 3, 4, 5, 6, 7, 8, 9, 10, 11, 12] ∧ List.range reg37_6.size = [0, 1] := by refine ⟨?_, ?_, ?_, ?_, ?_, ?_, ?_⟩ <;> kernel_rfl
theorem code37_is : Try.f37.body = some (.seq (.region 0 reg37_0 false) (.seq (.region 1 reg37_1 true) (.seq (.seq (.region 2 reg37_2 false) (.block 0 (.loop (.seq (.seq (.region 3 reg37_3 false) (.cond (.tmp 22 ) (.skip) (.exit 0))) (.seq (.block 1 (.region 5 reg37_5 true)) (.region 4 reg37_4 false)))))) (.seq (.region 6 reg37_6 false) (.ret))))) := by kernel_rfl
noncomputable def hdTc (tv : Value) (r o i : Nat) (u : Nat → Value) : Frame :=
 (base 37).at { tmps := #[u 0, tv, u 2, u 3, u 4, u 5, .pointer (some ⟨r, 0, none⟩), .pointer (some ⟨o, 0, none⟩), .int .i64 i, u 9, u 10, u 11, u 12, u 13, u 14, u 15, u 16, u 17, u 18, u 19, u 20, u 21, u 22, u 23, u 24, u 25, u 26, u 27, u 28, u 29, u 30, u 31, u 32, u 33, u 34, u 35, u 36, u 37], defers := [] } [.code (.seq (.seq (.region 3 reg37_3 false) (.cond (.tmp 22 ) (.skip) (.exit 0))) (.seq (.block 1 (.region 5 reg37_5 true)) (.region 4 reg37_4 false))), .inLoop (.seq (.seq (.region 3 reg37_3 false) (.cond (.tmp 22 ) (.skip) (.exit 0))) (.seq (.block 1 (.region 5 reg37_5 true)) (.region 4 reg37_4 false))), .inBlock 0, .code (.seq (.region 6 reg37_6 false) (.ret))]
def zTr : Obj := .cells #[.slice none 0 0, .slice none 0 0, .slice none 0 0, .bool false] 29
def trC (a b c : Value) (k : Bool) : Array Value := #[a, b, c, .bool k]
theorem setRow_alloc' (w : World) (cs old : Array Value) (t : TypeId) : (w.alloc (.cells old t)).setRow w.heap.size cs = w.alloc (.cells cs t) := by
 simp only [World.setRow, World.alloc]
 congr 1
 apply Array.ext
 ·simp
 ·intro i h1 h2
  rw [Array.getElem_modify]
  by_cases e : w.heap.size = i
  ·subst e; simp
  ·rw [if_neg e, Array.getElem_push, Array.getElem_push]
   simp only [Array.size_push] at h2
   have : i < w.heap.size := by omega
   simp [this]
section
variable {main : Bool} {S : Nat → Prop} {B : Nat} {la : Option Addr} {lc : Nat} {sl : List Int} {most : Int} {p rd : Nat} {oa : Option Addr} {oc : Nat} {ord : List Nat} {st : Bool}
theorem trc_in (tv : Value) (sa : Option Addr) (sn sc : Nat) (cs : List Frame) (w : World) (X : TuX S B la lc sl most p rd oa oc ord st w) :
  Walk Try.prog main (DR (fun _ => none)) (fun g w' => (∃ u, g = G (hdTc tv w.heap.size (w.heap.size + 1) 0 u) cs) ∧ w'.heap[w.heap.size]? = some zTr ∧ w'.heap[w.heap.size + 1]? = some (.cells (trC (.slice none 0 0) (.slice oa ord.length oc) (.slice sa sn sc) st) 29) ∧ Chg (fun _ => False) w w' ∧ w'.heap.size = w.heap.size + 2)
   (G (Frame.enter Try.prog 37 #[.pointer (some ⟨B, 0, none⟩), tv, .slice sa sn sc] .normal) cs) w := by
 rw [enter_at _ Try.func37 code37_is]
 simp only [Try.ntmps37, ez, Nat.reduceAdd, Nat.reduceSub]
 repeat (first | refine Walk.cx ?_ | (refine Walk.cReg ?_; simp only [z37]) | (refine Walk.oq ?_; try walk_nrm) | (refine Walk.un ?_; walk_nrm))
 (refine Walk.oa ?_; try walk_nrm)
 have X1 : TuX S B la lc sl most p rd oa oc ord st (w.alloc zTr) := X.same fun g hg _ => heap_new_lt _ _ hg
 have d1 := heap_alloc_new w zTr
 have hC1 : Chg (fun _ => False) w (w.alloc zTr) := Chg.alloc
 have s1 : (w.alloc zTr).heap.size = w.heap.size + 1 := by simp
 generalize hR : w.heap.size = R at *
 generalize hw1 : w.alloc zTr = wr at *
 have hz : (Obj.cells #[.slice none 0 0, .slice none 0 0, .slice none 0 0, .bool false] 29) = zTr := rfl
 try simp only [hz, hw1]
 repeat (first | refine Walk.cx ?_ | (refine Walk.cReg ?_; simp only [z37]) | (refine Walk.oq ?_; try walk_nrm) | (refine Walk.un ?_; walk_nrm))
 have c4 : wr.cell? ⟨B, 4, none⟩ = some (.slice oa ord.length oc) := (cell_of X1.blk 4).trans rfl
 have c5 : wr.cell? ⟨B, 5, none⟩ = some (.bool st) := (cell_of X1.blk 5).trans rfl
 have k4 := cell_alloc wr zTr c4
 have k5 := cell_alloc wr zTr c5
 refine Walk.drawnB (w1 := wr.alloc zTr) (vm := .pointer (some ⟨wr.heap.size, 0, none⟩)) (by kernel_rfl) size37_1 (by kernel_rfl) (by kernel_rfl) (by kernel_rfl) (by decide) (ho_of (by conv => lhs; whnf) (by kernel_rfl)) ?_ ?_
 ·intro x rest hr
  clear s1
  (refine Walk.oa ?_; try walk_nrm)
  exact hr _ _ ⟨rfl, _, rfl⟩
 simp only [List.range, List.range.loop]
 repeat (first | (refine Cm.opqB (ho_of (by conv => lhs; whnf) (by kernel_rfl)) (by rfl) (fun dd e he => ?_) (fun dd e he => ?_) ?_; (· (simp [go_sem, *] at he; try (subst he; exact evR_read _ _))); (· (simp [go_sem, *] at he; try (subst he; exact evR_read _ _))); apply Exists.intro; apply And.intro; (· (intro dd K hK; go_simp; exact hK)); apply And.intro; (· (intro dd K hK; go_simp; exact hK))) | (refine Cm.unw (ho_of (by conv => lhs; whnf) (by kernel_rfl)) (by rfl) ?_; walk_nrm))
 refine Cm.done ?_
 intro rest hr
 have e1 : wr.heap.size = R + 1 := s1
 clear s1
 refine Walk.storeS 29 (.tmp 7) (.tmp 18) (ho_of (by conv => lhs; whnf) (by kernel_rfl)) (by rfl) (by decide) rfl wr.heap.size (trC (.slice none 0 0) (.slice oa ord.length oc) (.slice sa sn sc) st) #[.slice none 0 0, .slice none 0 0, .slice none 0 0, .bool false] 29 rfl rfl (heap_alloc_new _ _) (by kernel_rfl) rfl (by simp [trC, Value.oneCell']) (ap0 _) ?_
 refine hr _ _ ?_
 have hst : (wr.alloc zTr).setRow wr.heap.size (trC (.slice none 0 0) (.slice oa ord.length oc) (.slice sa sn sc) st) = wr.alloc (.cells (trC (.slice none 0 0) (.slice oa ord.length oc) (.slice sa sn sc) st) 29) := setRow_alloc' _ _ _ _
 rw [hst]
 have d2 := heap_alloc_new wr (.cells (trC (.slice none 0 0) (.slice oa ord.length oc) (.slice sa sn sc) st) 29)
 have o2 : ∀ x, x < wr.heap.size → (wr.alloc (.cells (trC (.slice none 0 0) (.slice oa ord.length oc) (.slice sa sn sc) st) 29)).heap[x]? = wr.heap[x]? := fun x hx => heap_new_lt _ _ hx
 have s2 : (wr.alloc (.cells (trC (.slice none 0 0) (.slice oa ord.length oc) (.slice sa sn sc) st) 29)).heap.size = wr.heap.size + 1 := by simp
 clear k4 k5 hst hz
 generalize wr.alloc (.cells (trC (.slice none 0 0) (.slice oa ord.length oc) (.slice sa sn sc) st) 29) = w2 at *
 rw [e1] at d2 o2 s2 ⊢
 try walk_nrm
 repeat (first | refine Walk.cx ?_ | (refine Walk.cReg ?_; simp only [z37]) | (refine Walk.oq ?_; try walk_nrm) | (refine Walk.un ?_; walk_nrm))
 refine Walk.ctl rfl (fun w => stepG_loop) ?_
 refine .stop fun d => ⟨at_slots ?_, (o2 R (by omega)).trans d1, d2, ⟨by show w.heap.size ≤ w2.heap.size; omega, fun x hx hn => (o2 x (by omega)).trans (hC1.same x hx hn)⟩, s2⟩
 simp only [hdTc]
 rfl
def hdRow (hv : Nat → Value) (n : Nat) : List Value := (List.range n).map hv
theorem hdRow_snoc (hv : Nat → Value) (n : Nat) : hdRow hv (n + 1) = hdRow hv n ++ [hv n] := by simp [hdRow, List.range_succ]
theorem trc_go (r o tl n tc i q : Nat) (b c : Value) (k : Bool) (ha : Option Addr) (hc : Nat) (aa : Option Addr) (al ac : Nat) (hv : Nat → Value) (u : Nat → Value) (cs : List Frame) (a0 : Nat) (w : World) (ho : w.heap[o]? = some (.cells (trC (.slice ha i hc) b c k) 29)) (hrow : w.ownsRow a0 49 1 (.slice ha i hc) i (hdRow hv i)) (hi : i < n) (hn : n ≤ 64) (hvi : hv i = .slice aa al ac)
  (hoa : o < a0) (ha0 : a0 ≤ w.heap.size) (hl : w.cell? ⟨tl, 0 + i, none⟩ = some (.pointer (some ⟨q, 0, none⟩))) (hq : w.cell? ⟨q, 12, none⟩ = some (.slice aa al ac)) (htl : tl < a0) (hqa : q < a0) :
  Walk Try.prog main (DR (fun _ => none)) (fun g' w' => ∃ g cap, (∃ u', g' = G (hdTc (.slice (some ⟨tl, 0, none⟩) n tc) r o (i + 1) u') cs) ∧ w'.heap[o]? = some (.cells (trC (.slice (some ⟨g, 0, none⟩) (i + 1) cap) b c k) 29) ∧ w'.ownsRow a0 49 1 (.slice (some ⟨g, 0, none⟩) (i + 1) cap) (i + 1) (hdRow hv (i + 1)) ∧ Chg (fun x => x = o ∨ a0 ≤ x) w w')
   (G (hdTc (.slice (some ⟨tl, 0, none⟩) n tc) r o i u) cs) w := by
 have hw1 : IntKind.wrap .i64 ((i : Int) + 1) = (i : Int) + 1 := by rw [IntKind.wrap_i64]; omega
 have h0 : w.cell? ⟨o, 0, none⟩ = some (.slice ha i hc) := (cell_of ho 0).trans rfl
 have hlo : o < w.heap.size := by omega
 rw [Nat.zero_add] at hl
 have hsz1 : w.heap.size + 1 ≤ (w.alloc (.cells #[.slice aa al ac] 49)).heap.size ∧ (w.alloc (.cells #[.slice aa al ac] 49)).heap.size ≤ w.heap.size + 1 := by simp
 have hrow' : (w.alloc (.cells #[.slice aa al ac] 49)).ownsRow a0 49 1 (.slice ha i hc) i (hdRow hv i) := row_same hrow fun g hg => heap_new_lt _ _ (hrow.lt g hg).2
 have hnews : ∀ (j : Nat) (x : Value), ([.slice aa al ac] : List Value)[j]? = some x → (w.alloc (.cells #[.slice aa al ac] 49)).cell? ((⟨w.heap.size, 0, none⟩ : Addr).add j) = some x := fun j x hx => by
  rw [add_none, Nat.zero_add]
  refine (cell_of (heap_alloc_new _ _) j).trans ?_
  simpa using hx
 have hne : ∀ x, x < a0 → (Value.slice ha i hc).ownBlock ≠ some x := fun x hx e => by have := (hrow.lt x e).1; omega
 have hfar : ∀ (x : Nat) (w2 : World), x < w.heap.size → (Value.slice ha i hc).ownBlock ≠ some x → (w.alloc (.cells #[.slice aa al ac] 49)).grownBy w2 (Value.slice ha i hc).ownBlock → w2.heap[x]? = w.heap[x]? := fun x w2 hx hn hg => (hg.block x (by omega) (fun e => hn e.symm)).trans (heap_new_lt _ _ hx)
 conv => arg 5; unfold hdTc
 repeat (first | refine Walk.cx ?_ | (refine Walk.cReg ?_; simp only [z37]) | (refine Walk.oq ?_; try walk_nrm) | (refine Walk.un ?_; walk_nrm))
 refine Walk.drawnT (iA := 9) (iB := 10) (w1 := w.alloc (.cells #[.slice aa al ac] 49)) (vA := .slice (some ⟨w.heap.size, 0, none⟩) 1 1) (Z := fun x => x.cell? ⟨o, 0, none⟩ = some (.slice ha i hc) ∧ x.cell? ⟨tl, i, none⟩ = some (.pointer (some ⟨q, 0, none⟩)) ∧ x.cell? ⟨q, 12, none⟩ = some (.slice aa al ac))
  (fun v w2 => ∃ g cap, v = .slice (some ⟨g, 0, none⟩) (i + 1) cap ∧ w2.ownsRow a0 49 1 (.slice (some ⟨g, 0, none⟩) (i + 1) cap) (i + 1) (hdRow hv i ++ [.slice aa al ac]) ∧ (w.alloc (.cells #[.slice aa al ac] 49)).grownBy w2 (Value.slice ha i hc).ownBlock ∧ ((Value.slice ha i hc).ownBlock = some g ∨ g = (w.alloc (.cells #[.slice aa al ac] 49)).heap.size)) (by kernel_rfl) size37_5 (by kernel_rfl) (by kernel_rfl) (by kernel_rfl) (by kernel_rfl) (by decide) (ho_of (by conv => lhs; whnf) (by kernel_rfl)) (ho_of (by conv => lhs; whnf) (by kernel_rfl)) ⟨h0, hl, hq⟩ ⟨cell_alloc _ _ h0, cell_alloc _ _ hl, cell_alloc _ _ hq⟩ ?_ ?_
 ·rintro v w2 ⟨g, cap, _, _, hg, _⟩
  exact ⟨(World.cell?_of_block (a := ⟨o, 0, none⟩) (hfar o w2 hlo (hne o hoa) hg)).trans h0, (World.cell?_of_block (a := ⟨tl, i, none⟩) (hfar tl w2 (by omega) (hne tl htl) hg)).trans hl, (World.cell?_of_block (a := ⟨q, 12, none⟩) (hfar q w2 (by omega) (hne q hqa) hg)).trans hq⟩
 rw [show List.filter (quietQ 9 10) (List.range 12) = [0, 1, 2, 3, 4, 5, 6, 7, 8, 11] from by decide]
 repeat (first | (refine Cm.opqZ (ho_of (by conv => lhs; whnf) (by kernel_rfl)) (by rfl) (fun wz hz dd e he => ?_) ?_; (· (obtain ⟨z1, z2, z3⟩ := hz; simp [go_sem, *] at he; try (subst he; exact evR_read _ _))); apply Exists.intro; apply And.intro; (· (intro wz hz dd K hK; obtain ⟨z1, z2, z3⟩ := hz; go_simp; exact hK))) | (refine Cm.unw (ho_of (by conv => lhs; whnf) (by kernel_rfl)) (by rfl) ?_; walk_nrm))
 refine Cm.done ⟨?_, ?_, ?_⟩
 ·intro x hev rest hr'
  have e0 : x.eval (.tmp 33) = .slice aa al ac := (hev (.tmp 33) (by simp [Op.operands])).trans rfl
  have e1 : x.tmps[33]?.getD undef = .slice aa al ac := by
   rw [← Array.getD_eq_getD_getElem?]
   exact e0
  clear e0 hev
  (refine Walk.oa ?_; try walk_nrm)
  exact hr' _ _ ⟨rfl, _, rfl⟩
 ·intro x hev rest hr'
  have e1 : x.eval (.tmp 26) = .slice ha i hc := (hev (.tmp 26) (by simp [Op.operands, Call.operands])).trans rfl
  have e2 : x.eval (.tmp 34) = .slice (some ⟨w.heap.size, 0, none⟩) 1 1 := (hev (.tmp 34) (by simp [Op.operands, Call.operands])).trans rfl
  have hiA := Option.some_get (show (Try.prog.info? 49).isSome = true by kernel_rfl)
  refine Walk.append (.tmp 26) (.tmp 34) 26 (ho_of (by conv => lhs; whnf) (by kernel_rfl)) (by rfl) (by decide) rfl a0 49 _ (.slice none 0 0) 1 24 (by kernel_rfl) hiA.symm (by rfl) (by rfl) (by rfl) (by rfl) (by decide) (.slice ha i hc) i (hdRow hv i) e1 hrow' ⟨w.heap.size, 0, none⟩ 1 1 [.slice aa al ac] e2 (by rfl) hnews (by simp [Value.oneCell']) (by decide) (by simp [maxLen]; omega) (by omega) (by omega) (fun g _ => ap0 g) (fun g cap w3 hown hg hat hlt => ?_)
  exact hr' _ _ ⟨_, w3, ⟨g, cap, rfl, hown, hg, hat⟩, rfl, w3.drawn, rfl⟩
 rintro v w2 ⟨g, cap, rfl, hown, hg, hat⟩ rest hr'
 have hb := hfar o w2 hlo (hne o hoa) hg
 have h0' : w2.cell? ⟨o, 0, none⟩ = some (.slice ha i hc) := (World.cell?_of_block (a := ⟨o, 0, none⟩) hb).trans h0
 have hz0 : w2.frozen? ⟨o, 0, none⟩ = false := frozen_of (hb.trans ho) 0
 have hgs := hg.size
 have hga : a0 ≤ g := (hown.lt g rfl).1
 (have hfr := fr0 o 0; refine Walk.os hfr h0' ?_; clear hfr; try walk_nrm)
 refine hr' _ _ ?_
 have hbo : (w2.setCell ⟨o, 0, none⟩ (.slice (some ⟨g, 0, none⟩) (i + 1) cap)).heap[o]? = some (.cells (trC (.slice (some ⟨g, 0, none⟩) (i + 1) cap) b c k) 29) := by
  rw [heap_set_self _ _ (hb.trans ho)]
  simp [trC]
 have hown2 : (w2.setCell ⟨o, 0, none⟩ (.slice (some ⟨g, 0, none⟩) (i + 1) cap)).ownsRow a0 49 1 (.slice (some ⟨g, 0, none⟩) (i + 1) cap) (i + 1) (hdRow hv (i + 1)) := by
  rw [hdRow_snoc, hvi]
  exact row_same hown fun x hx => heap_set_other _ _ _ _ (by
   simp only [Value.ownBlock, Option.some.injEq] at hx
   show x ≠ o
   omega)
 have hC : Chg (fun x => x = o ∨ a0 ≤ x) w (w2.setCell ⟨o, 0, none⟩ (.slice (some ⟨g, 0, none⟩) (i + 1) cap)) := by
  refine ⟨by rw [size_set]; omega, fun x hx hn => ?_⟩
  rw [heap_set_other _ _ _ _ (fun e => hn (.inl e))]
  exact hfar x w2 hx (hne x (by omega)) hg
 clear h0' hz0 hb hown hg hat hfar hnews hrow' hrow hl hq h0 ho
 generalize w2.setCell ⟨o, 0, none⟩ (.slice (some ⟨g, 0, none⟩) (i + 1) cap) = w3 at *
 try walk_nrm
 repeat (first | refine Walk.cx ?_ | (refine Walk.cReg ?_; simp only [z37]) | (refine Walk.oq ?_; try walk_nrm) | (refine Walk.un ?_; walk_nrm))
 refine Walk.ctl rfl (fun w => stepG_inLoop) ?_
 refine .stop fun d => ⟨g, cap, at_slots ?_, hbo, hown2, hC.at d⟩
 have hc : ((i + 1 : Nat) : Int) = (i : Int) + 1 := by simp
 simp only [hdTc, hc]
 rfl
theorem trc_out (ta : Option Addr) (tc r o n : Nat) (x0 x1 x2 x3 : Value) (u : Nat → Value) (c : Frame) (cs : List Frame) (w : World) (ho : w.heap[o]? = some (.cells #[x0, x1, x2, x3] 29)) (hr : w.heap[r]? = some zTr) (h1 : (#[x0, x1, x2, x3] : Array Value).all (·.oneCell') = true) :
  Walk Try.prog main (DR (fun _ => none)) (fun g w' => g = G (c.finish (.agg #[x0, x1, x2, x3])) cs ∧ Chg (fun x => x = r) w w') (G (hdTc (.slice ta n tc) r o n u) (c :: cs)) w := by
 obtain ⟨fsT, huT⟩ := structT 29 (by kernel_rfl)
 have hc : ∀ (j : Nat) (v : Value), [x0, x1, x2, x3][j]? = some v → w.cell? ⟨o, 0 + j, none⟩ = some v := fun j v hv => by
  rw [Nat.zero_add]
  refine (cell_of ho j).trans ?_
  simpa using hv
 have hT := setRow_self (cells := #[x0, x1, x2, x3]) hr
 have hC : Chg (fun x => x = r) w (w.setRow r #[x0, x1, x2, x3]) := ⟨by rw [setRow_size]; exact Nat.le_refl _, fun x hx hn => setRow_other _ _ hn⟩
 unfold hdTc
 repeat (first | refine Walk.cx ?_ | (refine Walk.cReg ?_; simp only [z37]) | (refine Walk.oq ?_; try walk_nrm) | (refine Walk.un ?_; walk_nrm))
 refine Walk.loadS 29 (.tmp 7) (ho_of (by conv => lhs; whnf) (by kernel_rfl)) (by rfl) (by decide) rfl o 0 [x0, x1, x2, x3] (.struct fsT) rfl hc huT rfl (by kernel_rfl) ?_
 walk_nrm
 refine Walk.storeS 29 (.tmp 6) (.tmp 37) (ho_of (by conv => lhs; whnf) (by kernel_rfl)) (by rfl) (by decide) rfl r #[x0, x1, x2, x3] #[.slice none 0 0, .slice none 0 0, .slice none 0 0, .bool false] 29 rfl rfl hr (by kernel_rfl) rfl h1 (ap0 _) ?_
 clear hc ho hr
 generalize w.setRow r #[x0, x1, x2, x3] = w2 at *
 try walk_nrm
 repeat (first | refine Walk.cx ?_ | (refine Walk.cReg ?_; simp only [z37]) | (refine Walk.oq ?_; try walk_nrm) | (refine Walk.un ?_; walk_nrm))
 exact Walk.onCell (T := r) rfl rfl rfl Try.func37 rfl (by rfl) hT (by kernel_rfl) (by kernel_rfl) (.stop fun d => ⟨rfl, hC.at d⟩)
def TraceR (n : Nat) (hv : Nat → Value) (ov sv : Value) (st : Bool) (w : World) (v : Value) (w' : World) : Prop := ∃ ha hc, v = .agg #[.slice ha n hc, ov, sv, .bool st] ∧ w'.ownsRow w.heap.size 49 1 (.slice ha n hc) n (hdRow hv n) ∧ Chg (fun _ => False) w w'
theorem trc_w (ta : Option Addr) (n tc : Nat) (sa : Option Addr) (sn sc : Nat) (hv : Nat → Value) (w : World) (hn : n ≤ 64) (X : TuX S B la lc sl most p rd oa oc ord st w)
  (ht : ∀ i, i < n → ∃ tl q aa al ac, ta = some ⟨tl, 0, none⟩ ∧ w.cell? ⟨tl, 0 + i, none⟩ = some (.pointer (some ⟨q, 0, none⟩)) ∧ w.cell? ⟨q, 12, none⟩ = some (.slice aa al ac) ∧ hv i = .slice aa al ac) :
  CallW Try.prog main (fun _ => none) 37 #[.pointer (some ⟨B, 0, none⟩), .slice ta n tc, .slice sa sn sc] w (TraceR n hv (.slice oa ord.length oc) (.slice sa sn sc) st w) := by
 intro c cs
 refine (trc_in (.slice ta n tc) sa sn sc (c :: cs) w X).then ?_
 rintro g w1 ⟨⟨u, rfl⟩, hR, hO, hC1, hs1⟩
 have loop : ∀ (r i : Nat) (ha : Option Addr) (hc : Nat) (u : Nat → Value) (w1 : World), i + r = n → w1.heap[w.heap.size]? = some zTr → w1.heap[w.heap.size + 1]? = some (.cells (trC (.slice ha i hc) (.slice oa ord.length oc) (.slice sa sn sc) st) 29) → w1.ownsRow (w.heap.size + 2) 49 1 (.slice ha i hc) i (hdRow hv i) → Chg (fun _ => False) w w1 → w.heap.size + 2 ≤ w1.heap.size →
   Walk Try.prog main (DR (fun _ => none)) (fun g w' => ∃ v, TraceR n hv (.slice oa ord.length oc) (.slice sa sn sc) st w v w' ∧ g = G (c.finish v) cs) (G (hdTc (.slice ta n tc) w.heap.size (w.heap.size + 1) i u) (c :: cs)) w1 := by
  intro r
  induction r with
  | zero =>
   intro i ha hc u w1 hi h1 h2 h3 h4 h5
   obtain rfl : i = n := hi
   refine (trc_out ta tc w.heap.size (w.heap.size + 1) i _ _ _ _ u c cs w1 h2 h1 (by simp [Value.oneCell'])).mono ?_
   rintro g w' ⟨rfl, hC⟩
   refine ⟨_, ⟨ha, hc, rfl, row_raise (row_same h3 fun g hg => hC.same g (h3.lt g hg).2 (by have := (h3.lt g hg).1; omega)) (fun g hg => by have := (h3.lt g hg).1; omega), h4.trans hC fun x hx h => by omega⟩, rfl⟩
  | succ r ih =>
   intro i ha hc u w1 hi h1 h2 h3 h4 h5
   obtain ⟨tl, q, aa, al, ac, e, k1, k2, k3⟩ := ht i (by omega)
   subst e
   have hcell : ∀ {x j : Nat} {v : Value}, w.cell? ⟨x, j, none⟩ = some v → w1.cell? ⟨x, j, none⟩ = some v := fun {x j v} h => (World.cell?_of_block (a := ⟨x, j, none⟩) (h4.same x (cell_lt' h) id)).trans h
   refine (trc_go w.heap.size (w.heap.size + 1) tl n tc i q _ _ st ha hc aa al ac hv u (c :: cs) (w.heap.size + 2) w1 h2 h3 (by omega) hn k3 (by omega) h5 (hcell k1) (hcell k2) (by have := cell_lt' k1; omega) (by have := cell_lt' k2; omega)).then ?_
   rintro g w2 ⟨g', cap, ⟨u', rfl⟩, m1, m2, m3⟩
   refine ih (i + 1) _ cap u' w2 (by omega) ((m3.same _ (by omega) (by omega)).trans h1) m1 m2 (h4.trans m3 fun x hx h => by omega) (Nat.le_trans h5 m3.size)
 exact loop n 0 none 0 u w1 (by omega) hR hO (rowNil _ _ _ _) hC1 (by omega)
end
end
end Go.Proofs.Ytdcjgmlgmjjogaa
