/-
For every list of walks (how many steps a thread does, behind how many it panics, whether it is nil) and every schedule: TurnOver returns true on every schedule of the goroutines, without a data race, and what was there stands. Conditions: none beyond the statement's own.
-/
import Derived.Test.YtgiiicdpbdfemaaC14
set_option linter.unusedSimpArgs false

section
namespace Go.Proofs.Ytgiiicdpbdfemaa
open Go.Conc Go.RowKit Go.Relay
open Go.ConcN (sumTo sumTo_le upd upd_ne upd_same)

/-- Only the list of what is left has turned. -/
structure Sv (Lb : Nat) (w0 w : World) : Prop where
  size : w0.heap.size ≤ w.heap.size
  same : ∀ b, b < w0.heap.size → b ≠ Lb → w.heap[b]? = w0.heap[b]?
theorem Sv.refl (Lb : Nat) (w : World) : Sv Lb w w := ⟨Nat.le_refl _, fun _ _ _ => rfl⟩
theorem Sv.cell {Lb : Nat} {w0 w : World} (H : Sv Lb w0 w) {b i : Nat} {v : Value} (hb : b ≠ Lb) (h : w0.cell? ⟨b, i, none⟩ = some v) : w.cell? ⟨b, i, none⟩ = some v :=
  (World.cell?_of_block (a := ⟨b, i, none⟩) (H.same b (cell_lt w0 h) hb)).trans h
theorem Sv.set {Lb : Nat} {w0 w : World} (H : Sv Lb w0 w) (i : Nat) (v : Value) : Sv Lb w0 (w.setCell ⟨Lb, i, none⟩ v) :=
  ⟨by rw [size_set]; exact H.size, fun b hb hne => (heap_set_other _ _ _ _ hne).trans (H.same b hb hne)⟩
theorem Sv.alloc {Lb : Nat} {w0 w : World} (H : Sv Lb w0 w) (o : Obj) : Sv Lb w0 (w.alloc o) :=
  ⟨by have := H.size; simp; omega, fun b hb hne => (heap_new_lt w o (Nat.lt_of_lt_of_le hb H.size)).trans (H.same b hb hne)⟩

/-- What is left for each to do. -/
def LA (s : Wlk) (n Lb : Nat) (st : WX × List Nat) (w : World) : Prop := ∃ arr, w.heap[Lb]? = some (.cells arr 3 (0, 0)) ∧ arr.size = n ∧ ∀ i, i < n → arr[i]? = some (.int .i64 ((dW s i : Int) - st.1.dn i))

theorem dW_le {s : Wlk} (hst : ∀ i, s.st i < 32) (i : Nat) : dW s i ≤ 31 := by
  unfold dW
  split
  · omega
  · have := numW_le (s.st i) (s.af i)
    have := hst i
    omega

theorem LA.next {s : Wlk} {n Lb : Nat} {st : WX × List Nat} {w : World} (H : LA s n Lb st w) {x : Nat} (hx : x < n) {k : Nat} (hk : (dW s x : Int) - st.1.dn x = (k : Int) + 1) : LA s n Lb (nextW s st.1 x, st.2 ++ [x]) (w.setCell ⟨Lb, x, none⟩ (.int .i64 (k : Nat))) := by
  obtain ⟨arr, h1, h2, h3⟩ := H
  refine ⟨_, heap_set_self _ _ h1, by simpa using h2, fun i hi => ?_⟩
  show (arr.setIfInBounds x (.int .i64 (k : Nat)))[i]? = some (.int .i64 ((dW s i : Int) - (upd st.1.dn x (st.1.dn x + 1) i : Nat)))
  by_cases e : i = x
  · subst e
    rw [Array.getElem?_setIfInBounds_self_of_lt (by omega), upd_same]
    congr 2
    omega
  · rw [Array.getElem?_setIfInBounds_ne (Ne.symm e), upd_ne _ _ e]
    exact h3 i hi

section
variable {st af : Nat → Int} {nl : Nat → Bool}

theorem l1_loop (la : Option Addr) (N cap : Nat) (sv v5 v6 : Value) (q n Lb : Nat) (arrq : Array Value) (hn : n ≤ 64) (hnN : n ≤ N) (w0 : World) (hl : WalksAt la N st af nl w0) (hlL : ∀ b o, la = some ⟨b, o, none⟩ → 0 < n → b ≠ Lb) (hq : w0.heap[q]? = some (.cells arrq 4 (0, 0))) (hqi : ∀ i, i < n → arrq[i]? = some (.bool (bW ⟨nl, fun i => st i % 32, af⟩ i))) (hqL : q ≠ Lb) :
    ∀ (r i : Nat) (u : Nat → Value) (w : World), i + r = n → Sv Lb w0 w → (∃ arr, w.heap[Lb]? = some (.cells arr 3 (0, 0)) ∧ arr.size = n ∧ ∀ j, j < i → arr[j]? = some (.int .i64 (dW ⟨nl, fun i => st i % 32, af⟩ j : Nat))) →
    Walk Try.prog true (DR (fun _ => none)) (fun g w' => (∃ u', g = G (hd6b (.slice la N cap) sv v5 v6 (.slice (some ⟨q, 0, none⟩) n n) n Lb (allW ⟨nl, fun i => st i % 32, af⟩ n) 0 0 u') []) ∧ Sv Lb w0 w' ∧ ∃ arr, w'.heap[Lb]? = some (.cells arr 3 (0, 0)) ∧ arr.size = n ∧ ∀ j, j < n → arr[j]? = some (.int .i64 (dW ⟨nl, fun i => st i % 32, af⟩ j : Nat)))
      (G (hd6a (.slice la N cap) sv v5 v6 q n Lb (sumTo i (dW ⟨nl, fun i => st i % 32, af⟩)) i u) []) w := by
  have hst : ∀ i, st i % 32 < 32 := fun i => Int.emod_lt_of_pos _ (by decide)
  intro r
  induction r with
  | zero =>
    intro i u w hi S H
    have hi : i = n := hi
    subst hi
    refine (l1_out _ sv v5 v6 q i Lb _ u w).mono ?_
    rintro g w' ⟨⟨u', rfl⟩, d, rfl⟩
    exact ⟨⟨u', rfl⟩, ⟨S.size, S.same⟩, H⟩
  | succ r ih =>
    intro i u w hi S ⟨arr, h1, h2, h3⟩
    have hin : i < n := by omega
    obtain ⟨L, lo, rfl, c0, c1, c2⟩ := hl i (by omega)
    have hne := hlL L lo rfl (by omega)
    have c0 := S.cell hne c0
    have c1 := S.cell hne c1
    have c2 := S.cell hne c2
    have hqc := S.cell (i := i) hqL ((cell_of hq i).trans (hqi i hin))
    have hd := dW_le (s := ⟨nl, fun i => st i % 32, af⟩) hst i
    have hsum : sumTo i (dW ⟨nl, fun i => st i % 32, af⟩) ≤ 1984 := by
      have := sumTo_le (f := dW ⟨nl, fun i => st i % 32, af⟩) (c := 31) (j := i) fun j _ => dW_le (s := ⟨nl, fun i => st i % 32, af⟩) hst j
      omega
    have hy : w.cell? ⟨Lb, i, none⟩ = some arr[i] := (cell_of h1 i).trans (Array.getElem?_eq_getElem (by omega))
    refine (l1_go L lo N cap sv v5 v6 q n Lb _ i (st i) (af i) (nl i) (dW ⟨nl, fun i => st i % 32, af⟩ i) (bW ⟨nl, fun i => st i % 32, af⟩ i) _ u w hin (by omega) hn hsum hd c0 c1 c2 (does_any ⟨nl, fun i => st i % 32, af⟩ i (st i) (af i) (nl i) rfl rfl rfl w) hy (frozen_of h1 i) hqc hqL).then ?_
    rintro g w' ⟨⟨u', rfl⟩, d, rfl⟩
    refine Walk.back ?_ d
    have h1' := (heap_new_lt w (.cells #[.int .i64 (st i), .int .i64 (af i), .bool (nl i)] 58) (Array.getElem?_eq_some_iff.1 h1).1).trans h1
    refine ih (i + 1) u' _ (by omega) ((S.alloc _).set i _) ⟨_, heap_set_self _ _ h1', by simpa using h2, fun j hj => ?_⟩
    by_cases e : j = i
    · subst e; rw [Array.getElem?_setIfInBounds_self_of_lt (by omega)]
    · rw [Array.getElem?_setIfInBounds_ne (Ne.symm e)]
      exact h3 j (by omega)
end

section
variable {s : Wlk} {n : Nat} {sl : List Int}

def st0 (s : Wlk) (n : Nat) : WX × List Nat := (bornsA (absW s n 1048576) n 0 wx0, [])
def stAt (s : Wlk) (n : Nat) (sl : List Int) (j : Nat) : WX × List Nat := (sl.take j).foldl (stepA (absW s n 1048576)) (st0 s n)
theorem stAt_succ {j : Nat} {z : Int} (h : sl[j]? = some z) : stAt s n sl (j + 1) = stepA (absW s n 1048576) (stAt s n sl j) z := by
  unfold stAt
  rw [List.take_add_one, h]
  simp
theorem stAt_all : stAt s n sl sl.length = sl.foldl (stepA (absW s n 1048576)) (st0 s n) := by
  unfold stAt
  rw [List.take_length]

variable (hst : ∀ i, s.st i < 32) (hs0 : ∀ i, 0 ≤ s.st i)
include hst hs0

theorem chk_at (j : Nat) : Chk s n (overW s n 1048576 sl) (stAt s n sl j) := chk_fold hst hs0 sl (sl.take j) (sl.drop j) (List.take_append_drop j sl).symm

theorem l2_loop (lv v5 v8 : Value) (sa : Option Addr) (sc : Nat) (oa : Option Addr) (oc Lb al : Nat) (hn : n ≤ 64) (hsl : sl.length ≤ 17592186044416) (w0 : World) (base : Nat)
    (hs : ∀ (j : Nat) (z : Int), sl[j]? = some z → ∃ s so, sa = some ⟨s, so, none⟩ ∧ s ≠ Lb ∧ w0.cell? ⟨s, so + j, none⟩ = some (.int .i64 z))
    (ho : w0.ownsRow base 3 1 (.slice oa (overW s n 1048576 sl).2.length oc) (overW s n 1048576 sl).2.length (numbs (overW s n 1048576 sl).2)) (hoL : (Value.slice oa (overW s n 1048576 sl).2.length oc).ownBlock ≠ some Lb) :
    ∀ (r j : Nat) (u : Nat → Value) (w : World), j + r = sl.length → Sv Lb w0 w → LA s n Lb (stAt s n sl j) w →
    Walk Try.prog true (DR (fun _ => none)) (fun g w' => (∃ u', g = G (hd6b lv (.slice sa sl.length sc) v5 (.slice oa (overW s n 1048576 sl).2.length oc) v8 n Lb al (stAt s n sl sl.length).2.length sl.length u') []) ∧ Sv Lb w0 w' ∧ LA s n Lb (stAt s n sl sl.length) w')
      (G (hd6b lv (.slice sa sl.length sc) v5 (.slice oa (overW s n 1048576 sl).2.length oc) v8 n Lb al (stAt s n sl j).2.length j u) []) w := by
  intro r
  induction r with
  | zero =>
    intro j u w hj S H
    have hj : j = sl.length := hj
    subst hj
    exact .stop fun d => ⟨⟨u, rfl⟩, ⟨S.size, S.same⟩, H⟩
  | succ r ih =>
    intro j u w hj S H
    have hjl : j < sl.length := by omega
    have hz := List.getElem?_eq_getElem hjl
    generalize sl[j] = z at hz
    obtain ⟨sb, so, rfl, hsb, hc⟩ := hs j z hz
    have hc := S.cell hsb hc
    have P := chk_at (n := n) (sl := sl) hst hs0 j
    have hsucc := stAt_succ (s := s) (n := n) hz
    by_cases h0 : z < 0
    · have e := P.no (z := z) (by omega)
      rw [e] at hsucc
      refine (l2_neg lv v5 _ v8 sb so sl.length sc n Lb al _ j z u w hjl hsl hc h0).then ?_
      rintro g w' ⟨⟨u', rfl⟩, d, rfl⟩
      refine Walk.back ?_ d
      rw [← hsucc] at H ⊢
      exact ih (j + 1) u' w (by omega) S H
    by_cases h1 : (n : Int) ≤ z
    · have e := P.no (z := z) (by omega)
      rw [e] at hsucc
      refine (l2_big lv v5 _ v8 sb so sl.length sc n Lb al _ j z u w hjl hsl hc (by omega) h1).then ?_
      rintro g w' ⟨⟨u', rfl⟩, d, rfl⟩
      refine Walk.back ?_ d
      rw [← hsucc] at H ⊢
      exact ih (j + 1) u' w (by omega) S H
    obtain ⟨x, rfl⟩ : ∃ x : Nat, z = x := ⟨z.toNat, by omega⟩
    have hx : x < n := by omega
    obtain ⟨arr, a1, a2, a3⟩ := H
    have hle := P.le x hx
    by_cases hd : (stAt s n sl j).1.dn x < dW s x
    · obtain ⟨k, hk⟩ : ∃ k : Nat, (dW s x : Int) - (stAt s n sl j).1.dn x = (k : Int) + 1 := ⟨dW s x - (stAt s n sl j).1.dn x - 1, by omega⟩
      have e := P.yes hn hx hd
      rw [e] at hsucc
      have P' := chk_at (n := n) (sl := sl) hst hs0 (j + 1)
      rw [hsucc] at P'
      have hnext := P'.next
      have hlt := (List.getElem?_eq_some_iff.1 hnext).1
      obtain ⟨g, cap, e', _, _, _, ho2⟩ := row_cell ho (numb_get hnext)
      injection e' with e1 _ _
      subst e1
      have hgL : g ≠ Lb := fun e => hoL (by rw [e]; rfl)
      have hF := (pw_run (s := s) (n := n) hst 1048576 sl).short hn
      refine (l2_yes lv v5 v8 sb so sl.length sc g _ oc n Lb al _ j x k u w hjl hsl hc hx ((cell_of a1 x).trans ((a3 x hx).trans (by rw [hk]))) (frozen_of a1 x) (by have := dW_le hst x; omega) hlt hF (S.cell hgL ho2)).then ?_
      rintro g' w' ⟨⟨u', rfl⟩, d, rfl⟩
      refine Walk.back ?_ d
      have hlen : (stAt s n sl (j + 1)).2.length = (stAt s n sl j).2.length + 1 := by rw [hsucc]; simp
      rw [← hlen]
      refine ih (j + 1) u' _ (by omega) (S.set x _) ?_
      rw [hsucc]
      exact LA.next ⟨arr, a1, a2, a3⟩ hx hk
    · have e := P.no (z := (x : Int)) (fun h => hd (by simpa using h.2.2))
      rw [e] at hsucc
      have hzero : (dW s x : Int) - (stAt s n sl j).1.dn x = 0 := by omega
      refine (l2_zero lv v5 _ v8 sb so sl.length sc n Lb al _ j x u w hjl hsl hc hx ((cell_of a1 x).trans ((a3 x hx).trans (by rw [hzero])))).then ?_
      rintro g w' ⟨⟨u', rfl⟩, d, rfl⟩
      refine Walk.back ?_ d
      have H : LA s n Lb (stAt s n sl j) w := ⟨arr, a1, a2, a3⟩
      rw [← hsucc] at H ⊢
      exact ih (j + 1) u' w (by omega) S H

theorem l3_loop (lv sv v5 v8 : Value) (oa : Option Addr) (oc Lb : Nat) (F : WX × List Nat) (hF : F.2.length ≤ 1984) (hn : n ≤ 64) (w0 : World) (base : Nat)
    (ho : w0.ownsRow base 3 1 (.slice oa F.2.length oc) F.2.length (numbs F.2)) (hoL : (Value.slice oa F.2.length oc).ownBlock ≠ some Lb) :
    ∀ (f r x : Nat) (st : WX × List Nat) (u : Nat → Value) (w : World), x + r = n → 0 < r → Mid s n F st x f → st.2.length < allW s n → Sv Lb w0 w → LA s n Lb st w →
    Walk Try.prog true (DR (fun _ => none)) (fun g w' => Closing 6 4 (.bool true) g ∧ Sv Lb w0 w') (G (hd6c lv sv v5 (.slice oa F.2.length oc) v8 n Lb (allW s n) st.2.length x u) []) w := by
  intro f
  induction f using Nat.strongRecOn with
  | _ f ihf =>
    intro r
    induction r with
    | zero => intro x st u w _ h; exact absurd h (Nat.lt_irrefl 0)
    | succ r ihr =>
      intro x st u w hx _ M hlt S H
      have hxn : x < n := by omega
      have key : ∀ (st' : WX × List Nat) (u' : Nat → Value) (w' : World), Mid s n F st' (x + 1) f → Sv Lb w0 w' → LA s n Lb st' w' →
          Walk Try.prog true (DR (fun _ => none)) (fun g w' => Closing 6 4 (.bool true) g ∧ Sv Lb w0 w') (G (hd6c lv sv v5 (.slice oa F.2.length oc) v8 n Lb (allW s n) st'.2.length (if x + 1 = n then 0 else x + 1) u') []) w' := fun st' u' w' M' S' H' => by
        by_cases hl' : st'.2.length < allW s n
        · by_cases e : x + 1 = n
          · rw [if_pos e]
            rw [e] at M'
            obtain ⟨f', rfl, M2⟩ := M'.turn hn hl'
            exact ihf f' (Nat.lt_succ_self _) n 0 st' u' w' (by omega) (by omega) M2 hl' S' H'
          · rw [if_neg e]
            exact ihr (x + 1) st' u' w' (by omega) (by omega) M' hl' S' H'
        · have e := M'.done hn hl'
          have ha := M'.chk.at_most
          have e2 : st'.2.length = allW s n := by omega
          have e3 : F.2.length = allW s n := by rw [e]; exact e2
          rw [e2, e3]
          refine (l3_out lv sv v5 v8 oa oc n Lb (allW s n) _ u' w').mono ?_
          rintro g w2 ⟨hc, d, rfl⟩
          exact ⟨hc, S'.size, S'.same⟩
      have M1 := M.step hst hs0 hxn
      obtain ⟨arr, a1, a2, a3⟩ := H
      have hle := M.chk.le x hxn
      by_cases hd : st.1.dn x < dW s x
      · obtain ⟨k, hk⟩ : ∃ k : Nat, (dW s x : Int) - st.1.dn x = (k : Int) + 1 := ⟨dW s x - st.1.dn x - 1, by omega⟩
        have e := M.chk.yes hn hxn hd
        rw [e] at M1
        have hnext := M1.chk.next
        have hltF := (List.getElem?_eq_some_iff.1 hnext).1
        obtain ⟨g, cap, e', _, _, _, ho2⟩ := row_cell ho (numb_get hnext)
        injection e' with e1 _ _
        subst e1
        have hgL : g ≠ Lb := fun e => hoL (by rw [e]; rfl)
        refine (l3_yes lv sv v5 v8 g _ oc n Lb (allW s n) _ x _ k u w hlt hxn hn rfl ((cell_of a1 x).trans ((a3 x hxn).trans (by rw [hk]))) (frozen_of a1 x) (by have := dW_le hst x; omega) hltF hF (S.cell hgL ho2)).then ?_
        rintro g' w' ⟨⟨u', rfl⟩, d, rfl⟩
        refine Walk.back ?_ d
        have := key (nextW s st.1 x, st.2 ++ [x]) u' _ M1 (S.set x _) (LA.next ⟨arr, a1, a2, a3⟩ hxn hk)
        have hlen : (nextW s st.1 x, st.2 ++ [x]).2.length = st.2.length + 1 := by simp
        rw [hlen] at this
        exact this
      · have e := M.chk.no (z := (x : Int)) (fun h => hd (by simpa using h.2.2))
        rw [e] at M1
        have hzero : (dW s x : Int) - st.1.dn x = 0 := by omega
        refine (l3_zero lv sv v5 _ v8 n Lb (allW s n) _ x _ u w hlt hxn hn rfl ((cell_of a1 x).trans ((a3 x hxn).trans (by rw [hzero])))).then ?_
        rintro g w' ⟨⟨u', rfl⟩, d, rfl⟩
        exact Walk.back (key st u' w M1 S ⟨arr, a1, a2, a3⟩) d
end

theorem over_all (la : Option Addr) (N cap : Nat) (st af : Nat → Int) (nl : Nat → Bool) (sa : Option Addr) (sc : Nat) (sl : List Int) (W : World) (hN : N ≤ 8796093022208) (hsl : sl.length ≤ 17592186044416) (hl : WalksAt la N st af nl W) (hnil : sa = none → sl = [] ∧ sc = 0)
    (hs : ∀ (j : Nat) (z : Int), sl[j]? = some z → ∃ s so, sa = some ⟨s, so, none⟩ ∧ W.cell? ⟨s, so + j, none⟩ = some (.int .i64 z)) :
    Runs (fun g w' => Closing 6 4 (.bool true) g ∧ (OsSame W w' → ∀ d, Left W (.bool true) (w'.at d))) (G (Frame.enter Try.prog 6 #[.slice la N cap, .slice sa sl.length sc] .normal) []) W := by
  refine Runs.then (over_first la N cap st af nl sa sc sl W hN hsl hl hnil hs) ?_
  rintro g w ⟨B, oa, oc, q, arr, la2, cap2, ⟨o1, hq1, a1, hbd, hbr, hold, lq⟩, u, rfl⟩
  have hn64 : min N 64 ≤ 64 := Nat.min_le_right _ _
  have hnN : min N 64 ≤ N := Nat.min_le_left _ _
  have hmin : min (N : Int) 64 = ((min N 64 : Nat) : Int) := by omega
  generalize hnd : min N 64 = n at *
  have hst : ∀ i, (⟨nl, fun i => st i % 32, af⟩ : Wlk).st i < 32 := fun i => Int.emod_lt_of_pos _ (by decide)
  have hs0 : ∀ i, 0 ≤ (⟨nl, fun i => st i % 32, af⟩ : Wlk).st i := fun i => Int.emod_nonneg _ (by decide)
  have PF := chk_at (s := ⟨nl, fun i => st i % 32, af⟩) (n := n) (sl := sl) hst hs0 0
  have hF := (pw_run (s := ⟨nl, fun i => st i % 32, af⟩) (n := n) hst 1048576 sl).short hn64
  have hg0 : goingW n (overW ⟨nl, fun i => st i % 32, af⟩ n 1048576 sl).1 = 0 := (most_run (s := ⟨nl, fun i => st i % 32, af⟩) (n := n) hst hn64 0 (Nat.zero_le _) sl).2.2.2.2
  have hpf : _root_.Go.Proofs.Ytgiiicdpbdfemaa.PF ⟨nl, fun i => st i % 32, af⟩ n (overW ⟨nl, fun i => st i % 32, af⟩ n 1048576 sl) := PF.pre.keep (P := _root_.Go.Proofs.Ytgiiicdpbdfemaa.PF ⟨nl, fun i => st i % 32, af⟩ n) (fun st i P hi ho => pf_step hs0 st i P hi ho) PF.pf
  have hout : ∀ i, i < n → (overW ⟨nl, fun i => st i % 32, af⟩ n 1048576 sl).1.out i = some (bW ⟨nl, fun i => st i % 32, af⟩ i) := fun i hi => by
    rcases hpf i hi with ⟨h, _⟩ | ⟨h, _⟩
    · exfalso
      have : 0 < goingW n (overW ⟨nl, fun i => st i % 32, af⟩ n 1048576 sl).1 := List.countP_pos_iff.2 ⟨i, List.mem_range.2 hi, by rw [h]; rfl⟩
      omega
    · exact h
  have hdz : decide (0 < goingW n (overW ⟨nl, fun i => st i % 32, af⟩ n 1048576 sl).1) = false := by rw [hg0]; rfl
  rw [hdz]
  have hqi : ∀ i, i < n → arr[i]? = some (.bool (bW ⟨nl, fun i => st i % 32, af⟩ i)) := fun i hi => by
    rw [a1 i hi, hout i hi]
    cases bW ⟨nl, fun i => st i % 32, af⟩ i <;> rfl
  have hgF : ∀ i, i < (overW ⟨nl, fun i => st i % 32, af⟩ n 1048576 sl).2.length → ∃ x : Nat, (overW ⟨nl, fun i => st i % 32, af⟩ n 1048576 sl).2[i]? = some x ∧ (((overW ⟨nl, fun i => st i % 32, af⟩ n 1048576 sl).2.getD i 0 : Nat) : Int) = x := fun i hi =>
    ⟨_, List.getElem?_eq_getElem hi, by rw [List.getD_eq_getElem?_getD, List.getElem?_eq_getElem hi]; rfl⟩
  have nA := nums_row o1 (fun i => (((overW ⟨nl, fun i => st i % 32, af⟩ n 1048576 sl).2.getD i 0 : Nat) : Int)) hgF
  have nB := nums_row hbr (fun i => (((overW ⟨nl, fun i => st i % 32, af⟩ n 1048576 sl).2.getD i 0 : Nat) : Int)) hgF
  refine Runs.walk (Stop := fun g w' => Closing 6 4 (.bool true) g ∧ ∃ w0, Sv w.heap.size w0 w' ∧ w0.heap.size = w.heap.size + 1 ∧ ∀ b, b < w.heap.size → w0.heap[b]? = w.heap[b]?) ?_ ?_
  · refine (over_mid la N cap _ B oa _ oc q n la2 cap2 u w hmin hn64 (same25_w oa la2 _ oc cap2 _ (by omega) w nA nB) ((cell_of hbd 0).trans rfl)).then ?_
    rintro g w1 ⟨⟨u1, rfl⟩, d, rfl⟩
    refine Walk.back ?_ d
    have hs1 : (w.alloc (.cells (madeCells #[.int .i64 0] n) 3)).heap.size = w.heap.size + 1 := by simp
    have hO := old_alloc w (.cells (madeCells #[.int .i64 0] n) 3)
    have hnew := heap_alloc_new w (.cells (madeCells #[.int .i64 0] n) 3)
    have hold0 : Old W (w.alloc (.cells (madeCells #[.int .i64 0] n) 3)) := hold.trans hO
    generalize w.alloc (.cells (madeCells #[.int .i64 0] n) 3) = w0 at *
    have hqlt := (Array.getElem?_eq_some_iff.1 hq1).1
    have hl0 := hl.old hold0
    have hW := hold.size
    have row0 := row_old o1 hO
    have hoL : (Value.slice oa (overW ⟨nl, fun i => st i % 32, af⟩ n 1048576 sl).2.length oc).ownBlock ≠ some w.heap.size := fun e => by have := (row_at o1 e).2.1; omega
    refine (l1_loop (st := st) (af := af) (nl := nl) la N cap _ _ _ q n w.heap.size arr hn64 hnN w0 hl0 (fun b o e hn0 => ?_) ((hO.same q hqlt).trans hq1) hqi (by omega) n 0 u1 w0 (by omega) (Sv.refl _ _) ⟨_, hnew, by simp [size_madeCells], fun j hj => absurd hj (Nat.not_lt_zero _)⟩).then ?_
    · obtain ⟨b', o', e', c0, _, _⟩ := hl 0 (by omega)
      rw [e] at e'
      cases e'
      have : b < W.heap.size := cell_lt W c0
      omega
    rintro g w2 ⟨⟨u2, rfl⟩, S2, arr2, b1, b2, b3⟩
    have hLA : LA ⟨nl, fun i => st i % 32, af⟩ n w.heap.size (stAt ⟨nl, fun i => st i % 32, af⟩ n sl 0) w2 := by
      refine ⟨arr2, b1, b2, fun i hi => ?_⟩
      have hd0 : (stAt ⟨nl, fun i => st i % 32, af⟩ n sl 0).1.dn i = 0 := by
        show (bornsA (absW ⟨nl, fun i => st i % 32, af⟩ n 1048576) n 0 wx0).dn i = 0
        rw [(borns_at _ n _ n 0 wx0).1]; rfl
      rw [b3 i hi, hd0]
      simp
    have hlen0 : (stAt ⟨nl, fun i => st i % 32, af⟩ n sl 0).2.length = 0 := rfl
    rw [← hlen0]
    refine (l2_loop (s := ⟨nl, fun i => st i % 32, af⟩) (n := n) (sl := sl) hst hs0 _ _ _ sa sc oa oc w.heap.size (allW ⟨nl, fun i => st i % 32, af⟩ n) hn64 hsl w0 W.heap.size (fun j z hz => ?_) row0 hoL sl.length 0 u2 w2 (by omega) S2 hLA).then ?_
    · obtain ⟨s, so, e, hc⟩ := hs j z hz
      have hlt : s < W.heap.size := cell_lt W hc
      exact ⟨s, so, e, by omega, old_cell hold0 hc⟩
    rintro g w3 ⟨⟨u3, rfl⟩, S3, H3⟩
    refine (l2_out _ _ _ _ sa sl.length sc n w.heap.size _ _ u3 w3).then ?_
    rintro g w4 ⟨⟨u4, rfl⟩, d4, rfl⟩
    refine Walk.back ?_ d4
    have fin : ∀ g w', Closing 6 4 (.bool true) g ∧ Sv w.heap.size w0 w' → Closing 6 4 (.bool true) g ∧ ∃ w0, Sv w.heap.size w0 w' ∧ w0.heap.size = w.heap.size + 1 ∧ ∀ b, b < w.heap.size → w0.heap[b]? = w.heap[b]? := fun g w' h => ⟨h.1, w0, h.2, hs1, hO.same⟩
    by_cases hlt : (stAt ⟨nl, fun i => st i % 32, af⟩ n sl sl.length).2.length < allW ⟨nl, fun i => st i % 32, af⟩ n
    · have hn0 : 0 < n := by
        rcases Nat.eq_zero_or_pos n with h | h
        · rw [h] at hlt
          exact absurd hlt (Nat.not_lt_zero _)
        · exact h
      have hm := mid_first (s := ⟨nl, fun i => st i % 32, af⟩) (n := n) hst hs0 hn64 sl (by rw [stAt_all] at hlt; exact hlt)
      obtain ⟨f, M⟩ := hm
      have M : Mid ⟨nl, fun i => st i % 32, af⟩ n (overW ⟨nl, fun i => st i % 32, af⟩ n 1048576 sl) (stAt ⟨nl, fun i => st i % 32, af⟩ n sl sl.length) 0 f := by rw [stAt_all]; exact M
      exact (l3_loop (s := ⟨nl, fun i => st i % 32, af⟩) (n := n) hst hs0 _ _ _ _ oa oc w.heap.size _ hF hn64 w0 W.heap.size row0 hoL f n 0 _ u4 w3 (by omega) hn0 M hlt S3 H3).mono fin
    · have PL := chk_at (s := ⟨nl, fun i => st i % 32, af⟩) (n := n) (sl := sl) hst hs0 sl.length
      have e := chk_done (s := ⟨nl, fun i => st i % 32, af⟩) (n := n) hn64 (sl := sl) (by have := PL; rw [stAt_all] at this; exact this) (by rw [stAt_all] at hlt; exact hlt)
      have e : overW ⟨nl, fun i => st i % 32, af⟩ n 1048576 sl = stAt ⟨nl, fun i => st i % 32, af⟩ n sl sl.length := by rw [stAt_all]; exact e
      have ha := PL.at_most
      have e2 : (stAt ⟨nl, fun i => st i % 32, af⟩ n sl sl.length).2.length = allW ⟨nl, fun i => st i % 32, af⟩ n := by omega
      rw [e, e2]
      refine (l3_out _ _ _ _ oa oc n w.heap.size (allW ⟨nl, fun i => st i % 32, af⟩ n) 0 u4 w3).mono ?_
      rintro g w2 ⟨hc, d, rfl⟩
      exact fin _ _ ⟨hc, S3.size, S3.same⟩
  · rintro g w' ⟨hc, w0, S, hz, hk⟩
    have hW := hold.size
    refine .now ⟨hc, fun ho d' => ⟨rfl, ho.1, ho.2, fun b hb => ?_⟩⟩
    exact (S.same b (by omega) (by omega)).trans ((hk b (by omega)).trans (hold.same b hb))

open Go.ChangeShapes Go.WideShapes Go.ChangeAt Go.Joins Go.Deep

set_option maxRecDepth 100000 in
theorem turnOver_lifted (os : Os) (started : os.Started) (H : Type) (enc : TypeId × Value → H) :
    ReturnsInLeavingWide {} Try.checked os 6 .any (Rows.turnOverSpec.pre6 enc Try.prog Try.f6 Rows.turnOverRow.domain false) (Rows.turnOverSpec.post enc Try.prog Try.f6 false true false false) := by
  refine returnsInLeavingWide_of_change_sized (C := Try.checked) prog_own started Try.func6
    (ChangeSpec.witness6 (enc := enc) (C := Try.checked) false ⟨#[], #[.slice none 0 0, .slice none 0 0], []⟩ 8 (by kernel_rfl) (by kernel_rfl) (by kernel_rfl) (by kernel_rfl)) ?_
  intro W base args ds gs before hval0 hW _ hsz0 _
  have hval : ∀ (j : Nat) t v, Try.f6.params[j]? = some t → args[j]? = some v → Value.okWide Try.prog W .any base t v := hval0
  have hW' := hW
  obtain ⟨p, q, hA0, hV, rfl, _, _⟩ := hW
  have hA : DataW.TrodAll enc Try.prog W 0 (fun _ => true) true Try.f6.params.toList args.toList ds p := hA0
  rw [Try.params6] at hA hval
  have hsz : (DataW.weightsEach Try.prog (Try.f6.params.toList ++ Rows.turnOverSpec.plain.varTypes Try.prog) (ds ++ gs)).all (· ≤ reachBytes) = true := hsz0
  rw [Try.params6] at hsz
  obtain ⟨v0, v1, d0, d1, p0, p1, rfl, rfl, rfl, h0, h1⟩ := trodAll_two hA
  obtain ⟨rfl, rfl⟩ := trodVars_none hV
  have hlt := hW'.lt
  obtain ⟨la, N, cap, st, af, nl, rfl, hN, hl⟩ := open_walks (t := 46) (by kernel_rfl) (hval 0 46 v0 rfl rfl) h0 (j := 0) hsz rfl rfl
  obtain ⟨sa, sc, sl, rfl, hsl, hs, hnil⟩ := open_nums (t := 24) (by kernel_rfl) (hval 1 24 v1 rfl rfl) h1 (j := 1) hsz rfl rfl
  clear hA0 hval0 hsz0 hsz
  simp only [List.append_nil] at hW' hlt
  obtain ⟨M, last, o, w', t', r1, r2, r3, r4⟩ := run_claim (t := 4) Try.func6 rfl (by kernel_rfl) (over_all la N cap st af nl sa sc sl W hN hsl hl hnil hs)
  refine ⟨M, last, o, w', t', r1, r2, r3, r4.mono fun v hF => ?_⟩
  have hk : Left W (.bool true) w' := ⟨rfl, hF.2⟩
  obtain rfl : v = .bool true := hF.1
  exact ⟨_, _, _, [], _, [], hW', trodAll_mk1 (shut_bool und4_is true), trodAll_mk2 (hk.stays (by kernel_rfl) (of_decide_eq_true (by kernel_rfl)) h0 fun x hx => hlt x (by simp [hx])) (hk.stays (by kernel_rfl) (of_decide_eq_true (by kernel_rfl)) h1 fun x hx => hlt x (by simp [hx])), rfl, hk.kept _, fun h => by cases h⟩

theorem turnOver_holds : Rows.TurnOverSaid :=
  OpenClaim.holds_of_wide_leaving 6 Try.f6 rfl rfl rfl rfl rfl rfl rfl ⟨rfl, rfl, rfl, rfl, rfl⟩ rfl rfl rfl rfl rfl (by kernel_rfl) Try.func6 (by kernel_rfl)
    (of_decide_eq_true (by kernel_rfl)) (by unfold Func.isWrapper; first | (rw [if_pos (by decide +kernel)]; kernel_rfl) | (rw [if_neg (by decide +kernel)]; exact ⟨rfl, rfl⟩))
    (fun os started H enc _ => turnOver_lifted os started H enc)

#print axioms turnOver_holds
end Go.Proofs.Ytgiiicdpbdfemaa
end
