/- Part 18. -/
import Derived.Test.YtflcclneedldoaaJ9
import Derived.Test.YtflcclneedldoaaJ10
import Derived.Test.YtflcclneedldoaaJ12
import Derived.Test.YtflcclneedldoaaJ14
import Derived.Test.YtflcclneedldoaaJ15
import Derived.Test.YtflcclneedldoaaJ17
set_option linter.unusedSimpArgs false
set_option linter.unusedVariables false
set_option maxHeartbeats 8000000
set_option maxRecDepth 100000
namespace Go.Proofs.Ytflcclneedldoaa
open Go.Conc Go.RowKit Go.Relay Try
open Go.ConcN (upd upd_ne upd_same)
section
variable {main : Bool} {V : Nat -> Option Wait}
theorem end_zero (B : Nat) (c : Frame) (cs : List Frame) (w : World) (h0 : w.cell? ⟨B, 0, none⟩ = some (.slice none 0 0)) :
  Walk prog main (DR V) (fun g w' => g = G (c.finish (.slice (some ⟨w.heap.size, 0, none⟩) 0 0)) cs /\ ∃ d, w' = (w.alloc (.cells (madeCells #[.bool false] 0) 4)).at d) (G (Frame.enter prog 171 #[.pointer (some ⟨B, 0, none⟩)] .normal) (c :: cs)) w := by
 rw [enter_at _ func171 rfl]
 simp only [f171, ez, Nat.reduceAdd, Nat.reduceSub]
 refine Ae ?_
 have hi4 := Option.some_get (show (prog.info? 4).isSome = true by kernel_rfl)
 refine Fj 204 (.tmp 10) (.tmp 10) rfl (by rfl) (by decide) rfl 4 _ (.bool false) 1 1 (by kernel_rfl) hi4.symm (by rfl) (by rfl) (by rfl) 0 (by rfl) (by rfl) (by omega) (by omega) ?_
 have h0' := Aj w (.cells (madeCells #[.bool false] 0) 4) h0
 walk_nrm
 simp only [Value.cells, Nat.mul_one]
 refine Ae ?_
 refine cLp ?_
 refine Ae ?_
 exact (Ar (Post := fun v w' => v = .slice (some ⟨w.heap.size, 0, none⟩) 0 0 /\ ∃ d, w' = (w.alloc (.cells (madeCells #[.bool false] 0) 4)).at d) rfl rfl func171 rfl fun d => ⟨by simp, d, rfl⟩).mono fun g w' ⟨v, ⟨e, d, e'⟩, hg⟩ => ⟨by rw [hg, e], d, e'⟩
end
section
variable {main : Bool} {V : Nat -> Option Wait}
theorem begin_zero' (B tc : Nat) (ta : Option Addr) (c : Frame) (cs : List Frame) (w : World) (h0 : w.cell? ⟨B, 0, none⟩ = some (.slice none 0 0)) :
  Walk prog main (DR V) (fun g w' => g = G (c.finish (.tuple #[])) cs /\ ∃ d, w' = w.at d) (G (Frame.enter prog 169 #[.pointer (some ⟨B, 0, none⟩), .slice ta 0 tc] .normal) (c :: cs)) w := by
 rw [enter_at _ func169 rfl]
 simp only [f169, ez, Nat.reduceAdd, Nat.reduceSub]
 refine Ae ?_
 refine cLp ?_
 refine Ae ?_
 exact Walk.ctl rfl (fun w => stepG_leave rfl rfl func169 (results_none rfl _ _ w) (events_results_none rfl _ _)) (.stop fun d => ⟨rfl, d, rfl⟩)
theorem over_zero' (sa : Option Addr) (m sc tc : Nat) (ta : Option Addr) (most : Int) (og : Value) (c : Frame) (cs : List Frame) (w : World) (hog : Aw prog main V 167 #[og] w (.slice ta 0 tc) w)
  (hs : 0 < m -> ∃ s so x, sa = some ⟨s, so, none⟩ /\ w.cell? ⟨s, so, none⟩ = some (.int .i64 x)) :
  Walk prog main (DR V) (fun g w' => g = G (c.finish (.tuple #[.slice none 0 0, .bool false, .slice (some ⟨w.heap.size + 1, 0, none⟩) 0 0])) cs /\ ∃ d, w' = ((turnW w 0 most).alloc (.cells (madeCells #[.bool false] 0) 4)).at d)
   (G (Frame.enter prog 127 #[og, .slice sa m sc, .int .i64 most] .normal) (c :: cs)) w := by
 have hs1 : (turnW w 0 most).heap.size = w.heap.size + 1 := by simp [turnW]
 have ht : ∀ i, (turnW w 0 most).cell? ⟨w.heap.size, i, none⟩ = (#[.slice none 0 0, .int .i64 (0 : Nat), .int .i64 (min (max most 0) 1048576), .slice none 0 0] : Array Value)[i]? := fun i => Ab (hAw w _) i
 have t0 := (ht 0).trans rfl
 have t1 := (ht 1).trans rfl
 have t2 := (ht 2).trans rfl
 have t3 := (ht 3).trans rfl
 clear ht
 refine (over_in 0 tc m sc ta sa og most (c :: cs) w hog (nt_in 0 tc ta most (fr23t 0 tc m sc ta sa og most :: c :: cs) w)).then ?_
 rintro _ _ ⟨⟨u0, rfl⟩, d1, rfl⟩
 refine Walk.back ?_ d1
 refine (nt_out w.heap.size 0 u0 (fr23t 0 tc m sc ta sa og most) (c :: cs) _).then ?_
 rintro _ _ ⟨rfl, d2, rfl⟩
 refine Walk.back ?_ d2
 refine (Nw w.heap.size 0 tc m sc ta sa og most (c :: cs) _ (begin_zero' w.heap.size tc ta _ (c :: cs) _ t0)).then ?_
 rintro _ _ ⟨rfl, d3, rfl⟩
 refine Walk.back ?_ d3
 refine (Ma w.heap.size 0 tc m sc ta sa og most (c :: cs) _ (follow_in w.heap.size sa m sc _ _)).then ?_
 rintro _ _ ⟨⟨u4, rfl⟩, d4, rfl⟩
 refine Walk.back ?_ d4
 have back : Walk prog main (DR V) (fun g w' => g = G ((fr23b w.heap.size 0 tc m sc ta sa og most).finish (.tuple #[])) (c :: cs) /\ ∃ d, w' = (turnW w 0 most).at d) (G (Ln w.heap.size sa m sc 0 u4) (fr23b w.heap.size 0 tc m sc ta sa og most :: c :: cs)) (turnW w 0 most) := by
  rcases Nat.eq_zero_or_pos m with hm | hm
  ·subst hm
   refine (Mc w.heap.size sa 0 sc u4 _ _).then ?_
   rintro _ _ ⟨⟨u5, rfl⟩, d5, rfl⟩
   refine Walk.back ?_ d5
   exact Nm w.heap.size sa 0 sc (0 : Nat) _ none 0 0 u5 _ (c :: cs) _ t1 t2 t3 (by simp)
  ·obtain ⟨s, so, x, rfl, hc⟩ := hs hm
   refine Md w.heap.size s so m sc 0 x (0 : Nat) _ none 0 0 u4 _ (c :: cs) _ hm ?_ t1 t2 t3 (by simp)
   exact Aj w _ hc
 refine back.then ?_
 rintro _ _ ⟨rfl, d5, rfl⟩
 refine Walk.back ?_ d5
 refine (over_end w.heap.size 0 tc m sc ta sa og most (0 : Nat) (c :: cs) _ t1 (end_zero w.heap.size _ (c :: cs) _ t0)).then ?_
 rintro _ _ ⟨rfl, d6, rfl⟩
 refine Walk.back ?_ d6
 have t3' := Aj _ (.cells (madeCells #[.bool false] 0) 4) t3
 rw [hs1]
 refine (over_out w.heap.size (w.heap.size + 1) 0 tc m sc ta sa og most (0 : Nat) none 0 0 c cs _ t3').mono ?_
 rintro _ _ ⟨rfl, d7, rfl⟩
 exact ⟨by simp, d7, rfl⟩
theorem huOpsS : prog.underlying 35 = some (.slice 22) := by kernel_rfl
theorem firstOps_some (a : Option Addr) (m cap : Nat) (w : World) (hm : m <= cap) (ha : a = none /\ cap = 0 ∨ ∃ p, a = some p) : Aw prog main V 164 #[.slice a m cap] w (.slice a (min m 64) cap) w := by
 refine Aq func164 rfl fun fr cs => ?_
 simp only [ntmps164, ez, Nat.reduceAdd, Nat.reduceSub]
 have hmn := @By prog
 refine Ae ?_
 have hmin : min (m : Int) 64 = ((min m 64 : Nat) : Int) := by omega
 rw [hmin]
 have hxl : min m 64 <= cap := by omega
 generalize min m 64 = x at hxl ⊢
 have hi := Option.some_get (show (prog.info? 22).isSome = true by kernel_rfl)
 have hs := fun w => (Iu huOpsS hi.symm a m cap x hxl ha w #[]).1
 have hse := fun w es => (Iu huOpsS hi.symm a m cap x hxl ha w es).2
 clear hi
 refine Ae ?_
 exact Ar rfl rfl func164 rfl fun d => ⟨by simp, d, rfl⟩
end
theorem Nu (L : La) (s0 : L.Sg) (ops : Nat -> List OpV) (most : Int) (sl : List Int) : Ca L s0 ops 0 most sl = (Qv L s0, []) := by
 have hov : Bj (Cc L 0 (min (max most 0) 1048576) ops) (Qv L s0, []) = true := rfl
 have hst : ∀ z, Bb (Cc L 0 (min (max most 0) 1048576) ops) (Qv L s0, []) z = (Qv L s0, []) := fun z => by
  unfold Bb
  rw [hov]
  exact if_neg fun h => by cases h.1
 have hfold : ∀ l : List Int, l.foldl (Bb (Cc L 0 (min (max most 0) 1048576) ops)) (Qv L s0, []) = (Qv L s0, []) := fun l => by
  induction l with
  | nil => rfl
  | cons z l ih => rw [List.foldl_cons, hst, ih]
 show Bz _ _ (sl.foldl _ (Qv L s0, [])) = _
 rw [hfold]
 generalize (Cc L 0 (min (max most 0) 1048576) ops).most.toNat = f
 cases f with
 | zero => rfl
 | succ f =>
  unfold Bz
  rw [hov]
  rfl
section
variable {L : La} {fdo : FuncId} {first cap : Array Value}
theorem ops_any (hD : DoFn L fdo first cap) (y0 : L.Gh) (s0 : L.Sg) (tv : Value) (most : Int) (ta : Option Addr) (tb toff tc n : Nat) (hta : 0 < n -> ta = some ⟨tb, toff, none⟩) (hn : n <= 64) (oa : Nat -> Option Addr) (ln oc : Nat -> Nat) (ops : Nat -> List OpV) (sa : Option Addr) (sc : Nat) (sl : List Int) (hsl : sl.length <= 17592186044416) (c : Frame) (cs : List Frame) (w : World)
  (I : OpsIn tb toff n oa ln oc ops w) (hI : L.I y0 s0 w) (hns : ∀ i, i < n -> ∀ (j : Nat) (o : OpV), (ops i)[j]? = some o -> ∀ b off, oa i = some ⟨b, off, none⟩ -> ¬ L.sh y0 b)
  (hsc : ∀ (j : Nat) (z : Int), sl[j]? = some z -> ∃ s so, sa = some ⟨s, so, none⟩ /\ w.cell? ⟨s, so + j, none⟩ = some (.int .i64 z) /\ ¬ L.sh y0 s)
  (hp : ∀ w' : World, (∀ b, b < w.heap.size -> w'.heap[b]? = w.heap[b]?) -> Aw prog true (fun _ => none) 164 #[tv] w' (.slice ta n tc) w') :
  Runs (fun g w' => ∃ cells, OpsOut L y0 s0 ops n most sl w w' cells /\ g = G (c.finish (.agg cells)) cs) (G (Frame.enter prog 76 #[tv, .func (.func fdo) first cap, .slice sa sl.length sc, .int .i64 most] .normal) (c :: cs)) w := by
 rcases Nat.eq_zero_or_pos n with h0 | h1
 ·subst h0
  have hA : ∀ b, Az (fun _ => none) b := fun b => ⟨fun _ _ _ _ h => (by cases h), fun _ _ h => (by cases h)⟩
  refine Runs.walk (ops_in fdo first cap tv (.slice sa sl.length sc) most ta tb toff tc 0 hta hn oa ln oc ops c cs w I (fun b _ => hA b) hp) ?_
  rintro _ w2 ⟨fr, w1, rfl, o1, s1, hT, M, hB⟩
  have s2 : w2.heap.size = w.heap.size + 1 + 4 + 2 * 0 := M.size
  have hN := M.cN
  have o2 : ∀ b, b < w.heap.size + 1 -> w2.heap[b]? = w1.heap[b]? := fun b hb => M.old b hb
  have hc2 : ∀ {b j : Nat} {v : Value}, w.cell? ⟨b, j, none⟩ = some v -> w2.cell? ⟨b, j, none⟩ = some v := fun {b j v} h => (cBk (a := ⟨b, j, none⟩) ((o2 b (by have := Al h; omega)).trans (o1 b (Al h)))).trans h
  refine Runs.walk (over_zero' sa sl.length sc 0 (some ⟨w.heap.size + 4, 0, none⟩) most _ fr (c :: cs) w2 ?_ fun h => ?_) ?_
  ·have := Ok (main := true) (V := fun _ => none) (w.heap.size + 4) 0 0 w2 (Nat.le_refl _)
   simpa using this
  ·obtain ⟨s, so, e, hc, _⟩ := hsc 0 (sl[0]'h) (List.getElem?_eq_getElem h)
   exact ⟨s, so, _, e, hc2 hc⟩
  rintro _ _ ⟨rfl, d, rfl⟩
  have o3 : ∀ b, b < w2.heap.size -> ((turnW w2 0 most).alloc (.cells (madeCells #[.bool false] 0) 4)).heap[b]? = w2.heap[b]? := fun b hb => by
   rw [Ad _ _ (by simp [turnW]; omega)]
   exact Ad _ _ hb
  have s3 : w2.heap.size <= ((turnW w2 0 most).alloc (.cells (madeCells #[.bool false] 0) 4)).heap.size := by simp [turnW]; omega
  generalize (turnW w2 0 most).alloc (.cells (madeCells #[.bool false] 0) 4) = w3 at *
  have hT3 : (w3.at d).heap[w.heap.size]? = some (.cells #[.slice none 0 0, .slice none 0 0, .slice none 0 0, .bool false] 33) := (o3 _ (by omega)).trans ((o2 _ (by omega)).trans hT)
  refine Runs.walk (hB none 0 0 _ false _ hT3 (hA _)) ?_
  rintro _ _ ⟨rfl, d', rfl⟩
  have hset : ∀ b, b ≠ w.heap.size -> ((w3.at d).setRow w.heap.size #[.slice (some ⟨w.heap.size + 2, 0, none⟩) 0 0, .slice none 0 0, .slice none 0 0, .bool false]).heap[b]? = w3.heap[b]? := fun b hb => Ap _ _ hb
  have hold : ∀ b, b < w.heap.size -> ((w3.at d).setRow w.heap.size #[.slice (some ⟨w.heap.size + 2, 0, none⟩) 0 0, .slice none 0 0, .slice none 0 0, .bool false]).heap[b]? = w.heap[b]? := fun b hb => (hset b (by omega)).trans ((o3 b (by omega)).trans ((o2 b (by omega)).trans (o1 b hb)))
  have e1 : (Ca L s0 ops 0 most sl).2 = [] := by rw [Nu]
  have e2 : (Ca L s0 ops 0 most sl).1 = Qv L s0 := by rw [Nu]
  refine .now ⟨_, ⟨?_, fun b hb _ => hold b hb, ?_⟩, rfl⟩
  ·rw [e1, e2]
   refine ⟨y0, w.heap.size + 2, none, 0, fun _ => .slice none 0 0, fun _ _ => False, ⟨rfl, ⟨rfl, .inl ⟨rfl, rfl⟩⟩, by omega, ⟨madeCells #[.slice none 0 0] 0, (hset _ (by omega)).trans ((o3 _ (by omega)).trans hN), Fp _ _, fun i hi => absurd hi (Nat.not_lt_zero _)⟩, fun i hi => absurd hi (Nat.not_lt_zero _), fun _ _ _ h => h.elim, fun _ _ h => h.elim, fun _ _ h => h.elim, fun b h => ⟨?_, fun e => (by cases e)⟩, fun e => (by cases e), L.refl _, L.stable hI fun b h => hold b (L.lt hI h), fun b h _ => h⟩⟩
   have := L.lt hI h; omega
  ·show w.heap.size <= (World.setRow _ _ _).heap.size
   rw [Ay]
   show _ <= w3.heap.size
   omega
 ·obtain rfl := hta h1
  exact ops_run hD y0 s0 tv most tb toff tc n h1 hn oa ln oc ops sa sc sl hsl c cs w I hI hns hsc hp
end
noncomputable def reg52_0 := rk f52.body 0
noncomputable def reg52_1 := rk f52.body 1
noncomputable def reg52_2 := rk f52.body 2
noncomputable def reg52_3 := rk f52.body 3
noncomputable def reg52_4 := rk f52.body 4
theorem z52 : reg52_0.size = 1 /\ reg52_1.size = 3 /\ reg52_2.size = 8 /\ reg52_3.size = 4 /\ reg52_4.size = 2 := by and_intros <;> kernel_rfl
theorem code52_is : f52.body = some (.seq (.region 0 reg52_0 false) (.seq (.region 1 reg52_1 false) (.seq (.region 2 reg52_2 false) (.seq (.region 3 reg52_3 false) (.seq (.region 4 reg52_4 false) (.ret)))))) := by kernel_rfl
def RPBack (T0 rb sb n : Nat) (fr c : Frame) (cs : List Frame) : Prop := ∀ (A na : Nat) (oo : Option Addr) (ol ok : Nat) (stuck : Bool) (s : Rg) (w : World), rb ≠ T0 -> sb ≠ T0 -> RgI rb sb n s w -> w.heap[T0]? = some (.cells #[.slice none 0 0, .slice none 0 0, .slice none 0 0, .bool false] 33) ->
 Walk prog true (DR (fun _ => none)) (fun g w' => ∃ B bc, g = G (c.finish (.agg #[.slice (some ⟨A, 0, none⟩) na na, .slice oo ol ok, .slice (some ⟨B, 0, none⟩) (n + n) bc, .bool stuck])) cs /\ w'.ownsRow w.heap.size 2 1 (.slice (some ⟨B, 0, none⟩) (n + n) bc) (n + n) ((It n s).map fun z => .int .i64 z) /\ (∀ b, b < w.heap.size -> b ≠ T0 -> w'.heap[b]? = w.heap[b]?) /\ w.heap.size <= w'.heap.size)
  (G (fr.finish (.agg #[.slice (some ⟨A, 0, none⟩) na na, .slice oo ol ok, .slice none 0 0, .bool stuck])) (c :: cs)) w
theorem splay_in (sl : Value) (xs : List Int) (hxn : xs.length <= 17592186044416) (tv sv : Value) (most : Int) (c : Frame) (cs : List Frame) (w : World) (hx : LsR sl xs w) (hr : Qx xs) :
  Walk prog true (DR (fun _ => none)) (fun g w' => ∃ fr, g = G (Frame.enter prog 76 #[tv, .func (.func 109) #[.pointer (some ⟨w.heap.size + 2, 0, none⟩)] #[], sv, .int .i64 most] .normal) (fr :: c :: cs) /\ RgI (w.heap.size + 2) (w.heap.size + 1) (Lv xs) (r0R xs) w' /\ (∀ b, b < w.heap.size -> w'.heap[b]? = w.heap[b]?) /\ w.heap.size + 1 <= w'.heap.size /\
    w'.heap[w.heap.size]? = some (.cells #[.slice none 0 0, .slice none 0 0, .slice none 0 0, .bool false] 33) /\ RPBack w.heap.size (w.heap.size + 2) (w.heap.size + 1) (Lv xs) fr c cs)
   (G (Frame.enter prog 52 #[sl, tv, sv, .int .i64 most] .normal) (c :: cs)) w := by
 have hA : ∀ b, Az (fun _ => none) b := fun b => ⟨fun _ _ _ _ h => (by cases h), fun _ _ h => (by cases h)⟩
 obtain ⟨fsT, huT⟩ := Ci 33 (by kernel_rfl)
 rw [enter_at _ func52 code52_is]
 simp only [ntmps52, ez, Nat.reduceAdd, Nat.reduceSub]
 refine Aa z52 ?_
 (refine Wa ?_; try walk_nrm)
 have s1 : (w.alloc (.cells #[.slice none 0 0, .slice none 0 0, .slice none 0 0, .bool false] 33)).heap.size = w.heap.size + 1 := by simp
 have o1 : ∀ b, b < w.heap.size -> (w.alloc (.cells #[.slice none 0 0, .slice none 0 0, .slice none 0 0, .bool false] 33)).heap[b]? = w.heap[b]? := fun b hb => Ad _ _ hb
 have d1 := hAw w (.cells #[.slice none 0 0, .slice none 0 0, .slice none 0 0, .bool false] 33)
 generalize hN : w.heap.size = T0 at *
 generalize w.alloc (.cells #[.slice none 0 0, .slice none 0 0, .slice none 0 0, .bool false] 33) = w1 at *
 refine Aa z52 ?_
 have hx1 : LsR sl xs w1 := hx.same (fun b hb => o1 b (by omega))
 obtain ⟨xa, xc, rfl, hxr⟩ := hx
 clear hxr
 refine qW (Post := fun v w' => v = .pointer (some ⟨w1.heap.size + 1, 0, none⟩) /\ RgI (w1.heap.size + 1) w1.heap.size (Lv xs) (r0R xs) w' /\ (∀ b, b < w1.heap.size -> w'.heap[b]? = w1.heap[b]?) /\ w1.heap.size <= w'.heap.size) func108 ?_ ?_
 ·walk_nrm
  exact newRing_w hA xa xs xc hr hxn w1 hx1
 rintro v w2 ⟨rfl, hI, hO, hS⟩
 rw [s1] at hI hO hS ⊢
 have hk15 := hI.pos
 generalize r0R xs = s0 at *
 generalize Lv xs = n at *
 clear hx1
 walk_nrm
 refine Aa z52 ?_
 refine Walk.callE Ah (by rfl) (by decide) rfl func76 (by kernel_rfl) (by rfl) ?_
 walk_nrm
 refine .stop fun d => ⟨_, rfl, ⟨hI.hd, hI.sl, hI.pos⟩, fun b hb => (hO b (by omega)).trans (o1 b (by omega)), show T0 + 1 <= w2.heap.size by omega, (hO T0 (by omega)).trans d1, ?_⟩
 intro A na oo ol ok stuck s w4 hne hne2 I4 hT
 refine Walk.finish Ah ?_
 walk_nrm
 (refine Wa ?_; try walk_nrm)
 have d5 := hAw w4 (.cells #[.slice none 0 0, .slice none 0 0, .slice none 0 0, .bool false] 33)
 have s5 : (w4.alloc (.cells #[.slice none 0 0, .slice none 0 0, .slice none 0 0, .bool false] 33)).heap.size = w4.heap.size + 1 := by simp
 have o5 : ∀ b, b < w4.heap.size -> (w4.alloc (.cells #[.slice none 0 0, .slice none 0 0, .slice none 0 0, .bool false] 33)).heap[b]? = w4.heap[b]? := fun b hb => Ad _ _ hb
 have hT0 : T0 < w4.heap.size := (aEs hT).1
 generalize hT1 : w4.heap.size = T1 at *
 generalize w4.alloc (.cells #[.slice none 0 0, .slice none 0 0, .slice none 0 0, .bool false] 33) = w5 at *
 refine Am 33 (.tmp 10) (.tmp 18) Ah (by rfl) (by decide) rfl T1 #[.slice (some ⟨A, 0, none⟩) na na, .slice oo ol ok, .slice none 0 0, .bool stuck] _ 33 rfl rfl d5 (by kernel_rfl) (by rfl) (by simp [Value.oneCell']) (hA _) ?_
 have d6 := Ba (cells := #[.slice (some ⟨A, 0, none⟩) na na, .slice oo ol ok, .slice none 0 0, .bool stuck]) d5
 have o6 : ∀ b, b < T1 -> (w5.setRow T1 #[.slice (some ⟨A, 0, none⟩) na na, .slice oo ol ok, .slice none 0 0, .bool stuck]).heap[b]? = w4.heap[b]? := fun b hb => (Ap _ _ (by omega)).trans (o5 b (by omega))
 have s6 := Ay w5 T1 #[.slice (some ⟨A, 0, none⟩) na na, .slice oo ol ok, .slice none 0 0, .bool stuck]
 rw [s5] at s6
 generalize w5.setRow T1 #[.slice (some ⟨A, 0, none⟩) na na, .slice oo ol ok, .slice none 0 0, .bool stuck] = w6 at *
 have hlt4 := I4.lt
 rw [hT1] at hlt4
 have I6 : RgI (T0 + 1 + 1) (T0 + 1) n s w6 := I4.old (o6 _ hlt4.1) (o6 _ hlt4.2)
 walk_nrm
 refine Aa z52 ?_
 refine qW (Post := StR n s w6) func110 ?_ ?_
 ·walk_nrm
  exact rstate_w w6 I6 (fun b _ => hA b)
 rintro v w7 ⟨B, bc, rfl, hrow, hold7, hs7⟩
 have hrB := hrow.lt B rfl
 have d7 := (hold7 T1 (by omega)).trans d6
 have c7 := (Ab d7 2).trans rfl
 have z7 := Av d7 2
 walk_nrm
 repeat (first | (refine Wq ?_; try walk_nrm) | (refine Bh ?_; walk_nrm))
 (have hfr := (hA T1).1 ⟨T1, 2, none⟩ rfl; refine Ws hfr c7 ?_; clear hfr; try walk_nrm)
 have d8 : (w7.setCell ⟨T1, 2, none⟩ (.slice (some ⟨B, 0, none⟩) (n + n) bc)).heap[T1]? = some (.cells #[.slice (some ⟨A, 0, none⟩) na na, .slice oo ol ok, .slice (some ⟨B, 0, none⟩) (n + n) bc, .bool stuck] 33) := by
  rw [Ao _ _ d7]
  simp
 have o8 : ∀ b, b ≠ T1 -> (w7.setCell ⟨T1, 2, none⟩ (.slice (some ⟨B, 0, none⟩) (n + n) bc)).heap[b]? = w7.heap[b]? := fun b hb => Ac _ _ _ _ hb
 have s8 := Ai w7 ⟨T1, 2, none⟩ (.slice (some ⟨B, 0, none⟩) (n + n) bc)
 clear c7 z7
 generalize w7.setCell ⟨T1, 2, none⟩ (.slice (some ⟨B, 0, none⟩) (n + n) bc) = w8 at *
 refine Aa z52 ?_
 refine Walk.loadS 33 (.tmp 10) Ah (by rfl) (by decide) rfl T1 0 [.slice (some ⟨A, 0, none⟩) na na, .slice oo ol ok, .slice (some ⟨B, 0, none⟩) (n + n) bc, .bool stuck] (.struct fsT) rfl (fun j v hj => ?_) huT rfl (by kernel_rfl) ?_
 ·rw [Nat.zero_add, Ab d8]
  simpa using hj
 have dT : w8.heap[T0]? = some (.cells #[.slice none 0 0, .slice none 0 0, .slice none 0 0, .bool false] 33) := (o8 T0 (by omega)).trans ((hold7 T0 (by omega)).trans ((o6 T0 (by omega)).trans hT))
 walk_nrm
 refine Am 33 (.tmp 8) (.tmp 22) Ah (by rfl) (by decide) rfl T0 #[.slice (some ⟨A, 0, none⟩) na na, .slice oo ol ok, .slice (some ⟨B, 0, none⟩) (n + n) bc, .bool stuck] _ 33 rfl rfl dT (by kernel_rfl) (by rfl) (by simp [Value.oneCell']) (hA _) ?_
 have d9 := Ba (cells := #[.slice (some ⟨A, 0, none⟩) na na, .slice oo ol ok, .slice (some ⟨B, 0, none⟩) (n + n) bc, .bool stuck]) dT
 walk_nrm
 refine Aa z52 ?_
 refine Bv (T := T0) rfl rfl rfl func52 rfl (by rfl) d9 (by kernel_rfl) (by kernel_rfl) (.stop fun d => ⟨B, bc, rfl, ?_, fun b hb hbT => ?_, ?_⟩)
 ·refine As (Lc hrow fun g hg => ?_) fun g hg => (Ap _ _ ?_).trans (o8 g ?_)
  all_goals (have hg : B = g := Option.some.inj hg; omega)
 ·exact (Ap _ _ hbT).trans ((o8 b (by omega)).trans ((hold7 b (by omega)).trans (o6 b hb)))
 ·show T1 <= (w8.setRow _ _).heap.size
  rw [Ay]
  omega
structure TrO (base : Nat) (cells : Array Value) (n : Nat) (F : Nat -> List Ans) (ord : List Nat) (sts : List Int) (k : Bool) (w : World) : Prop where
 all : ∃ (A : Nat) (oo : Option Addr) (ok : Nat) (sv : Value) (hd : Nat -> Value) (own : Nat -> Nat -> Prop), cells = Pc (.slice (some ⟨A, 0, none⟩) n n) (.slice oo ord.length ok) sv k /\ base <= A /\
  w.ownsRow base 3 1 (.slice oo ord.length ok) ord.length (ord.map fun i => .int .i64 (i : Nat)) /\ w.ownsRow base 2 1 sv sts.length (sts.map fun z => .int .i64 z) /\
  (∃ arr : Array Value, w.heap[A]? = some (.cells arr 40) /\ arr.size = n /\ ∀ i, i < n -> arr[i]? = some (hd i)) /\ (∀ i, i < n -> RowA base (own i) (hd i) (F i) w) /\ (∀ i j b, own i b -> own j b -> i = j) /\
  (∀ i b, own i b -> b ≠ A /\ (Value.slice oo ord.length ok).ownBlock ≠ some b /\ sv.ownBlock ≠ some b) /\ (Value.slice oo ord.length ok).ownBlock ≠ some A /\ sv.ownBlock ≠ some A /\ ∀ b, (Value.slice oo ord.length ok).ownBlock = some b -> sv.ownBlock ≠ some b
theorem TrO.tr {base : Nat} {cells : Array Value} {n : Nat} {F : Nat -> List Ans} {ord : List Nat} {sts : List Int} {k : Bool} {w : World} (h : TrO base cells n F ord sts k w) : TrA cells n F ord sts k w := by
 obtain ⟨A, oo, ok, sv, hd, own, e, hA, hord, hst, ⟨arr, h1, h2, h3⟩, hrows, _⟩ := h.all
 obtain ⟨sa, sc, rfl⟩ : ∃ sa sc, sv = .slice sa sts.length sc := by
  rcases hst.2 with ⟨e, e0⟩ | ⟨g, cap, cur, e, _⟩
  ·exact ⟨none, 0, by rw [e, e0]⟩
  ·exact ⟨_, _, e⟩
 refine ⟨⟨some ⟨A, 0, none⟩, n, oo, ok, sa, sc, e, ?_, Ix hst, fun i hi => ?_⟩⟩
 ·refine Ix (base := base) (e := 3) (m := ord.length) (tc := ok) ?_
  have : ((ord.map fun i => ((i : Nat) : Int)).map (Value.int .i64)) = (ord.map fun i => .int .i64 (i : Nat)) := by simp
  rw [this]
  exact hord
 ·obtain ⟨ta, tc, e, hans⟩ := ansA_of (hrows i hi)
  refine ⟨A, 0, ta, tc, rfl, ?_, hans⟩
  rw [Nat.zero_add, <- e]
  exact (Ab h1 i).trans (h3 i hi)
structure SPAny (n : Nat) (L : La) (stx : L.Sg -> List Int) (F : OX L × List Nat) (w w' : World) (cells : Array Value) : Prop where
 tr : TrO w.heap.size cells n (fun i => (F.1.th i).ans) F.2 (stx F.1.s) (Du n F.1) w'
 old : ∀ b, b < w.heap.size -> w'.heap[b]? = w.heap[b]?
 size : w.heap.size <= w'.heap.size
theorem Pr {w : World} {base base' : Nat} {e : TypeId} {size : Nat} {v : Value} {n : Nat} {xs : List Value} (h : w.ownsRow base e size v n xs) (hb : base' <= base) : w.ownsRow base' e size v n xs :=
 ⟨h.1, h.2.imp id fun ⟨g, cap, cur, h1, h2, h3⟩ => ⟨g, cap, cur, h1, Nat.le_trans hb h2, h3⟩⟩
theorem splay_any (xsl : Value) (xs : List Int) (hxn : xs.length <= 17592186044416) (tv : Value) (most : Int) (ta : Option Addr) (tb toff tc n : Nat) (hta : 0 < n -> ta = some ⟨tb, toff, none⟩) (hn : n <= 64) (oa : Nat -> Option Addr) (ln oc : Nat -> Nat) (ops : Nat -> List OpV) (sa : Option Addr) (sc : Nat) (sl : List Int) (hsl : sl.length <= 17592186044416) (c : Frame) (cs : List Frame) (w : World) (hx : LsR xsl xs w) (hr : Qx xs)
  (I : OpsIn tb toff n oa ln oc ops w)
  (hsc : ∀ (j : Nat) (z : Int), sl[j]? = some z -> ∃ s so, sa = some ⟨s, so, none⟩ /\ w.cell? ⟨s, so + j, none⟩ = some (.int .i64 z))
  (hp : ∀ w' : World, (∀ b, b < w.heap.size -> w'.heap[b]? = w.heap[b]?) -> Aw prog true (fun _ => none) 164 #[tv] w' (.slice ta n tc) w') :
  Runs (fun g w' => ∃ cells, SPAny n (Br (w.heap.size + 2) (w.heap.size + 1) (Lv xs)) (It (Lv xs)) (Ca (Br (w.heap.size + 2) (w.heap.size + 1) (Lv xs)) (r0R xs) ops n most sl) w w' cells /\ g = G (c.finish (.agg cells)) cs) (G (Frame.enter prog 52 #[xsl, tv, .slice sa sl.length sc, .int .i64 most] .normal) (c :: cs)) w := by
 refine Runs.walk (splay_in xsl xs hxn tv (.slice sa sl.length sc) most c cs w hx hr) ?_
 rintro _ w1 ⟨fr, rfl, hI, hO, hS, hT, hB⟩
 have hc1 : ∀ {b j : Nat} {v : Value}, w.cell? ⟨b, j, none⟩ = some v -> w1.cell? ⟨b, j, none⟩ = some v := fun {b j v} e => (cBk (a := ⟨b, j, none⟩) (hO b (Al e))).trans e
 have hsh : ∀ b, b < w.heap.size -> ¬ (b = w.heap.size + 2 ∨ b = w.heap.size + 1) := fun b hb h => by omega
 have I1 : OpsIn tb toff n oa ln oc ops w1 := I.old hO
 refine Runs.then (ops_any (L := Br (w.heap.size + 2) (w.heap.size + 1) (Lv xs)) rdo_ok () (r0R xs) tv most ta tb toff tc n hta hn oa ln oc ops sa sc sl hsl fr (c :: cs) w1 I1 hI (fun i hi j o ho b off e => ?_) (fun j z hz => ?_) (fun w' hw' => hp w' fun b hb => (hw' b (by omega)).trans (hO b hb))) ?_
 ·obtain ⟨b', off', e', c0, _⟩ := I.ops i hi j o ho
  rw [e] at e'
  injection e' with e'
  injection e' with e' _
  subst e'
  exact hsh b (Al c0)
 ·obtain ⟨s, so, e, hc⟩ := hsc j z hz
  exact ⟨s, so, e, hc1 hc, hsh s (Al hc)⟩
 ·rintro _ w4 ⟨cells, H, rfl⟩
  obtain ⟨y, A, oo, ok, hd, own, O⟩ := H.all
  have hold := H.old
  have hsz := H.size
  generalize Ca (Br (w.heap.size + 2) (w.heap.size + 1) (Lv xs)) (r0R xs) ops n most sl = F at *
  obtain rfl := O.eq
  obtain ⟨arr, hAr, hAz, hAi⟩ := O.heads
  have hAl := O.Alo
  have hAlt : A < w4.heap.size := (aEs hAr).1
  have hT4 : w4.heap[w.heap.size]? = some (.cells #[.slice none 0 0, .slice none 0 0, .slice none 0 0, .bool false] 33) := (hold _ (by omega) (show ¬ (w.heap.size = w.heap.size + 2 ∨ w.heap.size = w.heap.size + 1) by omega)).trans hT
  refine Runs.walk (hB A n oo _ ok _ _ w4 (by omega) (by omega) O.I hT4) ?_
  rintro _ w5 ⟨B, bc, rfl, hrow, hold5, hsz5⟩
  have hown : ∀ i b, i < n -> own i b -> (∃ b', b' = b /\ w1.heap.size <= b' /\ b' < w4.heap.size) -> w5.heap[b]? = w4.heap[b]? := fun i b _ _ ⟨b', e, h1, h2⟩ => by
   subst e
   exact hold5 b' h2 (by omega)
  have hrowlt : ∀ (v : Value) (e : TypeId) (sz m : Nat) (ys : List Value), w4.ownsRow w1.heap.size e sz v m ys -> w5.ownsRow w.heap.size e sz v m ys := fun v e sz m ys h => Pr (As h fun b hb => hold5 b (h.lt b hb).2 (by have := (h.lt b hb).1; omega)) (by omega)
  have hBb := fun b (h : (Value.slice (some (⟨B, 0, none⟩ : Addr)) (Lv xs + Lv xs) bc).ownBlock = some b) => (hrow.lt b h).1
  refine .now ⟨_, ⟨⟨A, oo, ok, .slice (some ⟨B, 0, none⟩) (Lv xs + Lv xs) bc, hd, fun i b => own i b /\ w1.heap.size <= b /\ b < w4.heap.size, rfl, by omega, hrowlt _ _ _ _ _ O.orow, ?_, ⟨arr, (hold5 A hAlt (by omega)).trans hAr, hAz, hAi⟩, fun i hi => ?_, fun i j b h1 h2 => O.one i j b h1.1 h2.1, fun i b h => ⟨(O.ownA i b h.1).1, O.ownO i b h.1, fun e => ?_⟩, O.Aord, fun e => ?_, fun b h e => ?_⟩, fun b hb => ?_, by omega⟩, rfl⟩
  ·rw [show (It (Lv xs) F.1.s).length = Lv xs + Lv xs from Mo _ _]
   exact Pr hrow (by omega)
  ·obtain ⟨ta2, tc2, z, hz1, hz2, hz3, hz4, hz5⟩ := O.rows i hi
   refine ⟨ta2, tc2, z, hz1, hz2, hrowlt _ _ _ _ _ hz3, fun b hb => ⟨hz4 b hb, hz3.lt b hb⟩, fun p hp' => ?_⟩
   obtain ⟨la, lc, e, hlen, hl⟩ := hz5 p hp'
   exact ⟨la, lc, e, hlen, fun hne => ⟨hrowlt _ _ _ _ _ (hl hne).1, fun b hb => ⟨(hl hne).2 b hb, (hl hne).1.lt b hb⟩⟩⟩
  ·have := hBb b e; omega
  ·have := hBb A e; omega
  ·have := hBb b e; have := (O.orow.lt b h).2; omega
  ·exact (hold5 b (by omega) (by omega)).trans ((hold b (by omega) (hsh b hb)).trans (hO b hb))
def CallP (main : Bool) (V : Nat -> Option Wait) (f : FuncId) (args : Array Value) (w : World) (Post : Value -> World -> Prop) : Prop :=
 ∀ (c : Frame) (cs : List Frame), Cf c -> Walk prog main (DR V) (fun g w' => ∃ v, Post v w' /\ g = G (c.finish v) cs) (G (Frame.enter prog f args .normal) (c :: cs)) w
section
variable {main : Bool} {V : Nat -> Option Wait} {Stop : Goroutine -> World -> Prop} {w : World} {b : Frame} {a : Act} {k : List Item} {cs : List Frame} {ops : Array Oper} {i : Nat} {rest : List Nat} {o : Oper}
theorem CallP.mono {f : FuncId} {args : Array Value} {Post Post' : Value -> World -> Prop} (h : CallP main V f args w Post) (hP : ∀ v w', Post v w' -> Post' v w') : CallP main V f args w Post' :=
 fun c cs hp => (h c cs hp).mono fun g w' ⟨v, hv, e⟩ => ⟨v, hP v w' hv, e⟩
theorem Cq {f : FuncId} {fn : Func} {args : Array Operand} {ats : Array TypeId} {Post : Value -> World -> Prop} (hc : CallP main V f (args.map a.eval) w Post) (ho : ops[i]? = some o) (hw : Region.wanted o (yielded ops a.tmps) = true) (hk : b.kind ≠ .early) (hop : o.op = .call { callee := .value (.func f), args, argTypes := ats })
  (hf : prog.funcs[f]? = some fn) (hname : (fn.name == "runtime.NumGoroutine") = false) (hb : fn.body.isNone = false) (hp : Cf (b.at a (.inRegion ops (i :: rest) :: k)))
  (h : ∀ v w', Post v w' -> Walk prog main (DR V) Stop (G (b.at (a.put o.dst v) (.inRegion ops rest :: k)) cs) w') : Walk prog main (DR V) Stop (G (b.at a (.inRegion ops (i :: rest) :: k)) cs) w := by
 refine Walk.callE ho hw hk hop hf hname hb ((hc _ cs hp).then ?_)
 rintro _ w' ⟨v, hv, rfl⟩
 rw [Frame.finish_at, ho]
 exact h v w' hv
theorem Fs {L : La} {f : FuncId} {args : Array Value} {Rel : Value -> Ans -> World -> (Nat -> Prop) -> Prop} {R : L.Sg × Ans} (N : Nat) (y0 : L.Gh) (s : L.Sg) (r0 : Ans ⊕ L.D) (hat : ∀ v x w' P d, Rel v x w' P -> Rel v x (w'.at d) P) (hA : ∀ b, Az V b) (hI : L.I y0 s w) (hrun : runN L N (s, r0) = some R)
  (hc : ∀ (K : Lg L .nilIface) (e : K.E), K.w e = w -> K.tgt e = (K.s e, r0) -> SCall K.toLb f args e (fun v e' => ∃ x, Rel v x (K.w e') (K.mine e') /\ K.tgt e' = (K.s e', .inl x))) :
  CallP main V f args w (fun v w' => ∃ y, Rel v R.2 w' (fun b => (w.heap.size <= b /\ b < w'.heap.size) /\ ¬ L.sh y b) /\ Lone L y0 w R w' y) := by
 intro c cs hp
 have key := hc (nilL (V := V) hA main (fun g w' => ∃ v, (∃ y, Rel v R.2 w' (fun b => (w.heap.size <= b /\ b < w'.heap.size) /\ ¬ L.sh y b) /\ Lone L y0 w R w' y) /\ g = G (c.finish v) cs) cs y0 w R) { w := w, y := y0, s := s, tgt := (s, r0), fuel := N, le := L.refl _, inv := hI, size := Nat.le_refl _, old := fun _ _ _ => rfl, pub := fun _ h _ => h, run := hrun } rfl rfl c [] hp (fun _ h => by cases h) ?_
 ·exact key
 ·rintro v e' ⟨x, hr, ht⟩
  have hrn := e'.run
  have ht : e'.tgt = (e'.s, .inl x) := ht
  rw [ht, Gl] at hrn
  have hR := Option.some.inj hrn
  have r1 : R.1 = e'.s := (congrArg Prod.fst hR).symm
  have r2 : R.2 = x := (congrArg Prod.snd hR).symm
  refine .stop fun d => ⟨v, ⟨e'.y, ?_, ⟨e'.le, ?_, e'.size, fun b h1 h2 => e'.old b h1 h2, e'.pub⟩⟩, rfl⟩
  ·rw [r2]
   exact hat _ _ _ _ d hr
  ·rw [r1]; exact L.stable e'.inv fun _ _ => rfl
end
structure SolR (rb sb n : Nat) (s : Rg) (w w' : World) : Prop where
 I : RgI rb sb n s w'
 old : ∀ b, b < w.heap.size -> b ≠ rb -> b ≠ sb -> w'.heap[b]? = w.heap[b]?
 size : w.heap.size <= w'.heap.size
section
variable {rb sb n : Nat}
theorem SolR.of {s : Rg} {a : Ans} {w w' : World} {y : (Br rb sb n).Gh} (h : Lone (Br rb sb n) () w (s, a) w' y) : SolR rb sb n s w w' := ⟨h.I, fun b hb h1 h2 => h.old b hb fun h => h.elim h1 h2, h.size⟩
theorem SolR.trans {s s' : Rg} {w w' w2 : World} (h : SolR rb sb n s w w') (k : SolR rb sb n s' w' w2) : SolR rb sb n s' w w2 :=
 ⟨k.I, fun b hb h1 h2 => (k.old b (Nat.lt_of_lt_of_le hb h.size) h1 h2).trans (h.old b hb h1 h2), Nat.le_trans h.size k.size⟩
theorem SolR.at {s : Rg} {w w' : World} (h : SolR rb sb n s w w') (d : Nat) : SolR rb sb n s w (w'.at d) := ⟨⟨h.I.hd, h.I.sl, h.I.pos⟩, h.old, h.size⟩
def getA (n : Nat) (s : Rg) (q : Int) : Ans := if good q then (if s.st (Bl n q) < Bx n q then ⟨false, 6, []⟩ else if Bx n q < s.st (Bl n q) then ⟨false, 10, []⟩ else ⟨true, s.va (Bl n q), []⟩) else ⟨false, 1, []⟩
def thA (n : Nat) (s : Rg) (q : Int) : Bool := if good q then decide (s.st (Bl n q) = Bx n q) else false
theorem run_get (s : Rg) (q : Int) : runN (Br rb sb n) 3 (s, if good q then .inr (.g1 q) else .inl ⟨false, 1, []⟩) = some (s, getA n s q) := by
 unfold getA
 by_cases h : good q
 ·rw [if_pos h, if_pos h]
  show runN (Br rb sb n) 2 (Bd n s (.g1 q)) = _
  unfold Bd
  dsimp only
  by_cases h1 : s.st (Bl n q) < Bx n q
  ·rw [if_pos h1, if_pos h1]; exact Gl _ _ _ _
  ·rw [if_neg h1, if_neg h1]
   by_cases h2 : Bx n q < s.st (Bl n q)
   ·rw [if_pos h2, if_pos h2]; exact Gl _ _ _ _
   ·rw [if_neg h2, if_neg h2]
    show runN (Br rb sb n) 0 (Bd n s (.g3 q (s.va (Bl n q)))) = _
    unfold Bd
    dsimp only
    rw [if_pos (by omega)]
    rfl
 ·rw [if_neg h, if_neg h]; exact Gl _ _ _ _
theorem run_th (s : Rg) (q : Int) : runN (Br rb sb n) 1 (s, if good q then .inr (.t q) else .inl ⟨false, 0, []⟩) = some (s, ⟨thA n s q, 0, []⟩) := by
 unfold thA
 by_cases h : good q
 ·rw [if_pos h, if_pos h]
  rfl
 ·rw [if_neg h, if_neg h]; exact Gl _ _ _ _
variable {main : Bool} {V : Nat -> Option Wait} {s : Rg} {w : World}
theorem rput_w (hA : ∀ b, Az V b) (I : RgI rb sb n s w) (q v : Int) (hq : good q) :
  CallP main V 53 #[.pointer (some ⟨rb, 0, none⟩), .nilIface, .int .i64 q, .int .i64 v] w (fun x w' => x = .int .i64 0 /\ SolR rb sb n (Hx n s q v) w w') :=
 (Fs (L := Br rb sb n) (Rel := fun x a _ _ => x = .int .i64 0) 3 () s _ (fun _ _ _ _ _ h => h) hA I (rgLay_run rb sb n s q v) (fun K e hw ht => (put_s K e q v hq ht).mono fun x e' ⟨h1, h2⟩ => ⟨⟨true, 0, []⟩, h1, h2⟩)).mono fun v w' ⟨y, h1, h2⟩ => ⟨h1, SolR.of h2⟩
theorem rget_w (hA : ∀ b, Az V b) (I : RgI rb sb n s w) (q : Int) :
  CallP main V 54 #[.pointer (some ⟨rb, 0, none⟩), .nilIface, .int .i64 q] w (fun x w' => ∃ a er, x = .tuple #[.int .i64 a, .int .i64 er] /\ getA n s q = ⟨er == 0, if er = 0 then a else er, []⟩ /\ SolR rb sb n s w w') :=
 (Fs (L := Br rb sb n) (Rel := fun x b _ _ => ∃ a er, x = .tuple #[.int .i64 a, .int .i64 er] /\ b = ⟨er == 0, if er = 0 then a else er, []⟩) 3 () s _ (fun _ _ _ _ _ h => h) hA I (run_get s q) (fun K e hw ht => (Qe K e q ht).mono fun x e' ⟨a, er, h1, h2⟩ => ⟨_, ⟨a, er, h1, rfl⟩, h2⟩)).mono fun v w' ⟨y, ⟨a, er, h1, h3⟩, h2⟩ => ⟨a, er, h1, h3, SolR.of h2⟩
theorem rthere_w (hA : ∀ b, Az V b) (I : RgI rb sb n s w) (q : Int) :
  CallP main V 56 #[.pointer (some ⟨rb, 0, none⟩), .nilIface, .int .i64 q] w (fun x w' => x = .bool (thA n s q) /\ SolR rb sb n s w w') :=
 (Fs (L := Br rb sb n) (Rel := fun x b _ _ => x = .bool b.ok) 1 () s _ (fun _ _ _ _ _ h => h) hA I (run_th s q) (fun K e hw ht => (Kx K e q ht).mono fun x e' ⟨b, h1, h2⟩ => ⟨_, h1, h2⟩)).mono fun v w' ⟨y, h1, h2⟩ => ⟨h1, SolR.of h2⟩
theorem rhigh_w (hA : ∀ b, Az V b) (I : RgI rb sb n s w) (a b : Int) (N : Nat) (S : Rg) (A : Ans) (hrun : runN (Br rb sb n) N (s, hiD n a b) = some (S, A)) :
  CallP main V 55 #[.pointer (some ⟨rb, 0, none⟩), .nilIface, .int .i64 a, .int .i64 b] w (fun x w' => x = .int .i64 A.n /\ SolR rb sb n S w w') :=
 (Fs (L := Br rb sb n) (Rel := fun x b _ _ => x = .int .i64 b.n) N () s _ (fun _ _ _ _ _ h => h) hA I hrun (fun K e hw ht => (Lm K e a b ht).mono fun x e' ⟨z, h1, h2⟩ => ⟨_, h1, h2⟩)).mono fun v w' ⟨y, h1, h2⟩ => ⟨h1, SolR.of h2⟩
end
theorem got_ok {a er z : Int} (h : (⟨true, z, []⟩ : Ans) = ⟨er == 0, if er = 0 then a else er, []⟩) : er = 0 /\ a = z := by
 injection h with h1 h2
 have : er = 0 := by simpa using h1.symm
 exact ⟨this, by rw [if_pos this] at h2; exact h2.symm⟩
theorem got_no {a er z : Int} (h : (⟨false, z, []⟩ : Ans) = ⟨er == 0, if er = 0 then a else er, []⟩) : er = z := by
 injection h with h1 h2
 have : ¬ er = 0 := by simpa using h1.symm
 rw [if_neg this] at h2
 exact h2.symm
def NoR (rv : Value) (w : World) : Prop := rv = .pointer none ∨ ∃ zb, rv = .pointer (some ⟨zb, 0, none⟩) /\ w.heap[zb]? = some (.cells #[.slice none 0 0] 122)
theorem NoR.old {rv : Value} {w w' : World} (h : NoR rv w) (hb : ∀ b, b < w.heap.size -> w'.heap[b]? = w.heap[b]?) : NoR rv w' := by
 rcases h with h | ⟨zb, h1, h2⟩
 ·exact .inl h
 ·exact .inr ⟨zb, h1, (hb zb (aEs h2).1).trans h2⟩
def Bg (l : List Int) : List Value := l.map (.int .i64)
theorem intRow_snoc (l : List Int) (x : Int) : Bg (l ++ [x]) = Bg l ++ [.int .i64 x] := by simp [Bg]
structure R11 where
 ov : Value
 ops : List OpV
 av : Value
 ans : List Ans
 who : Int
 at' : Nat
 pc : Int
 q : Int
 x : Int
 v : Int
 sv : Value
 seen : List Int
 live : Prop
 ownA : Nat -> Prop
def R11.cells (t : R11) : List Value := [t.ov, t.av, .int .i64 t.who, .int .i64 t.at', .int .i64 t.pc, .int .i64 t.q, .int .i64 t.x, .int .i64 t.v, t.sv]
def R11.own (t : R11) (b : Nat) : Prop := t.ownA b ∨ (t.live /\ t.sv.ownBlock = some b)
def OpsAt (a0 : Nat) (ov : Value) (l : List OpV) (w : World) : Prop := ∃ oa oc, ov = .slice oa l.length oc /\ ∀ (k : Nat) (o : OpV), l[k]? = some o -> ∃ b off, oa = some ⟨b, off, none⟩ /\ b < a0 /\ b < w.heap.size /\ -9223372036854775808 <= o.a /\ ∀ (j : Nat) (v : Value), ([.int .i64 o.k, .int .i64 o.a, .int .i64 o.b, .int .i64 o.c] : List Value)[j]? = some v -> w.cell? ⟨b, off + k * 4 + j, none⟩ = some v
theorem OpsAt.same {a0 : Nat} {ov : Value} {l : List OpV} {w w' : World} (h : OpsAt a0 ov l w) (hO : ∀ b, b < a0 -> b < w.heap.size -> w'.heap[b]? = w.heap[b]?) : OpsAt a0 ov l w' := by
 obtain ⟨oa, oc, e, h⟩ := h
 refine ⟨oa, oc, e, fun k o ho => ?_⟩
 obtain ⟨b, off, e, h1, h2, h4, h3⟩ := h k o ho
 have hb := hO b h1 h2
 refine ⟨b, off, e, h1, ?_, h4, fun j v hv => (cBk (a := ⟨b, off + k * 4 + j, none⟩) hb).trans (h3 j v hv)⟩
 have := h3 0 _ rfl
 exact Al ((cBk (a := ⟨b, off + k * 4 + 0, none⟩) hb).trans this)
structure R11.Rows (t : R11) (a0 : Nat) (w : World) : Prop where
 rO : OpsAt a0 t.ov t.ops w
 rA : RowA a0 t.ownA t.av t.ans w
 rS : t.live -> w.ownsRow a0 2 1 t.sv t.seen.length (Bg t.seen)
 ne : t.live -> ∀ b, t.sv.ownBlock = some b -> ¬ t.ownA b
 lo : ∀ b, t.ownA b -> a0 <= b /\ b < w.heap.size
theorem lt_same {w w' : World} {b : Nat} (h : b < w.heap.size) (e : w'.heap[b]? = w.heap[b]?) : b < w'.heap.size := by
 rw [Array.getElem?_eq_getElem h] at e
 exact (aEs e).1
theorem R11.Rows.same {t : R11} {a0 : Nat} {w w' : World} (h : t.Rows a0 w) (hO : ∀ b, b < a0 -> b < w.heap.size -> w'.heap[b]? = w.heap[b]?) (hR : ∀ b, t.own b -> w'.heap[b]? = w.heap[b]?) : t.Rows a0 w' :=
 ⟨h.rO.same hO, h.rA.same fun b hb => hR b (.inl hb), fun hl => As (h.rS hl) fun b hb => hR b (.inr ⟨hl, hb⟩), h.ne, fun b hb => ⟨(h.lo b hb).1, lt_same (h.lo b hb).2 (hR b (.inl hb))⟩⟩
theorem R11.Rows.low {t : R11} {a0 : Nat} {w : World} (h : t.Rows a0 w) {b : Nat} (hb : t.own b) : a0 <= b /\ b < w.heap.size := by
 rcases hb with hb | ⟨hl, hb⟩
 ·exact h.lo b hb
 ·exact (h.rS hl).lt b hb
structure CB where
 sg : Nat
 sc : Nat
 vg : Nat
 vc : Nat
def CB.sa (cb : CB) (m : Nat) : Option Addr := if 0 < m then some ⟨cb.sg, 0, none⟩ else none
def CB.va (cb : CB) (m : Nat) : Option Addr := if 0 < m then some ⟨cb.vg, 0, none⟩ else none
def cI (m : Nat) (cb : CB) (b : Nat) : Prop := 0 < m /\ (b = cb.sg ∨ b = cb.vg)
structure M11 (a0 M : Nat) (cb : CB) (tb tc n m : Nat) (ta : Option Addr) (S : Rg) (T : Nat -> R11) (w : World) : Prop where
 hd : w.heap[M]? = some (.cells #[.int .i64 m, .slice (cb.sa m) m cb.sc, .slice (cb.va m) m cb.vc, .slice ta n tc, .int .i64 0] 188)
 cs : 0 < m -> (∃ arr : Array Value, w.heap[cb.sg]? = some (.cells arr 2) /\ ∀ i, i < m -> arr[i]? = some (.int .i64 (S.st i))) /\ ∃ arr : Array Value, w.heap[cb.vg]? = some (.cells arr 2) /\ ∀ i, i < m -> arr[i]? = some (.int .i64 (S.va i))
 ts : 0 < n -> ta = some ⟨tb, 0, none⟩ /\ ∃ arr : Array Value, w.heap[tb]? = some (.cells arr 190) /\ arr.size = tc * 9 /\ n <= tc /\ tc <= maxLen /\ ∀ i, i < n -> ∀ (j : Nat) (v : Value), (T i).cells[j]? = some v -> arr[i * 9 + j]? = some v
 rows : ∀ i, i < n -> (T i).Rows a0 w
 far : ∀ i, i < n -> ∀ b, (T i).own b -> b ≠ M /\ ¬ cI m cb b /\ b ≠ tb /\ ∀ k, k < n -> k ≠ i -> ¬ (T k).own b
 base : a0 <= M /\ (0 < m -> a0 <= cb.sg /\ a0 <= cb.vg) /\ (0 < m -> M ≠ cb.sg /\ M ≠ cb.vg /\ cb.sg ≠ cb.vg) /\ (0 < n -> a0 <= tb /\ M ≠ tb /\ ¬ cI m cb tb)
section
variable {a0 M tb tc n m : Nat} {cb : CB} {ta : Option Addr} {S : Rg} {T : Nat -> R11} {w w' : World}
theorem M11.lt (I : M11 a0 M cb tb tc n m ta S T w) : M < w.heap.size /\ (∀ b, cI m cb b -> b < w.heap.size) /\ (0 < n -> tb < w.heap.size) := by
 refine ⟨(aEs I.hd).1, fun b hb => ?_, fun hn => ?_⟩
 ·obtain ⟨⟨a1, h1, _⟩, a2, h2, _⟩ := I.cs hb.1
  rcases hb.2 with rfl | rfl
  ·exact (aEs h1).1
  ·exact (aEs h2).1
 ·obtain ⟨_, arr, h2, _⟩ := I.ts hn
  exact (aEs h2).1
theorem M11.cNe (I : M11 a0 M cb tb tc n m ta S T w) {b : Nat} (hb : cI m cb b) : b ≠ M := by
 obtain ⟨b1, b2, b3, b4⟩ := I.base
 obtain ⟨e1, e2, e3⟩ := b3 hb.1
 rcases hb.2 with rfl | rfl
 ·exact Ne.symm e1
 ·exact Ne.symm e2
theorem M11.cLo (I : M11 a0 M cb tb tc n m ta S T w) {b : Nat} (hb : cI m cb b) : a0 <= b := by
 obtain ⟨b1, b2, b3, b4⟩ := I.base
 rcases hb.2 with rfl | rfl
 ·exact (b2 hb.1).1
 ·exact (b2 hb.1).2
theorem Mx {S : Rg} {cb : CB} {m : Nat} {w w' : World} (h : 0 < m -> (∃ arr : Array Value, w.heap[cb.sg]? = some (.cells arr 2) /\ ∀ i, i < m -> arr[i]? = some (.int .i64 (S.st i))) /\ ∃ arr : Array Value, w.heap[cb.vg]? = some (.cells arr 2) /\ ∀ i, i < m -> arr[i]? = some (.int .i64 (S.va i))) (ho : ∀ b, cI m cb b -> w'.heap[b]? = w.heap[b]?) :
  0 < m -> (∃ arr : Array Value, w'.heap[cb.sg]? = some (.cells arr 2) /\ ∀ i, i < m -> arr[i]? = some (.int .i64 (S.st i))) /\ ∃ arr : Array Value, w'.heap[cb.vg]? = some (.cells arr 2) /\ ∀ i, i < m -> arr[i]? = some (.int .i64 (S.va i)) := fun hm => by
 obtain ⟨⟨a1, h1, k1⟩, a2, h2, k2⟩ := h hm
 exact ⟨⟨a1, (ho _ ⟨hm, .inl rfl⟩).trans h1, k1⟩, a2, (ho _ ⟨hm, .inr rfl⟩).trans h2, k2⟩
theorem M11.same (I : M11 a0 M cb tb tc n m ta S T w) (h : ∀ b, b < w.heap.size -> w'.heap[b]? = w.heap[b]?) : M11 a0 M cb tb tc n m ta S T w' := by
 obtain ⟨l1, l2, l3⟩ := I.lt
 refine ⟨(h M l1).trans I.hd, Mx I.cs fun b hb => h b (l2 b hb), fun hn => ?_, fun i hi => ?_, I.far, I.base⟩
 ·obtain ⟨e, arr, h1, h2⟩ := I.ts hn
  exact ⟨e, arr, (h tb (l3 hn)).trans h1, h2⟩
 ·have R := I.rows i hi
  exact R.same (fun b _ hb => h b hb) fun b hb => h b (R.low hb).2
theorem M11.tcell (I : M11 a0 M cb tb tc n m ta S T w) {i : Nat} (hi : i < n) {j : Nat} {v : Value} (h : (T i).cells[j]? = some v) : w.cell? ⟨tb, i * 9 + j, none⟩ = some v := by
 obtain ⟨_, arr, h1, _, _, _, h2⟩ := I.ts (by omega)
 exact (Ab h1 _).trans (h2 i hi j v h)
theorem M11.tfrz (I : M11 a0 M cb tb tc n m ta S T w) {i : Nat} (hi : i < n) (q : Nat) : w.frozen? ⟨tb, q, none⟩ = false := by
 obtain ⟨_, arr, h1, _⟩ := I.ts (by omega)
 exact Av h1 q
theorem M11.cZ (I : M11 a0 M cb tb tc n m ta S T w) : w.cell? ⟨M, 0, none⟩ = some (.int .i64 m) := (Ab I.hd 0).trans rfl
theorem M11.cS (I : M11 a0 M cb tb tc n m ta S T w) (hm : 0 < m) : w.cell? ⟨M, 1, none⟩ = some (.slice (some ⟨cb.sg, 0, none⟩) m cb.sc) := by
 have h := (Ab I.hd 1).trans rfl
 rw [CB.sa, if_pos hm] at h
 exact h
theorem M11.cV (I : M11 a0 M cb tb tc n m ta S T w) (hm : 0 < m) : w.cell? ⟨M, 2, none⟩ = some (.slice (some ⟨cb.vg, 0, none⟩) m cb.vc) := by
 have h := (Ab I.hd 2).trans rfl
 rw [CB.va, if_pos hm] at h
 exact h
theorem M11.cT (I : M11 a0 M cb tb tc n m ta S T w) (hn : 0 < n) : w.cell? ⟨M, 3, none⟩ = some (.slice (some ⟨tb, 0, none⟩) n tc) := by
 obtain ⟨rfl, _⟩ := I.ts hn
 exact (Ab I.hd 3).trans rfl
theorem M11.scell (I : M11 a0 M cb tb tc n m ta S T w) {i : Nat} (hi : i < m) : w.cell? ⟨cb.sg, i, none⟩ = some (.int .i64 (S.st i)) := by
 obtain ⟨⟨arr, h1, h2⟩, _⟩ := I.cs (by omega)
 exact (Ab h1 _).trans (h2 i hi)
theorem M11.sfrz (I : M11 a0 M cb tb tc n m ta S T w) (hm : 0 < m) (q : Nat) : w.frozen? ⟨cb.sg, q, none⟩ = false := by
 obtain ⟨⟨arr, h1, _⟩, _⟩ := I.cs hm
 exact Av h1 q
theorem M11.vcell (I : M11 a0 M cb tb tc n m ta S T w) {i : Nat} (hi : i < m) : w.cell? ⟨cb.vg, i, none⟩ = some (.int .i64 (S.va i)) := by
 obtain ⟨_, arr, h1, h2⟩ := I.cs (by omega)
 exact (Ab h1 _).trans (h2 i hi)
theorem M11.vfrz (I : M11 a0 M cb tb tc n m ta S T w) (hm : 0 < m) (q : Nat) : w.frozen? ⟨cb.vg, q, none⟩ = false := by
 obtain ⟨_, arr, h1, _⟩ := I.cs hm
 exact Av h1 q
theorem M11.putS (I : M11 a0 M cb tb tc n m ta S T w) {i : Nat} (hi : i < m) (x : Int) : M11 a0 M cb tb tc n m ta (Cj S i x) T (w.setCell ⟨cb.sg, i, none⟩ (.int .i64 x)) := by
 obtain ⟨b1, b2, b3, b4⟩ := I.base
 have hm : 0 < m := by omega
 obtain ⟨e1, e2, e3⟩ := b3 hm
 have hself : cI m cb cb.sg := ⟨hm, .inl rfl⟩
 have ho : ∀ b, b ≠ cb.sg -> (w.setCell ⟨cb.sg, i, none⟩ (.int .i64 x)).heap[b]? = w.heap[b]? := fun b hb => Ac _ _ _ _ hb
 have hlo := I.cLo hself
 refine ⟨(ho M e1).trans I.hd, fun hm => ?_, fun hn => ?_, fun k hk => ?_, I.far, I.base⟩
 ·obtain ⟨⟨a1, h1, k1⟩, a2, h2, k2⟩ := I.cs hm
  exact ⟨⟨_, Ao _ _ h1, fun k hk => (by
   show _ = some (Value.int .i64 (upd S.st i x k))
   by_cases e : k = i
   ·subst e
    rw [upd_same]
    exact Array.getElem?_setIfInBounds_self_of_lt (aEs (k1 k hk)).1
   ·rw [upd_ne _ _ e, aNe]
    exact k1 k hk)⟩, a2, (ho _ (Ne.symm e3)).trans h2, k2⟩
 ·obtain ⟨e, arr, h1, h2⟩ := I.ts hn
  exact ⟨e, arr, (ho tb (fun e => (b4 hn).2.2 (e ▸ hself))).trans h1, h2⟩
 ·have R := I.rows k hk
  exact R.same (fun b hb _ => ho b (by omega)) fun b hb => ho b (fun e => (I.far k hk b hb).2.1 (e ▸ hself))
theorem M11.putV (I : M11 a0 M cb tb tc n m ta S T w) {i : Nat} (hi : i < m) (x : Int) : M11 a0 M cb tb tc n m ta (Fa S i x) T (w.setCell ⟨cb.vg, i, none⟩ (.int .i64 x)) := by
 obtain ⟨b1, b2, b3, b4⟩ := I.base
 have hm : 0 < m := by omega
 obtain ⟨e1, e2, e3⟩ := b3 hm
 have hself : cI m cb cb.vg := ⟨hm, .inr rfl⟩
 have ho : ∀ b, b ≠ cb.vg -> (w.setCell ⟨cb.vg, i, none⟩ (.int .i64 x)).heap[b]? = w.heap[b]? := fun b hb => Ac _ _ _ _ hb
 have hlo := I.cLo hself
 refine ⟨(ho M e2).trans I.hd, fun hm => ?_, fun hn => ?_, fun k hk => ?_, I.far, I.base⟩
 ·obtain ⟨⟨a1, h1, k1⟩, a2, h2, k2⟩ := I.cs hm
  exact ⟨⟨a1, (ho _ e3).trans h1, k1⟩, _, Ao _ _ h2, fun k hk => (by
   show _ = some (Value.int .i64 (upd S.va i x k))
   by_cases e : k = i
   ·subst e
    rw [upd_same]
    exact Array.getElem?_setIfInBounds_self_of_lt (aEs (k2 k hk)).1
   ·rw [upd_ne _ _ e, aNe]
    exact k2 k hk)⟩
 ·obtain ⟨e, arr, h1, h2⟩ := I.ts hn
  exact ⟨e, arr, (ho tb (fun e => (b4 hn).2.2 (e ▸ hself))).trans h1, h2⟩
 ·have R := I.rows k hk
  exact R.same (fun b hb _ => ho b (by omega)) fun b hb => ho b (fun e => (I.far k hk b hb).2.1 (e ▸ hself))
theorem M11.put' (I : M11 a0 M cb tb tc n m ta S T w) {i : Nat} (hi : i < n) {j : Nat} {v : Value} {t : R11} (hc : t.cells = (T i).cells.set j v) (hj : j < 9) (w1 : World) (h1 : ∀ b, b < w.heap.size -> ¬ (T i).own b -> w1.heap[b]? = w.heap[b]?)
  (hr : t.Rows a0 w1) (hf : ∀ b, t.own b -> (T i).own b ∨ w.heap.size <= b) : M11 a0 M cb tb tc n m ta S (upd T i t) (w1.setCell ⟨tb, i * 9 + j, none⟩ v) := by
 obtain ⟨b1, b2, b3, b4⟩ := I.base
 obtain ⟨b5, b6, b7⟩ := b4 (by omega)
 obtain ⟨l1, l2, l3⟩ := I.lt
 have l3 := l3 (by omega)
 have hns : ∀ {b}, b = M ∨ cI m cb b ∨ b = tb -> ¬ (T i).own b := fun hb ho => by
  obtain ⟨e1, e2, e3, _⟩ := I.far i hi _ ho
  rcases hb with h | h | h
  ·exact e1 h
  ·exact e2 h
  ·exact e3 h
 have ho : ∀ b, b ≠ tb -> (w1.setCell ⟨tb, i * 9 + j, none⟩ v).heap[b]? = w1.heap[b]? := fun b hb => Ac _ _ _ _ hb
 have hfar : ∀ b, t.own b -> b ≠ M /\ ¬ cI m cb b /\ b ≠ tb /\ ∀ k, k < n -> k ≠ i -> ¬ (T k).own b := fun b hb => by
  rcases hf b hb with h | h
  ·exact I.far i hi b h
  ·exact ⟨by omega, fun hc => by have := l2 b hc; omega, by omega, fun k hk _ hk' => by have := ((I.rows k hk).low hk').2; omega⟩
 refine ⟨(ho M b6).trans ((h1 M l1 (hns (.inl rfl))).trans I.hd), Mx I.cs fun b hb => (ho b (fun e => b7 (e ▸ hb))).trans (h1 b (l2 b hb) (hns (.inr (.inl hb)))), fun hn => ?_, fun k hk => ?_, fun k hk b hb => ?_, I.base⟩
 ·obtain ⟨e, arr, h2, h3, h4, h5, h6⟩ := I.ts hn
  refine ⟨e, _, Ao _ _ ((h1 tb l3 (hns (.inr (.inr rfl)))).trans h2), by simpa using h3, h4, h5, fun k hk q x hx => ?_⟩
  by_cases e : k = i
  ·subst e
   rw [upd_same, hc] at hx
   by_cases eq : q = j
   ·subst eq
    rw [List.getElem?_set_self (by simpa [R11.cells] using hj)] at hx
    cases hx
    exact Array.getElem?_setIfInBounds_self_of_lt (by rw [h3]; have : (k + 1) * 9 <= tc * 9 := Nat.mul_le_mul_right 9 (by omega); omega)
   ·rw [List.getElem?_set_ne (by omega)] at hx
    rw [aNe]
    exact h6 k hk q x hx
  ·rw [upd_ne _ _ e] at hx
   have hq : q < 9 := by have := (lEs hx).1; simpa [R11.cells] using this
   rw [Array.getElem?_setIfInBounds_ne (by
    rcases Nat.lt_or_gt_of_ne e with h | h
    ·have : (k + 1) * 9 <= i * 9 := Nat.mul_le_mul_right 9 h
     omega
    ·have : (i + 1) * 9 <= k * 9 := Nat.mul_le_mul_right 9 h
     omega)]
   exact h6 k hk q x hx
 ·by_cases e : k = i
  ·subst e
   rw [upd_same]
   exact hr.same (fun b hb _ => ho b (by omega)) fun b hb => ho b (hfar b hb).2.2.1
  ·rw [upd_ne _ _ e]
   have R := I.rows k hk
   exact R.same (fun b hb hw => (ho b (by omega)).trans (h1 b hw fun h => by have := ((I.rows i hi).low h).1; omega)) fun b hb => (ho b (I.far k hk b hb).2.2.1).trans (h1 b (R.low hb).2 ((I.far k hk b hb).2.2.2 i hi (Ne.symm e)))
 ·by_cases e : k = i
  ·subst e
   rw [upd_same] at hb
   obtain ⟨e1, e2, e3, e4⟩ := hfar b hb
   refine ⟨e1, e2, e3, fun q hq hqk => ?_⟩
   rw [upd_ne _ _ hqk]
   exact e4 q hq hqk
  ·rw [upd_ne _ _ e] at hb
   obtain ⟨e1, e2, e3, e4⟩ := I.far k hk b hb
   refine ⟨e1, e2, e3, fun q hq hqk => ?_⟩
   by_cases eq : q = i
   ·subst eq
    rw [upd_same]
    exact fun h => (hfar b h).2.2.2 k hk e hb
   ·rw [upd_ne _ _ eq]
    exact e4 q hq hqk
theorem M11.put (I : M11 a0 M cb tb tc n m ta S T w) {i : Nat} (hi : i < n) {j : Nat} {v : Value} {t : R11} (hc : t.cells = (T i).cells.set j v := by first | rfl | (rw [upd_same]; rfl)) (hj : j < 9 := by decide) (h1 : t.ov = (T i).ov /\ t.ops = (T i).ops /\ t.av = (T i).av /\ t.ans = (T i).ans /\ t.sv = (T i).sv /\ t.seen = (T i).seen /\ t.live = (T i).live /\ t.ownA = (T i).ownA := by first | exact ⟨rfl, rfl, rfl, rfl, rfl, rfl, rfl, rfl⟩ | (rw [upd_same]; exact ⟨rfl, rfl, rfl, rfl, rfl, rfl, rfl, rfl⟩)) : M11 a0 M cb tb tc n m ta S (upd T i t) (w.setCell ⟨tb, i * 9 + j, none⟩ v) := by
 obtain ⟨e1, e2, e3, e4, e5, e6, e7, e8⟩ := h1
 have R := I.rows i hi
 refine I.put' hi hc hj w (fun _ _ _ => rfl) ⟨?_, ?_, ?_, ?_, ?_⟩ fun b hb => .inl ?_
 ·rw [e1, e2]; exact R.rO
 ·rw [e3, e4, e8]; exact R.rA
 ·rw [e5, e6, e7]; exact R.rS
 ·rw [e5, e7, e8]; exact R.ne
 ·rw [e8]; exact R.lo
 ·unfold R11.own at hb ⊢
  rw [e5, e7, e8] at hb
  exact hb
end
end Go.Proofs.Ytflcclneedldoaa
