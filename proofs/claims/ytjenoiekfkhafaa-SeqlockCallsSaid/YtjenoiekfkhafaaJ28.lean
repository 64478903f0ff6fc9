/- Part 28. -/
import Derived.Test.YtjenoiekfkhafaaJ16
import Derived.Test.YtjenoiekfkhafaaJ22
import Derived.Test.YtjenoiekfkhafaaJ26
set_option linter.unusedSimpArgs false
set_option linter.unusedVariables false
set_option linter.unusedVariables false
set_option maxHeartbeats 8000000
set_option maxRecDepth 100000
namespace Go.Proofs.Ytjenoiekfkhafaa
open Go.Conc Go.RowKit Go.Relay
open Go.ConcN (upd upd_ne upd_same)
section
section
variable {X : Type}
inductive Stps (C : Abs X) : X × List Nat -> X × List Nat -> Prop
 | refl (st : X × List Nat) : Stps C st st
 | step {st st' : X × List Nat} (i : Nat) (h : Stps C st st') (hi : i < C.n) (ho : C.out st'.1 i = none) : Stps C st (C.next st'.1 i, st'.2 ++ [i])
theorem stepA_len (C : Abs X) (st : X × List Nat) (z : Int) : st.2.length <= (Bk C st z).2.length := by
 unfold Bk
 split
 ·simp
 ·exact Nat.le_refl _
theorem Lr (C : Abs X) : ∀ (l : List Nat) (st : X × List Nat), st.2.length <= (l.foldl (fun st i => Bk C st (i : Nat)) st).2.length
 | [], _ => Nat.le_refl _
 | _ :: l, _ => Nat.le_trans (stepA_len C _ _) (Lr C l _)
theorem Ls (C : Abs X) {i : Nat} (hi : i < C.n) : ∀ (l : List Nat) (st : X × List Nat), i ∈ l -> Ch C st = false -> C.out st.1 i = none -> st.2.length + 1 <= (l.foldl (fun st i => Bk C st (i : Nat)) st).2.length
 | [], _, h, _, _ => by cases h
 | a :: l, st, h, ho, hn => by
  rw [List.foldl_cons]
  by_cases hs : Ch C st = false /\ 0 <= (a : Int) /\ (a : Int) < C.n /\ C.out st.1 (a : Int).toNat = none
  ·have : (Bk C st a).2.length = st.2.length + 1 := by unfold Bk; rw [if_pos hs]; simp
   rw [<- this]
   exact Lr C l _
  ·have : Bk C st a = st := by unfold Bk; rw [if_neg hs]
   rw [this]
   rcases List.mem_cons.1 h with rfl | h
   ·exact absurd ⟨ho, by omega, by omega, by simpa using hn⟩ hs
   ·exact Ls C hi l st h ho hn
theorem roundA_one (C : Abs X) {st : X × List Nat} (h : Ch C st = false) : st.2.length + 1 <= (Hx C st).2.length := by
 have hg : Eh C st.1 ≠ 0 := by
  intro e
  unfold Ch at h
  rw [e] at h
  simp at h
 obtain ⟨i, hi, hn⟩ := List.countP_pos_iff.1 (Nat.pos_of_ne_zero hg)
 have hi : i < C.n := List.mem_range.1 hi
 exact Ls C hi _ _ (List.mem_range.2 hi) h (by simpa using hn)
theorem rest_on (C : Abs X) {f : Nat} {st : X × List Nat} (h : Ch C st = false) : Dl C (f + 1) st = Dl C f (Hx C st) := by
 show (if Ch C st then st else Dl C f (Hx C st)) = _
 rw [h]; rfl
theorem rest_off (C : Abs X) {f : Nat} {st : X × List Nat} (h : Ch C st = true) : Dl C (f + 1) st = st := by
 show (if Ch C st then st else Dl C f (Hx C st)) = _
 rw [h]; rfl
def Abs.withMost (C : Abs X) (m : Int) : Abs X := { C with most := m }
section
variable {C : Abs X} {m1 m2 : Nat}
def Both2 (C : Abs X) (m1 : Nat) (a b : X × List Nat) : Prop := Stps C a b /\ a.2.length <= m1 /\ (a = b ∨ a.2.length = m1)
end
end
end
section
section
variable {X : Type} {A : Abs X} {F st : X × List Nat} {sl : List Int} {p rd : Nat}
structure Ahead (A : Abs X) (F : X × List Nat) (sl : List Int) (p rd : Nat) (st : X × List Nat) : Prop where
 run : ∃ f x, x <= A.n /\ rd % A.n = x % A.n /\ F = Dl A f ((List.range' x (A.n - x)).foldl (fun st i => Bk A st (i : Nat)) ((sl.drop p).foldl (Bk A) st)) /\
  A.most <= (((List.range' x (A.n - x)).foldl (fun st i => Bk A st (i : Nat)) ((sl.drop p).foldl (Bk A) st)).2.length + f : Nat)
 le : p <= sl.length
 short : (st.2.length : Int) <= A.most
theorem over_stay (h : Ch A st = true) (z : Int) : Bk A st z = st := by
 unfold Bk
 rw [if_neg]
 rintro ⟨h', _⟩
 rw [h] at h'; cases h'
theorem Nj (h : Ch A st = true) : ∀ l : List Int, l.foldl (Bk A) st = st
 | [] => rfl
 | z :: l => by rw [List.foldl_cons, over_stay h]; exact Nj h l
theorem Nk (h : Ch A st = true) : ∀ l : List Nat, l.foldl (fun st i => Bk A st (i : Nat)) st = st
 | [] => rfl
 | z :: l => by rw [List.foldl_cons, over_stay h]; exact Nk h l
theorem step_yes (h : Ch A st = false) {i : Nat} (hi : i < A.n) (ho : A.out st.1 i = none) : Bk A st (i : Nat) = (A.next st.1 i, st.2 ++ [i]) := by
 unfold Bk
 rw [if_pos ⟨h, by omega, by omega, by simpa using ho⟩]
 simp
theorem step_no {z : Int} (h : ¬ (0 <= z /\ z < A.n /\ A.out st.1 z.toNat = none)) : Bk A st z = st := by
 unfold Bk
 rw [if_neg]
 rintro ⟨_, h'⟩
 exact h h'
theorem over_len (h : Ch A st = false) : (st.2.length : Int) < A.most /\ ∃ j, j < A.n /\ A.out st.1 j = none := by
 unfold Ch at h
 simp only [Bool.or_eq_false_iff, decide_eq_false_iff_not] at h
 refine ⟨by omega, ?_⟩
 have : 0 < Eh A st.1 := by omega
 obtain ⟨j, hj, ho⟩ := List.countP_pos_iff.1 this
 exact ⟨j, List.mem_range.1 hj, by simpa using ho⟩
theorem Mp (h : (st.2.length : Int) <= A.most) (z : Int) : ((Bk A st z).2.length : Int) <= A.most := by
 unfold Bk
 split
 ·next h' => have := (over_len h'.1).1; simp; omega
 ·exact h
end
end
section
section
variable {a0 M cg cc tb tc n m : Nat} {ta : Option Addr} {Sx : Sq} {T : Nat -> R8} {main : Bool}
theorem run_end0 (M : Nat) (v sv : Value) (mo : Int) (R N : Nat) (u : Nat -> Value) (cs : List Frame) (w : World) :
  Walk Try.prog main (DR (fun _ => none)) (fun g w' => (∃ u, g = G (hdRun1 M sv mo R N (.slice none 0 0) 0 u) cs) /\ ∃ d, w' = w.at d) (G (hdRun0 M v sv mo R N N u) cs) w := by
 have hj1 : decide ((N : Int) < N) = false := by simp
 have hj3 : decide (N < N) = false := by simp
 conv => arg 5; unfold hdRun0
 refine Aa z37 ?_
 refine Walk.ctl rfl (fun w => stepG_loop) ?_
 refine .stop fun d => ⟨Am ?_, d, rfl⟩
 simp only [hdRun1]
 rfl
theorem sched_end (M : Nat) (sa : Option Addr) (ls sc : Nat) (mo : Int) (R N : Nat) (ov : Value) (u : Nat -> Value) (cs : List Frame) (w : World) :
  Walk Try.prog main (DR (fun _ => none)) (fun g w' => (∃ u, g = G (hdRun2 M mo R N ov u) cs) /\ ∃ d, w' = w.at d) (G (hdRun1 M (.slice sa ls sc) mo R N ov ls u) cs) w := by
 have hj1 : decide ((ls : Int) < ls) = false := by simp
 have hj3 : decide (ls < ls) = false := by simp
 conv => arg 5; unfold hdRun1
 refine Aa z37 ?_
 refine Walk.ctl rfl (fun w => stepG_loop) ?_
 refine .stop fun d => ⟨Am ?_, d, rfl⟩
 simp only [hdRun2]
 rfl
theorem sched_full (M : Nat) (sa : Option Addr) (ls sc : Nat) (mo : Int) (R N : Nat) (oa : Option Addr) (ln oc k : Nat) (hk : k < ls) (hm : mo <= (ln : Int)) (u : Nat -> Value) (cs : List Frame) (w : World) :
  Walk Try.prog main (DR (fun _ => none)) (fun g w' => (∃ u, g = G (hdRun2 M mo R N (.slice oa ln oc) u) cs) /\ ∃ d, w' = w.at d) (G (hdRun1 M (.slice sa ls sc) mo R N (.slice oa ln oc) k u) cs) w := by
 have hj1 : decide ((k : Int) < ls) = true := by simp; omega
 have hj3 : decide (k < ls) = true := by simp; omega
 have hj4 : (k : Int) < ls := by omega
 have hj5 : decide ((ln : Int) < mo) = false := by simp; omega
 have hj6 : ¬ (ln : Int) < mo := by omega
 conv => arg 5; unfold hdRun1
 refine Aa z37 ?_
 refine Walk.ctl rfl (fun w => stepG_loop) ?_
 refine .stop fun d => ⟨Am ?_, d, rfl⟩
 simp only [hdRun2]
 rfl
theorem sched_neg (M : Nat) (s so ls sc : Nat) (mo : Int) (R N : Nat) (oa : Option Addr) (ln oc k : Nat) (hk : k < ls) (hls : ls <= 17592186044416) (hm : (ln : Int) < mo) (z : Int) (hz : z < 0) (u : Nat -> Value) (cs : List Frame) (w : World) (c0 : w.cell? ⟨s, so + k, none⟩ = some (.int .i64 z)) :
  Walk Try.prog main (DR (fun _ => none)) (fun g w' => (∃ u, g = G (hdRun1 M (.slice (some ⟨s, so, none⟩) ls sc) mo R N (.slice oa ln oc) (k + 1) u) cs) /\ ∃ d, w' = w.at d) (G (hdRun1 M (.slice (some ⟨s, so, none⟩) ls sc) mo R N (.slice oa ln oc) k u) cs) w := by
 have hk0 : (0 : Int) <= k := by omega
 have hj1 : decide ((k : Int) < ls) = true := by simp; omega
 have hj3 : decide (k < ls) = true := by simp; omega
 have hj4 : (k : Int) < ls := by omega
 have hj5 : decide ((ln : Int) < mo) = true := by simp; omega
 have hw1 : IntKind.wrap .i64 ((k : Int) + 1) = (k : Int) + 1 := by rw [IntKind.wrap_i64]; omega
 have hcc : ((k + 1 : Nat) : Int) = (k : Int) + 1 := by simp
 have hz1 : decide (0 <= z) = false := by simp; omega
 have hz2 : ¬ 0 <= z := by omega
 conv => arg 5; unfold hdRun1
 refine Aa z37 ?_
 refine Walk.ctl rfl (fun w => stepG_inLoop) ?_
 refine .stop fun d => ⟨Am ?_, d, rfl⟩
 simp only [hdRun1, hcc]
 rfl
theorem sched_far (M : Nat) (s so ls sc : Nat) (mo : Int) (R N : Nat) (oa : Option Addr) (ln oc k : Nat) (hk : k < ls) (hls : ls <= 17592186044416) (hm : (ln : Int) < mo) (z : Int) (hz : 0 <= z) (hz0 : N <= z) (u : Nat -> Value) (cs : List Frame) (w : World) (c0 : w.cell? ⟨s, so + k, none⟩ = some (.int .i64 z)) :
  Walk Try.prog main (DR (fun _ => none)) (fun g w' => (∃ u, g = G (hdRun1 M (.slice (some ⟨s, so, none⟩) ls sc) mo R N (.slice oa ln oc) (k + 1) u) cs) /\ ∃ d, w' = w.at d) (G (hdRun1 M (.slice (some ⟨s, so, none⟩) ls sc) mo R N (.slice oa ln oc) k u) cs) w := by
 have hk0 : (0 : Int) <= k := by omega
 have hj1 : decide ((k : Int) < ls) = true := by simp; omega
 have hj3 : decide (k < ls) = true := by simp; omega
 have hj4 : (k : Int) < ls := by omega
 have hj5 : decide ((ln : Int) < mo) = true := by simp; omega
 have hw1 : IntKind.wrap .i64 ((k : Int) + 1) = (k : Int) + 1 := by rw [IntKind.wrap_i64]; omega
 have hcc : ((k + 1 : Nat) : Int) = (k : Int) + 1 := by simp
 have hz1 : decide (0 <= z) = true := by simp; omega
 have hz3 : decide (z < N) = false := by simp; omega
 have hz2 : ¬ z < N := by omega
 conv => arg 5; unfold hdRun1
 refine Aa z37 ?_
 refine Walk.ctl rfl (fun w => stepG_inLoop) ?_
 refine .stop fun d => ⟨Am ?_, d, rfl⟩
 simp only [hdRun1, hcc]
 rfl
theorem sched_off (M : Nat) (s so ls sc : Nat) (mo : Int) (R : Nat) (oa : Option Addr) (ln oc k : Nat) (hk : k < ls) (hls : ls <= 17592186044416) (hm : (ln : Int) < mo) (w : World) {i : Nat} (hi : i < n) (I : M8 a0 M cg cc tb tc n m ta Sx T w) (hpc : ¬ 0 < (T i).pc) (u : Nat -> Value) (cs : List Frame) (c0 : w.cell? ⟨s, so + k, none⟩ = some (.int .i64 i)) :
  Walk Try.prog main (DR (fun _ => none)) (fun g w' => (∃ u, g = G (hdRun1 M (.slice (some ⟨s, so, none⟩) ls sc) mo R n (.slice oa ln oc) (k + 1) u) cs) /\ ∃ d, w' = w.at d) (G (hdRun1 M (.slice (some ⟨s, so, none⟩) ls sc) mo R n (.slice oa ln oc) k u) cs) w := by
 have hk0 : (0 : Int) <= k := by omega
 have hj1 : decide ((k : Int) < ls) = true := by simp; omega
 have hj3 : decide (k < ls) = true := by simp; omega
 have hj4 : (k : Int) < ls := by omega
 have hj5 : decide ((ln : Int) < mo) = true := by simp; omega
 have hw1 : IntKind.wrap .i64 ((k : Int) + 1) = (k : Int) + 1 := by rw [IntKind.wrap_i64]; omega
 have hcc : ((k + 1 : Nat) : Int) = (k : Int) + 1 := by simp
 have hi0 : (0 : Int) <= i := by omega
 have hz1 : decide ((0 : Int) <= i) = true := by simp
 have hi1 : decide ((i : Int) < n) = true := by simp; omega
 have hi3 : decide (i < n) = true := by simp; omega
 have hi4 : (i : Int) < n := by omega
 have hp1 : decide (0 < (T i).pc) = false := by simp only [decide_eq_false_iff_not]; exact hpc
 have c1 : w.cell? ⟨M, 2, none⟩ = some (.slice (some ⟨tb, 0, none⟩) n tc) := I.cT (by omega)
 have c2 : w.cell? ⟨tb, i * 8 + 4, none⟩ = some (.int .i64 (T i).pc) := I.tcell hi rfl
 generalize (T i).pc = pc at *
 conv => arg 5; unfold hdRun1
 refine Aa z37 ?_
 refine Walk.ctl rfl (fun w => stepG_inLoop) ?_
 refine .stop fun d => ⟨Am ?_, d, rfl⟩
 simp only [hdRun1, hcc]
 rfl
end
end
section
noncomputable def reg54_0 := rk Try.f54.body 0
noncomputable def reg54_1 := rk Try.f54.body 1
noncomputable def reg54_2 := rk Try.f54.body 2
noncomputable def reg54_4 := rk Try.f54.body 4
noncomputable def reg54_5 := rk Try.f54.body 5
noncomputable def reg54_3 := rk Try.f54.body 3
noncomputable def reg54_6 := rk Try.f54.body 6
theorem z54 : reg54_0.size = 1 /\ reg54_1.size = 1 /\ reg54_2.size = 7 /\ reg54_3.size = 3 /\ reg54_4.size = 9 /\ reg54_5.size = 1 /\ reg54_6.size = 1 := by and_intros <;> kernel_rfl
theorem code54_is : Try.f54.body = some (.seq (.region 0 reg54_0 false) (.seq (.seq (.region 1 reg54_1 false) (.block 0 (.loop (.seq (.seq (.region 2 reg54_2 false) (.cond (.tmp 10 ) (.skip) (.exit 0))) (.seq (.block 1 (.seq (.region 4 reg54_4 false) (.cond (.tmp 21 ) (.seq (.region 5 reg54_5 false) (.ret)) (.skip)))) (.region 3 reg54_3 false)))))) (.seq (.region 6 reg54_6 false) (.ret)))) := by kernel_rfl
noncomputable def hdLeft (M j : Nat) (u : Nat -> Value) : Frame :=
 (base 54).at { tmps := #[.pointer (some ⟨M, 0, none⟩), u 1, .bool false, .int .i64 j, u 4, u 5, u 6, u 7, u 8, u 9, u 10, u 11, u 12, u 13, u 14, u 15, u 16, u 17, u 18, u 19, u 20, u 21], defers := [] } [.code (.seq (.seq (.region 2 reg54_2 false) (.cond (.tmp 10 ) (.skip) (.exit 0))) (.seq (.block 1 (.seq (.region 4 reg54_4 false) (.cond (.tmp 21 ) (.seq (.region 5 reg54_5 false) (.ret)) (.skip)))) (.region 3 reg54_3 false))), .inLoop (.seq (.seq (.region 2 reg54_2 false) (.cond (.tmp 10 ) (.skip) (.exit 0))) (.seq (.block 1 (.seq (.region 4 reg54_4 false) (.cond (.tmp 21 ) (.seq (.region 5 reg54_5 false) (.ret)) (.skip)))) (.region 3 reg54_3 false))), .inBlock 0, .code (.seq (.region 6 reg54_6 false) (.ret))]
def Lu (T : Nat -> R8) (j r : Nat) : Bool := (List.range' j r).any fun i => decide (0 < (T i).pc)
section
variable {a0 M cg cc tb tc n m : Nat} {ta : Option Addr} {S : Sq} {T : Nat -> R8} {main : Bool} {V : Nat -> Option Wait}
theorem left_in (cs : List Frame) (w : World) :
  Walk Try.prog main (DR V) (fun g w' => (∃ u, g = G (hdLeft M 0 u) cs) /\ ∃ d, w' = w.at d) (G (Frame.enter Try.prog 54 #[.pointer (some ⟨M, 0, none⟩)] .normal) cs) w := by
 rw [enter_at _ Try.func54 code54_is]
 simp only [Try.ntmps54, ez, Nat.reduceAdd, Nat.reduceSub]
 refine Aa z54 ?_
 refine Walk.ctl rfl (fun w => stepG_loop) ?_
 refine .stop fun d => ⟨Am ?_, d, rfl⟩
 simp only [hdLeft]
 rfl
theorem left_out (w : World) (I : M8 a0 M cg cc tb tc n m ta S T w) (u : Nat -> Value) (fr : Frame) (cs : List Frame) :
  Walk Try.prog main (DR V) (fun g w' => g = G (fr.finish (.bool false)) cs /\ ∃ d, w' = w.at d) (G (hdLeft M n u) (fr :: cs)) w := by
 have c1 : w.cell? ⟨M, 2, none⟩ = some (.slice ta n tc) := (Ad I.hd 2).trans rfl
 have hj3 : decide (n < n) = false := by simp
 conv => arg 5; unfold hdLeft
 refine Aa z54 ?_
 exact Bh rfl rfl Try.func54 rfl (.stop fun d => ⟨rfl, d, rfl⟩)
theorem left_yes {j : Nat} (hj : j < n) (w : World) (I : M8 a0 M cg cc tb tc n m ta S T w) (hn : n <= 64) (hpc : 0 < (T j).pc) (u : Nat -> Value) (fr : Frame) (cs : List Frame) :
  Walk Try.prog main (DR V) (fun g w' => g = G (fr.finish (.bool true)) cs /\ ∃ d, w' = w.at d) (G (hdLeft M j u) (fr :: cs)) w := by
 have hj0 : (0 : Int) <= j := by omega
 have hj1 : decide ((j : Int) < n) = true := by simp; omega
 have hj3 : decide (j < n) = true := by simp; omega
 have hj4 : (j : Int) < n := by omega
 have hb : decide (0 < (T j).pc) = true := by simp [hpc]
 have c1 : w.cell? ⟨M, 2, none⟩ = some (.slice (some ⟨tb, 0, none⟩) n tc) := I.cT (by omega)
 have c2 : w.cell? ⟨tb, j * 8 + 4, none⟩ = some (.int .i64 (T j).pc) := I.tcell hj rfl
 generalize (T j).pc = pc at *
 conv => arg 5; unfold hdLeft
 refine Aa z54 ?_
 exact Bh rfl rfl Try.func54 rfl (.stop fun d => ⟨rfl, d, rfl⟩)
theorem left_no {j : Nat} (hj : j < n) (w : World) (I : M8 a0 M cg cc tb tc n m ta S T w) (hn : n <= 64) (hpc : ¬ 0 < (T j).pc) (u : Nat -> Value) (cs : List Frame) :
  Walk Try.prog main (DR V) (fun g w' => (∃ u, g = G (hdLeft M (j + 1) u) cs) /\ ∃ d, w' = w.at d) (G (hdLeft M j u) cs) w := by
 have hj0 : (0 : Int) <= j := by omega
 have hj1 : decide ((j : Int) < n) = true := by simp; omega
 have hj3 : decide (j < n) = true := by simp; omega
 have hj4 : (j : Int) < n := by omega
 have hw1 : IntKind.wrap .i64 ((j : Int) + 1) = (j : Int) + 1 := by rw [IntKind.wrap_i64]; omega
 have hcc : ((j + 1 : Nat) : Int) = (j : Int) + 1 := by simp
 have hb : decide (0 < (T j).pc) = false := by simp only [decide_eq_false_iff_not]; exact hpc
 have c1 : w.cell? ⟨M, 2, none⟩ = some (.slice (some ⟨tb, 0, none⟩) n tc) := I.cT (by omega)
 have c2 : w.cell? ⟨tb, j * 8 + 4, none⟩ = some (.int .i64 (T j).pc) := I.tcell hj rfl
 generalize (T j).pc = pc at *
 conv => arg 5; unfold hdLeft
 refine Aa z54 ?_
 refine Walk.ctl rfl (fun w => stepG_inLoop) ?_
 refine .stop fun d => ⟨Am ?_, d, rfl⟩
 simp only [hdLeft, hcc]
 rfl
theorem left_w (w : World) (I : M8 a0 M cg cc tb tc n m ta S T w) (hn : n <= 64) : Bn Try.prog main V 54 #[.pointer (some ⟨M, 0, none⟩)] w (.bool (Lu T 0 n)) w := by
 intro c cs
 have loop : ∀ (r j : Nat) (u : Nat -> Value), j + r = n -> Walk Try.prog main (DR V) (fun g w' => g = G (c.finish (.bool (Lu T j r))) cs /\ ∃ d, w' = w.at d) (G (hdLeft M j u) (c :: cs)) w := by
  intro r
  induction r with
  | zero =>
   intro j u hj
   have hj' : j = n := by omega
   subst hj'
   exact left_out w I u c cs
  | succ r ih =>
   intro j u hj
   by_cases hpc : 0 < (T j).pc
   ·refine (left_yes (by omega) w I hn hpc u c cs).mono ?_
    rintro g w' ⟨rfl, d, rfl⟩
    refine ⟨?_, d, rfl⟩
    simp [Lu, List.range'_succ, hpc]
   ·refine (left_no (by omega) w I hn hpc u (c :: cs)).then ?_
    rintro _ _ ⟨⟨u1, rfl⟩, d, rfl⟩
    refine Walk.back ?_ d
    have := ih (j + 1) u1 (by omega)
    have e : Lu T j (r + 1) = Lu T (j + 1) r := by simp [Lu, List.range'_succ, hpc]
    rw [e]
    exact this
 refine (left_in (c :: cs) w).then ?_
 rintro _ _ ⟨⟨u, rfl⟩, d, rfl⟩
 refine Walk.back ?_ d
 refine (loop n 0 u (by omega)).mono ?_
 rintro g w' ⟨rfl, d, rfl⟩
 exact ⟨_, ⟨rfl, d, rfl⟩, rfl⟩
end
end
section
structure MoreO (a0 : Nat) (w : World) (ov : Value) (ord : List Nat) (i g cap : Nat) (w1 : World) : Prop where
 row : w1.ownsRow a0 3 1 (.slice (some ⟨g, 0, none⟩) (ord.length + 1) cap) (ord.length + 1) (Eg ord ++ [.int .i64 i])
 old : ∀ b, b < w.heap.size -> ov.ownBlock ≠ some b -> w1.heap[b]? = w.heap[b]?
 size : w.heap.size <= w1.heap.size
 hat : ov.ownBlock = some g ∨ w.heap.size <= g
 lt : g < w1.heap.size
section
variable {a0 M cg cc tb tc n m : Nat} {ta : Option Addr} {Sx : Sq} {T : Nat -> R8} {main : Bool}
theorem sched_go (M : Nat) (s so ls sc : Nat) (mo : Int) (R : Nat) (ord : List Nat) (oa : Option Addr) (oc k : Nat) (hk : k < ls) (hls : ls <= 17592186044416) (hm : (ord.length : Int) < mo) (hmo : mo <= 1048576) (w : World) {i : Nat} (hi : i < n) (I : M8 a0 M cg cc tb tc n m ta Sx T w) (ha0 : a0 <= w.heap.size) (hpc : 0 < (T i).pc) (c0 : w.cell? ⟨s, so + k, none⟩ = some (.int .i64 i)) (hrow : w.ownsRow a0 3 1 (.slice oa ord.length oc) ord.length (Eg ord)) (P1 P2 : Nat -> Nat -> World -> Prop)
  (hst : ∀ g cap w1, MoreO a0 w (.slice oa ord.length oc) ord i g cap w1 -> CallW Try.prog main (fun _ => none) 53 #[.pointer (some ⟨M, 0, none⟩), .int .i64 i] w1 (fun v w2 => v = .tuple #[] /\ P1 g cap w2))
  (hse : ∀ g cap w2, P1 g cap w2 -> CallW Try.prog main (fun _ => none) 52 #[.pointer (some ⟨M, 0, none⟩), .int .i64 i] w2 (fun v w3 => v = .tuple #[] /\ P2 g cap w3)) (u : Nat -> Value) (cs : List Frame) :
  Walk Try.prog main (DR (fun _ => none)) (fun g' w' => ∃ g cap, (∃ u, g' = G (hdRun1 M (.slice (some ⟨s, so, none⟩) ls sc) mo R n (.slice (some ⟨g, 0, none⟩) (ord.length + 1) cap) (k + 1) u) cs) /\ ∃ w2 d, P2 g cap w2 /\ w' = w2.at d) (G (hdRun1 M (.slice (some ⟨s, so, none⟩) ls sc) mo R n (.slice oa ord.length oc) k u) cs) w := by
 have hk0 : (0 : Int) <= k := by omega
 have hj1 : decide ((k : Int) < ls) = true := by simp; omega
 have hj3 : decide (k < ls) = true := by simp; omega
 have hj4 : (k : Int) < ls := by omega
 have hj5 : decide ((ord.length : Int) < mo) = true := by simp; omega
 have hw1 : IntKind.wrap .i64 ((k : Int) + 1) = (k : Int) + 1 := by rw [IntKind.wrap_i64]; omega
 have hcc : ((k + 1 : Nat) : Int) = (k : Int) + 1 := by simp
 have hi0 : (0 : Int) <= i := by omega
 have hz1 : decide ((0 : Int) <= i) = true := by simp
 have hi1 : decide ((i : Int) < n) = true := by simp; omega
 have hi3 : decide (i < n) = true := by simp; omega
 have hi4 : (i : Int) < n := by omega
 have hp1 : decide (0 < (T i).pc) = true := by simp only [decide_eq_true_eq]; exact hpc
 have c1 : w.cell? ⟨M, 2, none⟩ = some (.slice (some ⟨tb, 0, none⟩) n tc) := I.cT (by omega)
 have c2 : w.cell? ⟨tb, i * 8 + 4, none⟩ = some (.int .i64 (T i).pc) := I.tcell hi rfl
 have hi3' := Option.some_get (show (Try.prog.info? 3).isSome = true by kernel_rfl)
 generalize (T i).pc = pc at *
 generalize hoL : ord.length = lo at *
 conv => arg 5; unfold hdRun1
 refine Aa z37 ?_
 (refine Walk.oa ?_; try walk_nrm)
 have d1 := heap_alloc_new w (.cells #[.int .i64 i] 3)
 have o1 : ∀ x, x < w.heap.size -> (w.alloc (.cells #[.int .i64 i] 3)).heap[x]? = w.heap[x]? := fun x hx => Ab _ _ hx
 have s1 : (w.alloc (.cells #[.int .i64 i] 3)).heap.size = w.heap.size + 1 := by simp
 have hrow1 : (w.alloc (.cells #[.int .i64 i] 3)).ownsRow a0 3 1 (.slice oa lo oc) lo (Eg ord) := Aw hrow fun g hg => o1 g (hrow.lt g hg).2
 generalize hS : w.heap.size = S at *
 generalize w.alloc (.cells #[.int .i64 i] 3) = w0 at *
 repeat (first | (refine Walk.oq ?_; try walk_nrm) | (refine Ax ?_; walk_nrm))
 refine Walk.append (.tmp 89) (.tmp 91) 24 Ao (by rfl) (by decide) rfl a0 3 _ (.int .i64 0) 1 8 (by kernel_rfl) hi3'.symm (by rfl) (by rfl) (by rfl) (by rfl) (by decide) (.slice oa lo oc) lo (Eg ord) rfl hrow1 ⟨S, 0, none⟩ 1 1 [.int .i64 i] rfl (by rfl) (fun j v hv => ?_) (by simp [Value.oneCell']) (by decide) (by simp [maxLen]; omega) (by omega) (by omega) (fun g _ => Oi g) (fun g cap w3 hown hg hat hlt => ?_)
 ·rw [Bj, Nat.zero_add]
  refine (Ad d1 j).trans ?_
  simpa using hv
 have hgs := hg.size
 have hA : MoreO a0 w (.slice oa lo oc) ord i g cap w3 := ⟨by rw [hoL]; exact hown, fun b hb hne => (hg.block b (by omega) fun e => hne e.symm).trans (o1 b (by omega)), by omega, hat.imp id fun h => by omega, hlt⟩
 have hst1 := hst g cap w3 hA
 clear hrow1 d1 o1 hown hg hat hst c1 c2 I hrow hA
 walk_nrm
 repeat (first | (refine Walk.oq ?_; try walk_nrm) | (refine Ax ?_; walk_nrm))
 try walk_nrm
 refine Aa z37 ?_
 refine Ah (Post := fun v w' => v = .tuple #[] /\ P1 g cap w') ?_ Ao (by rfl) (by decide) rfl Try.func53 (by kernel_rfl) (by rfl) ?_
 ·walk_nrm
  exact hst1
 rintro v w4 ⟨rfl, hP1⟩
 have hse1 := hse g cap w4 hP1
 walk_nrm
 refine Aa z37 ?_
 refine Ah (Post := fun v w' => v = .tuple #[] /\ P2 g cap w') ?_ Ao (by rfl) (by decide) rfl Try.func52 (by kernel_rfl) (by rfl) ?_
 ·walk_nrm
  exact hse1
 rintro v w5 ⟨rfl, hP2⟩
 walk_nrm
 refine Aa z37 ?_
 refine Walk.ctl rfl (fun w => stepG_inLoop) ?_
 refine .stop fun d => ⟨g, cap, Am ?_, w5, d, hP2, rfl⟩
 simp only [hdRun1, hcc]
 rfl
theorem rest_end (M : Nat) (mo : Int) (R n : Nat) (ov : Value) (u : Nat -> Value) (cs : List Frame) (w : World) :
  Walk Try.prog main (DR (fun _ => none)) (fun g w' => (∃ u, g = G (hdRun2 M mo R n ov u) cs) /\ ∃ d, w' = w.at d) (G (hdRun3 M mo R n ov n u) cs) w := by
 have hj1 : decide ((n : Int) < n) = false := by simp
 have hj3 : decide (n < n) = false := by simp
 conv => arg 5; unfold hdRun3
 refine Aa z37 ?_
 refine Walk.ctl rfl (fun w => stepG_inLoop) ?_
 refine .stop fun d => ⟨Am ?_, d, rfl⟩
 simp only [hdRun2]
 rfl
theorem rest_full (M : Nat) (mo : Int) (R n : Nat) (oa : Option Addr) (ln oc i : Nat) (hi : i < n) (hm : mo <= (ln : Int)) (u : Nat -> Value) (cs : List Frame) (w : World) :
  Walk Try.prog main (DR (fun _ => none)) (fun g w' => (∃ u, g = G (hdRun2 M mo R n (.slice oa ln oc) u) cs) /\ ∃ d, w' = w.at d) (G (hdRun3 M mo R n (.slice oa ln oc) i u) cs) w := by
 have hi0 : (0 : Int) <= i := by omega
 have hz1 : decide ((0 : Int) <= i) = true := by simp
 have hi1 : decide ((i : Int) < n) = true := by simp; omega
 have hi3 : decide (i < n) = true := by simp; omega
 have hi4 : (i : Int) < n := by omega
 have hj5 : decide ((ln : Int) < mo) = false := by simp; omega
 have hj6 : ¬ (ln : Int) < mo := by omega
 conv => arg 5; unfold hdRun3
 refine Aa z37 ?_
 refine Walk.ctl rfl (fun w => stepG_inLoop) ?_
 refine .stop fun d => ⟨Am ?_, d, rfl⟩
 simp only [hdRun2]
 rfl
theorem rest_off' (M : Nat) (mo : Int) (R : Nat) (oa : Option Addr) (ln oc : Nat) (hm : (ln : Int) < mo) (w : World) {i : Nat} (hi : i < n) (hn : n <= 64) (I : M8 a0 M cg cc tb tc n m ta Sx T w) (hpc : ¬ 0 < (T i).pc) (u : Nat -> Value) (cs : List Frame) :
  Walk Try.prog main (DR (fun _ => none)) (fun g w' => (∃ u, g = G (hdRun3 M mo R n (.slice oa ln oc) (i + 1) u) cs) /\ ∃ d, w' = w.at d) (G (hdRun3 M mo R n (.slice oa ln oc) i u) cs) w := by
 have hj5 : decide ((ln : Int) < mo) = true := by simp; omega
 have hw1 : IntKind.wrap .i64 ((i : Int) + 1) = (i : Int) + 1 := by rw [IntKind.wrap_i64]; omega
 have hcc : ((i + 1 : Nat) : Int) = (i : Int) + 1 := by simp
 have hi0 : (0 : Int) <= i := by omega
 have hz1 : decide ((0 : Int) <= i) = true := by simp
 have hi1 : decide ((i : Int) < n) = true := by simp; omega
 have hi3 : decide (i < n) = true := by simp; omega
 have hi4 : (i : Int) < n := by omega
 have hp1 : decide (0 < (T i).pc) = false := by simp only [decide_eq_false_iff_not]; exact hpc
 have c1 : w.cell? ⟨M, 2, none⟩ = some (.slice (some ⟨tb, 0, none⟩) n tc) := I.cT (by omega)
 have c2 : w.cell? ⟨tb, i * 8 + 4, none⟩ = some (.int .i64 (T i).pc) := I.tcell hi rfl
 generalize (T i).pc = pc at *
 conv => arg 5; unfold hdRun3
 refine Aa z37 ?_
 refine Walk.ctl rfl (fun w => stepG_inLoop) ?_
 refine .stop fun d => ⟨Am ?_, d, rfl⟩
 simp only [hdRun3, hcc]
 rfl
theorem rest_go (M : Nat) (mo : Int) (R : Nat) (ord : List Nat) (oa : Option Addr) (oc : Nat) (hm : (ord.length : Int) < mo) (hmo : mo <= 1048576) (w : World) {i : Nat} (hi : i < n) (hn : n <= 64) (I : M8 a0 M cg cc tb tc n m ta Sx T w) (ha0 : a0 <= w.heap.size) (hpc : 0 < (T i).pc) (hrow : w.ownsRow a0 3 1 (.slice oa ord.length oc) ord.length (Eg ord)) (P1 P2 : Nat -> Nat -> World -> Prop)
  (hst : ∀ g cap w1, MoreO a0 w (.slice oa ord.length oc) ord i g cap w1 -> CallW Try.prog main (fun _ => none) 53 #[.pointer (some ⟨M, 0, none⟩), .int .i64 i] w1 (fun v w2 => v = .tuple #[] /\ P1 g cap w2))
  (hse : ∀ g cap w2, P1 g cap w2 -> CallW Try.prog main (fun _ => none) 52 #[.pointer (some ⟨M, 0, none⟩), .int .i64 i] w2 (fun v w3 => v = .tuple #[] /\ P2 g cap w3)) (u : Nat -> Value) (cs : List Frame) :
  Walk Try.prog main (DR (fun _ => none)) (fun g' w' => ∃ g cap, (∃ u, g' = G (hdRun3 M mo R n (.slice (some ⟨g, 0, none⟩) (ord.length + 1) cap) (i + 1) u) cs) /\ ∃ w2 d, P2 g cap w2 /\ w' = w2.at d) (G (hdRun3 M mo R n (.slice oa ord.length oc) i u) cs) w := by
 have hj5 : decide ((ord.length : Int) < mo) = true := by simp; omega
 have hw1 : IntKind.wrap .i64 ((i : Int) + 1) = (i : Int) + 1 := by rw [IntKind.wrap_i64]; omega
 have hcc : ((i + 1 : Nat) : Int) = (i : Int) + 1 := by simp
 have hi0 : (0 : Int) <= i := by omega
 have hz1 : decide ((0 : Int) <= i) = true := by simp
 have hi1 : decide ((i : Int) < n) = true := by simp; omega
 have hi3 : decide (i < n) = true := by simp; omega
 have hi4 : (i : Int) < n := by omega
 have hp1 : decide (0 < (T i).pc) = true := by simp only [decide_eq_true_eq]; exact hpc
 have c1 : w.cell? ⟨M, 2, none⟩ = some (.slice (some ⟨tb, 0, none⟩) n tc) := I.cT (by omega)
 have c2 : w.cell? ⟨tb, i * 8 + 4, none⟩ = some (.int .i64 (T i).pc) := I.tcell hi rfl
 have hi3' := Option.some_get (show (Try.prog.info? 3).isSome = true by kernel_rfl)
 generalize (T i).pc = pc at *
 generalize hoL : ord.length = lo at *
 conv => arg 5; unfold hdRun3
 refine Aa z37 ?_
 (refine Walk.oa ?_; try walk_nrm)
 have d1 := heap_alloc_new w (.cells #[.int .i64 i] 3)
 have o1 : ∀ x, x < w.heap.size -> (w.alloc (.cells #[.int .i64 i] 3)).heap[x]? = w.heap[x]? := fun x hx => Ab _ _ hx
 have s1 : (w.alloc (.cells #[.int .i64 i] 3)).heap.size = w.heap.size + 1 := by simp
 have hrow1 : (w.alloc (.cells #[.int .i64 i] 3)).ownsRow a0 3 1 (.slice oa lo oc) lo (Eg ord) := Aw hrow fun g hg => o1 g (hrow.lt g hg).2
 generalize hS : w.heap.size = S at *
 generalize w.alloc (.cells #[.int .i64 i] 3) = w0 at *
 repeat (first | (refine Walk.oq ?_; try walk_nrm) | (refine Ax ?_; walk_nrm))
 refine Walk.append (.tmp 127) (.tmp 129) 24 Ao (by rfl) (by decide) rfl a0 3 _ (.int .i64 0) 1 8 (by kernel_rfl) hi3'.symm (by rfl) (by rfl) (by rfl) (by rfl) (by decide) (.slice oa lo oc) lo (Eg ord) rfl hrow1 ⟨S, 0, none⟩ 1 1 [.int .i64 i] rfl (by rfl) (fun j v hv => ?_) (by simp [Value.oneCell']) (by decide) (by simp [maxLen]; omega) (by omega) (by omega) (fun g _ => Oi g) (fun g cap w3 hown hg hat hlt => ?_)
 ·rw [Bj, Nat.zero_add]
  refine (Ad d1 j).trans ?_
  simpa using hv
 have hgs := hg.size
 have hA : MoreO a0 w (.slice oa lo oc) ord i g cap w3 := ⟨by rw [hoL]; exact hown, fun b hb hne => (hg.block b (by omega) fun e => hne e.symm).trans (o1 b (by omega)), by omega, hat.imp id fun h => by omega, hlt⟩
 have hst1 := hst g cap w3 hA
 clear hrow1 d1 o1 hown hg hat hst c1 c2 I hrow hA
 walk_nrm
 repeat (first | (refine Walk.oq ?_; try walk_nrm) | (refine Ax ?_; walk_nrm))
 try walk_nrm
 refine Aa z37 ?_
 refine Ah (Post := fun v w' => v = .tuple #[] /\ P1 g cap w') ?_ Ao (by rfl) (by decide) rfl Try.func53 (by kernel_rfl) (by rfl) ?_
 ·walk_nrm
  exact hst1
 rintro v w4 ⟨rfl, hP1⟩
 have hse1 := hse g cap w4 hP1
 walk_nrm
 refine Aa z37 ?_
 refine Ah (Post := fun v w' => v = .tuple #[] /\ P2 g cap w') ?_ Ao (by rfl) (by decide) rfl Try.func52 (by kernel_rfl) (by rfl) ?_
 ·walk_nrm
  exact hse1
 rintro v w5 ⟨rfl, hP2⟩
 walk_nrm
 refine Aa z37 ?_
 refine Walk.ctl rfl (fun w => stepG_inLoop) ?_
 refine .stop fun d => ⟨g, cap, Am ?_, w5, d, hP2, rfl⟩
 simp only [hdRun3, hcc]
 rfl
end
end
end Go.Proofs.Ytjenoiekfkhafaa
