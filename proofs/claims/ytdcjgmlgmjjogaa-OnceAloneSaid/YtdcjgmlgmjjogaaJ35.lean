/- Part 35. -/
import Derived.Test.YtdcjgmlgmjjogaaJ24
import Derived.Test.YtdcjgmlgmjjogaaJ30
import Derived.Test.YtdcjgmlgmjjogaaJ33
import Derived.Test.YtdcjgmlgmjjogaaJ34
set_option linter.unusedSimpArgs false
set_option linter.unusedVariables false
set_option maxHeartbeats 8000000
set_option maxRecDepth 100000
namespace Go.Proofs.Ytdcjgmlgmjjogaa
open Go.Conc Go.RowKit Go.Relay
open Go.ConcN (upd upd_ne upd_same)
section
section
variable {main : Bool} {S : Nat → Prop} {B : Nat} {la : Option Addr} {lc : Nat} {sl : List Int} {most : Int} {p rd : Nat} {oa : Option Addr} {oc : Nat} {ord : List Nat}
theorem tu_app {w w3 : World} {o : Obj} {x g cap : Nat} (X : TuX S B la lc sl most p rd oa oc ord false w) (hown : w3.ownsRow 0 3 1 (.slice (some ⟨g, 0, none⟩) (ord.length + 1) cap) (ord.length + 1) (ordRow ord ++ [.int .i64 (x : Nat)])) (hg : (w.alloc o).grownBy w3 (Value.slice oa ord.length oc).ownBlock) (hat : (Value.slice oa ord.length oc).ownBlock = some g ∨ g = (w.alloc o).heap.size) :
  TuX (fun g => S g ∨ w.heap.size ≤ g) B la lc sl most p rd (some ⟨g, 0, none⟩) cap (ord ++ [x]) false (w3.setCell ⟨B, 4, none⟩ (.slice (some ⟨g, 0, none⟩) (ord.length + 1) cap)) ∧ Chg S w (w3.setCell ⟨B, 4, none⟩ (.slice (some ⟨g, 0, none⟩) (ord.length + 1) cap)) := by
 have hs : (w.alloc o).heap.size = w.heap.size + 1 := by simp
 have hgs := hg.size
 have hlB := X.lt
 have far : ∀ y, y < w.heap.size → (Value.slice oa ord.length oc).ownBlock ≠ some y → w3.heap[y]? = w.heap[y]? := fun y hy hn => (hg.block y (by omega) (fun e => hn e.symm)).trans (heap_new_lt _ _ hy)
 have hB3 : w3.heap[B]? = w.heap[B]? := far B hlB fun e => (X.so B e).2.1 rfl
 have hgB : g ≠ B := fun e => by
  rcases hat with h | h
  ·exact (X.so g h).2.1 e
  ·omega
 have hl : (ord ++ [x]).length = ord.length + 1 := by simp
 refine ⟨⟨?_, ?_, ?_, .inl X.sb, fun y hy => ⟨.inl (X.sq y hy).1, (X.sq y hy).2⟩, fun y hy => ?_⟩, by rw [size_set]; omega, fun y hy hn => ?_⟩
 ·rw [hl, heap_set_self _ _ (hB3.trans X.blk)]
  simp [tuA]
 ·refine row_same X.lst fun y hy => (heap_set_other _ _ _ _ (X.sq y hy).2).trans (far y (X.lst.lt y hy).2 fun e => (X.so y e).2.2 hy)
 ·rw [hl, ordRow_snoc]
  exact row_same hown fun y hy => heap_set_other _ _ _ _ (by
   simp only [Value.ownBlock, Option.some.injEq] at hy
   show y ≠ B
   omega)
 ·simp only [Value.ownBlock, Option.some.injEq] at hy
  subst hy
  rcases hat with h | h
  ·exact ⟨.inl (X.so g h).1, (X.so g h).2⟩
  ·refine ⟨.inr (by omega), hgB, fun e => ?_⟩
   have := (X.lst.lt g e).2
   omega
 ·rw [heap_set_other _ _ _ _ (fun e => hn (by rw [e]; exact X.sb))]
  exact far y hy fun e => hn (X.so y e).1
def PickOut (S : Nat → Prop) (B : Nat) (la : Option Addr) (lc : Nat) (sl : List Int) (most : Int) (p rd : Nat) (ord : List Nat) (x : Nat) (w w' : World) : Prop := ∃ oa oc, TuX (fun g => S g ∨ w.heap.size ≤ g) B la lc sl most p rd oa oc (ord ++ [x]) false w' ∧ Chg S w w'
theorem PickOut.pre {x : Nat} {w w1 w' : World} (hC : Chg S w w1) (H : PickOut S B la lc sl most p rd ord x w1 w') : PickOut S B la lc sl most p rd ord x w w' := by
 obtain ⟨oa, oc, X, h⟩ := H
 have := hC.size
 exact ⟨oa, oc, X.mono fun g hg => hg.imp id fun h => by omega, hC.trans h fun _ _ h => h⟩
theorem pick_take (tl o n tc q m : Nat) (u : Nat → Value) (c : Frame) (cs : List Frame) (w : World) (hn : n ≤ 64) (X : TuX S B la lc sl most p rd oa oc ord false w) (hp : p < sl.length) (hL : sl.length ≤ 17592186044416) (hord : ord.length ≤ 1048576) (hz : sl[p]? = some (m : Int)) (hm : m < n) (h1 : w.cell? ⟨tl, o + m, none⟩ = some (.pointer (some ⟨q, 0, none⟩))) (h2 : w.cell? ⟨q, 13, none⟩ = some (.bool false)) (h3 : ¬ S tl) (h4 : ¬ S q) :
  Walk Try.prog main (DR (fun _ => none)) (fun g w' => g = G (c.finish (.int .i64 (m : Nat))) cs ∧ PickOut S B la lc sl most (p + 1) rd ord m w w') (G (hdP1 B (.slice (some ⟨tl, o, none⟩) n tc) u) (c :: cs)) w := by
 obtain ⟨lb, rfl, hzc, hzB, hzS⟩ := X.num hz
 have c0 : w.cell? ⟨B, 0, none⟩ = some (.slice (some ⟨lb, 0, none⟩) sl.length lc) := (cell_of X.blk 0).trans rfl
 have c1 : w.cell? ⟨B, 1, none⟩ = some (.int .i64 (p : Nat)) := (cell_of X.blk 1).trans rfl
 have z1 := frozen_of X.blk 1
 have hw1 : IntKind.wrap .i64 ((p : Int) + 1) = (p : Int) + 1 := by rw [IntKind.wrap_i64]; omega
 have hc : ((p + 1 : Nat) : Int) = (p : Int) + 1 := by simp
 have hm0 : (0 : Int) ≤ (m : Int) := by omega
 have k1 : (w.setCell ⟨B, 1, none⟩ (.int .i64 ((p : Int) + 1))).cell? ⟨tl, o + m, none⟩ = some (.pointer (some ⟨q, 0, none⟩)) := (World.cell?_of_block (a := ⟨tl, o + m, none⟩) (heap_set_other _ _ _ _ (fun e => h3 (by have e : tl = B := e; rw [e]; exact X.sb)))).trans h1
 have k2 : (w.setCell ⟨B, 1, none⟩ (.int .i64 ((p : Int) + 1))).cell? ⟨q, 13, none⟩ = some (.bool false) := (World.cell?_of_block (a := ⟨q, 13, none⟩) (heap_set_other _ _ _ _ (fun e => h4 (by have e : q = B := e; rw [e]; exact X.sb)))).trans h2
 have X1 := X.setP (p + 1)
 rw [hc] at X1
 have hC1 : Chg S w (w.setCell ⟨B, 1, none⟩ (.int .i64 ((p : Int) + 1))) := Chg.set X.sb
 clear X hz
 generalize hsl : sl.length = L at *
 unfold hdP1
 repeat (first | refine Walk.cx ?_ | (refine Walk.cReg ?_; simp only [z36]) | (refine Walk.oq ?_; try walk_nrm) | (refine Walk.un ?_; walk_nrm))
 (refine Walk.drawnC (by kernel_rfl) size36_12 (by kernel_rfl) (by kernel_rfl) (by decide) ?_; simp only [List.range, List.range.loop]; repeat (first | (refine Cm.oq ?_) | (refine Cm.unw (ho_of (by conv => lhs; whnf) (by kernel_rfl)) (by rfl) ?_; walk_nrm)))
 refine Cm.done ?_
 repeat (first | refine Walk.cx ?_ | (refine Walk.cReg ?_; simp only [z36]) | (refine Walk.oq ?_; try walk_nrm) | (refine Walk.un ?_; walk_nrm))
 (refine Walk.drawnC (by kernel_rfl) size36_13 (by kernel_rfl) (by kernel_rfl) (by decide) ?_; simp only [List.range, List.range.loop]; repeat (first | (refine Cm.oq ?_) | (refine Cm.unw (ho_of (by conv => lhs; whnf) (by kernel_rfl)) (by rfl) ?_; walk_nrm)))
 refine Cm.done ?_
 repeat (first | refine Walk.cx ?_ | (refine Walk.cReg ?_; simp only [z36]) | (refine Walk.oq ?_; try walk_nrm) | (refine Walk.un ?_; walk_nrm))
 (have hfr := fr0 B 1; refine Walk.os hfr c1 ?_; clear hfr; try walk_nrm)
 clear c0 c1 z1 hzc hw1 h1 h2
 generalize w.setCell ⟨B, 1, none⟩ (.int .i64 ((p : Int) + 1)) = w1 at *
 have c4 : w1.cell? ⟨B, 4, none⟩ = some (.slice oa ord.length oc) := (cell_of X1.blk 4).trans rfl
 repeat (first | refine Walk.cx ?_ | (refine Walk.cReg ?_; simp only [z36]) | (refine Walk.oq ?_; try walk_nrm) | (refine Walk.un ?_; walk_nrm))
 (refine Walk.oa ?_; try walk_nrm)
 have hrow : (w1.alloc (.cells #[.int .i64 (m : Nat)] 3)).ownsRow 0 3 1 (.slice oa ord.length oc) ord.length (ordRow ord) := row_same X1.row fun g hg => heap_new_lt _ _ (X1.row.lt g hg).2
 have hnew : ∀ y v, ([.int .i64 (m : Nat)] : List Value)[y]? = some v → (w1.alloc (.cells #[.int .i64 (m : Nat)] 3)).cell? ((⟨w1.heap.size, 0, none⟩ : Addr).add y) = some v := fun y v hv => by
  rw [add_none, Nat.zero_add]
  refine (cell_of (heap_alloc_new _ _) y).trans ?_
  simpa using hv
 have hi3 := Option.some_get (show (Try.prog.info? 3).isSome = true by kernel_rfl)
 refine Walk.append (.tmp 90) (.tmp 92) 23 (ho_of (by conv => lhs; whnf) (by kernel_rfl)) (by rfl) (by decide) rfl 0 3 _ (.int .i64 0) 1 8 (by kernel_rfl) hi3.symm (by rfl) (by rfl) (by rfl) (by rfl) (by decide) (.slice oa ord.length oc) ord.length (ordRow ord) rfl hrow ⟨w1.heap.size, 0, none⟩ 1 1 [.int .i64 (m : Nat)] ?_ (by rfl) hnew (by simp [Value.oneCell']) (by decide) (by simp [maxLen]; omega) (by omega) (Nat.zero_le _) (fun g _ => ap0 g) (fun g cap w3 hown hg hat hlt => ?_)
 ·simp [Act.eval]
 clear hi3 hnew hrow
 obtain ⟨X4, hC4⟩ := tu_app (x := m) X1 hown hg hat
 have hP : PickOut S B (some ⟨lb, 0, none⟩) lc sl most (p + 1) rd ord m w (w3.setCell ⟨B, 4, none⟩ (.slice (some ⟨g, 0, none⟩) (ord.length + 1) cap)) := PickOut.pre hC1 ⟨_, _, X4, hC4⟩
 have hB3 : w3.heap[B]? = w1.heap[B]? := (hg.block B (by simp; have := X1.lt; omega) (fun e => (X1.so B e.symm).2.1 rfl)).trans (heap_new_lt _ _ X1.lt)
 have k4 : w3.cell? ⟨B, 4, none⟩ = some (.slice oa ord.length oc) := (World.cell?_of_block (a := ⟨B, 4, none⟩) hB3).trans c4
 have z4 : w3.frozen? ⟨B, 4, none⟩ = false := frozen_of (hB3.trans X1.blk) 4
 clear hown hg hat X4 hC4 c4 hB3
 walk_nrm
 repeat (first | refine Walk.cx ?_ | (refine Walk.cReg ?_; simp only [z36]) | (refine Walk.oq ?_; try walk_nrm) | (refine Walk.un ?_; walk_nrm))
 (have hfr := fr0 B 4; refine Walk.os hfr k4 ?_; clear hfr; try walk_nrm)
 generalize w3.setCell ⟨B, 4, none⟩ (.slice (some ⟨g, 0, none⟩) (ord.length + 1) cap) = w4 at *
 repeat (first | refine Walk.cx ?_ | (refine Walk.cReg ?_; simp only [z36]) | (refine Walk.oq ?_; try walk_nrm) | (refine Walk.un ?_; walk_nrm))
 refine Walk.on1 rfl rfl Try.func36 rfl (.stop fun d => ⟨rfl, ?_⟩)
 obtain ⟨oa', oc', h, h'⟩ := hP
 exact ⟨oa', oc', h.at d, h'.at d⟩
theorem pick_last (tl o n tc q : Nat) (u : Nat → Value) (c : Frame) (cs : List Frame) (w : World) (hn : n ≤ 64) (X : TuX S B la lc sl most p rd oa oc ord false w) (hord : ord.length ≤ 1048576) (hrd : rd < n) (h1 : w.cell? ⟨tl, o + rd, none⟩ = some (.pointer (some ⟨q, 0, none⟩))) (h2 : w.cell? ⟨q, 13, none⟩ = some (.bool false)) :
  Walk Try.prog main (DR (fun _ => none)) (fun g w' => g = G (c.finish (.int .i64 (rd : Nat))) cs ∧ PickOut S B la lc sl most p ((rd + 1) % n) ord rd w w') (G (hdP2 B (.slice (some ⟨tl, o, none⟩) n tc) u) (c :: cs)) w := by
 have c2 : w.cell? ⟨B, 2, none⟩ = some (.int .i64 (rd : Nat)) := (cell_of X.blk 2).trans rfl
 have z2 := frozen_of X.blk 2
 have hw1 : IntKind.wrap .i64 ((rd : Int) + 1) = (rd : Int) + 1 := by rw [IntKind.wrap_i64]; omega
 have ht : Int.tmod ((rd : Int) + 1) (n : Int) = (((rd + 1) % n : Nat) : Int) := by
  rw [Int.tmod_eq_emod_of_nonneg (by omega)]
  simp
 have hn0 : ¬ n = 0 := by omega
 generalize (rd + 1) % n = x at *
 have X1 := X.setR x
 have hC1 : Chg S w (w.setCell ⟨B, 2, none⟩ (.int .i64 (x : Nat))) := Chg.set X.sb
 clear X
 unfold hdP2
 repeat (first | refine Walk.cx ?_ | (refine Walk.cReg ?_; simp only [z36]) | (refine Walk.oq ?_; try walk_nrm) | (refine Walk.un ?_; walk_nrm))
 (have hfr := fr0 B 2; refine Walk.os hfr c2 ?_; clear hfr; try walk_nrm)
 clear c2 z2 hw1 h1 h2 ht
 generalize w.setCell ⟨B, 2, none⟩ (.int .i64 (x : Nat)) = w1 at *
 have c4 : w1.cell? ⟨B, 4, none⟩ = some (.slice oa ord.length oc) := (cell_of X1.blk 4).trans rfl
 repeat (first | refine Walk.cx ?_ | (refine Walk.cReg ?_; simp only [z36]) | (refine Walk.oq ?_; try walk_nrm) | (refine Walk.un ?_; walk_nrm))
 (refine Walk.oa ?_; try walk_nrm)
 have hrow : (w1.alloc (.cells #[.int .i64 (rd : Nat)] 3)).ownsRow 0 3 1 (.slice oa ord.length oc) ord.length (ordRow ord) := row_same X1.row fun g hg => heap_new_lt _ _ (X1.row.lt g hg).2
 have hnew : ∀ y v, ([.int .i64 (rd : Nat)] : List Value)[y]? = some v → (w1.alloc (.cells #[.int .i64 (rd : Nat)] 3)).cell? ((⟨w1.heap.size, 0, none⟩ : Addr).add y) = some v := fun y v hv => by
  rw [add_none, Nat.zero_add]
  refine (cell_of (heap_alloc_new _ _) y).trans ?_
  simpa using hv
 have hi3 := Option.some_get (show (Try.prog.info? 3).isSome = true by kernel_rfl)
 refine Walk.append (.tmp 137) (.tmp 139) 23 (ho_of (by conv => lhs; whnf) (by kernel_rfl)) (by rfl) (by decide) rfl 0 3 _ (.int .i64 0) 1 8 (by kernel_rfl) hi3.symm (by rfl) (by rfl) (by rfl) (by rfl) (by decide) (.slice oa ord.length oc) ord.length (ordRow ord) rfl hrow ⟨w1.heap.size, 0, none⟩ 1 1 [.int .i64 (rd : Nat)] ?_ (by rfl) hnew (by simp [Value.oneCell']) (by decide) (by simp [maxLen]; omega) (by omega) (Nat.zero_le _) (fun g _ => ap0 g) (fun g cap w3 hown hg hat hlt => ?_)
 ·simp [Act.eval]
 clear hi3 hnew hrow
 obtain ⟨X4, hC4⟩ := tu_app (x := rd) X1 hown hg hat
 have hP : PickOut S B la lc sl most p x ord rd w (w3.setCell ⟨B, 4, none⟩ (.slice (some ⟨g, 0, none⟩) (ord.length + 1) cap)) := PickOut.pre hC1 ⟨_, _, X4, hC4⟩
 have hB3 : w3.heap[B]? = w1.heap[B]? := (hg.block B (by simp; have := X1.lt; omega) (fun e => (X1.so B e.symm).2.1 rfl)).trans (heap_new_lt _ _ X1.lt)
 have k4 : w3.cell? ⟨B, 4, none⟩ = some (.slice oa ord.length oc) := (World.cell?_of_block (a := ⟨B, 4, none⟩) hB3).trans c4
 have z4 : w3.frozen? ⟨B, 4, none⟩ = false := frozen_of (hB3.trans X1.blk) 4
 clear hown hg hat X4 hC4 c4 hB3
 walk_nrm
 repeat (first | refine Walk.cx ?_ | (refine Walk.cReg ?_; simp only [z36]) | (refine Walk.oq ?_; try walk_nrm) | (refine Walk.un ?_; walk_nrm))
 (have hfr := fr0 B 4; refine Walk.os hfr k4 ?_; clear hfr; try walk_nrm)
 generalize w3.setCell ⟨B, 4, none⟩ (.slice (some ⟨g, 0, none⟩) (ord.length + 1) cap) = w4 at *
 repeat (first | refine Walk.cx ?_ | (refine Walk.cReg ?_; simp only [z36]) | (refine Walk.oq ?_; try walk_nrm) | (refine Walk.un ?_; walk_nrm))
 refine Walk.on1 rfl rfl Try.func36 rfl (.stop fun d => ⟨rfl, ?_⟩)
 obtain ⟨oa', oc', h, h'⟩ := hP
 exact ⟨oa', oc', h.at d, h'.at d⟩
end
section
variable {main : Bool} {Y : Type} {A : Abs Y} {F st : Y × List Nat} {S : Nat → Prop} {B : Nat} {la : Option Addr} {lc : Nat} {sl : List Int} {most : Int} {p rd : Nat} {oa : Option Addr} {oc : Nat} {ta : Option Addr} {tc : Nat} {f : Nat → Bool} {c : Frame} {cs : List Frame}
def NextP (A : Abs Y) (F st : Y × List Nat) (sl : List Int) (S : Nat → Prop) (B : Nat) (la : Option Addr) (lc : Nat) (most : Int) (w : World) (v : Value) (w' : World) : Prop :=
 ∃ x p' rd', x < A.n ∧ A.out st.1 x = none ∧ v = .int .i64 (x : Nat) ∧ Ahead A F sl p' rd' (A.next st.1 x, st.2 ++ [x]) ∧ rd' < A.n ∧ PickOut S B la lc sl most p' rd' st.2 x w w'
theorem NextP.pre {w w1 w' : World} {v : Value} (hC : Chg S w w1) (H : NextP A F st sl S B la lc most w1 v w') : NextP A F st sl S B la lc most w v w' := by
 obtain ⟨x, p', rd', h1, h2, h3, h4, h5, h6⟩ := H
 exact ⟨x, p', rd', h1, h2, h3, h4, h5, h6.pre hC⟩
theorem Ahead.mod {rd' : Nat} (H : Ahead A F sl p rd st) (h : rd' % A.n = rd % A.n) : Ahead A F sl p rd' st := by
 obtain ⟨⟨f, x, h1, h2, h3, h4⟩, h5, h6⟩ := H
 exact ⟨⟨f, x, h1, h.trans h2, h3, h4⟩, h5, h6⟩
variable (hov : overA A st = false) (hf : ∀ i, i < A.n → f i = (A.out st.1 i).isSome) (hn : A.n ≤ 64) (hord : st.2.length ≤ 1048576)
include hov hf hn hord
theorem pick_rounds : ∀ (k rd : Nat) (u : Nat → Value) (w : World), A.out st.1 ((rd + k) % A.n) = none → rd < A.n → TuX S B la lc sl most sl.length rd oa oc st.2 false w → EndAt S ta A.n f w → Ahead A F sl sl.length rd st →
  Walk Try.prog main (DR (fun _ => none)) (fun g w' => ∃ v, NextP A F st sl S B la lc most w v w' ∧ g = G (c.finish v) cs) (G (hdP2 B (.slice ta A.n tc) u) (c :: cs)) w := by
 intro k
 induction k with
 | zero =>
  intro rd u w hk hrd X he H
  rw [Nat.add_zero, Nat.mod_eq_of_lt hrd] at hk
  obtain ⟨tl, o, q, rfl, h1, h2, h3, h4⟩ := he rd hrd
  rw [hf _ hrd, hk] at h2
  refine (pick_last tl o A.n tc q u c cs w hn X hord hrd h1 h2).mono ?_
  rintro g w' ⟨rfl, hP⟩
  refine ⟨_, ⟨rd, sl.length, (rd + 1) % A.n, hrd, hk, rfl, ?_, Nat.mod_lt _ (by omega), hP⟩, rfl⟩
  have := (H.turn hov).1
  rw [Nat.mod_eq_of_lt hrd, step_yes hov hrd hk] at this
  exact this.mod (Nat.mod_mod _ _)
 | succ k ih =>
  intro rd u w hk hrd X he H
  obtain ⟨tl, o, q, rfl, h1, h2, h3, h4⟩ := he rd hrd
  cases ho : A.out st.1 rd with
  | none =>
   rw [hf _ hrd, ho] at h2
   refine (pick_last tl o A.n tc q u c cs w hn X hord hrd h1 h2).mono ?_
   rintro g w' ⟨rfl, hP⟩
   refine ⟨_, ⟨rd, sl.length, (rd + 1) % A.n, hrd, ho, rfl, ?_, Nat.mod_lt _ (by omega), hP⟩, rfl⟩
   have := (H.turn hov).1
   rw [Nat.mod_eq_of_lt hrd, step_yes hov hrd ho] at this
   exact this.mod (Nat.mod_mod _ _)
  | some b =>
   rw [hf _ hrd, ho] at h2
   refine (pick_pass tl o A.n tc q u (c :: cs) w hn X hrd h1 h2).then ?_
   rintro g w' ⟨⟨u', rfl⟩, d, rfl⟩
   refine Walk.back ?_ d
   have hA := (H.turn hov).2
   rw [Nat.mod_eq_of_lt hrd, step_no (by
    rintro ⟨_, _, h⟩
    rw [Int.toNat_natCast, ho] at h
    cases h)] at hA
   have hC : Chg S w (w.setCell ⟨B, 2, none⟩ (.int .i64 (((rd + 1) % A.n : Nat) : Int))) := Chg.set X.sb
   refine (ih ((rd + 1) % A.n) u' _ ?_ (Nat.mod_lt _ (by omega)) (X.setR _) (he.chg hC fun _ _ h => h) (hA.mod (Nat.mod_mod _ _))).mono fun g w' ⟨v, h, hg⟩ => ⟨v, h.pre hC, hg⟩
   rw [Nat.add_mod, Nat.mod_mod, ← Nat.add_mod, show rd + 1 + k = rd + (k + 1) by omega]
   exact hk
theorem pick_list (hsl : sl.length ≤ 17592186044416) : ∀ (r p : Nat) (u : Nat → Value) (w : World), p + r = sl.length → rd < A.n → TuX S B la lc sl most p rd oa oc st.2 false w → EndAt S ta A.n f w → Ahead A F sl p rd st →
  Walk Try.prog main (DR (fun _ => none)) (fun g w' => ∃ v, NextP A F st sl S B la lc most w v w' ∧ g = G (c.finish v) cs) (G (hdP1 B (.slice ta A.n tc) u) (c :: cs)) w := by
 intro r
 induction r with
 | zero =>
  intro p u w hp hrd X he H
  have hp : p = sl.length := hp
  subst hp
  refine (pick_next ta A.n tc u (c :: cs) w X).then ?_
  rintro g w' ⟨⟨u', rfl⟩, d, rfl⟩
  refine Walk.back ?_ d
  obtain ⟨k, hk, ho⟩ := over_far hov rd
  exact pick_rounds hov hf hn hord k rd u' w ho hrd X he H
 | succ r ih =>
  intro p u w hp hrd X he H
  have hpl : p < sl.length := by omega
  have hz : sl[p]? = some sl[p] := List.getElem?_eq_getElem hpl
  generalize sl[p] = z at hz
  have hA := H.take hz
  have hpos : 0 < A.n := by omega
  obtain ⟨tl, o, q0, rfl, _⟩ := he 0 hpos
  by_cases hok : 0 ≤ z ∧ z < A.n ∧ A.out st.1 z.toNat = none
  ·obtain ⟨h0, h1, h2⟩ := hok
   obtain ⟨m, rfl⟩ : ∃ m : Nat, z = m := ⟨z.toNat, by omega⟩
   have hm : m < A.n := by omega
   rw [Int.toNat_natCast] at h2
   obtain ⟨tl', o', q, e, e1, e2, e3, e4⟩ := he m hm
   cases e
   rw [hf _ hm, h2] at e2
   refine (pick_take tl o A.n tc q m u c cs w hn X hpl hsl hord hz hm e1 e2 e3 e4).mono ?_
   rintro g w' ⟨rfl, hP⟩
   refine ⟨_, ⟨m, p + 1, rd, hm, h2, rfl, ?_, hrd, hP⟩, rfl⟩
   rw [step_yes hov hm h2] at hA
   exact hA
  ·rw [step_no hok] at hA
   have hno : ¬ (0 ≤ z ∧ z < A.n ∧ f z.toNat = false) := by
    rintro ⟨h0, h1, h2⟩
    have hzn : z.toNat < A.n := by omega
    rw [hf _ hzn] at h2
    refine hok ⟨h0, h1, ?_⟩
    cases e : A.out st.1 z.toNat with
    | none => rfl
    | some b => rw [e] at h2; cases h2
   refine (pick_skip tl o A.n tc f z u (c :: cs) w hn X hpl hsl hz he hno).then ?_
   rintro g w' ⟨⟨u', rfl⟩, d, rfl⟩
   refine Walk.back ?_ d
   have hC : Chg S w (w.setCell ⟨B, 1, none⟩ (.int .i64 ((p + 1 : Nat) : Int))) := Chg.set X.sb
   exact (ih (p + 1) u' _ (by omega) hrd (X.setP _) (he.chg hC fun _ _ h => h) hA).mono fun g w' ⟨v, h, hg⟩ => ⟨v, h.pre hC, hg⟩
end
section
variable {main : Bool} {Y : Type} {A : Abs Y} {F st : Y × List Nat} {S : Nat → Prop} {B : Nat} {la : Option Addr} {lc : Nat} {sl : List Int} {p rd : Nat} {oa : Option Addr} {oc : Nat} {ta : Option Addr} {tc : Nat} {f : Nat → Bool}
def PickIs (A : Abs Y) (F st : Y × List Nat) (sl : List Int) (S : Nat → Prop) (B : Nat) (la : Option Addr) (lc p rd : Nat) (oa : Option Addr) (oc : Nat) (w : World) (v : Value) (w' : World) : Prop :=
 (v = .int .i64 (-1) ∧ overA A st = true ∧ TuX S B la lc sl A.most p rd oa oc st.2 (decide (0 < goingA A st.1)) w' ∧ Chg S w w') ∨ (overA A st = false ∧ NextP A F st sl S B la lc A.most w v w')
theorem pick_w (hf : ∀ i, i < A.n → f i = (A.out st.1 i).isSome) (hn : A.n ≤ 64) (hm : A.most ≤ 1048576) (hsl : sl.length ≤ 17592186044416) (w : World) (X : TuX S B la lc sl A.most p rd oa oc st.2 false w) (he : EndAt S ta A.n f w) (H : Ahead A F sl p rd st) (hrd : rd < A.n ∨ A.n = 0) :
  CallW Try.prog main (fun _ => none) 36 #[.pointer (some ⟨B, 0, none⟩), .slice ta A.n tc] w (PickIs A F st sl S B la lc p rd oa oc w) := by
 intro c cs
 refine (pick_in B (.slice ta A.n tc) (c :: cs) w).then ?_
 rintro g w1 ⟨⟨u, rfl⟩, d, rfl⟩
 refine Walk.back ?_ d
 refine (pick_count S B ta A.n tc f (c :: cs) w hn he A.n 0 0 u (by omega) (Nat.le_refl _)).then ?_
 rintro g w1 ⟨⟨u1, rfl⟩, d1, rfl⟩
 refine Walk.back ?_ d1
 have hcount : 0 + (List.range' 0 A.n).countP (fun j => !f j) = goingA A st.1 := by
  rw [Nat.zero_add, ← List.range_eq_range']
  unfold goingA
  refine List.countP_congr fun i hi => ?_
  rw [hf i (List.mem_range.1 hi)]
  cases A.out st.1 i <;> simp
 rw [hcount]
 by_cases h0 : goingA A st.1 = 0
 ·rw [h0]
  refine (pick_none B ta A.n tc u1 c cs w).mono ?_
  rintro g w' ⟨rfl, d, rfl⟩
  refine ⟨_, .inl ⟨rfl, ?_, ?_, Chg.refl.at d⟩, rfl⟩
  ·unfold overA
   rw [h0]
   simp
  ·rw [h0]
   exact X.at d
 ·by_cases h1 : A.most ≤ st.2.length
  ·refine (pick_most B ta A.n tc _ u1 c cs w h0 X h1).mono ?_
   rintro g w' ⟨rfl, X', hC⟩
   refine ⟨_, .inl ⟨rfl, ?_, ?_, hC⟩, rfl⟩
   ·unfold overA
    rw [decide_eq_true h1, Bool.or_true]
   ·rw [decide_eq_true (Nat.pos_of_ne_zero h0)]
    exact X'
  ·have hov : overA A st = false := by
    unfold overA
    rw [decide_eq_false h0, decide_eq_false h1]
    rfl
   have hrd' : rd < A.n := by
    rcases hrd with h | h
    ·exact h
    ·obtain ⟨_, j, hj, _⟩ := over_len hov
     omega
   refine (pick_go B ta A.n tc _ u1 (c :: cs) w h0 X (by omega)).then ?_
   rintro g w' ⟨⟨u2, rfl⟩, d2, rfl⟩
   refine Walk.back ?_ d2
   have hord : st.2.length ≤ 1048576 := by omega
   have hp : p + (sl.length - p) = sl.length := by have := H.le; omega
   refine (pick_list hov hf hn hord hsl (sl.length - p) p u2 w hp hrd' X he H).mono ?_
   rintro g w' ⟨v, hN, rfl⟩
   exact ⟨v, .inr ⟨hov, hN⟩, rfl⟩
end
end
section
noncomputable def reg12_0 := rg Try.f12.body [0]
noncomputable def reg12_1 := rg Try.f12.body [1, 0]
noncomputable def reg12_2 := rg Try.f12.body [1, 1, 0, 0]
noncomputable def reg12_3 := rg Try.f12.body [1, 1, 0, 1, 0, 0, 0, 0]
noncomputable def reg12_5 := rg Try.f12.body [1, 1, 0, 1, 0, 0, 1, 0, 0]
noncomputable def reg12_4 := rg Try.f12.body [1, 1, 0, 1, 0, 0, 1, 1]
noncomputable def reg12_6 := rg Try.f12.body [1, 1, 1, 0, 0]
noncomputable def reg12_7 := rg Try.f12.body [1, 1, 1, 0, 1, 0, 0, 0, 0]
noncomputable def reg12_9 := rg Try.f12.body [1, 1, 1, 0, 1, 0, 0, 1, 0, 0]
noncomputable def reg12_8 := rg Try.f12.body [1, 1, 1, 0, 1, 0, 0, 1, 1]
noncomputable def reg12_10 := rg Try.f12.body [1, 1, 1, 1, 0]
noncomputable def reg12_11 := rg Try.f12.body [1, 1, 1, 1, 1, 0, 0, 0, 0]
noncomputable def reg12_12 := rg Try.f12.body [1, 1, 1, 1, 1, 0, 0, 0, 1, 0, 0]
noncomputable def reg12_13 := rg Try.f12.body [1, 1, 1, 1, 1, 0, 0, 0, 1, 0, 1, 0, 0]
theorem size12_13 : reg12_13.size = 9 := by kernel_rfl
noncomputable def reg12_14 := rg Try.f12.body [1, 1, 1, 1, 1, 0, 0, 0, 1, 1]
theorem z12 : List.range reg12_0.size = [0] ∧ List.range reg12_1.size = [0, 1, 2, 3, 4] ∧ List.range reg12_2.size = [0] ∧ List.range reg12_3.size = [0, 1, 2, 3] ∧ List.range reg12_4.size = [0, 1, 2] ∧ List.range reg12_5.size = [0, 1, 2, 3, 4, 5, 6, 7, 8, 9, 10] ∧ List.range reg12_6.size = [0] ∧ List.range reg12_7.size = [0, 1, 2, 3, 4, 5, 6] ∧ List.range reg12_8.size = [0, 1, 2] ∧ List.range reg12_9.size = [0, 1, 2, 3, 4, 5, 6, 7, 8] ∧ List.range reg12_10.size = [0, 1, 2, 3] ∧ List.range reg12_11.size = [0, 1, 2, 3, 4, 5, 6] ∧ List.range reg12_12.size = [0, 1] ∧ List.range reg12_13.size = [0, 1, 2, 3, 4, 5, 6, 7, 8] ∧ List.range reg12_14.size = [0, 1, 2, 3, 4, 5, 6, 7, 8] := by refine ⟨?_, ?_, ?_, ?_, ?_, ?_, ?_, ?_, ?_, ?_, ?_, ?_, ?_, ?_, ?_⟩ <;> kernel_rfl
theorem code12_is : Try.f12.body = some (.seq (.region 0 reg12_0 false) (.seq (.region 1 reg12_1 false) (.seq (.seq (.region 2 reg12_2 false) (.block 0 (.loop (.seq (.seq (.region 3 reg12_3 false) (.cond (.tmp 21 ) (.skip) (.exit 0))) (.seq (.block 1 (.region 5 reg12_5 false)) (.region 4 reg12_4 false)))))) (.seq (.seq (.region 6 reg12_6 false) (.block 2 (.loop (.seq (.seq (.region 7 reg12_7 false) (.cond (.tmp 40 ) (.skip) (.exit 2))) (.seq (.block 3 (.region 9 reg12_9 false)) (.region 8 reg12_8 false)))))) (.seq (.region 10 reg12_10 false) (.block 4 (.loop (.block 5 (.seq (.region 11 reg12_11 false) (.seq (.seq (.region 12 reg12_12 false) (.cond (.tmp 62 ) (.seq (.region 13 reg12_13 true) (.ret)) (.skip))) (.region 14 reg12_14 false))))))))))) := by kernel_rfl
noncomputable def hdY0 (sz : Int) (sv : Value) (most : Int) (r m i : Nat) (u : Nat → Value) : Frame :=
 (base 12).at { tmps := #[.int .i64 sz, u 1, sv, .int .i64 most, u 4, u 5, u 6, u 7, .pointer (some ⟨r, 0, none⟩), .pointer (some ⟨m, 0, none⟩), .int .i64 i, u 11, u 12, u 13, u 14, u 15, u 16, u 17, u 18, u 19, u 20, u 21, u 22, u 23, u 24, u 25, u 26, u 27, u 28, u 29, u 30, u 31, u 32, u 33, u 34, u 35, u 36, u 37, u 38, u 39, u 40, u 41, u 42, u 43, u 44, u 45, u 46, u 47, u 48, u 49, u 50, u 51, u 52, u 53, u 54, u 55, u 56, u 57, u 58, u 59, u 60, u 61, u 62, u 63, u 64, u 65, u 66, u 67, u 68, u 69, u 70, u 71, u 72, u 73, u 74, u 75, u 76, u 77, u 78, u 79], defers := [] } [.code (.seq (.seq (.region 3 reg12_3 false) (.cond (.tmp 21 ) (.skip) (.exit 0))) (.seq (.block 1 (.region 5 reg12_5 false)) (.region 4 reg12_4 false))), .inLoop (.seq (.seq (.region 3 reg12_3 false) (.cond (.tmp 21 ) (.skip) (.exit 0))) (.seq (.block 1 (.region 5 reg12_5 false)) (.region 4 reg12_4 false))), .inBlock 0, .code (.seq (.seq (.region 6 reg12_6 false) (.block 2 (.loop (.seq (.seq (.region 7 reg12_7 false) (.cond (.tmp 40 ) (.skip) (.exit 2))) (.seq (.block 3 (.region 9 reg12_9 false)) (.region 8 reg12_8 false)))))) (.seq (.region 10 reg12_10 false) (.block 4 (.loop (.block 5 (.seq (.region 11 reg12_11 false) (.seq (.seq (.region 12 reg12_12 false) (.cond (.tmp 62 ) (.seq (.region 13 reg12_13 true) (.ret)) (.skip))) (.region 14 reg12_14 false))))))))]
noncomputable def hdY1 (sv : Value) (most : Int) (r m i : Nat) (u : Nat → Value) : Frame :=
 (base 12).at { tmps := #[u 0, u 1, sv, .int .i64 most, u 4, u 5, u 6, u 7, .pointer (some ⟨r, 0, none⟩), .pointer (some ⟨m, 0, none⟩), u 10, .int .i64 i, u 12, u 13, u 14, u 15, u 16, u 17, u 18, u 19, u 20, u 21, u 22, u 23, u 24, u 25, u 26, u 27, u 28, u 29, u 30, u 31, u 32, u 33, u 34, u 35, u 36, u 37, u 38, u 39, u 40, u 41, u 42, u 43, u 44, u 45, u 46, u 47, u 48, u 49, u 50, u 51, u 52, u 53, u 54, u 55, u 56, u 57, u 58, u 59, u 60, u 61, u 62, u 63, u 64, u 65, u 66, u 67, u 68, u 69, u 70, u 71, u 72, u 73, u 74, u 75, u 76, u 77, u 78, u 79], defers := [] } [.code (.seq (.seq (.region 7 reg12_7 false) (.cond (.tmp 40 ) (.skip) (.exit 2))) (.seq (.block 3 (.region 9 reg12_9 false)) (.region 8 reg12_8 false))), .inLoop (.seq (.seq (.region 7 reg12_7 false) (.cond (.tmp 40 ) (.skip) (.exit 2))) (.seq (.block 3 (.region 9 reg12_9 false)) (.region 8 reg12_8 false))), .inBlock 2, .code (.seq (.region 10 reg12_10 false) (.block 4 (.loop (.block 5 (.seq (.region 11 reg12_11 false) (.seq (.seq (.region 12 reg12_12 false) (.cond (.tmp 62 ) (.seq (.region 13 reg12_13 true) (.ret)) (.skip))) (.region 14 reg12_14 false)))))))]
noncomputable def hdY2 (r m B : Nat) (u : Nat → Value) : Frame :=
 (base 12).at { tmps := #[u 0, u 1, u 2, u 3, u 4, u 5, u 6, u 7, .pointer (some ⟨r, 0, none⟩), .pointer (some ⟨m, 0, none⟩), u 10, u 11, .pointer (some ⟨B, 0, none⟩), u 13, u 14, u 15, u 16, u 17, u 18, u 19, u 20, u 21, u 22, u 23, u 24, u 25, u 26, u 27, u 28, u 29, u 30, u 31, u 32, u 33, u 34, u 35, u 36, u 37, u 38, u 39, u 40, u 41, u 42, u 43, u 44, u 45, u 46, u 47, u 48, u 49, u 50, u 51, u 52, u 53, u 54, u 55, u 56, u 57, u 58, u 59, u 60, u 61, u 62, u 63, u 64, u 65, u 66, u 67, u 68, u 69, u 70, u 71, u 72, u 73, u 74, u 75, u 76, u 77, u 78, u 79], defers := [] } [.code (.block 5 (.seq (.region 11 reg12_11 false) (.seq (.seq (.region 12 reg12_12 false) (.cond (.tmp 62 ) (.seq (.region 13 reg12_13 true) (.ret)) (.skip))) (.region 14 reg12_14 false)))), .inLoop (.block 5 (.seq (.region 11 reg12_11 false) (.seq (.seq (.region 12 reg12_12 false) (.cond (.tmp 62 ) (.seq (.region 13 reg12_13 true) (.ret)) (.skip))) (.region 14 reg12_14 false)))), .inBlock 4]
theorem held_cells (x : Int) : (if x < 1 then 1 else if 64 < x then 64 else x) = ((cellsN x : Nat) : Int) := by
 rw [(cellsN_le x).2.2]
 split
 ·omega
 split <;> omega
structure CelI (m n lc : Nat) (la : Option Addr) (i : Nat) (w0 w : World) : Prop where
 mb : ∃ ca cc, w.heap[m]? = some (.cells #[.slice ca i cc, .slice la n lc] 101) ∧ w.ownsRow (m + 1) 104 3 (.slice ca i cc) i (List.replicate (i * 3) (.int .i64 0))
 old : ∀ b, b < m → w.heap[b]? = w0.heap[b]?
 size : m + 1 ≤ w.heap.size
theorem CelI.at {m n lc : Nat} {la : Option Addr} {i : Nat} {w0 w : World} (H : CelI m n lc la i w0 w) (d : Nat) : CelI m n lc la i w0 (w.at d) := ⟨H.mb, H.old, H.size⟩
section
variable {main : Bool}
theorem ply_cell (sz : Int) (sv : Value) (most : Int) (r m n lc i : Nat) (la : Option Addr) (hi : i < cellsN sz) (u : Nat → Value) (cs : List Frame) (w0 w : World) (H : CelI m n lc la i w0 w) :
  Walk Try.prog main (DR (fun _ => none)) (fun g w' => (∃ u, g = G (hdY0 sz sv most r m (i + 1) u) cs) ∧ CelI m n lc la (i + 1) w0 w') (G (hdY0 sz sv most r m i u) cs) w := by
 have hiO := Option.some_get (show (Try.prog.info? 104).isSome = true by kernel_rfl)
 obtain ⟨q1, q2, q3⟩ := cellsN_le sz
 have hh := held_w (main := main) (V := fun _ => none) sz 1 64 w
 rw [held_cells] at hh
 clear q3
 generalize cellsN sz = N at *
 obtain ⟨ca, cc, hb, hrow⟩ := H.mb
 have hsz := H.size
 have hold := H.old
 have c0 : w.cell? ⟨m, 0, none⟩ = some (.slice ca i cc) := (cell_of hb 0).trans rfl
 have hj1 : decide ((i : Int) < N) = true := by simp; omega
 have hj3 : decide (i < N) = true := by simp; omega
 have hw1 : IntKind.wrap .i64 ((i : Int) + 1) = (i : Int) + 1 := by rw [IntKind.wrap_i64]; omega
 conv => arg 5; unfold hdY0
 repeat (first | refine Walk.cx ?_ | (refine Walk.cReg ?_; simp only [z12]) | (refine Walk.oq ?_; try walk_nrm) | (refine Walk.un ?_; walk_nrm))
 refine Walk.callV (x := .int .i64 (N : Nat)) (W := w) ?_ (ho_of (by conv => lhs; whnf) (by kernel_rfl)) (by rfl) (by decide) rfl Try.func33 (by kernel_rfl) (by rfl) ?_
 ·walk_nrm
  exact hh
 walk_nrm
 repeat (first | refine Walk.cx ?_ | (refine Walk.cReg ?_; simp only [z12]) | (refine Walk.oq ?_; try walk_nrm) | (refine Walk.un ?_; walk_nrm))
 (refine Walk.oa ?_; try walk_nrm)
 have d1 := heap_alloc_new w (.cells #[.int .i64 0, .int .i64 0, .int .i64 0] 104)
 have o1 : ∀ b, b < w.heap.size → (w.alloc (.cells #[.int .i64 0, .int .i64 0, .int .i64 0] 104)).heap[b]? = w.heap[b]? := fun b hb => heap_new_lt _ _ hb
 have s1 : (w.alloc (.cells #[.int .i64 0, .int .i64 0, .int .i64 0] 104)).heap.size = w.heap.size + 1 := by simp
 have hrow1 : (w.alloc (.cells #[.int .i64 0, .int .i64 0, .int .i64 0] 104)).ownsRow (m + 1) 104 3 (.slice ca i cc) i (List.replicate (i * 3) (.int .i64 0)) := row_same hrow fun b hb => o1 b (hrow.lt b hb).2
 have hb1 := (o1 m (by omega)).trans hb
 clear c0
 generalize hQ : w.heap.size = Q at *
 generalize w.alloc (.cells #[.int .i64 0, .int .i64 0, .int .i64 0] 104) = w1 at *
 repeat (first | (refine Walk.oq ?_; try walk_nrm) | (refine Walk.un ?_; walk_nrm))
 refine Walk.append (.tmp 28) (.tmp 30) 99 (ho_of (by conv => lhs; whnf) (by kernel_rfl)) (by rfl) (by decide) rfl (m + 1) 104 _ (.agg #[.int .i64 0, .int .i64 0, .int .i64 0]) 3 24 (by kernel_rfl) hiO.symm (by rfl) (by rfl) (by rfl) (by rfl) (by decide) (.slice ca i cc) i (List.replicate (i * 3) (.int .i64 0)) rfl hrow1 ⟨Q, 0, none⟩ 1 1 [.int .i64 0, .int .i64 0, .int .i64 0] rfl (by rfl) (fun j u hu => ?_) (by intro u hu; simp only [List.mem_cons, List.not_mem_nil, or_false] at hu; rcases hu with rfl | rfl | rfl <;> rfl) (by decide) (by simp [maxLen]; omega) (by omega) (by omega) (fun b _ => ap0 b) (fun g gcap w2 hown hgr hat hlt => ?_)
 ·rw [add_none, Nat.zero_add]
  refine (cell_of d1 j).trans ?_
  simpa using hu
 have hs2 := hgr.size
 have hne : ∀ b, b < m + 1 → w2.heap[b]? = w1.heap[b]? := fun b hb => hgr.block b (by omega) fun he => by have := (hrow1.lt b he.symm).1; omega
 have hb2 := (hne m (by omega)).trans hb1
 have k0 := (cell_of hb2 0).trans rfl
 have z0 := frozen_of hb2 0
 have hlo : m + 1 ≤ g := by
  rcases hat with h | h
  ·exact (hrow1.lt g h).1
  ·omega
 have hrep : List.replicate (i * 3) (Value.int .i64 0) ++ [.int .i64 0, .int .i64 0, .int .i64 0] = List.replicate ((i + 1) * 3) (.int .i64 0) := by
  have h : [Value.int .i64 0, .int .i64 0, .int .i64 0] = List.replicate 3 (.int .i64 0) := rfl
  rw [show (i + 1) * 3 = i * 3 + 3 from by omega, h, List.replicate_append_replicate]
 rw [hrep] at hown
 walk_nrm
 repeat (first | (refine Walk.oq ?_; try walk_nrm) | (refine Walk.un ?_; walk_nrm))
 (have hfr := fr0 m 0; refine Walk.os hfr k0 ?_; clear hfr; try walk_nrm)
 have d3 : (w2.setCell ⟨m, 0, none⟩ (.slice (some ⟨g, 0, none⟩) (i + 1) gcap)).heap[m]? = some (.cells #[.slice (some ⟨g, 0, none⟩) (i + 1) gcap, .slice la n lc] 101) := by
  rw [heap_set_self _ _ hb2]
  simp
 have o3 : ∀ b, b ≠ m → (w2.setCell ⟨m, 0, none⟩ (.slice (some ⟨g, 0, none⟩) (i + 1) gcap)).heap[b]? = w2.heap[b]? := fun b hb => heap_set_other _ _ _ _ hb
 have s3 := size_set w2 ⟨m, 0, none⟩ (.slice (some ⟨g, 0, none⟩) (i + 1) gcap)
 have hown3 : (w2.setCell ⟨m, 0, none⟩ (.slice (some ⟨g, 0, none⟩) (i + 1) gcap)).ownsRow (m + 1) 104 3 (.slice (some ⟨g, 0, none⟩) (i + 1) gcap) (i + 1) (List.replicate ((i + 1) * 3) (.int .i64 0)) := row_same hown fun b hb => o3 b (by have := (hown.lt b hb).1; omega)
 clear k0 z0
 generalize w2.setCell ⟨m, 0, none⟩ (.slice (some ⟨g, 0, none⟩) (i + 1) gcap) = w3 at *
 try walk_nrm
 repeat (first | refine Walk.cx ?_ | (refine Walk.cReg ?_; simp only [z12]) | (refine Walk.oq ?_; try walk_nrm) | (refine Walk.un ?_; walk_nrm))
 refine Walk.ctl rfl (fun w => stepG_inLoop) ?_
 refine .stop fun d => ⟨at_slots ?_, ⟨⟨_, _, d3, hown3⟩, fun b hb => (o3 b (by omega)).trans ((hne b (by omega)).trans ((o1 b (by omega)).trans (hold b hb))), ?_⟩⟩
 ·have hc : ((i + 1 : Nat) : Int) = (i : Int) + 1 := by simp
  simp only [hdY0, hc]
  rfl
 ·show m + 1 ≤ w3.heap.size
  omega
theorem ply_cells (sz : Int) (sv : Value) (most : Int) (r m n lc : Nat) (la : Option Addr) (cs : List Frame) (w0 : World) : ∀ (k i : Nat) (u : Nat → Value) (w : World), i + k = cellsN sz → CelI m n lc la i w0 w →
  Walk Try.prog main (DR (fun _ => none)) (fun g w' => (∃ u, g = G (hdY0 sz sv most r m (cellsN sz) u) cs) ∧ CelI m n lc la (cellsN sz) w0 w') (G (hdY0 sz sv most r m i u) cs) w := by
 intro k
 induction k with
 | zero =>
  intro i u w hi H
  obtain rfl : i = cellsN sz := by omega
  exact .stop fun d => ⟨⟨u, rfl⟩, H.at d⟩
 | succ k ih =>
  intro i u w hi H
  refine (ply_cell sz sv most r m n lc i la (by omega) u cs w0 w H).then ?_
  rintro _ w1 ⟨⟨u1, rfl⟩, H1⟩
  exact ih (i + 1) u1 w1 (by omega) H1
theorem ply_celled (sz : Int) (sv : Value) (most : Int) (r m : Nat) (u : Nat → Value) (cs : List Frame) (w : World) :
  Walk Try.prog main (DR (fun _ => none)) (fun g w' => (∃ u, g = G (hdY1 sv most r m 0 u) cs) ∧ ∃ d, w' = w.at d) (G (hdY0 sz sv most r m (cellsN sz) u) cs) w := by
 have hh := held_w (main := main) (V := fun _ => none) sz 1 64 w
 rw [held_cells] at hh
 generalize cellsN sz = N at *
 have hj1 : decide ((N : Int) < N) = false := by simp
 have hj3 : decide (N < N) = false := by simp
 conv => arg 5; unfold hdY0
 repeat (first | refine Walk.cx ?_ | (refine Walk.cReg ?_; simp only [z12]) | (refine Walk.oq ?_; try walk_nrm) | (refine Walk.un ?_; walk_nrm))
 refine Walk.callV (x := .int .i64 (N : Nat)) (W := w) ?_ (ho_of (by conv => lhs; whnf) (by kernel_rfl)) (by rfl) (by decide) rfl Try.func33 (by kernel_rfl) (by rfl) ?_
 ·walk_nrm
  exact hh
 walk_nrm
 repeat (first | refine Walk.cx ?_ | (refine Walk.cReg ?_; simp only [z12]) | (refine Walk.oq ?_; try walk_nrm) | (refine Walk.un ?_; walk_nrm))
 refine Walk.ctl rfl (fun w => stepG_loop) ?_
 refine .stop fun d => ⟨at_slots ?_, d, rfl⟩
 simp only [hdY1]
 rfl
structure PlyIn (sz : Int) (ops : Nat → List OpV) (n : Nat) (W : World) (a2 cb cc : Nat) (pr : Nat → Option Nat) (ts : Nat → Nat) (oas : Nat → Option Addr) (ocs : Nat → Nat) (la : Option Addr) (lc : Nat) (w : World) : Prop where
 lo : W.heap.size + 1 ≤ a2 ∧ a2 ≤ w.heap.size
 old : ∀ b, b < W.heap.size → w.heap[b]? = W.heap[b]?
 res : w.heap[W.heap.size]? = some zTr
 M : OmX (fun g => a2 ≤ g) a2 cb (cellsN sz) cc (.slice la n lc) oz0 w
 row : w.ownsRow (W.heap.size + 1) 106 1 (.slice la n lc) n (ptrRow ts n)
 rowp : ∀ g, (Value.slice la n lc).ownBlock = some g → pr g = none ∧ g < a2
 prl : ∀ b j, pr b = some j → W.heap.size + 1 ≤ b ∧ b < a2 ∧ j < n
 th : ∀ j, j < n → ThX (fun b => pr b = some j) (ts j) (ops j) (oas j) (ocs j) 0 0 (fun _ => 0) [] none 0 false w
theorem ply_open (sz : Int) (tb toff n0 tc n : Nat) (ta : Option Addr) (oa : Nat → Option Addr) (ln oc : Nat → Nat) (ops : Nat → List OpV) (sv : Value) (most : Int) (cs : List Frame) (W : World) (hn : n = min n0 64) (ht : 0 < n → ta = some ⟨tb, toff, none⟩) (hI : ∀ w, (∀ b, b < W.heap.size → w.heap[b]? = W.heap[b]?) → OpsIn tb toff n oa ln oc ops w) :
  Walk Try.prog main (DR (fun _ => none)) (fun g w' => ∃ w0 pr ts oas ocs la lc, (∃ u, g = G (hdY0 sz sv most W.heap.size w0.heap.size 0 u) cs) ∧ (∃ w1, w1.heap.size = W.heap.size + 1 ∧ (∀ b, b < W.heap.size → w1.heap[b]? = W.heap[b]?) ∧ w1.heap[W.heap.size]? = some zTr ∧ ThMk ops w1 n pr ts oas ocs la lc w0) ∧ CelI w0.heap.size n lc la 0 w0 w')
   (G (Frame.enter Try.prog 12 #[.int .i64 sz, .slice ta n0 tc, sv, .int .i64 most] .normal) cs) W := by
 have hthr : ∀ w2 : World, OpsIn tb toff n oa ln oc ops w2 → CallW Try.prog main (fun _ => none) 32 #[.slice ta n0 tc] w2 (ThrOut ops n w2) := fun w2 I2 => thr_w tb toff n0 tc n ta oa ln oc ops w2 I2 hn ht
 clear hn ht
 rw [enter_at _ Try.func12 code12_is]
 simp only [Try.ntmps12, ez, Nat.reduceAdd, Nat.reduceSub]
 repeat (first | refine Walk.cx ?_ | (refine Walk.cReg ?_; simp only [z12]) | (refine Walk.oq ?_; try walk_nrm) | (refine Walk.un ?_; walk_nrm))
 (refine Walk.oa ?_; try walk_nrm)
 have d1 := heap_alloc_new W zTr
 have o1 : ∀ b, b < W.heap.size → (W.alloc zTr).heap[b]? = W.heap[b]? := fun b hb => heap_new_lt _ _ hb
 have s1 : (W.alloc zTr).heap.size = W.heap.size + 1 := by simp
 generalize hR : W.heap.size = R at *
 have hz : (Obj.cells #[.slice none 0 0, .slice none 0 0, .slice none 0 0, .bool false] 29) = zTr := rfl
 try simp only [hz]
 generalize W.alloc zTr = w1 at *
 have I1 := hI w1 (by simpa using o1)
 repeat (first | refine Walk.cx ?_ | (refine Walk.cReg ?_; simp only [z12]) | (refine Walk.oq ?_; try walk_nrm) | (refine Walk.un ?_; walk_nrm))
 refine Walk.callW (Post := ThrOut ops n w1) ?_ (ho_of (by conv => lhs; whnf) (by kernel_rfl)) (by rfl) (by decide) rfl Try.func32 (by kernel_rfl) (by rfl) ?_
 ·walk_nrm
  exact hthr w1 I1
 rintro v w2 ⟨pr, ts, oas, ocs, la, lc, rfl, H⟩
 walk_nrm
 repeat (first | refine Walk.cx ?_ | (refine Walk.cReg ?_; simp only [z12]) | (refine Walk.oq ?_; try walk_nrm) | (refine Walk.un ?_; walk_nrm))
 (refine Walk.oa ?_; try walk_nrm)
 have d2 := heap_alloc_new w2 (.cells #[.slice none 0 0, .slice la n lc] 101)
 have o2 : ∀ b, b < w2.heap.size → (w2.alloc (.cells #[.slice none 0 0, .slice la n lc] 101)).heap[b]? = w2.heap[b]? := fun b hb => heap_new_lt _ _ hb
 have s2 : (w2.alloc (.cells #[.slice none 0 0, .slice la n lc] 101)).heap.size = w2.heap.size + 1 := by simp
 generalize w2.alloc (.cells #[.slice none 0 0, .slice la n lc] 101) = w3 at *
 repeat (first | refine Walk.cx ?_ | (refine Walk.cReg ?_; simp only [z12]) | (refine Walk.oq ?_; try walk_nrm) | (refine Walk.un ?_; walk_nrm))
 refine Walk.ctl rfl (fun w => stepG_loop) ?_
 refine .stop fun d => ⟨w2, pr, ts, oas, ocs, la, lc, at_slots ?_, ⟨w1, s1, o1, d1, H⟩, ⟨⟨none, 0, d2, ⟨rfl, .inl ⟨rfl, rfl⟩⟩⟩, o2, ?_⟩⟩
 ·simp only [hdY0]
  rfl
 ·show w2.heap.size + 1 ≤ w3.heap.size
  omega
end
end
end Go.Proofs.Ytdcjgmlgmjjogaa
