/- Part 25. -/
import Derived.Test.YtdmpmoggacjgcaaJ13
import Derived.Test.YtdmpmoggacjgcaaJ23
import Derived.Test.YtdmpmoggacjgcaaJ24
set_option linter.unusedSimpArgs false
set_option linter.unusedVariables false
set_option maxHeartbeats 8000000
set_option maxRecDepth 100000
namespace Go.Proofs.Ytdmpmoggacjgcaa
open Go.Conc Go.RowKit Go.Relay
open Go.ConcN (upd upd_ne upd_same)
section
section
variable {main : Bool} {S : Nat → Prop} {B : Nat} {la : Option Addr} {lc : Nat} {sl : List Int} {most : Int} {p rd : Nat} {oa : Option Addr} {oc : Nat} {ord : List Nat}
theorem tu_app {w w3 : World} {o : Obj} {x g cap : Nat} (X : TuX S B la lc sl most p rd oa oc ord false w) (hown : w3.ownsRow 0 3 1 (.slice (some ⟨g, 0, none⟩) (ord.length + 1) cap) (ord.length + 1) (ordRow ord ++ [.int .i64 (x : Nat)])) (hg : (w.alloc o).grownBy w3 (Value.slice oa ord.length oc).ownBlock) (hat : (Value.slice oa ord.length oc).ownBlock = some g ∨ g = (w.alloc o).heap.size) :
  TuX (fun g => S g ∨ w.heap.size ≤ g) B la lc sl most p rd (some ⟨g, 0, none⟩) cap (ord ++ [x]) false (w3.setCell ⟨B, 4, none⟩ (.slice (some ⟨g, 0, none⟩) (ord.length + 1) cap)) ∧ Chg S w (w3.setCell ⟨B, 4, none⟩ (.slice (some ⟨g, 0, none⟩) (ord.length + 1) cap)) := by
 have hs : (w.alloc o).heap.size = w.heap.size + 1 := by simp
 have hgs := hg.size
 have hlB := X.lt
 have far : ∀ y, y < w.heap.size → (Value.slice oa ord.length oc).ownBlock ≠ some y → w3.heap[y]? = w.heap[y]? := fun y hy hn => (hg.block y (by omega) (fun e => hn e.symm)).trans (heap_new_lt _ _ hy)
 have hB3 : w3.heap[B]? = w.heap[B]? := far B hlB fun e => (X.so B e).2.1 rfl
 have hgB : g ≠ B := fun e => by
  rcases hat with h | h
  ·exact (X.so g h).2.1 e
  ·omega
 have hl : (ord ++ [x]).length = ord.length + 1 := by simp
 refine ⟨⟨?_, ?_, ?_, .inl X.sb, fun y hy => ⟨.inl (X.sq y hy).1, (X.sq y hy).2⟩, fun y hy => ?_⟩, by rw [size_set]; omega, fun y hy hn => ?_⟩
 ·rw [hl, heap_set_self _ _ (hB3.trans X.blk)]
  simp [tuA]
 ·refine row_same X.lst fun y hy => (heap_set_other _ _ _ _ (X.sq y hy).2).trans (far y (X.lst.lt y hy).2 fun e => (X.so y e).2.2 hy)
 ·rw [hl, ordRow_snoc]
  exact row_same hown fun y hy => heap_set_other _ _ _ _ (by
   simp only [Value.ownBlock, Option.some.injEq] at hy
   show y ≠ B
   omega)
 ·simp only [Value.ownBlock, Option.some.injEq] at hy
  subst hy
  rcases hat with h | h
  ·exact ⟨.inl (X.so g h).1, (X.so g h).2⟩
  ·refine ⟨.inr (by omega), hgB, fun e => ?_⟩
   have := (X.lst.lt g e).2
   omega
 ·rw [heap_set_other _ _ _ _ (fun e => hn (by rw [e]; exact X.sb))]
  exact far y hy fun e => hn (X.so y e).1
def PickOut (S : Nat → Prop) (B : Nat) (la : Option Addr) (lc : Nat) (sl : List Int) (most : Int) (p rd : Nat) (ord : List Nat) (x : Nat) (w w' : World) : Prop := ∃ oa oc, TuX (fun g => S g ∨ w.heap.size ≤ g) B la lc sl most p rd oa oc (ord ++ [x]) false w' ∧ Chg S w w'
theorem PickOut.pre {x : Nat} {w w1 w' : World} (hC : Chg S w w1) (H : PickOut S B la lc sl most p rd ord x w1 w') : PickOut S B la lc sl most p rd ord x w w' := by
 obtain ⟨oa, oc, X, h⟩ := H
 have := hC.size
 exact ⟨oa, oc, X.mono fun g hg => hg.imp id fun h => by omega, hC.trans h fun _ _ h => h⟩
theorem pick_take (tl o n tc q m : Nat) (u : Nat → Value) (c : Frame) (cs : List Frame) (w : World) (hn : n ≤ 64) (X : TuX S B la lc sl most p rd oa oc ord false w) (hp : p < sl.length) (hL : sl.length ≤ 17592186044416) (hord : ord.length ≤ 1048576) (hz : sl[p]? = some (m : Int)) (hm : m < n) (h1 : w.cell? ⟨tl, o + m, none⟩ = some (.pointer (some ⟨q, 0, none⟩))) (h2 : w.cell? ⟨q, 13, none⟩ = some (.bool false)) (h3 : ¬ S tl) (h4 : ¬ S q) :
  Walk Try.prog main (DR (fun _ => none)) (fun g w' => g = G (c.finish (.int .i64 (m : Nat))) cs ∧ PickOut S B la lc sl most (p + 1) rd ord m w w') (G (hdP1 B (.slice (some ⟨tl, o, none⟩) n tc) u) (c :: cs)) w := by
 obtain ⟨lb, rfl, hzc, hzB, hzS⟩ := X.num hz
 have c0 : w.cell? ⟨B, 0, none⟩ = some (.slice (some ⟨lb, 0, none⟩) sl.length lc) := (cell_of X.blk 0).trans rfl
 have c1 : w.cell? ⟨B, 1, none⟩ = some (.int .i64 (p : Nat)) := (cell_of X.blk 1).trans rfl
 have z1 := frozen_of X.blk 1
 have hw1 : IntKind.wrap .i64 ((p : Int) + 1) = (p : Int) + 1 := by rw [IntKind.wrap_i64]; omega
 have hc : ((p + 1 : Nat) : Int) = (p : Int) + 1 := by simp
 have hm0 : (0 : Int) ≤ (m : Int) := by omega
 have k1 : (w.setCell ⟨B, 1, none⟩ (.int .i64 ((p : Int) + 1))).cell? ⟨tl, o + m, none⟩ = some (.pointer (some ⟨q, 0, none⟩)) := (World.cell?_of_block (a := ⟨tl, o + m, none⟩) (heap_set_other _ _ _ _ (fun e => h3 (by have e : tl = B := e; rw [e]; exact X.sb)))).trans h1
 have k2 : (w.setCell ⟨B, 1, none⟩ (.int .i64 ((p : Int) + 1))).cell? ⟨q, 13, none⟩ = some (.bool false) := (World.cell?_of_block (a := ⟨q, 13, none⟩) (heap_set_other _ _ _ _ (fun e => h4 (by have e : q = B := e; rw [e]; exact X.sb)))).trans h2
 have X1 := X.setP (p + 1)
 rw [hc] at X1
 have hC1 : Chg S w (w.setCell ⟨B, 1, none⟩ (.int .i64 ((p : Int) + 1))) := Chg.set X.sb
 clear X hz
 generalize hsl : sl.length = L at *
 unfold hdP1
 refine Walk.gz z39 ?_
 (refine Walk.drawnC (by kernel_rfl) size39_12 (by kernel_rfl) (by kernel_rfl) (by decide) ?_; simp only [List.range, List.range.loop]; repeat (first | (refine Cm.oq ?_) | (refine Cm.unw hoA (by rfl) ?_; walk_nrm)))
 refine Cm.done ?_
 refine Walk.gz z39 ?_
 (refine Walk.drawnC (by kernel_rfl) size39_13 (by kernel_rfl) (by kernel_rfl) (by decide) ?_; simp only [List.range, List.range.loop]; repeat (first | (refine Cm.oq ?_) | (refine Cm.unw hoA (by rfl) ?_; walk_nrm)))
 refine Cm.done ?_
 refine Walk.gz z39 ?_
 (have hfr := fr0 B 1; refine Walk.os hfr c1 ?_; clear hfr; try walk_nrm)
 clear c0 c1 z1 hzc hw1 h1 h2
 generalize w.setCell ⟨B, 1, none⟩ (.int .i64 ((p : Int) + 1)) = w1 at *
 have c4 : w1.cell? ⟨B, 4, none⟩ = some (.slice oa ord.length oc) := (cell_of X1.blk 4).trans rfl
 refine Walk.gz z39 ?_
 (refine Walk.oa ?_; try walk_nrm)
 have hrow : (w1.alloc (.cells #[.int .i64 (m : Nat)] 3)).ownsRow 0 3 1 (.slice oa ord.length oc) ord.length (ordRow ord) := row_same X1.row fun g hg => heap_new_lt _ _ (X1.row.lt g hg).2
 have hnew : ∀ y v, ([.int .i64 (m : Nat)] : List Value)[y]? = some v → (w1.alloc (.cells #[.int .i64 (m : Nat)] 3)).cell? ((⟨w1.heap.size, 0, none⟩ : Addr).add y) = some v := fun y v hv => by
  rw [add_none, Nat.zero_add]
  refine (cell_of (heap_alloc_new _ _) y).trans ?_
  simpa using hv
 have hi3 := Option.some_get (show (Try.prog.info? 3).isSome = true by kernel_rfl)
 refine Walk.append (.tmp 90) (.tmp 92) 24 hoA (by rfl) (by decide) rfl 0 3 _ (.int .i64 0) 1 8 (by kernel_rfl) hi3.symm (by rfl) (by rfl) (by rfl) (by rfl) (by decide) (.slice oa ord.length oc) ord.length (ordRow ord) rfl hrow ⟨w1.heap.size, 0, none⟩ 1 1 [.int .i64 (m : Nat)] ?_ (by rfl) hnew (by simp [Value.oneCell']) (by decide) (by simp [maxLen]; omega) (by omega) (Nat.zero_le _) (fun g _ => ap0 g) (fun g cap w3 hown hg hat hlt => ?_)
 ·simp [Act.eval]
 clear hi3 hnew hrow
 obtain ⟨X4, hC4⟩ := tu_app (x := m) X1 hown hg hat
 have hP : PickOut S B (some ⟨lb, 0, none⟩) lc sl most (p + 1) rd ord m w (w3.setCell ⟨B, 4, none⟩ (.slice (some ⟨g, 0, none⟩) (ord.length + 1) cap)) := PickOut.pre hC1 ⟨_, _, X4, hC4⟩
 have hB3 : w3.heap[B]? = w1.heap[B]? := (hg.block B (by simp; have := X1.lt; omega) (fun e => (X1.so B e.symm).2.1 rfl)).trans (heap_new_lt _ _ X1.lt)
 have k4 : w3.cell? ⟨B, 4, none⟩ = some (.slice oa ord.length oc) := (World.cell?_of_block (a := ⟨B, 4, none⟩) hB3).trans c4
 have z4 : w3.frozen? ⟨B, 4, none⟩ = false := frozen_of (hB3.trans X1.blk) 4
 clear hown hg hat X4 hC4 c4 hB3
 walk_nrm
 refine Walk.gz z39 ?_
 (have hfr := fr0 B 4; refine Walk.os hfr k4 ?_; clear hfr; try walk_nrm)
 generalize w3.setCell ⟨B, 4, none⟩ (.slice (some ⟨g, 0, none⟩) (ord.length + 1) cap) = w4 at *
 refine Walk.gz z39 ?_
 refine Walk.on1 rfl rfl Try.func39 rfl (.stop fun d => ⟨rfl, ?_⟩)
 obtain ⟨oa', oc', h, h'⟩ := hP
 exact ⟨oa', oc', h.at d, h'.at d⟩
theorem pick_last (tl o n tc q : Nat) (u : Nat → Value) (c : Frame) (cs : List Frame) (w : World) (hn : n ≤ 64) (X : TuX S B la lc sl most p rd oa oc ord false w) (hord : ord.length ≤ 1048576) (hrd : rd < n) (h1 : w.cell? ⟨tl, o + rd, none⟩ = some (.pointer (some ⟨q, 0, none⟩))) (h2 : w.cell? ⟨q, 13, none⟩ = some (.bool false)) :
  Walk Try.prog main (DR (fun _ => none)) (fun g w' => g = G (c.finish (.int .i64 (rd : Nat))) cs ∧ PickOut S B la lc sl most p ((rd + 1) % n) ord rd w w') (G (hdP2 B (.slice (some ⟨tl, o, none⟩) n tc) u) (c :: cs)) w := by
 have c2 : w.cell? ⟨B, 2, none⟩ = some (.int .i64 (rd : Nat)) := (cell_of X.blk 2).trans rfl
 have z2 := frozen_of X.blk 2
 have hw1 : IntKind.wrap .i64 ((rd : Int) + 1) = (rd : Int) + 1 := by rw [IntKind.wrap_i64]; omega
 have ht : Int.tmod ((rd : Int) + 1) (n : Int) = (((rd + 1) % n : Nat) : Int) := by
  rw [Int.tmod_eq_emod_of_nonneg (by omega)]
  simp
 have hn0 : ¬ n = 0 := by omega
 generalize (rd + 1) % n = x at *
 have X1 := X.setR x
 have hC1 : Chg S w (w.setCell ⟨B, 2, none⟩ (.int .i64 (x : Nat))) := Chg.set X.sb
 clear X
 unfold hdP2
 refine Walk.gz z39 ?_
 (have hfr := fr0 B 2; refine Walk.os hfr c2 ?_; clear hfr; try walk_nrm)
 clear c2 z2 hw1 h1 h2 ht
 generalize w.setCell ⟨B, 2, none⟩ (.int .i64 (x : Nat)) = w1 at *
 have c4 : w1.cell? ⟨B, 4, none⟩ = some (.slice oa ord.length oc) := (cell_of X1.blk 4).trans rfl
 refine Walk.gz z39 ?_
 (refine Walk.oa ?_; try walk_nrm)
 have hrow : (w1.alloc (.cells #[.int .i64 (rd : Nat)] 3)).ownsRow 0 3 1 (.slice oa ord.length oc) ord.length (ordRow ord) := row_same X1.row fun g hg => heap_new_lt _ _ (X1.row.lt g hg).2
 have hnew : ∀ y v, ([.int .i64 (rd : Nat)] : List Value)[y]? = some v → (w1.alloc (.cells #[.int .i64 (rd : Nat)] 3)).cell? ((⟨w1.heap.size, 0, none⟩ : Addr).add y) = some v := fun y v hv => by
  rw [add_none, Nat.zero_add]
  refine (cell_of (heap_alloc_new _ _) y).trans ?_
  simpa using hv
 have hi3 := Option.some_get (show (Try.prog.info? 3).isSome = true by kernel_rfl)
 refine Walk.append (.tmp 137) (.tmp 139) 24 hoA (by rfl) (by decide) rfl 0 3 _ (.int .i64 0) 1 8 (by kernel_rfl) hi3.symm (by rfl) (by rfl) (by rfl) (by rfl) (by decide) (.slice oa ord.length oc) ord.length (ordRow ord) rfl hrow ⟨w1.heap.size, 0, none⟩ 1 1 [.int .i64 (rd : Nat)] ?_ (by rfl) hnew (by simp [Value.oneCell']) (by decide) (by simp [maxLen]; omega) (by omega) (Nat.zero_le _) (fun g _ => ap0 g) (fun g cap w3 hown hg hat hlt => ?_)
 ·simp [Act.eval]
 clear hi3 hnew hrow
 obtain ⟨X4, hC4⟩ := tu_app (x := rd) X1 hown hg hat
 have hP : PickOut S B la lc sl most p x ord rd w (w3.setCell ⟨B, 4, none⟩ (.slice (some ⟨g, 0, none⟩) (ord.length + 1) cap)) := PickOut.pre hC1 ⟨_, _, X4, hC4⟩
 have hB3 : w3.heap[B]? = w1.heap[B]? := (hg.block B (by simp; have := X1.lt; omega) (fun e => (X1.so B e.symm).2.1 rfl)).trans (heap_new_lt _ _ X1.lt)
 have k4 : w3.cell? ⟨B, 4, none⟩ = some (.slice oa ord.length oc) := (World.cell?_of_block (a := ⟨B, 4, none⟩) hB3).trans c4
 have z4 : w3.frozen? ⟨B, 4, none⟩ = false := frozen_of (hB3.trans X1.blk) 4
 clear hown hg hat X4 hC4 c4 hB3
 walk_nrm
 refine Walk.gz z39 ?_
 (have hfr := fr0 B 4; refine Walk.os hfr k4 ?_; clear hfr; try walk_nrm)
 generalize w3.setCell ⟨B, 4, none⟩ (.slice (some ⟨g, 0, none⟩) (ord.length + 1) cap) = w4 at *
 refine Walk.gz z39 ?_
 refine Walk.on1 rfl rfl Try.func39 rfl (.stop fun d => ⟨rfl, ?_⟩)
 obtain ⟨oa', oc', h, h'⟩ := hP
 exact ⟨oa', oc', h.at d, h'.at d⟩
end
section
variable {main : Bool} {Y : Type} {A : Abs Y} {F st : Y × List Nat} {S : Nat → Prop} {B : Nat} {la : Option Addr} {lc : Nat} {sl : List Int} {most : Int} {p rd : Nat} {oa : Option Addr} {oc : Nat} {ta : Option Addr} {tc : Nat} {f : Nat → Bool} {c : Frame} {cs : List Frame}
def NextP (A : Abs Y) (F st : Y × List Nat) (sl : List Int) (S : Nat → Prop) (B : Nat) (la : Option Addr) (lc : Nat) (most : Int) (w : World) (v : Value) (w' : World) : Prop :=
 ∃ x p' rd', x < A.n ∧ A.out st.1 x = none ∧ v = .int .i64 (x : Nat) ∧ Ahead A F sl p' rd' (A.next st.1 x, st.2 ++ [x]) ∧ rd' < A.n ∧ PickOut S B la lc sl most p' rd' st.2 x w w'
theorem NextP.pre {w w1 w' : World} {v : Value} (hC : Chg S w w1) (H : NextP A F st sl S B la lc most w1 v w') : NextP A F st sl S B la lc most w v w' := by
 obtain ⟨x, p', rd', h1, h2, h3, h4, h5, h6⟩ := H
 exact ⟨x, p', rd', h1, h2, h3, h4, h5, h6.pre hC⟩
theorem Ahead.mod {rd' : Nat} (H : Ahead A F sl p rd st) (h : rd' % A.n = rd % A.n) : Ahead A F sl p rd' st := by
 obtain ⟨⟨f, x, h1, h2, h3, h4⟩, h5, h6⟩ := H
 exact ⟨⟨f, x, h1, h.trans h2, h3, h4⟩, h5, h6⟩
variable (hov : overA A st = false) (hf : ∀ i, i < A.n → f i = (A.out st.1 i).isSome) (hn : A.n ≤ 64) (hord : st.2.length ≤ 1048576)
include hov hf hn hord
theorem pick_rounds : ∀ (k rd : Nat) (u : Nat → Value) (w : World), A.out st.1 ((rd + k) % A.n) = none → rd < A.n → TuX S B la lc sl most sl.length rd oa oc st.2 false w → EndAt S ta A.n f w → Ahead A F sl sl.length rd st →
  Walk Try.prog main (DR (fun _ => none)) (fun g w' => ∃ v, NextP A F st sl S B la lc most w v w' ∧ g = G (c.finish v) cs) (G (hdP2 B (.slice ta A.n tc) u) (c :: cs)) w := by
 intro k
 induction k with
 | zero =>
  intro rd u w hk hrd X he H
  rw [Nat.add_zero, Nat.mod_eq_of_lt hrd] at hk
  obtain ⟨tl, o, q, rfl, h1, h2, h3, h4⟩ := he rd hrd
  rw [hf _ hrd, hk] at h2
  refine (pick_last tl o A.n tc q u c cs w hn X hord hrd h1 h2).mono ?_
  rintro g w' ⟨rfl, hP⟩
  refine ⟨_, ⟨rd, sl.length, (rd + 1) % A.n, hrd, hk, rfl, ?_, Nat.mod_lt _ (by omega), hP⟩, rfl⟩
  have := (H.turn hov).1
  rw [Nat.mod_eq_of_lt hrd, step_yes hov hrd hk] at this
  exact this.mod (Nat.mod_mod _ _)
 | succ k ih =>
  intro rd u w hk hrd X he H
  obtain ⟨tl, o, q, rfl, h1, h2, h3, h4⟩ := he rd hrd
  cases ho : A.out st.1 rd with
  | none =>
   rw [hf _ hrd, ho] at h2
   refine (pick_last tl o A.n tc q u c cs w hn X hord hrd h1 h2).mono ?_
   rintro g w' ⟨rfl, hP⟩
   refine ⟨_, ⟨rd, sl.length, (rd + 1) % A.n, hrd, ho, rfl, ?_, Nat.mod_lt _ (by omega), hP⟩, rfl⟩
   have := (H.turn hov).1
   rw [Nat.mod_eq_of_lt hrd, step_yes hov hrd ho] at this
   exact this.mod (Nat.mod_mod _ _)
  | some b =>
   rw [hf _ hrd, ho] at h2
   refine (pick_pass tl o A.n tc q u (c :: cs) w hn X hrd h1 h2).then ?_
   rintro g w' ⟨⟨u', rfl⟩, d, rfl⟩
   refine Walk.back ?_ d
   have hA := (H.turn hov).2
   rw [Nat.mod_eq_of_lt hrd, step_no (by
    rintro ⟨_, _, h⟩
    rw [Int.toNat_natCast, ho] at h
    cases h)] at hA
   have hC : Chg S w (w.setCell ⟨B, 2, none⟩ (.int .i64 (((rd + 1) % A.n : Nat) : Int))) := Chg.set X.sb
   refine (ih ((rd + 1) % A.n) u' _ ?_ (Nat.mod_lt _ (by omega)) (X.setR _) (he.chg hC fun _ _ h => h) (hA.mod (Nat.mod_mod _ _))).mono fun g w' ⟨v, h, hg⟩ => ⟨v, h.pre hC, hg⟩
   rw [Nat.add_mod, Nat.mod_mod, ← Nat.add_mod, show rd + 1 + k = rd + (k + 1) by omega]
   exact hk
theorem pick_list (hsl : sl.length ≤ 17592186044416) : ∀ (r p : Nat) (u : Nat → Value) (w : World), p + r = sl.length → rd < A.n → TuX S B la lc sl most p rd oa oc st.2 false w → EndAt S ta A.n f w → Ahead A F sl p rd st →
  Walk Try.prog main (DR (fun _ => none)) (fun g w' => ∃ v, NextP A F st sl S B la lc most w v w' ∧ g = G (c.finish v) cs) (G (hdP1 B (.slice ta A.n tc) u) (c :: cs)) w := by
 intro r
 induction r with
 | zero =>
  intro p u w hp hrd X he H
  have hp : p = sl.length := hp
  subst hp
  refine (pick_next ta A.n tc u (c :: cs) w X).then ?_
  rintro g w' ⟨⟨u', rfl⟩, d, rfl⟩
  refine Walk.back ?_ d
  obtain ⟨k, hk, ho⟩ := over_far hov rd
  exact pick_rounds hov hf hn hord k rd u' w ho hrd X he H
 | succ r ih =>
  intro p u w hp hrd X he H
  have hpl : p < sl.length := by omega
  have hz : sl[p]? = some sl[p] := List.getElem?_eq_getElem hpl
  generalize sl[p] = z at hz
  have hA := H.take hz
  have hpos : 0 < A.n := by omega
  obtain ⟨tl, o, q0, rfl, _⟩ := he 0 hpos
  by_cases hok : 0 ≤ z ∧ z < A.n ∧ A.out st.1 z.toNat = none
  ·obtain ⟨h0, h1, h2⟩ := hok
   obtain ⟨m, rfl⟩ : ∃ m : Nat, z = m := ⟨z.toNat, by omega⟩
   have hm : m < A.n := by omega
   rw [Int.toNat_natCast] at h2
   obtain ⟨tl', o', q, e, e1, e2, e3, e4⟩ := he m hm
   cases e
   rw [hf _ hm, h2] at e2
   refine (pick_take tl o A.n tc q m u c cs w hn X hpl hsl hord hz hm e1 e2 e3 e4).mono ?_
   rintro g w' ⟨rfl, hP⟩
   refine ⟨_, ⟨m, p + 1, rd, hm, h2, rfl, ?_, hrd, hP⟩, rfl⟩
   rw [step_yes hov hm h2] at hA
   exact hA
  ·rw [step_no hok] at hA
   have hno : ¬ (0 ≤ z ∧ z < A.n ∧ f z.toNat = false) := by
    rintro ⟨h0, h1, h2⟩
    have hzn : z.toNat < A.n := by omega
    rw [hf _ hzn] at h2
    refine hok ⟨h0, h1, ?_⟩
    cases e : A.out st.1 z.toNat with
    | none => rfl
    | some b => rw [e] at h2; cases h2
   refine (pick_skip tl o A.n tc f z u (c :: cs) w hn X hpl hsl hz he hno).then ?_
   rintro g w' ⟨⟨u', rfl⟩, d, rfl⟩
   refine Walk.back ?_ d
   have hC : Chg S w (w.setCell ⟨B, 1, none⟩ (.int .i64 ((p + 1 : Nat) : Int))) := Chg.set X.sb
   exact (ih (p + 1) u' _ (by omega) hrd (X.setP _) (he.chg hC fun _ _ h => h) hA).mono fun g w' ⟨v, h, hg⟩ => ⟨v, h.pre hC, hg⟩
end
section
variable {main : Bool} {Y : Type} {A : Abs Y} {F st : Y × List Nat} {S : Nat → Prop} {B : Nat} {la : Option Addr} {lc : Nat} {sl : List Int} {p rd : Nat} {oa : Option Addr} {oc : Nat} {ta : Option Addr} {tc : Nat} {f : Nat → Bool}
def PickIs (A : Abs Y) (F st : Y × List Nat) (sl : List Int) (S : Nat → Prop) (B : Nat) (la : Option Addr) (lc p rd : Nat) (oa : Option Addr) (oc : Nat) (w : World) (v : Value) (w' : World) : Prop :=
 (v = .int .i64 (-1) ∧ overA A st = true ∧ TuX S B la lc sl A.most p rd oa oc st.2 (decide (0 < goingA A st.1)) w' ∧ Chg S w w') ∨ (overA A st = false ∧ NextP A F st sl S B la lc A.most w v w')
theorem pick_w (hf : ∀ i, i < A.n → f i = (A.out st.1 i).isSome) (hn : A.n ≤ 64) (hm : A.most ≤ 1048576) (hsl : sl.length ≤ 17592186044416) (w : World) (X : TuX S B la lc sl A.most p rd oa oc st.2 false w) (he : EndAt S ta A.n f w) (H : Ahead A F sl p rd st) (hrd : rd < A.n ∨ A.n = 0) :
  CallW Try.prog main (fun _ => none) 39 #[.pointer (some ⟨B, 0, none⟩), .slice ta A.n tc] w (PickIs A F st sl S B la lc p rd oa oc w) := by
 intro c cs
 refine (pick_in B (.slice ta A.n tc) (c :: cs) w).then ?_
 rintro g w1 ⟨⟨u, rfl⟩, d, rfl⟩
 refine Walk.back ?_ d
 refine (pick_count S B ta A.n tc f (c :: cs) w hn he A.n 0 0 u (by omega) (Nat.le_refl _)).then ?_
 rintro g w1 ⟨⟨u1, rfl⟩, d1, rfl⟩
 refine Walk.back ?_ d1
 have hcount : 0 + (List.range' 0 A.n).countP (fun j => !f j) = goingA A st.1 := by
  rw [Nat.zero_add, ← List.range_eq_range']
  unfold goingA
  refine List.countP_congr fun i hi => ?_
  rw [hf i (List.mem_range.1 hi)]
  cases A.out st.1 i <;> simp
 rw [hcount]
 by_cases h0 : goingA A st.1 = 0
 ·rw [h0]
  refine (pick_none B ta A.n tc u1 c cs w).mono ?_
  rintro g w' ⟨rfl, d, rfl⟩
  refine ⟨_, .inl ⟨rfl, ?_, ?_, Chg.refl.at d⟩, rfl⟩
  ·unfold overA
   rw [h0]
   simp
  ·rw [h0]
   exact X.at d
 ·by_cases h1 : A.most ≤ st.2.length
  ·refine (pick_most B ta A.n tc _ u1 c cs w h0 X h1).mono ?_
   rintro g w' ⟨rfl, X', hC⟩
   refine ⟨_, .inl ⟨rfl, ?_, ?_, hC⟩, rfl⟩
   ·unfold overA
    rw [decide_eq_true h1, Bool.or_true]
   ·rw [decide_eq_true (Nat.pos_of_ne_zero h0)]
    exact X'
  ·have hov : overA A st = false := by
    unfold overA
    rw [decide_eq_false h0, decide_eq_false h1]
    rfl
   have hrd' : rd < A.n := by
    rcases hrd with h | h
    ·exact h
    ·obtain ⟨_, j, hj, _⟩ := over_len hov
     omega
   refine (pick_go B ta A.n tc _ u1 (c :: cs) w h0 X (by omega)).then ?_
   rintro g w' ⟨⟨u2, rfl⟩, d2, rfl⟩
   refine Walk.back ?_ d2
   have hord : st.2.length ≤ 1048576 := by omega
   have hp : p + (sl.length - p) = sl.length := by have := H.le; omega
   refine (pick_list hov hf hn hord hsl (sl.length - p) p u2 w hp hrd' X he H).mono ?_
   rintro g w' ⟨v, hN, rfl⟩
   exact ⟨v, .inr ⟨hov, hN⟩, rfl⟩
end
end
section
noncomputable def reg36_0 := rg Try.f36.body [0]
noncomputable def reg36_1 := rg Try.f36.body [1, 0]
noncomputable def reg36_2 := rg Try.f36.body [1, 1, 0, 0]
noncomputable def reg36_3 := rg Try.f36.body [1, 1, 0, 1, 0, 0, 0, 0]
noncomputable def reg36_5 := rg Try.f36.body [1, 1, 0, 1, 0, 0, 1, 0, 0, 0]
noncomputable def reg36_6 := rg Try.f36.body [1, 1, 0, 1, 0, 0, 1, 0, 0, 1, 0, 0]
noncomputable def reg36_7 := rg Try.f36.body [1, 1, 0, 1, 0, 0, 1, 0, 0, 1, 0, 1, 0, 0, 0, 0]
noncomputable def reg36_9 := rg Try.f36.body [1, 1, 0, 1, 0, 0, 1, 0, 0, 1, 0, 1, 0, 0, 1, 0, 0]
theorem size36_9 : reg36_9.size = 17 := by kernel_rfl
noncomputable def reg36_8 := rg Try.f36.body [1, 1, 0, 1, 0, 0, 1, 0, 0, 1, 0, 1, 0, 0, 1, 1]
noncomputable def reg36_10 := rg Try.f36.body [1, 1, 0, 1, 0, 0, 1, 0, 0, 1, 1]
noncomputable def reg36_4 := rg Try.f36.body [1, 1, 0, 1, 0, 0, 1, 1]
noncomputable def reg36_11 := rg Try.f36.body [1, 1, 1, 0]
theorem z36 : List.range reg36_0.size = [0] ∧ List.range reg36_1.size = [0] ∧ List.range reg36_2.size = [0] ∧ List.range reg36_3.size = [0, 1, 2, 3, 4, 5, 6, 7] ∧ List.range reg36_4.size = [0, 1, 2] ∧ List.range reg36_5.size = [0, 1, 2] ∧ List.range reg36_6.size = [0] ∧ List.range reg36_7.size = [0, 1, 2, 3, 4, 5, 6, 7, 8, 9, 10] ∧ List.range reg36_8.size = [0, 1, 2] ∧ List.range reg36_9.size = [0, 1, 2, 3, 4, 5, 6, 7, 8, 9, 10, 11, 12, 13, 14, 15, 16] ∧ List.range reg36_10.size = [0, 1, 2, 3, 4] ∧ List.range reg36_11.size = [0, 1] := by refine ⟨?_, ?_, ?_, ?_, ?_, ?_, ?_, ?_, ?_, ?_, ?_, ?_⟩ <;> kernel_rfl
theorem code36_is : Try.f36.body = some (.seq (.region 0 reg36_0 false) (.seq (.region 1 reg36_1 false) (.seq (.seq (.region 2 reg36_2 false) (.block 0 (.loop (.seq (.seq (.region 3 reg36_3 false) (.cond (.tmp 14 ) (.skip) (.exit 0))) (.seq (.block 1 (.seq (.region 5 reg36_5 false) (.seq (.seq (.region 6 reg36_6 false) (.block 2 (.loop (.seq (.seq (.region 7 reg36_7 false) (.cond (.tmp 29 ) (.skip) (.exit 2))) (.seq (.block 3 (.region 9 reg36_9 true)) (.region 8 reg36_8 false)))))) (.region 10 reg36_10 false)))) (.region 4 reg36_4 false)))))) (.seq (.region 11 reg36_11 false) (.ret))))) := by kernel_rfl
noncomputable def hdT0 (tv ov : Value) (i : Nat) (u : Nat → Value) : Frame :=
 (base 36).at { tmps := #[tv, u 1, u 2, ov, .int .i64 i, u 5, u 6, u 7, u 8, u 9, u 10, u 11, u 12, u 13, u 14, u 15, u 16, u 17, u 18, u 19, u 20, u 21, u 22, u 23, u 24, u 25, u 26, u 27, u 28, u 29, u 30, u 31, u 32, u 33, u 34, u 35, u 36, u 37, u 38, u 39, u 40, u 41, u 42, u 43, u 44, u 45, u 46, u 47, u 48, u 49, u 50, u 51, u 52], defers := [] } [.code (.seq (.seq (.region 3 reg36_3 false) (.cond (.tmp 14 ) (.skip) (.exit 0))) (.seq (.block 1 (.seq (.region 5 reg36_5 false) (.seq (.seq (.region 6 reg36_6 false) (.block 2 (.loop (.seq (.seq (.region 7 reg36_7 false) (.cond (.tmp 29 ) (.skip) (.exit 2))) (.seq (.block 3 (.region 9 reg36_9 true)) (.region 8 reg36_8 false)))))) (.region 10 reg36_10 false)))) (.region 4 reg36_4 false))), .inLoop (.seq (.seq (.region 3 reg36_3 false) (.cond (.tmp 14 ) (.skip) (.exit 0))) (.seq (.block 1 (.seq (.region 5 reg36_5 false) (.seq (.seq (.region 6 reg36_6 false) (.block 2 (.loop (.seq (.seq (.region 7 reg36_7 false) (.cond (.tmp 29 ) (.skip) (.exit 2))) (.seq (.block 3 (.region 9 reg36_9 true)) (.region 8 reg36_8 false)))))) (.region 10 reg36_10 false)))) (.region 4 reg36_4 false))), .inBlock 0, .code (.seq (.region 11 reg36_11 false) (.ret))]
noncomputable def hdT1 (tv ov : Value) (i b k : Nat) (u : Nat → Value) : Frame :=
 (base 36).at { tmps := #[tv, u 1, u 2, ov, .int .i64 i, .pointer (some ⟨b, 0, none⟩), .int .i64 k, u 7, u 8, u 9, u 10, u 11, u 12, u 13, u 14, u 15, u 16, u 17, u 18, u 19, u 20, u 21, u 22, u 23, u 24, u 25, u 26, u 27, u 28, u 29, u 30, u 31, u 32, u 33, u 34, u 35, u 36, u 37, u 38, u 39, u 40, u 41, u 42, u 43, u 44, u 45, u 46, u 47, u 48, u 49, u 50, u 51, u 52], defers := [] } [.code (.seq (.seq (.region 7 reg36_7 false) (.cond (.tmp 29 ) (.skip) (.exit 2))) (.seq (.block 3 (.region 9 reg36_9 true)) (.region 8 reg36_8 false))), .inLoop (.seq (.seq (.region 7 reg36_7 false) (.cond (.tmp 29 ) (.skip) (.exit 2))) (.seq (.block 3 (.region 9 reg36_9 true)) (.region 8 reg36_8 false))), .inBlock 2, .code (.region 10 reg36_10 false), .inBlock 1, .code (.region 4 reg36_4 false), .inLoop (.seq (.seq (.region 3 reg36_3 false) (.cond (.tmp 14 ) (.skip) (.exit 0))) (.seq (.block 1 (.seq (.region 5 reg36_5 false) (.seq (.seq (.region 6 reg36_6 false) (.block 2 (.loop (.seq (.seq (.region 7 reg36_7 false) (.cond (.tmp 29 ) (.skip) (.exit 2))) (.seq (.block 3 (.region 9 reg36_9 true)) (.region 8 reg36_8 false)))))) (.region 10 reg36_10 false)))) (.region 4 reg36_4 false))), .inBlock 0, .code (.seq (.region 11 reg36_11 false) (.ret))]
def ptrRow (ts : Nat → Nat) (n : Nat) : List Value := (List.range n).map fun j => .pointer (some ⟨ts j, 0, none⟩)
theorem ptrRow_snoc (ts : Nat → Nat) (n : Nat) : ptrRow ts (n + 1) = ptrRow ts n ++ [.pointer (some ⟨ts n, 0, none⟩)] := by simp [ptrRow, List.range_succ]
theorem ptrRow_congr {ts ts' : Nat → Nat} {n : Nat} (h : ∀ j, j < n → ts' j = ts j) : ptrRow ts' n = ptrRow ts n := List.map_congr_left fun j hj => by rw [h j (List.mem_range.1 hj)]
theorem ptrRow_get {ts : Nat → Nat} {n j : Nat} (hj : j < n) : (ptrRow ts n)[j]? = some (.pointer (some ⟨ts j, 0, none⟩)) := by simp [ptrRow, hj]
def thZ : Array Value := thA (.slice none 0 0) 0 0 (fun _ => 0) (.slice none 0 0) (.slice none 0 0) false
section
variable {main : Bool}
theorem thr_in (tv : Value) (cs : List Frame) (w : World) :
  Walk Try.prog main (DR (fun _ => none)) (fun g w' => (∃ u, g = G (hdT0 tv (.slice none 0 0) 0 u) cs) ∧ ∃ d, w' = w.at d) (G (Frame.enter Try.prog 36 #[tv] .normal) cs) w := by
 rw [enter_at _ Try.func36 code36_is]
 simp only [Try.ntmps36, ez, Nat.reduceAdd, Nat.reduceSub]
 refine Walk.gz z36 ?_
 refine Walk.ctl rfl (fun w => stepG_loop) ?_
 refine .stop fun d => ⟨at_slots ?_, d, rfl⟩
 simp only [hdT0]
 rfl
theorem thr_make (ta : Option Addr) (n0 tc i : Nat) (ov : Value) (u : Nat → Value) (cs : List Frame) (w : World) (h0 : i < n0) (h64 : i < 64) :
  Walk Try.prog main (DR (fun _ => none)) (fun g w' => (∃ u, g = G (hdT1 (.slice ta n0 tc) ov i w.heap.size 0 u) cs) ∧ ∃ d, w' = (w.alloc (.cells thZ 120)).at d) (G (hdT0 (.slice ta n0 tc) ov i u) cs) w := by
 have h1 : ((i : Int) < 64) := by omega
 conv => arg 5; unfold hdT0
 refine Walk.gz z36 ?_
 (refine Walk.oa ?_; try walk_nrm)
 refine Walk.gz z36 ?_
 refine Walk.ctl rfl (fun w => stepG_loop) ?_
 refine .stop fun d => ⟨at_slots ?_, d, rfl⟩
 simp only [hdT1]
 rfl
theorem thr_end (ta : Option Addr) (n0 tc i : Nat) (ov : Value) (u : Nat → Value) (c : Frame) (cs : List Frame) (w : World) (h : i = min n0 64) :
  Walk Try.prog main (DR (fun _ => none)) (fun g w' => g = G (c.finish ov) cs ∧ ∃ d, w' = w.at d) (G (hdT0 (.slice ta n0 tc) ov i u) (c :: cs)) w := by
 have hh : (i = n0 ∨ i = 64) ∧ i ≤ n0 ∧ i ≤ 64 := by omega
 clear h
 unfold hdT0
 by_cases h0 : i < n0
 ·have h1 : decide ((i : Int) < 64) = false := by simp; omega
  have h1' : decide (i < 64) = false := by simp; omega
  refine Walk.gz z36 ?_
  exact Walk.on1 rfl rfl Try.func36 rfl (.stop fun d => ⟨rfl, d, rfl⟩)
 ·have h2 : decide (i < n0) = false := by simp; omega
  have h3 : decide ((i : Int) < n0) = false := by simp; omega
  refine Walk.gz z36 ?_
  exact Walk.on1 rfl rfl Try.func36 rfl (.stop fun d => ⟨rfl, d, rfl⟩)
structure AppT (w : World) (ok o1 o2 o3 : Int) (oa : Option Addr) (l : List OpV) (oc : Nat) (g cap : Nat) (w3 : World) : Prop where
 own : w3.ownsRow 0 45 4 (.slice (some ⟨g, 0, none⟩) (l.length + 1) cap) (l.length + 1) (opRow l ++ [.int .i64 ok, .int .i64 o1, .int .i64 o2, .int .i64 o3])
 grown : (w.alloc (.cells #[.int .i64 ok, .int .i64 o1, .int .i64 o2, .int .i64 o3] 45)).grownBy w3 (Value.slice oa l.length oc).ownBlock
 hat : (Value.slice oa l.length oc).ownBlock = some g ∨ g = (w.alloc (.cells #[.int .i64 ok, .int .i64 o1, .int .i64 o2, .int .i64 o3] 45)).heap.size
 hlt : g < w3.heap.size
theorem thr_op (tb toff n0 tc i b k ln lc : Nat) (ia : Option Addr) (ov : Value) (o : OpV) (l : List OpV) (oa : Option Addr) (oc : Nat) (u : Nat → Value) (cs : List Frame) (a : Nat) (w : World) (h0 : i < n0) (hk : k < ln) (hk6 : k < 65536) (hl : l.length = k) (X : ThX (fun g => a ≤ g) b l oa oc 0 0 (fun _ => 0) [] none 0 false w) (ha : a ≤ w.heap.size)
  (h1 : w.cell? ⟨tb, toff + i, none⟩ = some (.slice ia ln lc)) (htb : tb < a) (h2 : ∃ ob off, ia = some ⟨ob, off, none⟩ ∧ ob < a ∧ ∀ (j : Nat) (v : Value), ([.int .i64 o.k, .int .i64 o.a, .int .i64 o.b, .int .i64 o.c] : List Value)[j]? = some v → w.cell? ⟨ob, off + k * 4 + j, none⟩ = some v) :
  Walk Try.prog main (DR (fun _ => none)) (fun g w' => (∃ u, g = G (hdT1 (.slice (some ⟨tb, toff, none⟩) n0 tc) ov i b (k + 1) u) cs) ∧ ∃ oa' oc', ThX (fun g => a ≤ g) b (l ++ [o]) oa' oc' 0 0 (fun _ => 0) [] none 0 false w' ∧ Chg (fun g => a ≤ g) w w') (G (hdT1 (.slice (some ⟨tb, toff, none⟩) n0 tc) ov i b k u) cs) w := by
 obtain ⟨fsO, huO⟩ := structT 45 (by kernel_rfl)
 obtain ⟨ob, off, rfl, hob, h2⟩ := h2
 have hbl := X.lt
 have hbS : a ≤ b := X.sb
 have hw1 : IntKind.wrap .i64 ((k : Int) + 1) = (k : Int) + 1 := by rw [IntKind.wrap_i64]; omega
 have hk7 : ((k : Int) < 65536) := by omega
 have hb0 := X.blk
 have c0 : w.cell? ⟨b, 0, none⟩ = some (.slice oa l.length oc) := tcO hb0
 obtain ⟨ok, o1, o2, o3⟩ := o
 dsimp only at h2
 have hown' : (w.alloc (.cells #[.int .i64 ok, .int .i64 o1, .int .i64 o2, .int .i64 o3] 45)).ownsRow 0 45 4 (.slice oa l.length oc) l.length (opRow l) := row_same X.rO fun g hg => heap_new_lt _ _ (X.rO.lt g hg).2
 have hnews : ∀ (j : Nat) (v : Value), ([.int .i64 ok, .int .i64 o1, .int .i64 o2, .int .i64 o3] : List Value)[j]? = some v → (w.alloc (.cells #[.int .i64 ok, .int .i64 o1, .int .i64 o2, .int .i64 o3] 45)).cell? ((⟨w.heap.size, 0, none⟩ : Addr).add j) = some v := fun j v hv => by
  rw [add_none, Nat.zero_add]
  refine (cell_of (heap_alloc_new _ _) j).trans ?_
  simpa using hv
 have hsz1 : w.heap.size + 1 ≤ (w.alloc (.cells #[.int .i64 ok, .int .i64 o1, .int .i64 o2, .int .i64 o3] 45)).heap.size ∧ (w.alloc (.cells #[.int .i64 ok, .int .i64 o1, .int .i64 o2, .int .i64 o3] 45)).heap.size ≤ w.heap.size + 1 := by simp
 have hnb : ∀ g, (Value.slice oa l.length oc).ownBlock = some g → g ≠ b := fun g hg => (X.so g hg).2
 have hfar : ∀ (x : Nat) (w2 : World), x < w.heap.size → (∀ g, (Value.slice oa l.length oc).ownBlock = some g → g ≠ x) → (w.alloc (.cells #[.int .i64 ok, .int .i64 o1, .int .i64 o2, .int .i64 o3] 45)).grownBy w2 (Value.slice oa l.length oc).ownBlock → w2.heap[x]? = w.heap[x]? := fun x w2 hx hne hg => (hg.block x (by omega) (fun e => hne x e.symm rfl)).trans (heap_new_lt _ _ hx)
 have hna : ∀ x, x < a → ∀ g, (Value.slice oa l.length oc).ownBlock = some g → g ≠ x := fun x hx g hg => by have : a ≤ g := (X.so g hg).1; omega
 have htbw : tb < w.heap.size := by omega
 have hobw : ob < w.heap.size := by omega
 conv => arg 5; unfold hdT1
 subst hl
 refine Walk.gz z36 ?_
 refine Walk.drawnT (iA := 12) (iB := 13) (w1 := w.alloc (.cells #[.int .i64 ok, .int .i64 o1, .int .i64 o2, .int .i64 o3] 45)) (vA := .slice (some ⟨w.heap.size, 0, none⟩) 1 1) (Z := fun x => x.cell? ⟨b, 0, none⟩ = some (.slice oa l.length oc) ∧ x.cell? ⟨tb, toff + i, none⟩ = some (.slice (some ⟨ob, off, none⟩) ln lc) ∧ x.heap[ob]? = w.heap[ob]?)
  (fun v w2 => ∃ g cap, v = .slice (some ⟨g, 0, none⟩) (l.length + 1) cap ∧ AppT w ok o1 o2 o3 oa l oc g cap w2) (by kernel_rfl) size36_9 (by kernel_rfl) (by kernel_rfl) (by kernel_rfl) (by kernel_rfl) (by decide) hoA hoA ⟨c0, h1, rfl⟩ ⟨cell_alloc _ _ c0, cell_alloc _ _ h1, heap_new_lt _ _ hobw⟩ ?_ ?_
 ·rintro v w2 ⟨g, cap, _, hA⟩
  exact ⟨(World.cell?_of_block (a := ⟨b, 0, none⟩) (hfar b w2 hbl hnb hA.grown)).trans c0, (World.cell?_of_block (a := ⟨tb, toff + i, none⟩) (hfar tb w2 htbw (hna tb htb) hA.grown)).trans h1, hfar ob w2 hobw (hna ob hob) hA.grown⟩
 rw [show List.filter (quietQ 12 13) (List.range 16) = [0, 1, 2, 3, 4, 5, 6, 7, 8, 9, 10, 11, 14, 15] from by decide]
 repeat (first | (refine Cm.opqZ hoA (by rfl) (fun wz hz dd e he => ?_) ?_; (· (obtain ⟨z1, z2, z3⟩ := hz; simp [go_sem, *] at he; try (subst he; exact evR_read _ _))); apply Exists.intro; apply And.intro; (· (intro wz hz dd K hK; obtain ⟨z1, z2, z3⟩ := hz; go_simp; exact hK))) | (refine Cm.unw hoA (by rfl) ?_; walk_nrm))
 refine Cm.loadS 45 (.tmp 42) hoA (by rfl) rfl ob (off + l.length * 4) [.int .i64 ok, .int .i64 o1, .int .i64 o2, .int .i64 o3] (.struct fsO) rfl (fun x hx j v hv => (World.cell?_of_block (a := ⟨ob, off + l.length * 4 + j, none⟩) hx.2.2).trans (h2 j v hv)) huO rfl (by kernel_rfl) ?_
 walk_nrm
 repeat (first | (refine Cm.opqZ hoA (by rfl) (fun wz hz dd e he => ?_) ?_; (· (obtain ⟨z1, z2, z3⟩ := hz; simp [go_sem, *] at he; try (subst he; exact evR_read _ _))); apply Exists.intro; apply And.intro; (· (intro wz hz dd K hK; obtain ⟨z1, z2, z3⟩ := hz; go_simp; exact hK))) | (refine Cm.unw hoA (by rfl) ?_; walk_nrm))
 refine Cm.done ⟨?_, ?_, ?_⟩
 ·intro x hev rest hr'
  have e1 : x.tmps[43]?.getD undef = .agg #[.int .i64 ok, .int .i64 o1, .int .i64 o2, .int .i64 o3] := by simpa [Act.eval] using hev (.tmp 43) (by simp [Op.operands])
  clear hev
  (refine Walk.oa ?_; try walk_nrm)
  exact hr' _ _ ⟨rfl, _, rfl⟩
 ·intro x hev rest hr'
  have e1 : x.eval (.tmp 36) = .slice oa l.length oc := by simpa [Act.eval] using hev (.tmp 36) (by simp [Op.operands, Call.operands])
  have e2 : x.eval (.tmp 44) = .slice (some ⟨w.heap.size, 0, none⟩) 1 1 := by simpa [Act.eval] using hev (.tmp 44) (by simp [Op.operands, Call.operands])
  have hiA := Option.some_get (show (Try.prog.info? 45).isSome = true by kernel_rfl)
  refine Walk.append (.tmp 36) (.tmp 44) 37 hoA (by rfl) (by decide) rfl 0 45 _ (.agg #[.int .i64 0, .int .i64 0, .int .i64 0, .int .i64 0]) 4 32 (by kernel_rfl) hiA.symm (by rfl) (by rfl) (by rfl) (by rfl) (by decide) (.slice oa l.length oc) l.length (opRow l) e1 hown' ⟨w.heap.size, 0, none⟩ 1 1 [.int .i64 ok, .int .i64 o1, .int .i64 o2, .int .i64 o3] e2 (by rfl) hnews (by simp [Value.oneCell']) (by decide) (by simp [maxLen]; omega) (by omega) (Nat.zero_le _) (fun g _ => ap0 g) (fun g cap w3 hown hg hat hlt => ?_)
  exact hr' _ _ ⟨_, w3, ⟨g, cap, rfl, hown, hg, hat, hlt⟩, rfl, w3.drawn, rfl⟩
 rintro v w2 ⟨g, cap, rfl, hA⟩ rest hr'
 have hb2 : w2.heap[b]? = w.heap[b]? := hfar b w2 hbl hnb hA.grown
 have k0 : w2.cell? ⟨b, 0, none⟩ = some (.slice oa l.length oc) := (World.cell?_of_block (a := ⟨b, 0, none⟩) hb2).trans c0
 have z0 : w2.frozen? ⟨b, 0, none⟩ = false := frozen_of (hb2.trans hb0) 0
 (have hfr := fr0 b 0; refine Walk.os hfr k0 ?_; clear hfr; try walk_nrm)
 refine hr' _ _ ?_
 have hgs := hA.grown.size
 have hgb : g ≠ b := fun e => by
  rcases hA.hat with h | h
  ·exact hnb g h e
  ·omega
 have hfin : ThX (fun g => a ≤ g) b (l ++ [⟨ok, o1, o2, o3⟩]) (some ⟨g, 0, none⟩) cap 0 0 (fun _ => 0) [] none 0 false (w2.setCell ⟨b, 0, none⟩ (.slice (some ⟨g, 0, none⟩) (l.length + 1) cap)) := by
  have hlen : (l ++ [(⟨ok, o1, o2, o3⟩ : OpV)]).length = l.length + 1 := by simp
  refine ⟨?_, ?_, rowNil _ _ _ _, hbS, fun x hx => ?_, fun x hx => by simp [Value.ownBlock] at hx⟩
  ·rw [hlen, heap_set_self _ _ (hb2.trans hb0), thA_O]
  ·rw [hlen, opRow_snoc]
   exact row_same hA.own fun x hx => heap_set_other _ _ _ _ (by
    simp only [Value.ownBlock, Option.some.injEq] at hx
    show x ≠ b
    omega)
  ·simp only [Value.ownBlock, Option.some.injEq] at hx
   subst hx
   refine ⟨?_, hgb⟩
   rcases hA.hat with h | h
   ·exact (X.so g h).1
   ·show a ≤ g
    omega
 have hC : Chg (fun g => a ≤ g) w (w2.setCell ⟨b, 0, none⟩ (.slice (some ⟨g, 0, none⟩) (l.length + 1) cap)) := by
  refine ⟨by rw [size_set]; omega, fun x hx hn => ?_⟩
  have hn : ¬ a ≤ x := hn
  rw [heap_set_other _ _ _ _ (show x ≠ b by omega)]
  exact hfar x w2 hx (hna x (by omega)) hA.grown
 generalize w2.setCell ⟨b, 0, none⟩ (.slice (some ⟨g, 0, none⟩) (l.length + 1) cap) = w3 at *
 walk_nrm
 refine Walk.gz z36 ?_
 refine Walk.ctl rfl (fun w => stepG_inLoop) ?_
 refine .stop fun d => ⟨at_slots ?_, _, _, hfin.at d, hC.at d⟩
 have hc : ((l.length + 1 : Nat) : Int) = (l.length : Int) + 1 := by simp
 simp only [hdT1, hc]
 rfl
theorem thr_next (tb toff n0 tc i b k ln lc : Nat) (ia la : Option Addr) (pc : Nat) (ts : Nat → Nat) (u : Nat → Value) (cs : List Frame) (a : Nat) (w : World) (h0 : i < n0) (h64 : i < 64) (hk : k = min ln 65536)
  (h1 : w.cell? ⟨tb, toff + i, none⟩ = some (.slice ia ln lc)) (hrow : w.ownsRow a 89 1 (.slice la i pc) i (ptrRow ts i)) (ha : a ≤ w.heap.size) :
  Walk Try.prog main (DR (fun _ => none)) (fun g' w' => ∃ g cap, (∃ u, g' = G (hdT0 (.slice (some ⟨tb, toff, none⟩) n0 tc) (.slice (some ⟨g, 0, none⟩) (i + 1) cap) (i + 1) u) cs) ∧ w'.ownsRow a 89 1 (.slice (some ⟨g, 0, none⟩) (i + 1) cap) (i + 1) (ptrRow ts i ++ [.pointer (some ⟨b, 0, none⟩)]) ∧ Chg (fun x => (Value.slice la i pc).ownBlock = some x) w w' ∧ ((Value.slice la i pc).ownBlock = some g ∨ w.heap.size ≤ g))
   (G (hdT1 (.slice (some ⟨tb, toff, none⟩) n0 tc) (.slice la i pc) i b k u) cs) w := by
 have hw1 : IntKind.wrap .i64 ((i : Int) + 1) = (i : Int) + 1 := by rw [IntKind.wrap_i64]; omega
 have hiP := Option.some_get (show (Try.prog.info? 89).isSome = true by kernel_rfl)
 have hsz1 : (w.alloc (.cells #[.pointer (some ⟨b, 0, none⟩)] 89)).heap.size = w.heap.size + 1 := by simp
 have hown' : (w.alloc (.cells #[.pointer (some ⟨b, 0, none⟩)] 89)).ownsRow a 89 1 (.slice la i pc) i (ptrRow ts i) := row_same hrow fun g hg => heap_new_lt _ _ (hrow.lt g hg).2
 have hnews : ∀ (j : Nat) (v : Value), ([.pointer (some ⟨b, 0, none⟩)] : List Value)[j]? = some v → (w.alloc (.cells #[.pointer (some ⟨b, 0, none⟩)] 89)).cell? ((⟨w.heap.size, 0, none⟩ : Addr).add j) = some v := fun j v hv => by
  rw [add_none, Nat.zero_add]
  refine (cell_of (heap_alloc_new _ _) j).trans ?_
  simpa using hv
 have hh : (k = ln ∨ k = 65536) ∧ k ≤ ln ∧ k ≤ 65536 := by omega
 clear hk
 conv => arg 5; unfold hdT1
 by_cases hkl : k < ln
 ·have h6 : decide ((k : Int) < 65536) = false := by simp; omega
  have h6' : decide (k < 65536) = false := by simp; omega
  refine Walk.gz z36 ?_
  (refine Walk.oa ?_; try walk_nrm)
  refine Walk.append (.tmp 48) (.tmp 50) 82 hoA (by rfl) (by decide) rfl a 89 _ (.pointer none) 1 8 (by kernel_rfl) hiP.symm (by rfl) (by rfl) (by rfl) (by rfl) (by decide) (.slice la i pc) i (ptrRow ts i) rfl hown' ⟨w.heap.size, 0, none⟩ 1 1 [.pointer (some ⟨b, 0, none⟩)] rfl (by rfl) hnews (by simp [Value.oneCell']) (by decide) (by simp [maxLen]; omega) (by omega) (by omega) (fun g _ => ap0 g) (fun g cap w3 hown hg hat hlt => ?_)
  walk_nrm
  refine Walk.gz z36 ?_
  refine Walk.ctl rfl (fun w => stepG_inLoop) ?_
  have hgs := hg.size
  refine .stop fun d => ⟨g, cap, at_slots ?_, hown, ⟨by show w.heap.size ≤ w3.heap.size; omega, fun x hx hn => (hg.block x (by omega) (fun e => hn e.symm)).trans (heap_new_lt _ _ hx)⟩, hat.imp id (fun h => by omega)⟩
  have hc : ((i + 1 : Nat) : Int) = (i : Int) + 1 := by simp
  simp only [hdT0, hc]
  rfl
 ·have h2 : decide (k < ln) = false := by simp; omega
  have h3 : decide ((k : Int) < ln) = false := by simp; omega
  refine Walk.gz z36 ?_
  (refine Walk.oa ?_; try walk_nrm)
  refine Walk.append (.tmp 48) (.tmp 50) 82 hoA (by rfl) (by decide) rfl a 89 _ (.pointer none) 1 8 (by kernel_rfl) hiP.symm (by rfl) (by rfl) (by rfl) (by rfl) (by decide) (.slice la i pc) i (ptrRow ts i) rfl hown' ⟨w.heap.size, 0, none⟩ 1 1 [.pointer (some ⟨b, 0, none⟩)] rfl (by rfl) hnews (by simp [Value.oneCell']) (by decide) (by simp [maxLen]; omega) (by omega) (by omega) (fun g _ => ap0 g) (fun g cap w3 hown hg hat hlt => ?_)
  walk_nrm
  refine Walk.gz z36 ?_
  refine Walk.ctl rfl (fun w => stepG_inLoop) ?_
  have hgs := hg.size
  refine .stop fun d => ⟨g, cap, at_slots ?_, hown, ⟨by show w.heap.size ≤ w3.heap.size; omega, fun x hx hn => (hg.block x (by omega) (fun e => hn e.symm)).trans (heap_new_lt _ _ hx)⟩, hat.imp id (fun h => by omega)⟩
  have hc : ((i + 1 : Nat) : Int) = (i : Int) + 1 := by simp
  simp only [hdT0, hc]
  rfl
end
end
end Go.Proofs.Ytdmpmoggacjgcaa
