/- Part 17. -/
import Derived.Test.YtjenoiekfkhafaaJ3
import Derived.Test.YtjenoiekfkhafaaJ5
import Derived.Test.YtjenoiekfkhafaaJ9
import Derived.Test.YtjenoiekfkhafaaJ13
import Derived.Test.YtjenoiekfkhafaaJ15
import Derived.Test.YtjenoiekfkhafaaJ16
import Derived.Laws.OwnMore
set_option linter.unusedSimpArgs false
set_option linter.unusedVariables false
set_option linter.unusedVariables false
set_option maxHeartbeats 8000000
set_option maxRecDepth 100000
namespace Go.Relay
section
open Go.Conc Go.RowKit
section
variable {P : Program} {main : Bool} {V : Nat -> Option Wait} {Stop : Goroutine -> World -> Prop} {w : World} {b : Frame} {a : Act} {k : List Item} {cs : List Frame} {ops : Array Oper} {i : Nat} {rest : List Nat} {o : Oper}
theorem Walk.appendAny (s x : Operand) (t : TypeId) (ho : ops[i]? = some o) (hw : Region.wanted o (yielded ops a.tmps) = true) (hk : b.kind ≠ .early) (hop : o.op = .call { callee := .builtin .append, args := #[s, x], argTypes := #[t, t] })
  (base : Nat) (e : TypeId) (ti : TypeInfo) (z : Value) (size bytes : Nat) (ht : P.underlying t = some (.slice e)) (hi : P.info? e = some ti) (hz : ti.zero = some z) (hsize : ti.size = size) (hby : ti.bytes = bytes) (hzs : z.cells.size = size) (hsz : 0 < size)
  (v : Value) (n : Nat) (xs : List Value) (hs : a.eval s = v) (hown : w.ownsRow base e size v n xs)
  (ad : Addr) (m c : Nat) (news : List Value) (hx : a.eval x = .slice (some ad) m c) (hl : news.length = m * size) (hnews : ∀ j u, news[j]? = some u -> w.cell? (ad.add j) = some u) (h1 : ∀ u ∈ news, u.oneCell' = true)
  (h63 : n + m <= maxLen) (hbytes : (n + m) * bytes <= 140737488355328) (hbase : base <= w.heap.size) (hap : ∀ g, v.ownBlock = some g -> Ay V g)
  (h : ∀ v' w', w'.ownsRow base e size v' (n + m) (xs ++ news) -> w.grownBy w' v.ownBlock -> (v'.ownBlock = v.ownBlock ∨ v'.ownBlock = some w.heap.size) -> Walk P main (DR V) Stop (G (b.at (a.put o.dst v') (.inRegion ops rest :: k)) cs) w') :
  Walk P main (DR V) Stop (G (b.at a (.inRegion ops (i :: rest) :: k)) cs) w := by
 refine Walk.go rfl fun d => goes_oper_k ho hw hk fun K hK => ?_
 obtain ⟨v', w', hr, hown', hg, _, hat⟩ := run_append_own_at (P := P) (w.at d) base t o.type e ti z size bytes ht hi hz hsize hby hzs hsz v n xs hown ad m c news hl hnews h1 h63 hbytes hbase
 refine uponK_append s x t hop hs hx hr (hK _ _ ⟨DR.grown hg hap fun ev hev => ?_, h v' w' hown' ⟨hg.os, hg.tape, hg.output, hg.size, hg.block⟩ hat⟩)
 have hm' := mem_listed hev
 rw [events_append_op s x t hop hs hx] at hm'
 rcases events_append_own (w.at d) base t o.type e ti z size bytes ht hi hz hsize hby v n xs hown ad m c news hl hnews h1 h63 hbytes ev hm' with h' | ⟨ad', h', hb⟩ | ⟨mk, h', hn⟩
 ·exact Es h'
 ·exact Kn h' ((hap _ hb.symm).1 ad' rfl)
 ·rw [h', show mk = .noRoom from hn]; exact Nz
end
end
end Go.Relay
namespace Go.Proofs.Ytjenoiekfkhafaa
open Go.Conc Go.RowKit Go.Relay
open Go.ConcN (upd upd_ne upd_same)
section
theorem Oi (b : Nat) : Ay (fun _ => none) b := ⟨fun _ _ _ _ h => (by cases h), fun _ _ h => (by cases h)⟩
theorem Jr (b i : Nat) : Df (fun _ => none) ⟨b, i, none⟩ := (Oi b).1 _ rfl
structure Chg (S : Nat -> Prop) (w w' : World) : Prop where
 size : w.heap.size <= w'.heap.size
 same : ∀ b, b < w.heap.size -> ¬ S b -> w'.heap[b]? = w.heap[b]?
section
variable {S S' : Nat -> Prop} {w w' w1 w2 : World}
theorem Chg.refl : Chg S w w := ⟨Nat.le_refl _, fun _ _ _ => rfl⟩
theorem Chg.at (h : Chg S w w') (d : Nat) : Chg S w (w'.at d) := ⟨h.size, h.same⟩
theorem Chg.trans (h1 : Chg S w w1) (h2 : Chg S' w1 w2) (hS : ∀ b, b < w.heap.size -> S' b -> S b) : Chg S w w2 :=
 ⟨Nat.le_trans h1.size h2.size, fun b hb hn => (h2.same b (Nat.lt_of_lt_of_le hb h1.size) fun e => hn (hS b hb e)).trans (h1.same b hb hn)⟩
end
theorem Jh {w : World} {base : Nat} {e : TypeId} {size m tc n : Nat} {ta : Option Addr} {xs : List Value} (h : w.ownsRow base e size (.slice ta m tc) n xs) {j : Nat} {x : Value} (hx : xs[j]? = some x) : ∃ g, ta = some ⟨g, 0, none⟩ /\ base <= g /\ g < w.heap.size /\ w.cell? ⟨g, j, none⟩ = some x := by
 obtain ⟨hl, h⟩ := h
 have hj := (List.getElem?_eq_some_iff.1 hx).1
 rcases h with ⟨_, rfl⟩ | ⟨g, cap, cur, e, h1, h2, h3, _, h5, h6⟩
 ·omega
 ·injection e with e1 e2 e3
  refine ⟨g, e1, h1, (Array.getElem?_eq_some_iff.1 h2).1, (Ad h2 j).trans ?_⟩
  rw [<- h6, List.getElem?_take, if_pos (by omega)] at hx
  simpa using hx
def Mm (a b c : Value) (k : Bool) : Array Value := #[a, b, c, .bool k]
def NumA (a : Option Addr) (l : List Int) (w : World) : Prop := ∀ (i : Nat) (x : Int), l[i]? = some x -> ∃ b o, a = some ⟨b, o, none⟩ /\ w.cell? ⟨b, o + i, none⟩ = some (.int .i64 x)
def Qa (a : Option Addr) (l : List Ans) (w : World) : Prop := ∀ (i : Nat) (x : Ans), l[i]? = some x -> ∃ b o la lc, a = some ⟨b, o, none⟩ /\ w.cell? ⟨b, o + i * 3, none⟩ = some (.bool x.ok) /\ w.cell? ⟨b, o + i * 3 + 1, none⟩ = some (.int .i64 x.n) /\ w.cell? ⟨b, o + i * 3 + 2, none⟩ = some (.slice la x.l.length lc) /\ NumA la x.l w /\ x.l.length <= 1048576
theorem NumA.chg {a : Option Addr} {l : List Int} {w w' : World} (h : NumA a l w) (hC : Chg (fun _ => False) w w') : NumA a l w' := fun i x hx => by
 obtain ⟨b, o, e, hc⟩ := h i x hx
 exact ⟨b, o, e, (World.cell?_of_block (a := ⟨b, o + i, none⟩) (hC.same b (Al hc) id)).trans hc⟩
structure TrA (cells : Array Value) (n : Nat) (F : Nat -> List Ans) (ord : List Nat) (sts : List Int) (k : Bool) (w : World) : Prop where
 all : ∃ aa ac oa oc sa sc, cells = Mm (.slice aa n ac) (.slice oa ord.length oc) (.slice sa sts.length sc) k /\ NumA oa (ord.map fun i => ((i : Nat) : Int)) w /\ NumA sa sts w /\ ∀ i, i < n -> ∃ b o ta tc, aa = some ⟨b, o, none⟩ /\ w.cell? ⟨b, o + i, none⟩ = some (.slice ta (F i).length tc) /\ Qa ta (F i) w
theorem Hi : ∀ (l : List (Ans × Value)) (k j : Nat) (o : Ans × Value) (v : Value), l[k]? = some o -> ([.bool o.1.ok, .int .i64 o.1.n, o.2] : List Value)[j]? = some v -> (Db l)[k * 3 + j]? = some v
 | o' :: l, 0, j, o, v, hk, hv => by
  simp only [List.getElem?_cons_zero, Option.some.injEq] at hk
  subst hk
  have hj := (List.getElem?_eq_some_iff.1 hv).1
  have : Db (o' :: l) = [.bool o'.1.ok, .int .i64 o'.1.n, o'.2] ++ Db l := by simp [Db]
  rw [this, Nat.zero_mul, Nat.zero_add, List.getElem?_append_left hj]
  exact hv
 | o' :: l, k + 1, j, o, v, hk, hv => by
  have : Db (o' :: l) = [.bool o'.1.ok, .int .i64 o'.1.n, o'.2] ++ Db l := by simp [Db]
  rw [this, List.getElem?_append_right (by simp; omega)]
  have h := Hi l k j o v (by simpa using hk) hv
  rw [<- h]
  congr 1
  simp
  omega
theorem Iq {w : World} {base : Nat} {e : TypeId} {ta : Option Addr} {m tc : Nat} {l : List Int} (h : w.ownsRow base e 1 (.slice ta m tc) m (l.map (.int .i64))) : NumA ta l w := fun i x hx => by
 obtain ⟨g, e, _, _, h0⟩ := Jh h (j := i) (x := .int .i64 x) (by simp [hx])
 exact ⟨g, 0, e, by rw [Nat.zero_add]; exact h0⟩
theorem numA_nil (a : Option Addr) (w : World) : NumA a [] w := fun i x hx => (by simp at hx)
theorem LsAt.num {base : Nat} {P : Nat -> Prop} {sl : Value} {l : List Int} {w : World} (h : LsAt base P sl l w) : ∃ la lc, sl = .slice la l.length lc /\ NumA la l w /\ l.length <= 1048576 := by
 obtain ⟨a, c, e, hn, hr⟩ := h
 refine ⟨a, c, e, ?_, hn⟩
 by_cases hl : l = []
 ·subst hl; exact numA_nil _ _
 ·have h1 := (hr hl).1
  rw [e] at h1
  exact Iq h1
theorem ansA_of {base : Nat} {P : Nat -> Prop} {hd : Value} {l : List Ans} {w : World} (h : RowA base P hd l w) : ∃ ta tc, hd = .slice ta l.length tc /\ Qa ta l w := by
 obtain ⟨ta, tc, z, hz, e, hr, _, hls⟩ := h
 refine ⟨ta, tc, e, fun i x hx => ?_⟩
 rw [e] at hr
 obtain ⟨p, hp, hpx⟩ : ∃ p, z[i]? = some p /\ p.1 = x := by
  rw [<- hz, List.getElem?_map, Option.map_eq_some_iff] at hx
  exact hx
 subst hpx
 obtain ⟨g, e, _, _, h0⟩ := Jh hr (Hi z i 0 p _ hp rfl)
 obtain ⟨g1, e1, _, _, h1⟩ := Jh hr (Hi z i 1 p _ hp rfl)
 obtain ⟨g2, e2, _, _, h2⟩ := Jh hr (Hi z i 2 p _ hp rfl)
 rw [e] at e1 e2
 cases e1
 cases e2
 obtain ⟨la, lc, hsl, hn, hlen⟩ := (hls p (List.mem_of_getElem? hp)).num
 refine ⟨g, 0, la, lc, e, ?_, ?_, ?_, hn, hlen⟩
 ·rw [Nat.zero_add]; exact h0
 ·rw [Nat.zero_add]; exact h1
 ·rw [Nat.zero_add, <- hsl]; exact h2
theorem OpsIn.old {tb toff n : Nat} {oa : Nat -> Option Addr} {ln oc : Nat -> Nat} {ops : Nat -> List OpV} {w w' : World} (I : OpsIn tb toff n oa ln oc ops w) (h : ∀ b, b < w.heap.size -> w'.heap[b]? = w.heap[b]?) : OpsIn tb toff n oa ln oc ops w' := by
 have hc : ∀ {b j : Nat} {v : Value}, w.cell? ⟨b, j, none⟩ = some v -> w'.cell? ⟨b, j, none⟩ = some v := fun {b j v} e => (World.cell?_of_block (a := ⟨b, j, none⟩) (h b (Al e))).trans e
 exact ⟨fun i hi => hc (I.hd i hi), I.cap, I.ad, I.len, fun i hi j o ho => by
  obtain ⟨b, off, e, c0, c1, c2, c3⟩ := I.ops i hi j o ho
  exact ⟨b, off, e, hc c0, hc c1, hc c2, hc c3⟩⟩
end
section
variable {main : Bool} {V : Nat -> Option Wait}
theorem end_zero (B : Nat) (c : Frame) (cs : List Frame) (w : World) (h0 : w.cell? ⟨B, 0, none⟩ = some (.slice none 0 0)) :
  Walk Try.prog main (DR V) (fun g w' => g = G (c.finish (.slice (some ⟨w.heap.size, 0, none⟩) 0 0)) cs /\ ∃ d, w' = (w.alloc (.cells (madeCells #[.bool false] 0) 4)).at d) (G (Frame.enter Try.prog 69 #[.pointer (some ⟨B, 0, none⟩)] .normal) (c :: cs)) w := by
 rw [enter_at _ Try.func69 rfl]
 simp only [Try.f69, ez, Nat.reduceAdd, Nat.reduceSub]
 refine Ae ?_
 have hi4 := Option.some_get (show (Try.prog.info? 4).isSome = true by kernel_rfl)
 refine Ev 104 (.tmp 10) (.tmp 10) rfl (by rfl) (by decide) rfl 4 _ (.bool false) 1 1 (by kernel_rfl) hi4.symm (by rfl) (by rfl) (by rfl) 0 (by rfl) (by rfl) (by omega) (by omega) ?_
 have h0' := Ag w (.cells (madeCells #[.bool false] 0) 4) h0
 walk_nrm
 simp only [Value.cells, Nat.mul_one]
 refine Ae ?_
 refine Walk.ctl rfl (fun w => stepG_loop) ?_
 refine Ae ?_
 exact (Bd (Post := fun v w' => v = .slice (some ⟨w.heap.size, 0, none⟩) 0 0 /\ ∃ d, w' = (w.alloc (.cells (madeCells #[.bool false] 0) 4)).at d) rfl rfl Try.func69 rfl fun d => ⟨by simp, d, rfl⟩).mono fun g w' ⟨v, ⟨e, d, e'⟩, hg⟩ => ⟨by rw [hg, e], d, e'⟩
end
section
section
variable {main : Bool} {V : Nat -> Option Wait}
theorem begin_zero' (B tc : Nat) (ta : Option Addr) (c : Frame) (cs : List Frame) (w : World) (h0 : w.cell? ⟨B, 0, none⟩ = some (.slice none 0 0)) :
  Walk Try.prog main (DR V) (fun g w' => g = G (c.finish (.tuple #[])) cs /\ ∃ d, w' = w.at d) (G (Frame.enter Try.prog 67 #[.pointer (some ⟨B, 0, none⟩), .slice ta 0 tc] .normal) (c :: cs)) w := by
 rw [enter_at _ Try.func67 rfl]
 simp only [Try.f67, ez, Nat.reduceAdd, Nat.reduceSub]
 refine Ae ?_
 refine Walk.ctl rfl (fun w => stepG_loop) ?_
 refine Ae ?_
 exact Walk.ctl rfl (fun w => stepG_leave rfl rfl Try.func67 (results_none rfl _ _ w) (events_results_none rfl _ _)) (.stop fun d => ⟨rfl, d, rfl⟩)
theorem over_zero' (sa : Option Addr) (m sc tc : Nat) (ta : Option Addr) (most : Int) (og : Value) (c : Frame) (cs : List Frame) (w : World) (hog : Bn Try.prog main V 65 #[og] w (.slice ta 0 tc) w)
  (hs : 0 < m -> ∃ s so x, sa = some ⟨s, so, none⟩ /\ w.cell? ⟨s, so, none⟩ = some (.int .i64 x)) :
  Walk Try.prog main (DR V) (fun g w' => g = G (c.finish (.tuple #[.slice none 0 0, .bool false, .slice (some ⟨w.heap.size + 1, 0, none⟩) 0 0])) cs /\ ∃ d, w' = ((Dg w 0 most).alloc (.cells (madeCells #[.bool false] 0) 4)).at d)
   (G (Frame.enter Try.prog 50 #[og, .slice sa m sc, .int .i64 most] .normal) (c :: cs)) w := by
 have hs1 : (Dg w 0 most).heap.size = w.heap.size + 1 := by simp [Dg]
 have ht : ∀ i, (Dg w 0 most).cell? ⟨w.heap.size, i, none⟩ = (#[.slice none 0 0, .int .i64 (0 : Nat), .int .i64 (min (max most 0) 1048576), .slice none 0 0] : Array Value)[i]? := fun i => Ad (heap_alloc_new w _) i
 have t0 := (ht 0).trans rfl
 have t1 := (ht 1).trans rfl
 have t2 := (ht 2).trans rfl
 have t3 := (ht 3).trans rfl
 clear ht
 refine (over_in 0 tc m sc ta sa og most (c :: cs) w hog (nt_in 0 tc ta most (fr23t 0 tc m sc ta sa og most :: c :: cs) w)).then ?_
 rintro _ _ ⟨⟨u0, rfl⟩, d1, rfl⟩
 refine Walk.back ?_ d1
 refine (nt_out w.heap.size 0 u0 (fr23t 0 tc m sc ta sa og most) (c :: cs) _).then ?_
 rintro _ _ ⟨rfl, d2, rfl⟩
 refine Walk.back ?_ d2
 refine (Nl w.heap.size 0 tc m sc ta sa og most (c :: cs) _ (begin_zero' w.heap.size tc ta _ (c :: cs) _ t0)).then ?_
 rintro _ _ ⟨rfl, d3, rfl⟩
 refine Walk.back ?_ d3
 refine (Lt w.heap.size 0 tc m sc ta sa og most (c :: cs) _ (follow_in w.heap.size sa m sc _ _)).then ?_
 rintro _ _ ⟨⟨u4, rfl⟩, d4, rfl⟩
 refine Walk.back ?_ d4
 have back : Walk Try.prog main (DR V) (fun g w' => g = G ((fr23b w.heap.size 0 tc m sc ta sa og most).finish (.tuple #[])) (c :: cs) /\ ∃ d, w' = (Dg w 0 most).at d) (G (Lj w.heap.size sa m sc 0 u4) (fr23b w.heap.size 0 tc m sc ta sa og most :: c :: cs)) (Dg w 0 most) := by
  rcases Nat.eq_zero_or_pos m with hm | hm
  ·subst hm
   refine (Lw w.heap.size sa 0 sc u4 _ _).then ?_
   rintro _ _ ⟨⟨u5, rfl⟩, d5, rfl⟩
   refine Walk.back ?_ d5
   exact Mx w.heap.size sa 0 sc (0 : Nat) _ none 0 0 u5 _ (c :: cs) _ t1 t2 t3 (by simp)
  ·obtain ⟨s, so, x, rfl, hc⟩ := hs hm
   refine Lx w.heap.size s so m sc 0 x (0 : Nat) _ none 0 0 u4 _ (c :: cs) _ hm ?_ t1 t2 t3 (by simp)
   exact Ag w _ hc
 refine back.then ?_
 rintro _ _ ⟨rfl, d5, rfl⟩
 refine Walk.back ?_ d5
 refine (over_end w.heap.size 0 tc m sc ta sa og most (0 : Nat) (c :: cs) _ t1 (end_zero w.heap.size _ (c :: cs) _ t0)).then ?_
 rintro _ _ ⟨rfl, d6, rfl⟩
 refine Walk.back ?_ d6
 have t3' := Ag _ (.cells (madeCells #[.bool false] 0) 4) t3
 rw [hs1]
 refine (over_out w.heap.size (w.heap.size + 1) 0 tc m sc ta sa og most (0 : Nat) none 0 0 c cs _ t3').mono ?_
 rintro _ _ ⟨rfl, d7, rfl⟩
 exact ⟨by simp, d7, rfl⟩
theorem huOpsS : Try.prog.underlying 23 = some (.slice 34) := by kernel_rfl
theorem Jc (a : Option Addr) (m cap : Nat) (w : World) (hm : m <= cap) (ha : a = none /\ cap = 0 ∨ ∃ p, a = some p) : Bn Try.prog main V 62 #[.slice a m cap] w (.slice a (min m 64) cap) w := by
 refine Bg Try.func62 rfl fun fr cs => ?_
 simp only [Try.ntmps62, ez, Nat.reduceAdd, Nat.reduceSub]
 have hmn := @Ca Try.prog
 refine Ae ?_
 have hmin : min (m : Int) 64 = ((min m 64 : Nat) : Int) := by omega
 rw [hmin]
 have hxl : min m 64 <= cap := by omega
 generalize min m 64 = x at hxl ⊢
 have hi := Option.some_get (show (Try.prog.info? 34).isSome = true by kernel_rfl)
 have hs := fun w => (Fy huOpsS hi.symm a m cap x hxl ha w #[]).1
 have hse := fun w es => (Fy huOpsS hi.symm a m cap x hxl ha w es).2
 clear hi
 refine Ae ?_
 exact Bd rfl rfl Try.func62 rfl fun d => ⟨by simp, d, rfl⟩
end
theorem Ni (L : La) (s0 : L.Sg) (ops : Nat -> List OpV) (most : Int) (sl : List Int) : Bt L s0 ops 0 most sl = (Qc L s0, []) := by
 have hov : Ch (Ce L 0 (min (max most 0) 1048576) ops) (Qc L s0, []) = true := rfl
 have hst : ∀ z, Bk (Ce L 0 (min (max most 0) 1048576) ops) (Qc L s0, []) z = (Qc L s0, []) := fun z => by
  unfold Bk
  rw [hov]
  exact if_neg fun h => by cases h.1
 have hfold : ∀ l : List Int, l.foldl (Bk (Ce L 0 (min (max most 0) 1048576) ops)) (Qc L s0, []) = (Qc L s0, []) := fun l => by
  induction l with
  | nil => rfl
  | cons z l ih => rw [List.foldl_cons, hst, ih]
 show Dl _ _ (sl.foldl _ (Qc L s0, [])) = _
 rw [hfold]
 generalize (Ce L 0 (min (max most 0) 1048576) ops).most.toNat = f
 cases f with
 | zero => rfl
 | succ f =>
  unfold Dl
  rw [hov]
  rfl
section
variable {L : La} {fdo : FuncId} {first cap : Array Value}
theorem ops_any (hD : DoFn L fdo first cap) (y0 : L.Gh) (s0 : L.Sg) (tv : Value) (most : Int) (ta : Option Addr) (tb toff tc n : Nat) (hta : 0 < n -> ta = some ⟨tb, toff, none⟩) (hn : n <= 64) (oa : Nat -> Option Addr) (ln oc : Nat -> Nat) (ops : Nat -> List OpV) (sa : Option Addr) (sc : Nat) (sl : List Int) (hsl : sl.length <= 17592186044416) (c : Frame) (cs : List Frame) (w : World)
  (I : OpsIn tb toff n oa ln oc ops w) (hI : L.I y0 s0 w) (hns : ∀ i, i < n -> ∀ (j : Nat) (o : OpV), (ops i)[j]? = some o -> ∀ b off, oa i = some ⟨b, off, none⟩ -> ¬ L.sh y0 b)
  (hsc : ∀ (j : Nat) (z : Int), sl[j]? = some z -> ∃ s so, sa = some ⟨s, so, none⟩ /\ w.cell? ⟨s, so + j, none⟩ = some (.int .i64 z) /\ ¬ L.sh y0 s)
  (hp : ∀ w' : World, (∀ b, b < w.heap.size -> w'.heap[b]? = w.heap[b]?) -> Bn Try.prog true (fun _ => none) 62 #[tv] w' (.slice ta n tc) w') :
  Runs (fun g w' => ∃ cells, OpsOut L y0 s0 ops n most sl w w' cells /\ g = G (c.finish (.agg cells)) cs) (G (Frame.enter Try.prog 33 #[tv, .func (.func fdo) first cap, .slice sa sl.length sc, .int .i64 most] .normal) (c :: cs)) w := by
 rcases Nat.eq_zero_or_pos n with h0 | h1
 ·subst h0
  have hA : ∀ b, Ay (fun _ => none) b := fun b => ⟨fun _ _ _ _ h => (by cases h), fun _ _ h => (by cases h)⟩
  refine Runs.walk (ops_in fdo first cap tv (.slice sa sl.length sc) most ta tb toff tc 0 hta hn oa ln oc ops c cs w I (fun b _ => hA b) hp) ?_
  rintro _ w2 ⟨fr, w1, rfl, o1, s1, hT, M, hB⟩
  have s2 : w2.heap.size = w.heap.size + 1 + 4 + 2 * 0 := M.size
  have hN := M.cN
  have o2 : ∀ b, b < w.heap.size + 1 -> w2.heap[b]? = w1.heap[b]? := fun b hb => M.old b hb
  have hc2 : ∀ {b j : Nat} {v : Value}, w.cell? ⟨b, j, none⟩ = some v -> w2.cell? ⟨b, j, none⟩ = some v := fun {b j v} h => (World.cell?_of_block (a := ⟨b, j, none⟩) ((o2 b (by have := Al h; omega)).trans (o1 b (Al h)))).trans h
  refine Runs.walk (over_zero' sa sl.length sc 0 (some ⟨w.heap.size + 4, 0, none⟩) most _ fr (c :: cs) w2 ?_ fun h => ?_) ?_
  ·have := Nx (main := true) (V := fun _ => none) (w.heap.size + 4) 0 0 w2 (Nat.le_refl _)
   simpa using this
  ·obtain ⟨s, so, e, hc, _⟩ := hsc 0 (sl[0]'h) (List.getElem?_eq_getElem h)
   exact ⟨s, so, _, e, hc2 hc⟩
  rintro _ _ ⟨rfl, d, rfl⟩
  have o3 : ∀ b, b < w2.heap.size -> ((Dg w2 0 most).alloc (.cells (madeCells #[.bool false] 0) 4)).heap[b]? = w2.heap[b]? := fun b hb => by
   rw [Ab _ _ (by simp [Dg]; omega)]
   exact Ab _ _ hb
  have s3 : w2.heap.size <= ((Dg w2 0 most).alloc (.cells (madeCells #[.bool false] 0) 4)).heap.size := by simp [Dg]; omega
  generalize (Dg w2 0 most).alloc (.cells (madeCells #[.bool false] 0) 4) = w3 at *
  have hT3 : (w3.at d).heap[w.heap.size]? = some (.cells #[.slice none 0 0, .slice none 0 0, .slice none 0 0, .bool false] 31) := (o3 _ (by omega)).trans ((o2 _ (by omega)).trans hT)
  refine Runs.walk (hB none 0 0 _ false _ hT3 (hA _)) ?_
  rintro _ _ ⟨rfl, d', rfl⟩
  have hset : ∀ b, b ≠ w.heap.size -> ((w3.at d).setRow w.heap.size #[.slice (some ⟨w.heap.size + 2, 0, none⟩) 0 0, .slice none 0 0, .slice none 0 0, .bool false]).heap[b]? = w3.heap[b]? := fun b hb => Aq _ _ hb
  have hold : ∀ b, b < w.heap.size -> ((w3.at d).setRow w.heap.size #[.slice (some ⟨w.heap.size + 2, 0, none⟩) 0 0, .slice none 0 0, .slice none 0 0, .bool false]).heap[b]? = w.heap[b]? := fun b hb => (hset b (by omega)).trans ((o3 b (by omega)).trans ((o2 b (by omega)).trans (o1 b hb)))
  have e1 : (Bt L s0 ops 0 most sl).2 = [] := by rw [Ni]
  have e2 : (Bt L s0 ops 0 most sl).1 = Qc L s0 := by rw [Ni]
  refine .now ⟨_, ⟨?_, fun b hb _ => hold b hb, ?_⟩, rfl⟩
  ·rw [e1, e2]
   refine ⟨y0, w.heap.size + 2, none, 0, fun _ => .slice none 0 0, fun _ _ => False, ⟨rfl, ⟨rfl, .inl ⟨rfl, rfl⟩⟩, by omega, ⟨madeCells #[.slice none 0 0] 0, (hset _ (by omega)).trans ((o3 _ (by omega)).trans hN), Fs _ _, fun i hi => absurd hi (Nat.not_lt_zero _)⟩, fun i hi => absurd hi (Nat.not_lt_zero _), fun _ _ _ h => h.elim, fun _ _ h => h.elim, fun _ _ h => h.elim, fun b h => ⟨?_, fun e => (by cases e)⟩, fun e => (by cases e), L.refl _, L.stable hI fun b h => hold b (L.lt hI h), fun b h _ => h⟩⟩
   have := L.lt hI h; omega
  ·show w.heap.size <= (World.setRow _ _ _).heap.size
   rw [Az]
   show _ <= w3.heap.size
   omega
 ·obtain rfl := hta h1
  exact ops_run hD y0 s0 tv most tb toff tc n h1 hn oa ln oc ops sa sc sl hsl c cs w I hI hns hsc hp
end
end
noncomputable def reg14_0 := rk Try.f14.body 0
noncomputable def reg14_1 := rk Try.f14.body 1
noncomputable def reg14_2 := rk Try.f14.body 2
noncomputable def reg14_3 := rk Try.f14.body 3
noncomputable def reg14_4 := rk Try.f14.body 4
theorem z14 : reg14_0.size = 1 /\ reg14_1.size = 3 /\ reg14_2.size = 8 /\ reg14_3.size = 4 /\ reg14_4.size = 2 := by and_intros <;> kernel_rfl
theorem code14_is : Try.f14.body = some (.seq (.region 0 reg14_0 false) (.seq (.region 1 reg14_1 false) (.seq (.region 2 reg14_2 false) (.seq (.region 3 reg14_3 false) (.seq (.region 4 reg14_4 false) (.ret)))))) := by kernel_rfl
def SPBack (T0 lb k : Nat) (fr c : Frame) (cs : List Frame) : Prop := ∀ (A na : Nat) (oo : Option Addr) (ol ok : Nat) (stuck : Bool) (s : Sq) (w : World), lb ≠ T0 -> SqI lb k s w -> w.heap[T0]? = some (.cells #[.slice none 0 0, .slice none 0 0, .slice none 0 0, .bool false] 31) ->
 Walk Try.prog true (DR (fun _ => none)) (fun g w' => ∃ B bc, g = G (c.finish (.agg #[.slice (some ⟨A, 0, none⟩) na na, .slice oo ol ok, .slice (some ⟨B, 0, none⟩) (k + 2) bc, .bool stuck])) cs /\ w'.ownsRow w.heap.size 2 1 (.slice (some ⟨B, 0, none⟩) (k + 2) bc) (k + 2) ((Pu k s).map fun z => .int .i64 z) /\ (∀ b, b < w.heap.size -> b ≠ T0 -> b ≠ lb -> w'.heap[b]? = w.heap[b]?) /\ w.heap.size <= w'.heap.size)
  (G (fr.finish (.agg #[.slice (some ⟨A, 0, none⟩) na na, .slice oo ol ok, .slice none 0 0, .bool stuck])) (c :: cs)) w
theorem splay_in (sl : Value) (xs : List Int) (hxn : xs.length <= 17592186044416) (tv sv : Value) (most : Int) (c : Frame) (cs : List Frame) (w : World) (hx : LsR sl xs w) :
  Walk Try.prog true (DR (fun _ => none)) (fun g w' => ∃ fr, g = G (Frame.enter Try.prog 33 #[tv, .func (.func 34) #[.pointer (some ⟨w.heap.size + 1, 0, none⟩)] #[], sv, .int .i64 most] .normal) (fr :: c :: cs) /\ SqI (w.heap.size + 1) (Da xs.length) (Ef xs) w' /\ (∀ b, b < w.heap.size -> w'.heap[b]? = w.heap[b]?) /\ w.heap.size + 2 <= w'.heap.size /\
    w'.heap[w.heap.size]? = some (.cells #[.slice none 0 0, .slice none 0 0, .slice none 0 0, .bool false] 31) /\ SPBack w.heap.size (w.heap.size + 1) (Da xs.length) fr c cs)
   (G (Frame.enter Try.prog 14 #[sl, tv, sv, .int .i64 most] .normal) (c :: cs)) w := by
 have hA : ∀ b, Ay (fun _ => none) b := fun b => ⟨fun _ _ _ _ h => (by cases h), fun _ _ h => (by cases h)⟩
 obtain ⟨fsT, huT⟩ := Cf 31 (by kernel_rfl)
 rw [enter_at _ Try.func14 code14_is]
 simp only [Try.ntmps14, ez, Nat.reduceAdd, Nat.reduceSub]
 refine Aa z14 ?_
 (refine Walk.oa ?_; try walk_nrm)
 have s1 : (w.alloc (.cells #[.slice none 0 0, .slice none 0 0, .slice none 0 0, .bool false] 31)).heap.size = w.heap.size + 1 := by simp
 have o1 : ∀ b, b < w.heap.size -> (w.alloc (.cells #[.slice none 0 0, .slice none 0 0, .slice none 0 0, .bool false] 31)).heap[b]? = w.heap[b]? := fun b hb => Ab _ _ hb
 have d1 := heap_alloc_new w (.cells #[.slice none 0 0, .slice none 0 0, .slice none 0 0, .bool false] 31)
 generalize hN : w.heap.size = T0 at *
 generalize w.alloc (.cells #[.slice none 0 0, .slice none 0 0, .slice none 0 0, .bool false] 31) = w1 at *
 refine Aa z14 ?_
 have hx1 : LsR sl xs w1 := hx.same (fun b hb => o1 b (by omega))
 obtain ⟨xa, xc, rfl, hxr⟩ := hx
 clear hxr
 refine Ah (Post := fun v w' => v = .pointer (some ⟨w1.heap.size, 0, none⟩) /\ SqI w1.heap.size (Da xs.length) (Ef xs) w' /\ (∀ b, b < w1.heap.size -> w'.heap[b]? = w1.heap[b]?) /\ w1.heap.size < w'.heap.size) ?_ Ao (by rfl) (by decide) rfl Try.func16 (by kernel_rfl) (by rfl) ?_
 ·walk_nrm
  exact new_w w1 _ xs hx1 hxn (fun b _ => hA b)
 rintro v w2 ⟨rfl, hI, hO, hS⟩
 rw [s1] at hI hO hS ⊢
 have hk15 := hI.pos
 generalize Ef xs = s0 at *
 generalize Da xs.length = k at *
 clear hx1
 walk_nrm
 refine Aa z14 ?_
 refine Walk.callE Ao (by rfl) (by decide) rfl Try.func33 (by kernel_rfl) (by rfl) ?_
 walk_nrm
 refine .stop fun d => ⟨_, rfl, hI.old rfl, fun b hb => (hO b (by omega)).trans (o1 b (by omega)), show T0 + 2 <= w2.heap.size by omega, (hO T0 (by omega)).trans d1, ?_⟩
 intro A na oo ol ok stuck s w4 hne I4 hT
 refine Walk.finish Ao ?_
 walk_nrm
 (refine Walk.oa ?_; try walk_nrm)
 have d5 := heap_alloc_new w4 (.cells #[.slice none 0 0, .slice none 0 0, .slice none 0 0, .bool false] 31)
 have s5 : (w4.alloc (.cells #[.slice none 0 0, .slice none 0 0, .slice none 0 0, .bool false] 31)).heap.size = w4.heap.size + 1 := by simp
 have o5 : ∀ b, b < w4.heap.size -> (w4.alloc (.cells #[.slice none 0 0, .slice none 0 0, .slice none 0 0, .bool false] 31)).heap[b]? = w4.heap[b]? := fun b hb => Ab _ _ hb
 have hT0 : T0 < w4.heap.size := (Array.getElem?_eq_some_iff.1 hT).1
 generalize hT1 : w4.heap.size = T1 at *
 generalize w4.alloc (.cells #[.slice none 0 0, .slice none 0 0, .slice none 0 0, .bool false] 31) = w5 at *
 refine Ap 31 (.tmp 10) (.tmp 18) Ao (by rfl) (by decide) rfl T1 #[.slice (some ⟨A, 0, none⟩) na na, .slice oo ol ok, .slice none 0 0, .bool stuck] _ 31 rfl rfl d5 (by kernel_rfl) (by rfl) (by simp [Value.oneCell']) (hA _) ?_
 have d6 := setRow_self (cells := #[.slice (some ⟨A, 0, none⟩) na na, .slice oo ol ok, .slice none 0 0, .bool stuck]) d5
 have o6 : ∀ b, b < T1 -> (w5.setRow T1 #[.slice (some ⟨A, 0, none⟩) na na, .slice oo ol ok, .slice none 0 0, .bool stuck]).heap[b]? = w4.heap[b]? := fun b hb => (Aq _ _ (by omega)).trans (o5 b (by omega))
 have s6 := Az w5 T1 #[.slice (some ⟨A, 0, none⟩) na na, .slice oo ol ok, .slice none 0 0, .bool stuck]
 rw [s5] at s6
 generalize w5.setRow T1 #[.slice (some ⟨A, 0, none⟩) na na, .slice oo ol ok, .slice none 0 0, .bool stuck] = w6 at *
 have hlt4 := I4.lt
 rw [hT1] at hlt4
 have I6 : SqI (T0 + 1) k s w6 := I4.old (o6 _ (by omega))
 walk_nrm
 refine Aa z14 ?_
 refine Ah (Post := StOut (T0 + 1) k s w6) ?_ Ao (by rfl) (by decide) rfl Try.func35 (by kernel_rfl) (by rfl) ?_
 ·walk_nrm
  exact state_w hA w6 I6
 rintro v w7 ⟨B, bc, rfl, hrow, I7, hold7, hs7⟩
 have hrB := hrow.lt B rfl
 have d7 := (hold7 T1 (by omega) (by omega)).trans d6
 have c7 := (Ad d7 2).trans rfl
 have z7 := An d7 2
 walk_nrm
 repeat (first | (refine Walk.oq ?_; try walk_nrm) | (refine Ax ?_; walk_nrm))
 (have hfr := (hA T1).1 ⟨T1, 2, none⟩ rfl; refine Walk.os hfr c7 ?_; clear hfr; try walk_nrm)
 have d8 : (w7.setCell ⟨T1, 2, none⟩ (.slice (some ⟨B, 0, none⟩) (k + 2) bc)).heap[T1]? = some (.cells #[.slice (some ⟨A, 0, none⟩) na na, .slice oo ol ok, .slice (some ⟨B, 0, none⟩) (k + 2) bc, .bool stuck] 31) := by
  rw [Ak _ _ d7]
  simp
 have o8 : ∀ b, b ≠ T1 -> (w7.setCell ⟨T1, 2, none⟩ (.slice (some ⟨B, 0, none⟩) (k + 2) bc)).heap[b]? = w7.heap[b]? := fun b hb => Ac _ _ _ _ hb
 have s8 := Ai w7 ⟨T1, 2, none⟩ (.slice (some ⟨B, 0, none⟩) (k + 2) bc)
 clear c7 z7
 generalize w7.setCell ⟨T1, 2, none⟩ (.slice (some ⟨B, 0, none⟩) (k + 2) bc) = w8 at *
 refine Aa z14 ?_
 refine Walk.loadS 31 (.tmp 10) Ao (by rfl) (by decide) rfl T1 0 [.slice (some ⟨A, 0, none⟩) na na, .slice oo ol ok, .slice (some ⟨B, 0, none⟩) (k + 2) bc, .bool stuck] (.struct fsT) rfl (fun j v hj => ?_) huT rfl (by kernel_rfl) ?_
 ·rw [Nat.zero_add, Ad d8]
  simpa using hj
 have dT : w8.heap[T0]? = some (.cells #[.slice none 0 0, .slice none 0 0, .slice none 0 0, .bool false] 31) := (o8 T0 (by omega)).trans ((hold7 T0 (by omega) (by omega)).trans ((o6 T0 (by omega)).trans hT))
 walk_nrm
 refine Ap 31 (.tmp 8) (.tmp 22) Ao (by rfl) (by decide) rfl T0 #[.slice (some ⟨A, 0, none⟩) na na, .slice oo ol ok, .slice (some ⟨B, 0, none⟩) (k + 2) bc, .bool stuck] _ 31 rfl rfl dT (by kernel_rfl) (by rfl) (by simp [Value.oneCell']) (hA _) ?_
 have d9 := setRow_self (cells := #[.slice (some ⟨A, 0, none⟩) na na, .slice oo ol ok, .slice (some ⟨B, 0, none⟩) (k + 2) bc, .bool stuck]) dT
 walk_nrm
 refine Aa z14 ?_
 refine Ec (T := T0) rfl rfl rfl Try.func14 rfl (by rfl) d9 (by kernel_rfl) (by kernel_rfl) (.stop fun d => ⟨B, bc, rfl, ?_, fun b hb hbT hbs => ?_, ?_⟩)
 ·refine Aw (row_raise hrow fun g hg => ?_) fun g hg => (Aq _ _ ?_).trans (o8 g ?_)
  all_goals (have hg : B = g := Option.some.inj hg; omega)
 ·exact (Aq _ _ hbT).trans ((o8 b (by omega)).trans ((hold7 b (by omega) hbs).trans (o6 b hb)))
 ·show T1 <= (w8.setRow _ _).heap.size
  rw [Az]
  omega
theorem stL_len (k : Nat) (s : Sq) : (Pu k s).length = k + 2 := by simp [Pu, Je]
structure TrO (base : Nat) (cells : Array Value) (n : Nat) (F : Nat -> List Ans) (ord : List Nat) (sts : List Int) (k : Bool) (w : World) : Prop where
 all : ∃ (A : Nat) (oo : Option Addr) (ok : Nat) (sv : Value) (hd : Nat -> Value) (own : Nat -> Nat -> Prop), cells = Mm (.slice (some ⟨A, 0, none⟩) n n) (.slice oo ord.length ok) sv k /\ base <= A /\
  w.ownsRow base 3 1 (.slice oo ord.length ok) ord.length (ord.map fun i => .int .i64 (i : Nat)) /\ w.ownsRow base 2 1 sv sts.length (sts.map fun z => .int .i64 z) /\
  (∃ arr : Array Value, w.heap[A]? = some (.cells arr 42) /\ arr.size = n /\ ∀ i, i < n -> arr[i]? = some (hd i)) /\ (∀ i, i < n -> RowA base (own i) (hd i) (F i) w) /\ (∀ i j b, own i b -> own j b -> i = j) /\
  (∀ i b, own i b -> b ≠ A /\ (Value.slice oo ord.length ok).ownBlock ≠ some b /\ sv.ownBlock ≠ some b) /\ (Value.slice oo ord.length ok).ownBlock ≠ some A /\ sv.ownBlock ≠ some A /\ ∀ b, (Value.slice oo ord.length ok).ownBlock = some b -> sv.ownBlock ≠ some b
theorem TrO.tr {base : Nat} {cells : Array Value} {n : Nat} {F : Nat -> List Ans} {ord : List Nat} {sts : List Int} {k : Bool} {w : World} (h : TrO base cells n F ord sts k w) : TrA cells n F ord sts k w := by
 obtain ⟨A, oo, ok, sv, hd, own, e, hA, hord, hst, ⟨arr, h1, h2, h3⟩, hrows, _⟩ := h.all
 obtain ⟨sa, sc, rfl⟩ : ∃ sa sc, sv = .slice sa sts.length sc := by
  rcases hst.2 with ⟨e, e0⟩ | ⟨g, cap, cur, e, _⟩
  ·exact ⟨none, 0, by rw [e, e0]⟩
  ·exact ⟨_, _, e⟩
 refine ⟨⟨some ⟨A, 0, none⟩, n, oo, ok, sa, sc, e, ?_, Iq hst, fun i hi => ?_⟩⟩
 ·refine Iq (base := base) (e := 3) (m := ord.length) (tc := ok) ?_
  have : ((ord.map fun i => ((i : Nat) : Int)).map (Value.int .i64)) = (ord.map fun i => .int .i64 (i : Nat)) := by simp
  rw [this]
  exact hord
 ·obtain ⟨ta, tc, e, hans⟩ := ansA_of (hrows i hi)
  refine ⟨A, 0, ta, tc, rfl, ?_, hans⟩
  rw [Nat.zero_add, <- e]
  exact (Ad h1 i).trans (h3 i hi)
structure SPAny (n : Nat) (L : La) (stx : L.Sg -> List Int) (F : OX L × List Nat) (w w' : World) (cells : Array Value) : Prop where
 tr : TrO w.heap.size cells n (fun i => (F.1.th i).ans) F.2 (stx F.1.s) (Dy n F.1) w'
 old : ∀ b, b < w.heap.size -> w'.heap[b]? = w.heap[b]?
 size : w.heap.size <= w'.heap.size
theorem row_low {w : World} {base base' : Nat} {e : TypeId} {size : Nat} {v : Value} {n : Nat} {xs : List Value} (h : w.ownsRow base e size v n xs) (hb : base' <= base) : w.ownsRow base' e size v n xs :=
 ⟨h.1, h.2.imp id fun ⟨g, cap, cur, h1, h2, h3⟩ => ⟨g, cap, cur, h1, Nat.le_trans hb h2, h3⟩⟩
theorem splay_any (xsl : Value) (xs : List Int) (hxn : xs.length <= 17592186044416) (tv : Value) (most : Int) (ta : Option Addr) (tb toff tc n : Nat) (hta : 0 < n -> ta = some ⟨tb, toff, none⟩) (hn : n <= 64) (oa : Nat -> Option Addr) (ln oc : Nat -> Nat) (ops : Nat -> List OpV) (sa : Option Addr) (sc : Nat) (sl : List Int) (hsl : sl.length <= 17592186044416) (c : Frame) (cs : List Frame) (w : World) (hx : LsR xsl xs w)
  (I : OpsIn tb toff n oa ln oc ops w)
  (hsc : ∀ (j : Nat) (z : Int), sl[j]? = some z -> ∃ s so, sa = some ⟨s, so, none⟩ /\ w.cell? ⟨s, so + j, none⟩ = some (.int .i64 z))
  (hp : ∀ w' : World, (∀ b, b < w.heap.size -> w'.heap[b]? = w.heap[b]?) -> Bn Try.prog true (fun _ => none) 62 #[tv] w' (.slice ta n tc) w') :
  Runs (fun g w' => ∃ cells, SPAny n (Aj (w.heap.size + 1) (Da xs.length)) (Pu (Da xs.length)) (Bt (Aj (w.heap.size + 1) (Da xs.length)) (Ef xs) ops n most sl) w w' cells /\ g = G (c.finish (.agg cells)) cs) (G (Frame.enter Try.prog 14 #[xsl, tv, .slice sa sl.length sc, .int .i64 most] .normal) (c :: cs)) w := by
 refine Runs.walk (splay_in xsl xs hxn tv (.slice sa sl.length sc) most c cs w hx) ?_
 rintro _ w1 ⟨fr, rfl, hI, hO, hS, hT, hB⟩
 have hc1 : ∀ {b j : Nat} {v : Value}, w.cell? ⟨b, j, none⟩ = some v -> w1.cell? ⟨b, j, none⟩ = some v := fun {b j v} e => (World.cell?_of_block (a := ⟨b, j, none⟩) (hO b (Al e))).trans e
 have hsh : ∀ b, b < w.heap.size -> ¬ (b = w.heap.size + 1) := fun b hb h => by omega
 have I1 : OpsIn tb toff n oa ln oc ops w1 := I.old hO
 refine Runs.then (ops_any (L := Aj (w.heap.size + 1) (Da xs.length)) qdo_ok () (Ef xs) tv most ta tb toff tc n hta hn oa ln oc ops sa sc sl hsl fr (c :: cs) w1 I1 hI (fun i hi j o ho b off e => ?_) (fun j z hz => ?_) (fun w' hw' => hp w' fun b hb => (hw' b (by omega)).trans (hO b hb))) ?_
 ·obtain ⟨b', off', e', c0, _⟩ := I.ops i hi j o ho
  rw [e] at e'
  injection e' with e'
  injection e' with e' _
  subst e'
  exact hsh b (Al c0)
 ·obtain ⟨s, so, e, hc⟩ := hsc j z hz
  exact ⟨s, so, e, hc1 hc, hsh s (Al hc)⟩
 ·rintro _ w4 ⟨cells, H, rfl⟩
  obtain ⟨y, A, oo, ok, hd, own, O⟩ := H.all
  have hold := H.old
  have hsz := H.size
  generalize Bt (Aj (w.heap.size + 1) (Da xs.length)) (Ef xs) ops n most sl = F at *
  obtain rfl := O.eq
  obtain ⟨arr, hAr, hAz, hAi⟩ := O.heads
  have hAl := O.Alo
  have hAlt : A < w4.heap.size := (Array.getElem?_eq_some_iff.1 hAr).1
  have hT4 : w4.heap[w.heap.size]? = some (.cells #[.slice none 0 0, .slice none 0 0, .slice none 0 0, .bool false] 31) := (hold _ (by omega) (show ¬ (w.heap.size = w.heap.size + 1) by omega)).trans hT
  refine Runs.walk (hB A n oo _ ok _ _ w4 (by omega) O.I hT4) ?_
  rintro _ w5 ⟨B, bc, rfl, hrow, hold5, hsz5⟩
  have hown : ∀ i b, i < n -> own i b -> (∃ b', b' = b /\ w1.heap.size <= b' /\ b' < w4.heap.size) -> w5.heap[b]? = w4.heap[b]? := fun i b _ _ ⟨b', e, h1, h2⟩ => by
   subst e
   exact hold5 b' h2 (by omega) (by omega)
  have hrowlt : ∀ (v : Value) (e : TypeId) (sz m : Nat) (ys : List Value), w4.ownsRow w1.heap.size e sz v m ys -> w5.ownsRow w.heap.size e sz v m ys := fun v e sz m ys h => row_low (Aw h fun b hb => hold5 b (h.lt b hb).2 (by have := (h.lt b hb).1; omega) (by have := (h.lt b hb).1; omega)) (by omega)
  have hBb := fun b (h : (Value.slice (some (⟨B, 0, none⟩ : Addr)) (Da xs.length + 2) bc).ownBlock = some b) => (hrow.lt b h).1
  refine .now ⟨_, ⟨⟨A, oo, ok, .slice (some ⟨B, 0, none⟩) (Da xs.length + 2) bc, hd, fun i b => own i b /\ w1.heap.size <= b /\ b < w4.heap.size, rfl, by omega, hrowlt _ _ _ _ _ O.orow, ?_, ⟨arr, (hold5 A hAlt (by omega) (by omega)).trans hAr, hAz, hAi⟩, fun i hi => ?_, fun i j b h1 h2 => O.one i j b h1.1 h2.1, fun i b h => ⟨(O.ownA i b h.1).1, O.ownO i b h.1, fun e => ?_⟩, O.Aord, fun e => ?_, fun b h e => ?_⟩, fun b hb => ?_, by omega⟩, rfl⟩
  ·rw [show (Pu (Da xs.length) F.1.s).length = Da xs.length + 2 from stL_len _ _]
   exact row_low hrow (by omega)
  ·obtain ⟨ta2, tc2, z, hz1, hz2, hz3, hz4, hz5⟩ := O.rows i hi
   refine ⟨ta2, tc2, z, hz1, hz2, hrowlt _ _ _ _ _ hz3, fun b hb => ⟨hz4 b hb, hz3.lt b hb⟩, fun p hp' => ?_⟩
   obtain ⟨la, lc, e, hlen, hl⟩ := hz5 p hp'
   exact ⟨la, lc, e, hlen, fun hne => ⟨hrowlt _ _ _ _ _ (hl hne).1, fun b hb => ⟨(hl hne).2 b hb, (hl hne).1.lt b hb⟩⟩⟩
  ·have := hBb b e; omega
  ·have := hBb A e; omega
  ·have := hBb b e; have := (O.orow.lt b h).2; omega
  ·exact (hold5 b (by omega) (by omega) (hsh b hb)).trans ((hold b (by omega) (hsh b hb)).trans (hO b hb))
section
def CallP (main : Bool) (V : Nat -> Option Wait) (f : FuncId) (args : Array Value) (w : World) (Post : Value -> World -> Prop) : Prop :=
 ∀ (c : Frame) (cs : List Frame), Bf c -> Walk Try.prog main (DR V) (fun g w' => ∃ v, Post v w' /\ g = G (c.finish v) cs) (G (Frame.enter Try.prog f args .normal) (c :: cs)) w
section
variable {main : Bool} {V : Nat -> Option Wait} {Stop : Goroutine -> World -> Prop} {w : World} {b : Frame} {a : Act} {k : List Item} {cs : List Frame} {ops : Array Oper} {i : Nat} {rest : List Nat} {o : Oper}
theorem CallP.mono {f : FuncId} {args : Array Value} {Post Post' : Value -> World -> Prop} (h : CallP main V f args w Post) (hP : ∀ v w', Post v w' -> Post' v w') : CallP main V f args w Post' :=
 fun c cs hp => (h c cs hp).mono fun g w' ⟨v, hv, e⟩ => ⟨v, hP v w' hv, e⟩
theorem Fu {f : FuncId} {fn : Func} {args : Array Operand} {ats : Array TypeId} {Post : Value -> World -> Prop} (hc : CallP main V f (args.map a.eval) w Post) (ho : ops[i]? = some o) (hw : Region.wanted o (yielded ops a.tmps) = true) (hk : b.kind ≠ .early) (hop : o.op = .call { callee := .value (.func f), args, argTypes := ats })
  (hf : Try.prog.funcs[f]? = some fn) (hname : (fn.name == "runtime.NumGoroutine") = false) (hb : fn.body.isNone = false) (hp : Bf (b.at a (.inRegion ops (i :: rest) :: k)))
  (h : ∀ v w', Post v w' -> Walk Try.prog main (DR V) Stop (G (b.at (a.put o.dst v) (.inRegion ops rest :: k)) cs) w') : Walk Try.prog main (DR V) Stop (G (b.at a (.inRegion ops (i :: rest) :: k)) cs) w := by
 refine Walk.callE ho hw hk hop hf hname hb ((hc _ cs hp).then ?_)
 rintro _ w' ⟨v, hv, rfl⟩
 rw [Frame.finish_at, ho]
 exact h v w' hv
theorem Hk {L : La} {f : FuncId} {args : Array Value} {Rel : Value -> Ans -> World -> (Nat -> Prop) -> Prop} {R : L.Sg × Ans} (N : Nat) (y0 : L.Gh) (s : L.Sg) (r0 : Ans ⊕ L.D) (hat : ∀ v x w' P d, Rel v x w' P -> Rel v x (w'.at d) P) (hA : ∀ b, Ay V b) (hI : L.I y0 s w) (hrun : runN L N (s, r0) = some R)
  (hc : ∀ (K : Lg L .nilIface) (e : K.E), K.w e = w -> K.tgt e = (K.s e, r0) -> SCall K.toLb f args e (fun v e' => ∃ x, Rel v x (K.w e') (K.mine e') /\ K.tgt e' = (K.s e', .inl x))) :
  CallP main V f args w (fun v w' => ∃ y, Rel v R.2 w' (fun b => (w.heap.size <= b /\ b < w'.heap.size) /\ ¬ L.sh y b) /\ Lone L y0 w R w' y) := by
 intro c cs hp
 have key := hc (nilL (V := V) hA main (fun g w' => ∃ v, (∃ y, Rel v R.2 w' (fun b => (w.heap.size <= b /\ b < w'.heap.size) /\ ¬ L.sh y b) /\ Lone L y0 w R w' y) /\ g = G (c.finish v) cs) cs y0 w R) { w := w, y := y0, s := s, tgt := (s, r0), fuel := N, le := L.refl _, inv := hI, size := Nat.le_refl _, old := fun _ _ _ => rfl, pub := fun _ h _ => h, run := hrun } rfl rfl c [] hp (fun _ h => by cases h) ?_
 ·exact key
 ·rintro v e' ⟨x, hr, ht⟩
  have hrn := e'.run
  have ht : e'.tgt = (e'.s, .inl x) := ht
  rw [ht, Hw] at hrn
  have hR := Option.some.inj hrn
  have r1 : R.1 = e'.s := (congrArg Prod.fst hR).symm
  have r2 : R.2 = x := (congrArg Prod.snd hR).symm
  refine .stop fun d => ⟨v, ⟨e'.y, ?_, ⟨e'.le, ?_, e'.size, fun b h1 h2 => e'.old b h1 h2, e'.pub⟩⟩, rfl⟩
  ·rw [r2]
   exact hat _ _ _ _ d hr
  ·rw [r1]; exact L.stable e'.inv fun _ _ => rfl
end
end
section
section
variable {lb k : Nat}
theorem Ip {L : La} : ∀ (n : Nat) (x : L.Sg × (Ans ⊕ L.D)) (R : L.Sg × Ans), runN L n x = some R -> ∀ m, runN L (n + m) x = some R
 | n, (s, .inl a), R, h, m => by rw [Hw] at h ⊢; exact h
 | 0, (s, .inr d), R, h, m => by cases h
 | n + 1, (s, .inr d), R, h, m => by
  rw [show n + 1 + m = (n + m) + 1 from by omega]
  exact Ip n _ R h m
def Ky (v : Int) (s : Sq) (ad : Bool) (xs : Nat -> Int) (i : Nat) : Sq := ⟨v, fun j => if j < i then layV ad (s.w j) (xs j) else s.w j⟩
theorem sqLd_zero (s : Sq) (ad : Bool) (xs : Nat -> Int) (v : Int) : Ky v s ad xs 0 = Cv s v := by
 unfold Ky Cv
 congr 1
theorem sqLd_put (v : Int) (s : Sq) (ad : Bool) (xs : Nat -> Int) (i : Nat) : Dj (Ky v s ad xs i) i (layV ad ((Ky v s ad xs i).w i) (xs i)) = Ky v s ad xs (i + 1) := by
 have h0 : (Ky v s ad xs i).w i = s.w i := if_neg (Nat.lt_irrefl i)
 rw [h0]
 unfold Ky Dj
 congr 1
 funext j
 by_cases e : j = i
 ·subst e
  rw [upd_same, if_pos (by omega)]
 ·rw [upd_ne _ _ e]
  show (if j < i then layV ad (s.w j) (xs j) else s.w j) = (if j < i + 1 then layV ad (s.w j) (xs j) else s.w j)
  by_cases h : j < i
  ·rw [if_pos h, if_pos (by omega)]
  ·rw [if_neg h, if_neg (by omega)]
def Ht (k : Nat) (s : Sq) (ad : Bool) (xs : Nat -> Int) : Sq := Ky (IntKind.i64.wrap (s.v + 2)) s ad xs (k + 1)
theorem run_lay (v u : Int) (s : Sq) (ad : Bool) (xs : Nat -> Int) : ∀ (r i : Nat), i + r = k + 1 -> runN (Aj lb k) (r + 1) (Ky u s ad xs i, .inr (Ig k ad xs v i)) = some (Ky (IntKind.i64.wrap (v + 2)) s ad xs (k + 1), ⟨true, 0, []⟩)
 | 0, i, h => by
  have h : i = k + 1 := h
  subst h
  have e : Ig k ad xs v (k + 1) = .w4 v := if_pos rfl
  rw [e]
  rfl
 | r + 1, i, h => by
  have e : Ig k ad xs v i = .w3 ad xs v i := if_neg (by omega)
  rw [e]
  have e2 : Bo k (Ky u s ad xs i) (.w3 ad xs v i) = (Ky u s ad xs (i + 1), .inr (Ig k ad xs v (i + 1))) := by
   rw [act_w3, sqLd_put]
   congr 2
   unfold Ig
   by_cases h : i = k
   ·rw [if_pos h, if_pos (by omega)]
   ·rw [if_neg h, if_neg (by omega)]
  refine (congrArg (runN (Aj lb k) (r + 1)) e2).trans ?_
  exact run_lay v u s ad xs r (i + 1) (by omega)
theorem Gy (s : Sq) (hs : ¬ Ba s.v) (ad : Bool) (xs : Nat -> Int) (t : Nat) : runN (Aj lb k) (k + 4) (s, .inr (.w1 ad t xs)) = some (Ht k s ad xs, ⟨true, 0, []⟩) := by
 have e1 : Bo k s (.w1 ad t xs) = (s, .inr (.w2 ad t xs s.v)) := by
  show (s, if Ba s.v then _ else _) = _
  rw [if_neg hs]
 have e2 : Bo k s (.w2 ad t xs s.v) = (Ky (IntKind.i64.wrap (s.v + 1)) s ad xs 0, .inr (Ig k ad xs s.v 0)) := by
  show (if s.v = s.v then _ else _) = _
  rw [if_pos rfl, sqLd_zero]
  congr 2
 refine (congrArg (runN (Aj lb k) (k + 3)) e1).trans ?_
 refine (congrArg (runN (Aj lb k) (k + 2)) e2).trans ?_
 exact run_lay s.v _ s ad xs (k + 1) 0 (by omega)
theorem run_raw (s : Sq) (t : Nat) (v : Int) : ∀ (r i : Nat) (l : List Int), i + r = k + 1 -> runN (Aj lb k) (r + 1) (s, Jn k t v i l) = runN (Aj lb k) 1 (s, .inr (.r3 t v (l ++ (List.range' i r).map s.w)))
 | 0, i, l, h => by
  have h : i = k + 1 := h
  have e : Jn k t v i l = .inr (.r3 t v l) := by unfold Jn; rw [if_pos h]
  rw [e]
  simp
  rfl
 | r + 1, i, l, h => by
  have e : Jn k t v i l = .inr (.r2 t v i l) := by unfold Jn; rw [if_neg (by omega)]
  rw [e]
  have e2 : Bo k s (.r2 t v i l) = (s, Jn k t v (i + 1) (l ++ [s.w i])) := by
   show (s, Sum.inr (if i = k then _ else _)) = _
   unfold Jn
   by_cases h : i = k
   ·rw [if_pos h, if_pos (by omega)]
   ·rw [if_neg h, if_neg (by omega)]
  refine (congrArg (runN (Aj lb k) (r + 1)) e2).trans ?_
  refine (run_raw s t v r (i + 1) (l ++ [s.w i]) (by omega)).trans ?_
  rw [List.range'_succ]
  simp
theorem run_read (s : Sq) (hs : ¬ Ba s.v) (t : Nat) : runN (Aj lb k) (k + 3) (s, .inr (.r1 t)) = some (s, ⟨true, 0, Je k s⟩) := by
 have e1 : Bo k s (.r1 t) = (s, Jn k t s.v 0 []) := by
  show (s, if Ba s.v then _ else _) = _
  rw [if_neg hs]
  unfold Jn
  rw [if_neg (by omega)]
 refine (congrArg (runN (Aj lb k) (k + 2)) e1).trans ?_
 refine (run_raw s t s.v (k + 1) 0 [] (by omega)).trans ?_
 have e3 : Bo k s (.r3 t s.v ([] ++ (List.range' 0 (k + 1)).map s.w)) = (s, .inl ⟨true, 0, Je k s⟩) := by
  show (s, if s.v = s.v then _ else _) = _
  rw [if_pos rfl, List.nil_append, <- List.range_eq_range']
  rfl
 exact congrArg (runN (Aj lb k) 0) e3
structure Solo (lb k : Nat) (s : Sq) (w w' : World) : Prop where
 I : SqI lb k s w'
 old : ∀ b, b < w.heap.size -> b ≠ lb -> w'.heap[b]? = w.heap[b]?
 size : w.heap.size <= w'.heap.size
theorem Solo.of {s : Sq} {a : Ans} {w w' : World} {y : (Aj lb k).Gh} (h : Lone (Aj lb k) () w (s, a) w' y) : Solo lb k s w w' := ⟨h.I, fun b hb hne => h.old b hb hne, h.size⟩
variable {main : Bool} {V : Nat -> Option Wait} {s : Sq} {w : World}
theorem lwrite_w (hA : ∀ b, Ay V b) (I : SqI lb k s w) (hs : ¬ Ba s.v) (a : Int) (sl : Value) (vs : List Int) (hsl : LsR sl vs w) (xs : Nat -> Int) (hxs : Fv k xs vs) :
  CallP main V 23 #[.pointer (some ⟨lb, 0, none⟩), .nilIface, .int .i64 a, sl] w (fun v w' => v = .bool true /\ Solo lb k (Ht k s false xs) w w') :=
 (Hk (L := Aj lb k) (Rel := fun v x _ _ => v = .bool x.ok) (k + 4) () s _ (fun _ _ _ _ _ h => h) hA I (Gy s hs false xs (Bv a)) (fun K e hw ht => (Oo K xs e a sl vs (hw ▸ hsl) hxs ht).mono fun v e' ⟨b, h1, h2⟩ => ⟨⟨b, 0, []⟩, h1, h2⟩)).mono fun v w' ⟨y, h1, h2⟩ => ⟨h1, Solo.of h2⟩
theorem ladd_w (hA : ∀ b, Ay V b) (I : SqI lb k s w) (hs : ¬ Ba s.v) (a : Int) (sl : Value) (vs : List Int) (hsl : LsR sl vs w) (xs : Nat -> Int) (hxs : Fv k xs vs) :
  CallP main V 24 #[.pointer (some ⟨lb, 0, none⟩), .nilIface, .int .i64 a, sl] w (fun v w' => v = .bool true /\ Solo lb k (Ht k s true xs) w w') :=
 (Hk (L := Aj lb k) (Rel := fun v x _ _ => v = .bool x.ok) (k + 4) () s _ (fun _ _ _ _ _ h => h) hA I (Gy s hs true xs (Bv a)) (fun K e hw ht => (add_s K xs e a sl vs (hw ▸ hsl) hxs ht).mono fun v e' ⟨b, h1, h2⟩ => ⟨⟨b, 0, []⟩, h1, h2⟩)).mono fun v w' ⟨y, h1, h2⟩ => ⟨h1, Solo.of h2⟩
theorem lread_w (hA : ∀ b, Ay V b) (I : SqI lb k s w) (hs : ¬ Ba s.v) (a : Int) :
  CallP main V 25 #[.pointer (some ⟨lb, 0, none⟩), .nilIface, .int .i64 a] w (fun v w' => ∃ B, v = .tuple #[.slice (some ⟨B, 0, none⟩) (k + 1) (k + 1), .bool true] /\ w.heap.size <= B /\ NumB w' B (Je k s) /\ Solo lb k s w w') := by
 have hwl : (Je k s).length = k + 1 := by simp [Je]
 refine (Hk (L := Aj lb k) (Rel := fun v x w' P => ∃ sl, v = .tuple #[sl, .bool x.ok] /\ ((sl = .slice none 0 0 /\ x.l = []) ∨ ∃ B, sl = .slice (some ⟨B, 0, none⟩) x.l.length x.l.length /\ P B /\ NumB w' B x.l)) (k + 3) () s _ (fun _ _ _ _ _ h => h) hA I (run_read s hs (Bv a)) (fun K e hw ht => (read_s K e a ht).mono fun v e' ⟨sl, b, ls, h1, h2, h3, h4⟩ => ⟨⟨b, 0, ls⟩, ⟨sl, h1, h2⟩, h4⟩)).mono ?_
 rintro v w' ⟨y, ⟨sl, rfl, h | ⟨B, rfl, hB, hN⟩⟩, h2⟩
 ·have : (Je k s) = [] := h.2
  rw [this] at hwl
  simp at hwl
 ·refine ⟨B, ?_, hB.1.1, hN, Solo.of h2⟩
  show Value.tuple #[.slice (some ⟨B, 0, none⟩) (Je k s).length (Je k s).length, .bool true] = _
  rw [hwl]
end
end
end Go.Proofs.Ytjenoiekfkhafaa
