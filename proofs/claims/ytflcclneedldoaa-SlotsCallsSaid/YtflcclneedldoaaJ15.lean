/- Part 15. -/
import Derived.Test.YtflcclneedldoaaJ3
import Derived.Test.YtflcclneedldoaaJ5
import Derived.Test.YtflcclneedldoaaJ12
import Derived.Test.YtflcclneedldoaaJ13
import Derived.Test.YtflcclneedldoaaJ14
import Derived.Laws.OwnMore
set_option linter.unusedSimpArgs false
set_option linter.unusedVariables false
set_option maxHeartbeats 8000000
set_option maxRecDepth 100000
namespace Go.Relay
section
open Go.Conc Go.RowKit
section
variable {P : Program} {main : Bool} {V : Nat -> Option Wait} {Stop : Goroutine -> World -> Prop} {w : World} {b : Frame} {a : Act} {k : List Item} {cs : List Frame} {ops : Array Oper} {i : Nat} {rest : List Nat} {o : Oper}
theorem Walk.appendAny (s x : Operand) (t : TypeId) (ho : ops[i]? = some o) (hw : Region.wanted o (yielded ops a.tmps) = true) (hk : b.kind ≠ .early) (hop : o.op = .call { callee := .builtin .append, args := #[s, x], argTypes := #[t, t] })
  (base : Nat) (e : TypeId) (ti : TypeInfo) (z : Value) (size bytes : Nat) (ht : P.underlying t = some (.slice e)) (hi : P.info? e = some ti) (hz : ti.zero = some z) (hsize : ti.size = size) (hby : ti.bytes = bytes) (hzs : z.cells.size = size) (hsz : 0 < size)
  (v : Value) (n : Nat) (xs : List Value) (hs : a.eval s = v) (hown : w.ownsRow base e size v n xs)
  (ad : Addr) (m c : Nat) (news : List Value) (hx : a.eval x = .slice (some ad) m c) (hl : news.length = m * size) (hnews : ∀ j u, news[j]? = some u -> w.cell? (ad.add j) = some u) (h1 : ∀ u ∈ news, u.oneCell' = true)
  (h63 : n + m <= maxLen) (hbytes : (n + m) * bytes <= 140737488355328) (hbase : base <= w.heap.size) (hap : ∀ g, v.ownBlock = some g -> Az V g)
  (h : ∀ v' w', w'.ownsRow base e size v' (n + m) (xs ++ news) -> w.grownBy w' v.ownBlock -> (v'.ownBlock = v.ownBlock ∨ v'.ownBlock = some w.heap.size) -> Walk P main (DR V) Stop (G (b.at (a.put o.dst v') (.inRegion ops rest :: k)) cs) w') :
  Walk P main (DR V) Stop (G (b.at a (.inRegion ops (i :: rest) :: k)) cs) w := by
 refine Walk.go rfl fun d => goes_oper_k ho hw hk fun K hK => ?_
 obtain ⟨v', w', hr, hown', hg, _, hat⟩ := run_append_own_at (P := P) (w.at d) base t o.type e ti z size bytes ht hi hz hsize hby hzs hsz v n xs hown ad m c news hl hnews h1 h63 hbytes hbase
 refine uponK_append s x t hop hs hx hr (hK _ _ ⟨DR.grown hg hap fun ev hev => ?_, h v' w' hown' ⟨hg.os, hg.tape, hg.output, hg.size, hg.block⟩ hat⟩)
 have hm' := mem_listed hev
 rw [events_append_op s x t hop hs hx] at hm'
 rcases events_append_own (w.at d) base t o.type e ti z size bytes ht hi hz hsize hby v n xs hown ad m c news hl hnews h1 h63 hbytes ev hm' with h' | ⟨ad', h', hb⟩ | ⟨mk, h', hn⟩
 ·exact Fr h'
 ·exact On h' ((hap _ hb.symm).1 ad' rfl)
 ·rw [h', show mk = .noRoom from hn]; exact Om
theorem Gf (w : World) (base : Nat) (t ty e : TypeId) (ti : TypeInfo) (size : Nat) (ht : P.underlying t = some (.slice e)) (hi : P.info? e = some ti) (v : Value) (n : Nat) (xs : List Value) (hown : w.ownsRow base e size v n xs) (es : Array Event) :
  (Builtin.append_ #[t, t] ty #[v, .slice none 0 0]).events P w es = es := by
 rcases hown.2 with ⟨rfl, rfl⟩ | ⟨g, cap, cur, rfl, _, _, hnc, _⟩
 ·simp [Builtin.append_, run_underlying ht, sizeOf, typeInfo, hi, Builtin.lenOf, Builtin.firstCells]
 ·simp [Builtin.append_, run_underlying ht, sizeOf, typeInfo, hi, Builtin.lenOf, Builtin.firstCells, hnc, storeCells]
theorem Walk.appendNone (s x : Operand) (t : TypeId) (ho : ops[i]? = some o) (hw : Region.wanted o (yielded ops a.tmps) = true) (hk : b.kind ≠ .early) (hop : o.op = .call { callee := .builtin .append, args := #[s, x], argTypes := #[t, t] })
  (base : Nat) (e : TypeId) (ti : TypeInfo) (size : Nat) (ht : P.underlying t = some (.slice e)) (hi : P.info? e = some ti)
  (v : Value) (n : Nat) (xs : List Value) (hs : a.eval s = v) (hown : w.ownsRow base e size v n xs) (hx : a.eval x = .slice none 0 0)
  (h : Walk P main (DR V) Stop (G (b.at (a.put o.dst v) (.inRegion ops rest :: k)) cs) w) :
  Walk P main (DR V) Stop (G (b.at a (.inRegion ops (i :: rest) :: k)) cs) w := by
 refine Walk.go rfl fun d => goes_oper_k ho hw hk fun K hK => ?_
 have hr := run_append_owned_none (P := P) (w := w.at d) base t o.type e ti size ht hi v n xs hown
 refine uponK_append s x t hop hs hx hr (hK _ _ ⟨⟨fun i v e hK => hK, fun i v o e ho _ => ho, fun ev hev => ?_, OsSame.refl _⟩, h.back d⟩)
 have hm' := mem_listed hev
 rw [events_append_op s x t hop hs hx, Gf (w.at d) base t o.type e ti size ht hi v n xs hown] at hm'
 simp at hm'
theorem Jh (s x : Operand) (t : TypeId) (ho : ops[i]? = some o) (hw : Region.wanted o (yielded ops a.tmps) = true) (hk : b.kind ≠ .early) (hop : o.op = .call { callee := .builtin .append, args := #[s, x], argTypes := #[t, t] })
  (base : Nat) (e : TypeId) (ti : TypeInfo) (z : Value) (size bytes : Nat) (ht : P.underlying t = some (.slice e)) (hi : P.info? e = some ti) (hz : ti.zero = some z) (hsize : ti.size = size) (hby : ti.bytes = bytes) (hzs : z.cells.size = size) (hsz : 0 < size)
  (v : Value) (n : Nat) (xs : List Value) (hs : a.eval s = v) (hown : w.ownsRow base e size v n xs)
  (xa : Option Addr) (m c : Nat) (news : List Value) (hx : a.eval x = .slice xa m c) (hnil : xa = none -> m = 0 /\ c = 0) (hl : news.length = m * size) (hnews : ∀ ad, xa = some ad -> ∀ j u, news[j]? = some u -> w.cell? (ad.add j) = some u) (h1 : ∀ u ∈ news, u.oneCell' = true)
  (h63 : n + m <= maxLen) (hbytes : (n + m) * bytes <= 140737488355328) (hbase : base <= w.heap.size) (hap : ∀ g, v.ownBlock = some g -> Az V g)
  (h : ∀ v' w', w'.ownsRow base e size v' (n + m) (xs ++ news) -> w.grownBy w' v.ownBlock -> (v'.ownBlock = v.ownBlock ∨ v'.ownBlock = some w.heap.size) -> Walk P main (DR V) Stop (G (b.at (a.put o.dst v') (.inRegion ops rest :: k)) cs) w') :
  Walk P main (DR V) Stop (G (b.at a (.inRegion ops (i :: rest) :: k)) cs) w := by
 cases xa with
 | none =>
  obtain ⟨rfl, rfl⟩ := hnil rfl
  have hn : news = [] := List.eq_nil_of_length_eq_zero (by simpa using hl)
  subst hn
  refine Walk.appendNone s x t ho hw hk hop base e ti size ht hi v n xs hs hown hx (h v w ?_ ⟨rfl, rfl, rfl, Nat.le_refl _, fun _ _ _ => rfl⟩ (.inl rfl))
  rw [Nat.add_zero, List.append_nil]; exact hown
 | some ad => exact Walk.appendAny s x t ho hw hk hop base e ti z size bytes ht hi hz hsize hby hzs hsz v n xs hs hown ad m c news hx hl (hnews ad rfl) h1 h63 hbytes hbase hap h
theorem Iv {w : World} {base : Nat} {e : TypeId} {size : Nat} {v : Value} {n : Nat} {xs : List Value} (h : w.ownsRow base e size v n xs) : ∃ a cap, v = .slice a n cap := by
 rcases h.2 with ⟨rfl, rfl⟩ | ⟨g, cap, cur, rfl, _⟩
 ·exact ⟨none, 0, rfl⟩
 ·exact ⟨_, _, rfl⟩
end
end
end Go.Relay
namespace Go.Proofs.Ytflcclneedldoaa
open Go.Conc Go.RowKit Go.Relay Try
open Go.ConcN (upd upd_ne upd_same)
theorem Ov (b : Nat) : Az (fun _ => none) b := ⟨fun _ _ _ _ h => (by cases h), fun _ _ h => (by cases h)⟩
theorem Ju (b i : Nat) : Dm (fun _ => none) ⟨b, i, none⟩ := (Ov b).1 _ rfl
structure Chg (S : Nat -> Prop) (w w' : World) : Prop where
 size : w.heap.size <= w'.heap.size
 same : ∀ b, b < w.heap.size -> ¬ S b -> w'.heap[b]? = w.heap[b]?
section
variable {S S' : Nat -> Prop} {w w' w1 w2 : World}
theorem Chg.refl : Chg S w w := ⟨Nat.le_refl _, fun _ _ _ => rfl⟩
theorem Chg.at (h : Chg S w w') (d : Nat) : Chg S w (w'.at d) := ⟨h.size, h.same⟩
theorem Chg.mono (h : Chg S w w') (hS : ∀ b, b < w.heap.size -> S b -> S' b) : Chg S' w w' := ⟨h.size, fun b hb hn => h.same b hb fun e => hn (hS b hb e)⟩
theorem Chg.trans (h1 : Chg S w w1) (h2 : Chg S' w1 w2) (hS : ∀ b, b < w.heap.size -> S' b -> S b) : Chg S w w2 :=
 ⟨Nat.le_trans h1.size h2.size, fun b hb hn => (h2.same b (Nat.lt_of_lt_of_le hb h1.size) fun e => hn (hS b hb e)).trans (h1.same b hb hn)⟩
theorem Chg.set {b i : Nat} {v : Value} (hb : S b) : Chg S w (w.setCell ⟨b, i, none⟩ v) := ⟨Nat.le_of_eq (Ai ..).symm, fun c _ hn => Ac _ _ _ _ (fun e => hn (by rw [e]; exact hb))⟩
theorem Chg.alloc {o : Obj} : Chg S w (w.alloc o) := ⟨by simp, fun b hb _ => Ad _ _ hb⟩
theorem Chg.grown {row : Option Nat} (h : w.grownBy w' row) (hr : ∀ g, row = some g -> S g) : Chg S w w' := ⟨h.size, fun b hb hn => h.block b hb fun e => hn (hr b e.symm)⟩
end
theorem Ld {w : World} {base : Nat} {e : TypeId} {size m tc n : Nat} {ta : Option Addr} {xs : List Value} (h : w.ownsRow base e size (.slice ta m tc) n xs) {j : Nat} {x : Value} (hx : xs[j]? = some x) : ∃ g, ta = some ⟨g, 0, none⟩ /\ base <= g /\ g < w.heap.size /\ w.cell? ⟨g, j, none⟩ = some x := by
 obtain ⟨hl, h⟩ := h
 have hj := (lEs hx).1
 rcases h with ⟨_, rfl⟩ | ⟨g, cap, cur, e, h1, h2, h3, _, h5, h6⟩
 ·omega
 ·injection e with e1 e2 e3
  refine ⟨g, e1, h1, (aEs h2).1, (Ab h2 j).trans ?_⟩
  rw [<- h6, List.getElem?_take, if_pos (by omega)] at hx
  simpa using hx
def Pc (a b c : Value) (k : Bool) : Array Value := #[a, b, c, .bool k]
def NumA (a : Option Addr) (l : List Int) (w : World) : Prop := ∀ (i : Nat) (x : Int), l[i]? = some x -> ∃ b o, a = some ⟨b, o, none⟩ /\ w.cell? ⟨b, o + i, none⟩ = some (.int .i64 x)
def AnsA (a : Option Addr) (l : List Ans) (w : World) : Prop := ∀ (i : Nat) (x : Ans), l[i]? = some x -> ∃ b o la lc, a = some ⟨b, o, none⟩ /\ w.cell? ⟨b, o + i * 3, none⟩ = some (.bool x.ok) /\ w.cell? ⟨b, o + i * 3 + 1, none⟩ = some (.int .i64 x.n) /\ w.cell? ⟨b, o + i * 3 + 2, none⟩ = some (.slice la x.l.length lc) /\ NumA la x.l w /\ x.l.length <= 1048576
theorem NumA.chg {a : Option Addr} {l : List Int} {w w' : World} (h : NumA a l w) (hC : Chg (fun _ => False) w w') : NumA a l w' := fun i x hx => by
 obtain ⟨b, o, e, hc⟩ := h i x hx
 exact ⟨b, o, e, (cBk (a := ⟨b, o + i, none⟩) (hC.same b (Al hc) id)).trans hc⟩
theorem AnsA.chg {a : Option Addr} {l : List Ans} {w w' : World} (h : AnsA a l w) (hC : Chg (fun _ => False) w w') : AnsA a l w' := fun i x hx => by
 obtain ⟨b, o, la, lc, e, h1, h2, h3, h4, h5⟩ := h i x hx
 exact ⟨b, o, la, lc, e, (cBk (a := ⟨b, _, none⟩) (hC.same b (Al h1) id)).trans h1, (cBk (a := ⟨b, _, none⟩) (hC.same b (Al h1) id)).trans h2, (cBk (a := ⟨b, _, none⟩) (hC.same b (Al h1) id)).trans h3, h4.chg hC, h5⟩
structure TrA (cells : Array Value) (n : Nat) (F : Nat -> List Ans) (ord : List Nat) (sts : List Int) (k : Bool) (w : World) : Prop where
 all : ∃ aa ac oa oc sa sc, cells = Pc (.slice aa n ac) (.slice oa ord.length oc) (.slice sa sts.length sc) k /\ NumA oa (ord.map fun i => ((i : Nat) : Int)) w /\ NumA sa sts w /\ ∀ i, i < n -> ∃ b o ta tc, aa = some ⟨b, o, none⟩ /\ w.cell? ⟨b, o + i, none⟩ = some (.slice ta (F i).length tc) /\ AnsA ta (F i) w
theorem TrA.chg {cells : Array Value} {n : Nat} {F : Nat -> List Ans} {ord : List Nat} {sts : List Int} {k : Bool} {w w' : World} (h : TrA cells n F ord sts k w) (hC : Chg (fun _ => False) w w') : TrA cells n F ord sts k w' := by
 obtain ⟨aa, ac, oa, oc, sa, sc, e, h1, h2, h3⟩ := h.all
 refine ⟨aa, ac, oa, oc, sa, sc, e, h1.chg hC, h2.chg hC, fun i hi => ?_⟩
 obtain ⟨b, o, ta, tc, e, k1, k2⟩ := h3 i hi
 exact ⟨b, o, ta, tc, e, (cBk (a := ⟨b, o + i, none⟩) (hC.same b (Al k1) id)).trans k1, k2.chg hC⟩
theorem Hh : ∀ (l : List (Ans × Value)) (k j : Nat) (o : Ans × Value) (v : Value), l[k]? = some o -> ([.bool o.1.ok, .int .i64 o.1.n, o.2] : List Value)[j]? = some v -> (Dc l)[k * 3 + j]? = some v
 | o' :: l, 0, j, o, v, hk, hv => by
  simp only [List.getElem?_cons_zero, Option.some.injEq] at hk
  subst hk
  have hj := (lEs hv).1
  have : Dc (o' :: l) = [.bool o'.1.ok, .int .i64 o'.1.n, o'.2] ++ Dc l := by simp [Dc]
  rw [this, Nat.zero_mul, Nat.zero_add, List.getElem?_append_left hj]
  exact hv
 | o' :: l, k + 1, j, o, v, hk, hv => by
  have : Dc (o' :: l) = [.bool o'.1.ok, .int .i64 o'.1.n, o'.2] ++ Dc l := by simp [Dc]
  rw [this, List.getElem?_append_right (by simp; omega)]
  have h := Hh l k j o v (by simpa using hk) hv
  rw [<- h]
  congr 1
  simp
  omega
theorem Ix {w : World} {base : Nat} {e : TypeId} {ta : Option Addr} {m tc : Nat} {l : List Int} (h : w.ownsRow base e 1 (.slice ta m tc) m (l.map (.int .i64))) : NumA ta l w := fun i x hx => by
 obtain ⟨g, e, _, _, h0⟩ := Ld h (j := i) (x := .int .i64 x) (by simp [hx])
 exact ⟨g, 0, e, by rw [Nat.zero_add]; exact h0⟩
theorem numA_nil (a : Option Addr) (w : World) : NumA a [] w := fun i x hx => (by simp at hx)
theorem LsAt.num {base : Nat} {P : Nat -> Prop} {sl : Value} {l : List Int} {w : World} (h : LsAt base P sl l w) : ∃ la lc, sl = .slice la l.length lc /\ NumA la l w /\ l.length <= 1048576 := by
 obtain ⟨a, c, e, hn, hr⟩ := h
 refine ⟨a, c, e, ?_, hn⟩
 by_cases hl : l = []
 ·subst hl; exact numA_nil _ _
 ·have h1 := (hr hl).1
  rw [e] at h1
  exact Ix h1
theorem ansA_of {base : Nat} {P : Nat -> Prop} {hd : Value} {l : List Ans} {w : World} (h : RowA base P hd l w) : ∃ ta tc, hd = .slice ta l.length tc /\ AnsA ta l w := by
 obtain ⟨ta, tc, z, hz, e, hr, _, hls⟩ := h
 refine ⟨ta, tc, e, fun i x hx => ?_⟩
 rw [e] at hr
 obtain ⟨p, hp, hpx⟩ : ∃ p, z[i]? = some p /\ p.1 = x := by
  rw [<- hz, List.getElem?_map, Option.map_eq_some_iff] at hx
  exact hx
 subst hpx
 obtain ⟨g, e, _, _, h0⟩ := Ld hr (Hh z i 0 p _ hp rfl)
 obtain ⟨g1, e1, _, _, h1⟩ := Ld hr (Hh z i 1 p _ hp rfl)
 obtain ⟨g2, e2, _, _, h2⟩ := Ld hr (Hh z i 2 p _ hp rfl)
 rw [e] at e1 e2
 cases e1
 cases e2
 obtain ⟨la, lc, hsl, hn, hlen⟩ := (hls p (List.mem_of_getElem? hp)).num
 refine ⟨g, 0, la, lc, e, ?_, ?_, ?_, hn, hlen⟩
 ·rw [Nat.zero_add]; exact h0
 ·rw [Nat.zero_add]; exact h1
 ·rw [Nat.zero_add, <- hsl]; exact h2
theorem OpsIn.old {tb toff n : Nat} {oa : Nat -> Option Addr} {ln oc : Nat -> Nat} {ops : Nat -> List OpV} {w w' : World} (I : OpsIn tb toff n oa ln oc ops w) (h : ∀ b, b < w.heap.size -> w'.heap[b]? = w.heap[b]?) : OpsIn tb toff n oa ln oc ops w' := by
 have hc : ∀ {b j : Nat} {v : Value}, w.cell? ⟨b, j, none⟩ = some v -> w'.cell? ⟨b, j, none⟩ = some v := fun {b j v} e => (cBk (a := ⟨b, j, none⟩) (h b (Al e))).trans e
 exact ⟨fun i hi => hc (I.hd i hi), I.cap, I.ad, I.len, fun i hi j o ho => by
  obtain ⟨b, off, e, c0, c1, c2, c3⟩ := I.ops i hi j o ho
  exact ⟨b, off, e, hc c0, hc c1, hc c2, hc c3⟩⟩
noncomputable def reg155_0 := rk f155.body 0
noncomputable def reg155_1 := rk f155.body 1
noncomputable def reg155_2 := rk f155.body 2
noncomputable def reg155_3 := rk f155.body 3
theorem z155 : reg155_0.size = 1 /\ reg155_1.size = 2 /\ reg155_2.size = 2 /\ reg155_3.size = 5 := by and_intros <;> kernel_rfl
theorem code155_is : f155.body = some (.seq (.region 0 reg155_0 false) (.seq (.seq (.region 1 reg155_1 false) (.cond (.tmp 6 ) (.region 2 reg155_2 false) (.skip))) (.seq (.region 3 reg155_3 false) (.ret)))) := by kernel_rfl
section
variable {main : Bool} {V : Nat -> Option Wait}
theorem put_no (r sv : Value) (q v : Int) (hq : ¬ good q) (w : World) : Aw prog main V 53 #[r, sv, .int .i64 q, .int .i64 v] w (.int .i64 1) w := by
 have hno := Fq (main := main) (V := V) r w q hq
 refine Aq func53 code53_is fun fr cs => ?_
 simp only [ntmps53, ez, Nat.reduceAdd, Nat.reduceSub]
 refine Aa z53 ?_
 refine qV (x := .bool false) (W := w) func62 ?_ ?_
 ·walk_nrm
  exact hno
 walk_nrm
 refine Aa z53 ?_
 exact Ar rfl rfl func53 rfl fun d => ⟨rfl, d, rfl⟩
theorem there_no (r sv : Value) (q : Int) (hq : ¬ good q) (w : World) : Aw prog main V 56 #[r, sv, .int .i64 q] w (.bool false) w := by
 have hno := Fq (main := main) (V := V) r w q hq
 refine Aq func56 code56_is fun fr cs => ?_
 simp only [ntmps56, ez, Nat.reduceAdd, Nat.reduceSub]
 refine Aa z56 ?_
 refine qV (x := .bool false) (W := w) func62 ?_ ?_
 ·walk_nrm
  exact hno
 walk_nrm
 refine Aa z56 ?_
 exact Ar rfl rfl func56 rfl fun d => ⟨rfl, d, rfl⟩
def Gu (x er : Int) (w : World) (v : Value) (w' : World) : Prop := v = .agg #[.bool (er == 0), .int .i64 (if er = 0 then x else er), .slice none 0 0] /\ (∀ b, b < w.heap.size -> w'.heap[b]? = w.heap[b]?) /\ w.heap.size <= w'.heap.size
theorem answer_yes (x : Int) (w : World) (hA : ∀ b, w.heap.size <= b -> Az V b) : CallW prog main V 155 #[.int .i64 x, .int .i64 0] w (Gu x 0 w) := by
 have hap := hA w.heap.size (Nat.le_refl _)
 refine Aq func155 code155_is fun fr cs => ?_
 simp only [ntmps155, ez, Nat.reduceAdd, Nat.reduceSub]
 refine Aa z155 ?_
 (refine Wa ?_; try walk_nrm)
 have s1 : (w.alloc (.cells #[.bool false, .int .i64 0, .slice none 0 0] 42)).heap.size = w.heap.size + 1 := by simp
 have o1 : ∀ b, b < w.heap.size -> (w.alloc (.cells #[.bool false, .int .i64 0, .slice none 0 0] 42)).heap[b]? = w.heap[b]? := fun b hb => Ad _ _ hb
 have d1 := hAw w (.cells #[.bool false, .int .i64 0, .slice none 0 0] 42)
 generalize hN : w.heap.size = N at *
 generalize hw1 : w.alloc (.cells #[.bool false, .int .i64 0, .slice none 0 0] 42) = w1 at *
 refine Aa z155 ?_
 refine Am 42 (.tmp 4) (.tmp 11) Ah (by rfl) (by decide) rfl N #[.bool true, .int .i64 x, .slice none 0 0] _ 42 rfl rfl d1 (by kernel_rfl) (by rfl) (by simp [Value.oneCell']) hap ?_
 have d2 := Ba (cells := #[.bool true, .int .i64 x, .slice none 0 0]) d1
 have o2 : ∀ b, b < N -> (w1.setRow N #[.bool true, .int .i64 x, .slice none 0 0]).heap[b]? = w.heap[b]? := fun b hb => (Ap _ _ (by omega)).trans (o1 b hb)
 have s2 := Ay w1 N #[.bool true, .int .i64 x, .slice none 0 0]
 generalize w1.setRow N #[.bool true, .int .i64 x, .slice none 0 0] = w2 at *
 walk_nrm
 refine Aa z155 ?_
 refine Bv (T := N) rfl rfl rfl func155 rfl (by rfl) d2 (by kernel_rfl) (by kernel_rfl) (.stop fun d => ⟨_, ⟨rfl, ?_, ?_⟩, rfl⟩)
 ·rw [hN]
  exact o2
 ·show w.heap.size <= w2.heap.size
  omega
theorem answer_no (x er : Int) (her : er ≠ 0) (w : World) (hA : ∀ b, w.heap.size <= b -> Az V b) : CallW prog main V 155 #[.int .i64 x, .int .i64 er] w (Gu x er w) := by
 have hap := hA w.heap.size (Nat.le_refl _)
 have hb1 : (er == 0) = false := by simp [her]
 have hb2 : (er != 0) = true := by simp [her]
 have hif : (if er = 0 then x else er) = er := if_neg her
 unfold Gu
 rw [hif]
 refine Aq func155 code155_is fun fr cs => ?_
 simp only [ntmps155, ez, Nat.reduceAdd, Nat.reduceSub]
 refine Aa z155 ?_
 (refine Wa ?_; try walk_nrm)
 have s1 : (w.alloc (.cells #[.bool false, .int .i64 0, .slice none 0 0] 42)).heap.size = w.heap.size + 1 := by simp
 have o1 : ∀ b, b < w.heap.size -> (w.alloc (.cells #[.bool false, .int .i64 0, .slice none 0 0] 42)).heap[b]? = w.heap[b]? := fun b hb => Ad _ _ hb
 have d1 := hAw w (.cells #[.bool false, .int .i64 0, .slice none 0 0] 42)
 generalize hN : w.heap.size = N at *
 generalize hw1 : w.alloc (.cells #[.bool false, .int .i64 0, .slice none 0 0] 42) = w1 at *
 refine Aa z155 ?_
 refine Am 42 (.tmp 4) (.tmp 11) Ah (by rfl) (by decide) rfl N #[.bool false, .int .i64 er, .slice none 0 0] _ 42 rfl rfl d1 (by kernel_rfl) (by rfl) (by simp [Value.oneCell']) hap ?_
 have d2 := Ba (cells := #[.bool false, .int .i64 er, .slice none 0 0]) d1
 have o2 : ∀ b, b < N -> (w1.setRow N #[.bool false, .int .i64 er, .slice none 0 0]).heap[b]? = w.heap[b]? := fun b hb => (Ap _ _ (by omega)).trans (o1 b hb)
 have s2 := Ay w1 N #[.bool false, .int .i64 er, .slice none 0 0]
 generalize w1.setRow N #[.bool false, .int .i64 er, .slice none 0 0] = w2 at *
 walk_nrm
 refine Aa z155 ?_
 refine Bv (T := N) rfl rfl rfl func155 rfl (by rfl) d2 (by kernel_rfl) (by kernel_rfl) (.stop fun d => ⟨_, ⟨by rw [hb1], ?_, ?_⟩, rfl⟩)
 ·exact o2
 ·show N <= w2.heap.size
  omega
theorem answer_w (x er : Int) (w : World) (hA : ∀ b, w.heap.size <= b -> Az V b) : CallW prog main V 155 #[.int .i64 x, .int .i64 er] w (Gu x er w) := by
 by_cases h : er = 0
 ·subst h
  exact answer_yes x w hA
 ·exact answer_no x er h w hA
end
section
variable {rb sb n : Nat} {sv : Value}
theorem Lu {L : La} {sv : Value} (K : Lg L sv) (e : K.E) {f : FuncId} {args : Array Value} {x : Value} {Q : Value -> K.E -> Prop} (h : Aw prog K.main (K.V e) f args (K.w e) x (K.w e)) (hq : Q x e) : SCall K.toLb f args e Q := fun fr l hp hl hk => by
 unfold LW
 refine (h fr (l ++ K.bot e)).then ?_
 rintro g w' ⟨v, ⟨rfl, d, rfl⟩, rfl⟩
 refine Walk.back ?_ d
 exact hk _ e hq
theorem put_all (K : Lg (Br rb sb n) sv) (e : K.E) (q v : Int) (ht : K.tgt e = (K.s e, if good q then .inr (.p1 q v) else .inl ⟨false, 1, []⟩)) : SCall K.toLb 53 #[.pointer (some ⟨rb, 0, none⟩), sv, .int .i64 q, .int .i64 v] e (fun x e' => ∃ er, x = .int .i64 er /\ K.tgt e' = (K.s e', .inl ⟨er == 0, if er = 0 then 0 else er, []⟩)) := by
 by_cases h : good q
 ·rw [if_pos h] at ht
  exact (put_s K e q v h ht).mono fun x e' ⟨h1, h2⟩ => ⟨0, h1, h2⟩
 ·rw [if_neg h] at ht
  exact Lu K e (put_no _ sv q v h (K.w e)) ⟨1, rfl, ht⟩
theorem Qe (K : Lg (Br rb sb n) sv) (e : K.E) (q : Int) (ht : K.tgt e = (K.s e, if good q then .inr (.g1 q) else .inl ⟨false, 1, []⟩)) : SCall K.toLb 54 #[.pointer (some ⟨rb, 0, none⟩), sv, .int .i64 q] e (fun x e' => ∃ a er, x = .tuple #[.int .i64 a, .int .i64 er] /\ K.tgt e' = (K.s e', .inl ⟨er == 0, if er = 0 then a else er, []⟩)) := by
 by_cases h : good q
 ·rw [if_pos h] at ht
  refine (get_s K e q h (.g1 q) (.g2 q) (.g3 q) (.inl ⟨false, 6, []⟩) (.inl ⟨false, 10, []⟩) (fun v => .inl ⟨true, v, []⟩) (fun _ => rfl) (fun _ => rfl) (fun _ _ => rfl) ht).mono ?_
  rintro x e' ⟨a, er, rfl, ⟨rfl, h⟩ | ⟨rfl, h⟩ | ⟨rfl, h⟩⟩
  ·exact ⟨a, 6, rfl, h⟩
  ·exact ⟨a, 10, rfl, h⟩
  ·exact ⟨a, 0, rfl, h⟩
 ·rw [if_neg h] at ht
  exact Lu K e (get_no _ sv q h (K.w e)) ⟨0, 1, rfl, ht⟩
theorem Kx (K : Lg (Br rb sb n) sv) (e : K.E) (q : Int) (ht : K.tgt e = (K.s e, if good q then .inr (.t q) else .inl ⟨false, 0, []⟩)) : SCall K.toLb 56 #[.pointer (some ⟨rb, 0, none⟩), sv, .int .i64 q] e (fun x e' => ∃ b, x = .bool b /\ K.tgt e' = (K.s e', .inl ⟨b, 0, []⟩)) := by
 by_cases h : good q
 ·rw [if_pos h] at ht
  exact (there_s K e q h (.t q) ht).mono fun x e' ⟨h1, h2⟩ => ⟨_, h2, h1.tgt⟩
 ·rw [if_neg h] at ht
  exact Lu K e (there_no _ sv q h (K.w e)) ⟨false, rfl, ht⟩
theorem GatL.ne {L : La} {sv : Value} {K : Lg L sv} {e : K.E} {sl : Value} {ls : List Int} (h : GatL K e sl ls) {R : Nat} {arr : Array Value} (hR : (K.w e).heap[R]? = some (.cells arr 42)) : ∀ b, sl.ownBlock = some b -> b ≠ R := fun b hb e' => by
 subst e'
 rcases h.2.1.2 with ⟨e1, _⟩ | ⟨g, cap, cur, e1, _, h2, _⟩
 ·rw [e1] at hb; cases hb
 ·rw [e1] at hb
  cases hb
  rw [hR] at h2
  cases h2
theorem GatL.keep {L : La} {sv : Value} {K : Lg L sv} {e e' : K.E} {sl : Value} {ls : List Int} (h : GatL K e sl ls) (hm : ∀ b, K.mine e b -> K.mine e' b) (hb : ∀ b, K.mine e b -> sl.ownBlock = some b -> (K.w e').heap[b]? = (K.w e).heap[b]?) : GatL K e' sl ls :=
 ⟨h.1, As h.2.1 fun b hb' => hb b (h.2.2 b hb') hb', fun b hb' => hm b (h.2.2 b hb')⟩
theorem GatL.lsR {L : La} {sv : Value} {K : Lg L sv} {e : K.E} {sl : Value} {ls : List Int} (h : GatL K e sl ls) : LsR sl ls (K.w e) := by
 obtain ⟨⟨a, c, rfl⟩, hr, _⟩ := h
 have hx : ls.length <= c /\ (a = none -> c = 0) := by
  rcases hr.2 with ⟨e1, _⟩ | ⟨g, cap, cur, e1, _, _, hle, _⟩
  ·injection e1 with _ en ec
   exact ⟨by omega, fun _ => ec⟩
  ·injection e1 with e1 _ e3
   subst e1 e3
   exact ⟨hle, fun h => by cases h⟩
 refine ⟨a, c, rfl, hx.1, hx.2, fun j z hz => ?_⟩
 obtain ⟨g, e1, _, _, hc⟩ := Ld hr (j := j) (x := .int .i64 z) (by rw [List.getElem?_map, hz]; rfl)
 exact ⟨g, 0, e1, by rw [Nat.zero_add]; exact hc⟩
theorem GatL.nil {L : La} {sv : Value} (K : Lg L sv) (e : K.E) : GatL K e (.slice none 0 0) [] := ⟨⟨_, _, rfl⟩, ⟨rfl, .inl ⟨rfl, rfl⟩⟩, fun b h => by simp [Value.ownBlock] at h⟩
theorem En {L : La} {sv : Value} (K : Lg L sv) {F : FuncId} {fn : Func} {e2 : K.E} {fr c : Frame} {l : List Frame} {R : Nat} {a : Ans} {sl : Value} (hm : K.mine e2 R) (hR : (K.w e2).heap[R]? = some (.cells #[.bool false, .int .i64 0, .slice none 0 0] 42))
  (ht : K.tgt e2 = (K.s e2, .inl a)) (hsl : GatL K e2 sl a.l) (hk : ∀ e', K.tgt e' = (K.s e', .inl a) -> GatL K e' sl a.l -> LW K.toLb e' (G (c.finish (Bo a sl)) (l ++ K.bot e')))
  (hF : prog.funcs[F]? = some fn) (hres : fn.results = #[.cell 8 42]) (hfr : fr.mode = .returning /\ fr.kind = .normal /\ fr.defers = [] /\ fr.fn = F /\ fr.tmps.getD 8 undef = .pointer (some ⟨R, 0, none⟩)) :
  Walk prog K.main (DR (K.V e2)) (K.Stop e2) (G fr (c :: (l ++ K.bot e2))) ((K.w e2).setRow R #[.bool a.ok, .int .i64 a.n, sl]) := by
 obtain ⟨h1, h2, h3, h4, h5⟩ := hfr
 obtain ⟨e3, m⟩ := K.own e2 (w' := (K.w e2).setRow R #[.bool a.ok, .int .i64 a.n, sl]) (by rw [Ay]; exact Nat.le_refl _) (fun b _ hbm => Ap _ _ (fun he : b = R => hbm (by rw [he]; exact hm)))
 have c9 := Ba (cells := #[.bool a.ok, .int .i64 a.n, sl]) hR
 refine Bv (T := R) h1 h2 h3 (by rw [h4]; exact hF) hres h5 c9 (by kernel_rfl) (by kernel_rfl) ?_
 refine Gb m (hk e3 ?_ ?_)
 ·rw [m.tgt, m.s]
  exact ht
 ·refine hsl.keep (fun b h => (m.mine b).2 (.inl h)) fun b _ hb => ?_
  rw [m.w]
  exact Ap _ _ (hsl.ne hR b hb)
end
noncomputable def reg109_0 := rk f109.body 0
noncomputable def reg109_1 := rk f109.body 1
noncomputable def reg109_2 := rk f109.body 2
noncomputable def reg109_3 := rk f109.body 3
noncomputable def reg109_4 := rk f109.body 4
noncomputable def reg109_5 := rk f109.body 5
noncomputable def reg109_6 := rk f109.body 6
noncomputable def reg109_7 := rk f109.body 7
noncomputable def reg109_8 := rk f109.body 8
noncomputable def reg109_9 := rk f109.body 9
noncomputable def reg109_10 := rk f109.body 10
noncomputable def reg109_11 := rk f109.body 11
noncomputable def reg109_12 := rk f109.body 12
noncomputable def reg109_13 := rk f109.body 13
noncomputable def reg109_14 := rk f109.body 14
noncomputable def reg109_15 := rk f109.body 15
theorem z109 : reg109_0.size = 2 /\ reg109_1.size = 2 /\ reg109_2.size = 2 /\ reg109_3.size = 2 /\ reg109_4.size = 2 /\ reg109_5.size = 9 /\ reg109_6.size = 2 /\ reg109_7.size = 9 /\ reg109_8.size = 2 /\ reg109_9.size = 7 /\ reg109_10.size = 2 /\ reg109_11.size = 9 /\ reg109_12.size = 2 /\ reg109_13.size = 12 /\ reg109_14.size = 6 /\ reg109_15.size = 2 := by and_intros <;> kernel_rfl
theorem code109_is : f109.body = some (.seq (.region 0 reg109_0 false) (.seq (.seq (.region 1 reg109_1 false) (.cond (.tmp 12 ) (.seq (.region 2 reg109_2 false) (.ret)) (.skip))) (.seq (.seq (.region 3 reg109_3 false) (.block 0 (.seq (.region 4 reg109_4 false) (.cond (.tmp 16 ) (.seq (.region 5 reg109_5 false) (.ret)) (.seq (.region 6 reg109_6 false) (.cond (.tmp 26 ) (.seq (.region 7 reg109_7 false) (.ret)) (.seq (.region 8 reg109_8 false) (.cond (.tmp 36 ) (.seq (.region 9 reg109_9 false) (.ret)) (.seq (.region 10 reg109_10 false) (.cond (.tmp 44 ) (.seq (.region 11 reg109_11 false) (.ret)) (.seq (.region 12 reg109_12 false) (.cond (.tmp 54 ) (.seq (.region 13 reg109_13 false) (.seq (.region 14 reg109_14 false) (.ret))) (.skip))))))))))))) (.seq (.region 15 reg109_15 false) (.ret))))) := by kernel_rfl
section
variable {rb sb n : Nat} {sv : Value}
def Qs : Ans := ⟨false, 0, []⟩
theorem No (s : Rg) (th : Int) (o : OpV) (h1 : o.k ≠ 1) (h2 : o.k ≠ 2) (h3 : o.k ≠ 3) (h4 : o.k ≠ 4) (h5 : o.k ≠ 5) : Bt n s th o = (s, .inl Qs) := by
 unfold Bt
 rw [if_neg h1, if_neg h2, if_neg h3, if_neg h4, if_neg h5]
 rfl
def DoOutG {L : La} {sv : Value} (K : Lg L sv) (v : Value) (e' : K.E) : Prop := ∃ a sl, K.tgt e' = (K.s e', .inl a) /\ v = Bo a sl /\ GatL K e' sl a.l /\ a.l.length <= 65536
theorem rdo_s (K : Lg (Br rb sb n) sv) (e : K.E) (th ok oa ob oc : Int) (ht : K.tgt e = Bt n (K.s e) th ⟨ok, oa, ob, oc⟩) :
  SCall K.toLb 109 #[.pointer (some ⟨rb, 0, none⟩), sv, .int .i64 th, .agg #[.int .i64 ok, .int .i64 oa, .int .i64 ob, .int .i64 oc]] e (DoOutG K) := by
 intro fr l hp hl hk
 have hp1 := fun w => Ce (P := prog) 24 Dr (some ⟨rb, 0, none⟩) w
 have hp2 := fun w es => Cp (P := prog) 24 Dr (some ⟨rb, 0, none⟩) w es
 simp only [Option.isNone_some] at hp1
 unfold LW
 rw [enter_at _ func109 code109_is]
 simp only [ntmps109, ez, Nat.reduceAdd, Nat.reduceSub]
 refine Aa z109 ?_
 (refine Wa ?_; try walk_nrm)
 (refine Wa ?_; try walk_nrm)
 have hA1 : ((K.w e).alloc (.cells #[.int .i64 ok, .int .i64 oa, .int .i64 ob, .int .i64 oc] 45)).heap.size = (K.w e).heap.size + 1 := by simp
 have c1 : (((K.w e).alloc (.cells #[.int .i64 ok, .int .i64 oa, .int .i64 ob, .int .i64 oc] 45)).alloc (.cells #[.bool false, .int .i64 0, .slice none 0 0] 42)).heap[(K.w e).heap.size]? = some (.cells #[.int .i64 ok, .int .i64 oa, .int .i64 ob, .int .i64 oc] 45) := by
  rw [Ad _ _ (by omega)]
  exact hAw _ _
 have c2 : (((K.w e).alloc (.cells #[.int .i64 ok, .int .i64 oa, .int .i64 ob, .int .i64 oc] 45)).alloc (.cells #[.bool false, .int .i64 0, .slice none 0 0] 42)).heap[(K.w e).heap.size + 1]? = some (.cells #[.bool false, .int .i64 0, .slice none 0 0] 42) := by
  have := hAw ((K.w e).alloc (.cells #[.int .i64 ok, .int .i64 oa, .int .i64 ob, .int .i64 oc] 45)) (.cells #[.bool false, .int .i64 0, .slice none 0 0] 42)
  rwa [hA1] at this
 have hs2 : (((K.w e).alloc (.cells #[.int .i64 ok, .int .i64 oa, .int .i64 ob, .int .i64 oc] 45)).alloc (.cells #[.bool false, .int .i64 0, .slice none 0 0] 42)).heap.size = (K.w e).heap.size + 2 := by simp
 obtain ⟨e1, m1⟩ := K.grow e (w' := ((K.w e).alloc (.cells #[.int .i64 ok, .int .i64 oa, .int .i64 ob, .int .i64 oc] 45)).alloc (.cells #[.bool false, .int .i64 0, .slice none 0 0] 42)) (by omega) (fun b hb' => by
  rw [Ad _ _ (by omega)]
  exact Ad _ _ hb')
 try simp only [hA1]
 generalize hw2 : ((K.w e).alloc (.cells #[.int .i64 ok, .int .i64 oa, .int .i64 ob, .int .i64 oc] 45)).alloc (.cells #[.bool false, .int .i64 0, .slice none 0 0] 42) = w2 at *
 generalize hN : (K.w e).heap.size = N at *
 have hmn : K.mine e1 (N + 1) := m1.new (by omega) (by omega)
 have ht1 : K.tgt e1 = Bt n (K.s e1) th ⟨ok, oa, ob, oc⟩ := by rw [m1.tgt, m1.s]; exact ht
 have d0 := (Ab c1 0).trans rfl
 have d1 := (Ab c1 1).trans rfl
 have d2 := (Ab c1 2).trans rfl
 have hw1 := m1.w
 refine Gb (l := fr :: l) m1 ?_
 unfold LW
 clear hw2 m1 ht
 subst hw1
 have hapN := (K.mineA e1 _ hmn).1
 refine Aa z109 ?_
 by_cases h1 : ok = 1
 ·subst h1
  have ht3 : K.tgt e1 = (K.s e1, if good oa then .inr (.p1 oa ob) else .inl ⟨false, 1, []⟩) := ht1
  refine Aa z109 ?_
  have hg := Db K (put_all (Fz K e1) (fz0 K e1) oa ob ht3)
  refine Bi (K := K.toLb) (e := e1) (l := fr :: l) (f := 53) (Q := fun x e' => ∃ h : Ml K e1 e', ∃ er, x = .int .i64 er /\ (Fz K e1).tgt ⟨e', h⟩ = ((Fz K e1).s ⟨e', h⟩, .inl ⟨er == 0, if er = 0 then 0 else er, []⟩)) ?_ Ah (by rfl) (by decide) rfl func53 (by kernel_rfl) (by rfl) ⟨rfl, rfl, _, func109⟩ (Bc hp hl) ?_
  ·walk_nrm
   exact hg
  rintro x e2 ⟨hkept, er, rfl, ht4⟩
  obtain ⟨hm2, hb2⟩ := hkept (N + 1) hmn
  rw [c2] at hb2
  clear hg
  replace ht4 : K.tgt e2 = (K.s e2, .inl ⟨er == 0, if er = 0 then 0 else er, []⟩) := ht4
  have hans := answer_w (main := K.main) (V := K.V e2) 0 er (K.w e2) (K.newA e2)
  unfold LW
  walk_nrm
  refine Aa z109 ?_
  refine qW (Post := Gu 0 er (K.w e2)) func155 ?_ ?_
  ·walk_nrm
   exact hans
  rintro v w3 ⟨rfl, o3, z3⟩
  clear hans
  have lN : N + 1 < (K.w e2).heap.size := (aEs hb2).1
  obtain ⟨e3, m3⟩ := K.grow e2 (w' := w3) z3 o3
  have hm3 : K.mine e3 (N + 1) := (m3.mine _).2 (.inl hm2)
  have hb3 : (K.w e3).heap[N + 1]? = some (.cells #[.bool false, .int .i64 0, .slice none 0 0] 42) := by rw [m3.w]; exact (o3 _ lN).trans hb2
  have ht5 : K.tgt e3 = (K.s e3, .inl ⟨er == 0, if er = 0 then 0 else er, []⟩) := by rw [m3.tgt, m3.s]; exact ht4
  have hap3 := (K.mineA e3 _ hm3).1
  refine Gb (l := fr :: l) m3 ?_
  unfold LW
  clear hb2 o3 m3 ht4
  generalize (if er = 0 then 0 else er) = y at *
  generalize (er == 0) = bb at *
  walk_nrm
  refine Aa z109 ?_
  refine Am 42 (.tmp 8) (.tmp 25) Ah (by rfl) (by decide) rfl (N + 1) #[.bool bb, .int .i64 y, .slice none 0 0] _ 42 rfl rfl hb3 (by kernel_rfl) (by rfl) (by simp [Value.oneCell']) hap3 ?_
  walk_nrm
  refine Aa z109 ?_
  exact En K (a := ⟨bb, y, []⟩) (sl := .slice none 0 0) hm3 hb3 ht5 (GatL.nil K e3) (fun e' h h' => hk _ e' ⟨_, _, h, rfl, h', by simp⟩) func109 rfl ⟨rfl, rfl, rfl, rfl, rfl⟩
 have hbk1 : (ok == 1) = false := by simp [h1]
 simp only [hbk1]
 refine Aa z109 ?_
 by_cases h2 : ok = 2
 ·subst h2
  have ht3 : K.tgt e1 = (K.s e1, if good oa then .inr (.g1 oa) else .inl ⟨false, 1, []⟩) := ht1
  refine Aa z109 ?_
  have hg := Db K (Qe (Fz K e1) (fz0 K e1) oa ht3)
  refine Bi (K := K.toLb) (e := e1) (l := fr :: l) (f := 54) (Q := fun x e' => ∃ h : Ml K e1 e', ∃ a er, x = .tuple #[.int .i64 a, .int .i64 er] /\ (Fz K e1).tgt ⟨e', h⟩ = ((Fz K e1).s ⟨e', h⟩, .inl ⟨er == 0, if er = 0 then a else er, []⟩)) ?_ Ah (by rfl) (by decide) rfl func54 (by kernel_rfl) (by rfl) ⟨rfl, rfl, _, func109⟩ (Bc hp hl) ?_
  ·walk_nrm
   exact hg
  rintro x e2 ⟨hkept, xv, er, rfl, ht4⟩
  obtain ⟨hm2, hb2⟩ := hkept (N + 1) hmn
  rw [c2] at hb2
  clear hg
  replace ht4 : K.tgt e2 = (K.s e2, .inl ⟨er == 0, if er = 0 then xv else er, []⟩) := ht4
  have hans := answer_w (main := K.main) (V := K.V e2) xv er (K.w e2) (K.newA e2)
  unfold LW
  walk_nrm
  refine Aa z109 ?_
  refine qW (Post := Gu xv er (K.w e2)) func155 ?_ ?_
  ·walk_nrm
   exact hans
  rintro v w3 ⟨rfl, o3, z3⟩
  clear hans
  have lN : N + 1 < (K.w e2).heap.size := (aEs hb2).1
  obtain ⟨e3, m3⟩ := K.grow e2 (w' := w3) z3 o3
  have hm3 : K.mine e3 (N + 1) := (m3.mine _).2 (.inl hm2)
  have hb3 : (K.w e3).heap[N + 1]? = some (.cells #[.bool false, .int .i64 0, .slice none 0 0] 42) := by rw [m3.w]; exact (o3 _ lN).trans hb2
  have ht5 : K.tgt e3 = (K.s e3, .inl ⟨er == 0, if er = 0 then xv else er, []⟩) := by rw [m3.tgt, m3.s]; exact ht4
  have hap3 := (K.mineA e3 _ hm3).1
  refine Gb (l := fr :: l) m3 ?_
  unfold LW
  clear hb2 o3 m3 ht4
  generalize (if er = 0 then xv else er) = y at *
  generalize (er == 0) = bb at *
  walk_nrm
  refine Aa z109 ?_
  refine Am 42 (.tmp 8) (.tmp 35) Ah (by rfl) (by decide) rfl (N + 1) #[.bool bb, .int .i64 y, .slice none 0 0] _ 42 rfl rfl hb3 (by kernel_rfl) (by rfl) (by simp [Value.oneCell']) hap3 ?_
  walk_nrm
  refine Aa z109 ?_
  exact En K (a := ⟨bb, y, []⟩) (sl := .slice none 0 0) hm3 hb3 ht5 (GatL.nil K e3) (fun e' h h' => hk _ e' ⟨_, _, h, rfl, h', by simp⟩) func109 rfl ⟨rfl, rfl, rfl, rfl, rfl⟩
 have hbk2 : (ok == 2) = false := by simp [h2]
 simp only [hbk2]
 refine Aa z109 ?_
 by_cases h3 : ok = 3
 ·subst h3
  have ht3 : K.tgt e1 = (K.s e1, if good oa then .inr (.t oa) else .inl ⟨false, 0, []⟩) := ht1
  refine Aa z109 ?_
  have hg := Db K (Kx (Fz K e1) (fz0 K e1) oa ht3)
  refine Bi (K := K.toLb) (e := e1) (l := fr :: l) (f := 56) (Q := fun x e' => ∃ h : Ml K e1 e', ∃ b, x = .bool b /\ (Fz K e1).tgt ⟨e', h⟩ = ((Fz K e1).s ⟨e', h⟩, .inl ⟨b, 0, []⟩)) ?_ Ah (by rfl) (by decide) rfl func56 (by kernel_rfl) (by rfl) ⟨rfl, rfl, _, func109⟩ (Bc hp hl) ?_
  ·walk_nrm
   exact hg
  rintro x e2 ⟨hkept, b, rfl, ht4⟩
  obtain ⟨hm2, hb2⟩ := hkept (N + 1) hmn
  rw [c2] at hb2
  clear hg
  replace ht4 : K.tgt e2 = (K.s e2, .inl ⟨b, 0, []⟩) := ht4
  have hap2 := (K.mineA e2 _ hm2).1
  unfold LW
  walk_nrm
  refine Aa z109 ?_
  refine Am 42 (.tmp 8) (.tmp 43) Ah (by rfl) (by decide) rfl (N + 1) #[.bool b, .int .i64 0, .slice none 0 0] _ 42 rfl rfl hb2 (by kernel_rfl) (by rfl) (by simp [Value.oneCell']) hap2 ?_
  walk_nrm
  refine Aa z109 ?_
  exact En K (a := ⟨b, 0, []⟩) (sl := .slice none 0 0) hm2 hb2 ht4 (GatL.nil K e2) (fun e' h h' => hk _ e' ⟨_, _, h, rfl, h', by simp⟩) func109 rfl ⟨rfl, rfl, rfl, rfl, rfl⟩
 have hbk3 : (ok == 3) = false := by simp [h3]
 simp only [hbk3]
 refine Aa z109 ?_
 by_cases h4 : ok = 4
 ·subst h4
  have ht3 : K.tgt e1 = (K.s e1, hiD n oa ob) := ht1
  refine Aa z109 ?_
  have hg := Db K (Lm (Fz K e1) (fz0 K e1) oa ob ht3)
  refine Bi (K := K.toLb) (e := e1) (l := fr :: l) (f := 55) (Q := fun x e' => ∃ h : Ml K e1 e', Pk (Fz K e1) x ⟨e', h⟩) ?_ Ah (by rfl) (by decide) rfl func55 (by kernel_rfl) (by rfl) ⟨rfl, rfl, _, func109⟩ (Bc hp hl) ?_
  ·walk_nrm
   exact hg
  rintro x e2 ⟨hkept, y, rfl, ht4⟩
  obtain ⟨hm2, hb2⟩ := hkept (N + 1) hmn
  rw [c2] at hb2
  clear hg
  replace ht4 : K.tgt e2 = (K.s e2, .inl ⟨true, y, []⟩) := ht4
  have hap2 := (K.mineA e2 _ hm2).1
  unfold LW
  walk_nrm
  refine Aa z109 ?_
  refine Am 42 (.tmp 8) (.tmp 53) Ah (by rfl) (by decide) rfl (N + 1) #[.bool true, .int .i64 y, .slice none 0 0] _ 42 rfl rfl hb2 (by kernel_rfl) (by rfl) (by simp [Value.oneCell']) hap2 ?_
  walk_nrm
  refine Aa z109 ?_
  exact En K (a := ⟨true, y, []⟩) (sl := .slice none 0 0) hm2 hb2 ht4 (GatL.nil K e2) (fun e' h h' => hk _ e' ⟨_, _, h, rfl, h', by simp⟩) func109 rfl ⟨rfl, rfl, rfl, rfl, rfl⟩
 have hbk4 : (ok == 4) = false := by simp [h4]
 simp only [hbk4]
 refine Aa z109 ?_
 by_cases h5 : ok = 5
 ·subst h5
  have ht3 : K.tgt e1 = (K.s e1, gbD n oa ob) := ht1
  refine Aa z109 ?_
  have hg := Db K (gather_s (Fz K e1) (fz0 K e1) oa ob ht3)
  refine Bi (K := K.toLb) (e := e1) (l := fr :: l) (f := 61) (Q := fun x e' => ∃ h : Ml K e1 e', Oy (Fz K e1) x ⟨e', h⟩) ?_ Ah (by rfl) (by decide) rfl func61 (by kernel_rfl) (by rfl) ⟨rfl, rfl, _, func109⟩ (Bc hp hl) ?_
  ·walk_nrm
   exact hg
  rintro x e2 ⟨hkept, sl, er, ls, rfl, hls, hln, ht4⟩
  obtain ⟨hm2, hb2⟩ := hkept (N + 1) hmn
  rw [c2] at hb2
  clear hg
  replace ht4 : K.tgt e2 = (K.s e2, .inl ⟨er == 0, er, ls⟩) := ht4
  have hls2 : GatL K e2 sl ls := ⟨hls.1, hls.2.1, fun b hb => (hls.2.2 b hb).1⟩
  have hap2 := (K.mineA e2 _ hm2).1
  have hcb := fun fr' hfr => En K (F := 109) (fr := fr') (c := fr) (l := l) (a := ⟨er == 0, er, ls⟩) (sl := sl) hm2 hb2 ht4 hls2 (fun e' h h' => hk _ e' ⟨_, _, h, rfl, h', hln⟩) func109 rfl hfr
  obtain ⟨sa, sc, rfl⟩ := hls.1
  clear hls hls2 ht4
  generalize ls.length = ln at *
  unfold LW
  walk_nrm
  refine Aa z109 ?_
  refine Am 42 (.tmp 8) (.tmp 70) Ah (by rfl) (by decide) rfl (N + 1) #[.bool (er == 0), .int .i64 er, .slice sa ln sc] _ 42 rfl rfl hb2 (by kernel_rfl) (by rfl) (by simp [Value.oneCell']) hap2 ?_
  walk_nrm
  refine Aa z109 ?_
  exact hcb _ ⟨rfl, rfl, rfl, rfl, rfl⟩
 have hbk5 : (ok == 5) = false := by simp [h5]
 simp only [hbk5]
 refine Aa z109 ?_
 have ht3 : K.tgt e1 = (K.s e1, .inl Qs) := ht1.trans (No _ _ _ h1 h2 h3 h4 h5)
 refine Aa z109 ?_
 refine Am 42 (.tmp 8) (.tmp 71) Ah (by rfl) (by decide) rfl (N + 1) #[.bool false, .int .i64 0, .slice none 0 0] _ 42 rfl rfl c2 (by kernel_rfl) (by rfl) (by simp [Value.oneCell']) hapN ?_
 walk_nrm
 refine Aa z109 ?_
 exact En K (a := Qs) (sl := .slice none 0 0) hmn c2 ht3 (GatL.nil K e1) (fun e' h h' => hk _ e' ⟨_, _, h, rfl, h', by simp [Qs]⟩) func109 rfl ⟨rfl, rfl, rfl, rfl, rfl⟩
theorem rdo_ok : DoFn (Br rb sb n) 109 #[.pointer (some ⟨rb, 0, none⟩)] #[] :=
 ⟨⟨_, func109, by kernel_rfl, by rfl⟩, fun sv K e th op ht => (rdo_s K e th op.k op.a op.b op.c ht).mono fun v e' ⟨a, sl, h1, h2, h3, h4⟩ => ⟨a, sl, h1, h2, h3.lsR, by omega⟩⟩
end
end Go.Proofs.Ytflcclneedldoaa
