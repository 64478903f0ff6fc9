/- Part 13. -/
import Derived.Test.YtcdcnmphjhfbpaaJ3
import Derived.Test.YtcdcnmphjhfbpaaJ4
import Derived.Test.YtcdcnmphjhfbpaaJ10
import Derived.Test.YtcdcnmphjhfbpaaJ12
import Derived.Laws.OwnMore
import Derived.Conc.AtomicLaws2
set_option linter.unusedSimpArgs false
set_option linter.unusedVariables false
set_option linter.unusedVariables false
set_option maxHeartbeats 8000000
set_option maxRecDepth 100000
namespace Go.Relay
section
open Go.Conc Go.RowKit
section
variable {P : Program} {main : Bool} {V : Nat -> Option Wait} {Stop : Goroutine -> World -> Prop} {w : World} {b : Frame} {a : Act} {k : List Item} {cs : List Frame} {ops : Array Oper} {i : Nat} {rest : List Nat} {o : Oper}
theorem Walk.appendAny (s x : Operand) (t : TypeId) (ho : ops[i]? = some o) (hw : Region.wanted o (yielded ops a.tmps) = true) (hk : b.kind ≠ .early) (hop : o.op = .call { callee := .builtin .append, args := #[s, x], argTypes := #[t, t] })
  (base : Nat) (e : TypeId) (ti : TypeInfo) (z : Value) (size bytes : Nat) (ht : P.underlying t = some (.slice e)) (hi : P.info? e = some ti) (hz : ti.zero = some z) (hsize : ti.size = size) (hby : ti.bytes = bytes) (hzs : z.cells.size = size) (hsz : 0 < size)
  (v : Value) (n : Nat) (xs : List Value) (hs : a.eval s = v) (hown : w.ownsRow base e size v n xs)
  (ad : Addr) (m c : Nat) (news : List Value) (hx : a.eval x = .slice (some ad) m c) (hl : news.length = m * size) (hnews : ∀ j u, news[j]? = some u -> w.cell? (ad.add j) = some u) (h1 : ∀ u ∈ news, u.oneCell' = true)
  (h63 : n + m <= maxLen) (hbytes : (n + m) * bytes <= 140737488355328) (hbase : base <= w.heap.size) (hap : ∀ g, v.ownBlock = some g -> Bd V g)
  (h : ∀ v' w', w'.ownsRow base e size v' (n + m) (xs ++ news) -> w.grownBy w' v.ownBlock -> (v'.ownBlock = v.ownBlock ∨ v'.ownBlock = some w.heap.size) -> Walk P main (DR V) Stop (G (b.at (a.put o.dst v') (.inRegion ops rest :: k)) cs) w') :
  Walk P main (DR V) Stop (G (b.at a (.inRegion ops (i :: rest) :: k)) cs) w := by
 refine Walk.go rfl fun d => goes_oper_k ho hw hk fun K hK => ?_
 obtain ⟨v', w', hr, hown', hg, _, hat⟩ := run_append_own_at (P := P) (w.at d) base t o.type e ti z size bytes ht hi hz hsize hby hzs hsz v n xs hown ad m c news hl hnews h1 h63 hbytes hbase
 refine uponK_append s x t hop hs hx hr (hK _ _ ⟨DR.grown hg hap fun ev hev => ?_, h v' w' hown' ⟨hg.os, hg.tape, hg.output, hg.size, hg.block⟩ hat⟩)
 have hm' := mem_listed hev
 rw [events_append_op s x t hop hs hx] at hm'
 rcases events_append_own (w.at d) base t o.type e ti z size bytes ht hi hz hsize hby v n xs hown ad m c news hl hnews h1 h63 hbytes ev hm' with h' | ⟨ad', h', hb⟩ | ⟨mk, h', hn⟩
 ·exact Fg h'
 ·exact Mq h' ((hap _ hb.symm).1 ad' rfl)
 ·rw [h', show mk = .noRoom from hn]; exact Mp
theorem Fx (w : World) (base : Nat) (t ty e : TypeId) (ti : TypeInfo) (size : Nat) (ht : P.underlying t = some (.slice e)) (hi : P.info? e = some ti) (v : Value) (n : Nat) (xs : List Value) (hown : w.ownsRow base e size v n xs) (es : Array Event) :
  (Builtin.append_ #[t, t] ty #[v, .slice none 0 0]).events P w es = es := by
 rcases hown.2 with ⟨rfl, rfl⟩ | ⟨g, cap, cur, rfl, _, _, hnc, _⟩
 ·simp [Builtin.append_, run_underlying ht, sizeOf, typeInfo, hi, Builtin.lenOf, Builtin.firstCells]
 ·simp [Builtin.append_, run_underlying ht, sizeOf, typeInfo, hi, Builtin.lenOf, Builtin.firstCells, hnc, storeCells]
theorem Walk.appendNone (s x : Operand) (t : TypeId) (ho : ops[i]? = some o) (hw : Region.wanted o (yielded ops a.tmps) = true) (hk : b.kind ≠ .early) (hop : o.op = .call { callee := .builtin .append, args := #[s, x], argTypes := #[t, t] })
  (base : Nat) (e : TypeId) (ti : TypeInfo) (size : Nat) (ht : P.underlying t = some (.slice e)) (hi : P.info? e = some ti)
  (v : Value) (n : Nat) (xs : List Value) (hs : a.eval s = v) (hown : w.ownsRow base e size v n xs) (hx : a.eval x = .slice none 0 0)
  (h : Walk P main (DR V) Stop (G (b.at (a.put o.dst v) (.inRegion ops rest :: k)) cs) w) :
  Walk P main (DR V) Stop (G (b.at a (.inRegion ops (i :: rest) :: k)) cs) w := by
 refine Walk.go rfl fun d => goes_oper_k ho hw hk fun K hK => ?_
 have hr := run_append_owned_none (P := P) (w := w.at d) base t o.type e ti size ht hi v n xs hown
 refine uponK_append s x t hop hs hx hr (hK _ _ ⟨⟨fun i v e hK => hK, fun i v o e ho _ => ho, fun ev hev => ?_, OsSame.refl _⟩, h.back d⟩)
 have hm' := mem_listed hev
 rw [events_append_op s x t hop hs hx, Fx (w.at d) base t o.type e ti size ht hi v n xs hown] at hm'
 simp at hm'
theorem Ik (s x : Operand) (t : TypeId) (ho : ops[i]? = some o) (hw : Region.wanted o (yielded ops a.tmps) = true) (hk : b.kind ≠ .early) (hop : o.op = .call { callee := .builtin .append, args := #[s, x], argTypes := #[t, t] })
  (base : Nat) (e : TypeId) (ti : TypeInfo) (z : Value) (size bytes : Nat) (ht : P.underlying t = some (.slice e)) (hi : P.info? e = some ti) (hz : ti.zero = some z) (hsize : ti.size = size) (hby : ti.bytes = bytes) (hzs : z.cells.size = size) (hsz : 0 < size)
  (v : Value) (n : Nat) (xs : List Value) (hs : a.eval s = v) (hown : w.ownsRow base e size v n xs)
  (xa : Option Addr) (m c : Nat) (news : List Value) (hx : a.eval x = .slice xa m c) (hnil : xa = none -> m = 0 /\ c = 0) (hl : news.length = m * size) (hnews : ∀ ad, xa = some ad -> ∀ j u, news[j]? = some u -> w.cell? (ad.add j) = some u) (h1 : ∀ u ∈ news, u.oneCell' = true)
  (h63 : n + m <= maxLen) (hbytes : (n + m) * bytes <= 140737488355328) (hbase : base <= w.heap.size) (hap : ∀ g, v.ownBlock = some g -> Bd V g)
  (h : ∀ v' w', w'.ownsRow base e size v' (n + m) (xs ++ news) -> w.grownBy w' v.ownBlock -> (v'.ownBlock = v.ownBlock ∨ v'.ownBlock = some w.heap.size) -> Walk P main (DR V) Stop (G (b.at (a.put o.dst v') (.inRegion ops rest :: k)) cs) w') :
  Walk P main (DR V) Stop (G (b.at a (.inRegion ops (i :: rest) :: k)) cs) w := by
 cases xa with
 | none =>
  obtain ⟨rfl, rfl⟩ := hnil rfl
  have hn : news = [] := List.eq_nil_of_length_eq_zero (by simpa using hl)
  subst hn
  refine Walk.appendNone s x t ho hw hk hop base e ti size ht hi v n xs hs hown hx (h v w ?_ ⟨rfl, rfl, rfl, Nat.le_refl _, fun _ _ _ => rfl⟩ (.inl rfl))
  rw [Nat.add_zero, List.append_nil]; exact hown
 | some ad => exact Walk.appendAny s x t ho hw hk hop base e ti z size bytes ht hi hz hsize hby hzs hsz v n xs hs hown ad m c news hx hl (hnews ad rfl) h1 h63 hbytes hbase hap h
theorem Hz {w : World} {base : Nat} {e : TypeId} {size : Nat} {v : Value} {n : Nat} {xs : List Value} (h : w.ownsRow base e size v n xs) : ∃ a cap, v = .slice a n cap := by
 rcases h.2 with ⟨rfl, rfl⟩ | ⟨g, cap, cur, rfl, _⟩
 ·exact ⟨none, 0, rfl⟩
 ·exact ⟨_, _, rfl⟩
end
end
end Go.Relay
namespace Go.Proofs.Ytcdcnmphjhfbpaa
open Go.Conc Go.RowKit Go.Relay
open Go.ConcN (upd upd_ne upd_same)
section
theorem Nx (b : Nat) : Bd (fun _ => none) b := ⟨fun _ _ _ _ h => (by cases h), fun _ _ h => (by cases h)⟩
theorem Dq (b i : Nat) : Di (fun _ => none) ⟨b, i, none⟩ := (Nx b).1 _ rfl
structure Chg (S : Nat -> Prop) (w w' : World) : Prop where
 size : w.heap.size <= w'.heap.size
 same : ∀ b, b < w.heap.size -> ¬ S b -> w'.heap[b]? = w.heap[b]?
section
variable {S S' : Nat -> Prop} {w w' w1 w2 : World}
theorem Chg.refl : Chg S w w := ⟨Nat.le_refl _, fun _ _ _ => rfl⟩
theorem Chg.at (h : Chg S w w') (d : Nat) : Chg S w (w'.at d) := ⟨h.size, h.same⟩
theorem Chg.trans (h1 : Chg S w w1) (h2 : Chg S' w1 w2) (hS : ∀ b, b < w.heap.size -> S' b -> S b) : Chg S w w2 :=
 ⟨Nat.le_trans h1.size h2.size, fun b hb hn => (h2.same b (Nat.lt_of_lt_of_le hb h1.size) fun e => hn (hS b hb e)).trans (h1.same b hb hn)⟩
theorem Chg.alloc {o : Obj} : Chg S w (w.alloc o) := ⟨by simp, fun b hb _ => Ad _ _ hb⟩
end
theorem Jt {w : World} {base : Nat} {e : TypeId} {size m tc n : Nat} {ta : Option Addr} {xs : List Value} (h : w.ownsRow base e size (.slice ta m tc) n xs) {j : Nat} {x : Value} (hx : xs[j]? = some x) : ∃ g, ta = some ⟨g, 0, none⟩ /\ base <= g /\ g < w.heap.size /\ w.cell? ⟨g, j, none⟩ = some x := by
 obtain ⟨hl, h⟩ := h
 have hj := (List.getElem?_eq_some_iff.1 hx).1
 rcases h with ⟨_, rfl⟩ | ⟨g, cap, cur, e, h1, h2, h3, _, h5, h6⟩
 ·omega
 ·injection e with e1 e2 e3
  refine ⟨g, e1, h1, (Array.getElem?_eq_some_iff.1 h2).1, (Ac h2 j).trans ?_⟩
  rw [<- h6, List.getElem?_take, if_pos (by omega)] at hx
  simpa using hx
def Ih (a b c : Value) (k : Bool) : Array Value := #[a, b, c, .bool k]
def NumA (a : Option Addr) (l : List Int) (w : World) : Prop := ∀ (i : Nat) (x : Int), l[i]? = some x -> ∃ b o, a = some ⟨b, o, none⟩ /\ w.cell? ⟨b, o + i, none⟩ = some (.int .i64 x)
def AnsA (a : Option Addr) (l : List Ans) (w : World) : Prop := ∀ (i : Nat) (x : Ans), l[i]? = some x -> ∃ b o la lc, a = some ⟨b, o, none⟩ /\ w.cell? ⟨b, o + i * 3, none⟩ = some (.bool x.ok) /\ w.cell? ⟨b, o + i * 3 + 1, none⟩ = some (.int .i64 x.n) /\ w.cell? ⟨b, o + i * 3 + 2, none⟩ = some (.slice la x.l.length lc) /\ NumA la x.l w /\ x.l.length <= 1048576
theorem NumA.chg {a : Option Addr} {l : List Int} {w w' : World} (h : NumA a l w) (hC : Chg (fun _ => False) w w') : NumA a l w' := fun i x hx => by
 obtain ⟨b, o, e, hc⟩ := h i x hx
 exact ⟨b, o, e, (World.cell?_of_block (a := ⟨b, o + i, none⟩) (hC.same b (Aw hc) id)).trans hc⟩
theorem AnsA.chg {a : Option Addr} {l : List Ans} {w w' : World} (h : AnsA a l w) (hC : Chg (fun _ => False) w w') : AnsA a l w' := fun i x hx => by
 obtain ⟨b, o, la, lc, e, h1, h2, h3, h4, h5⟩ := h i x hx
 exact ⟨b, o, la, lc, e, (World.cell?_of_block (a := ⟨b, _, none⟩) (hC.same b (Aw h1) id)).trans h1, (World.cell?_of_block (a := ⟨b, _, none⟩) (hC.same b (Aw h1) id)).trans h2, (World.cell?_of_block (a := ⟨b, _, none⟩) (hC.same b (Aw h1) id)).trans h3, h4.chg hC, h5⟩
structure TrA (cells : Array Value) (n : Nat) (F : Nat -> List Ans) (ord : List Nat) (sts : List Int) (k : Bool) (w : World) : Prop where
 all : ∃ aa ac oa oc sa sc, cells = Ih (.slice aa n ac) (.slice oa ord.length oc) (.slice sa sts.length sc) k /\ NumA oa (ord.map fun i => ((i : Nat) : Int)) w /\ NumA sa sts w /\ ∀ i, i < n -> ∃ b o ta tc, aa = some ⟨b, o, none⟩ /\ w.cell? ⟨b, o + i, none⟩ = some (.slice ta (F i).length tc) /\ AnsA ta (F i) w
theorem TrA.chg {cells : Array Value} {n : Nat} {F : Nat -> List Ans} {ord : List Nat} {sts : List Int} {k : Bool} {w w' : World} (h : TrA cells n F ord sts k w) (hC : Chg (fun _ => False) w w') : TrA cells n F ord sts k w' := by
 obtain ⟨aa, ac, oa, oc, sa, sc, e, h1, h2, h3⟩ := h.all
 refine ⟨aa, ac, oa, oc, sa, sc, e, h1.chg hC, h2.chg hC, fun i hi => ?_⟩
 obtain ⟨b, o, ta, tc, e, k1, k2⟩ := h3 i hi
 exact ⟨b, o, ta, tc, e, (World.cell?_of_block (a := ⟨b, o + i, none⟩) (hC.same b (Aw k1) id)).trans k1, k2.chg hC⟩
theorem Gv : ∀ (l : List (Ans × Value)) (k j : Nat) (o : Ans × Value) (v : Value), l[k]? = some o -> ([.bool o.1.ok, .int .i64 o.1.n, o.2] : List Value)[j]? = some v -> (Cv l)[k * 3 + j]? = some v
 | o' :: l, 0, j, o, v, hk, hv => by
  simp only [List.getElem?_cons_zero, Option.some.injEq] at hk
  subst hk
  have hj := (List.getElem?_eq_some_iff.1 hv).1
  have : Cv (o' :: l) = [.bool o'.1.ok, .int .i64 o'.1.n, o'.2] ++ Cv l := by simp [Cv]
  rw [this, Nat.zero_mul, Nat.zero_add, List.getElem?_append_left hj]
  exact hv
 | o' :: l, k + 1, j, o, v, hk, hv => by
  have : Cv (o' :: l) = [.bool o'.1.ok, .int .i64 o'.1.n, o'.2] ++ Cv l := by simp [Cv]
  rw [this, List.getElem?_append_right (by simp; omega)]
  have h := Gv l k j o v (by simpa using hk) hv
  rw [<- h]
  congr 1
  simp
  omega
theorem Jc {w : World} {base : Nat} {e : TypeId} {ta : Option Addr} {m tc : Nat} {l : List Int} (h : w.ownsRow base e 1 (.slice ta m tc) m (l.map (.int .i64))) : NumA ta l w := fun i x hx => by
 obtain ⟨g, e, _, _, h0⟩ := Jt h (j := i) (x := .int .i64 x) (by simp [hx])
 exact ⟨g, 0, e, by rw [Nat.zero_add]; exact h0⟩
theorem numA_nil (a : Option Addr) (w : World) : NumA a [] w := fun i x hx => (by simp at hx)
theorem LsAt.num {base : Nat} {P : Nat -> Prop} {sl : Value} {l : List Int} {w : World} (h : LsAt base P sl l w) : ∃ la lc, sl = .slice la l.length lc /\ NumA la l w /\ l.length <= 1048576 := by
 obtain ⟨a, c, e, hn, hr⟩ := h
 refine ⟨a, c, e, ?_, hn⟩
 by_cases hl : l = []
 ·subst hl; exact numA_nil _ _
 ·have h1 := (hr hl).1
  rw [e] at h1
  exact Jc h1
theorem ansA_of {base : Nat} {P : Nat -> Prop} {hd : Value} {l : List Ans} {w : World} (h : RowA base P hd l w) : ∃ ta tc, hd = .slice ta l.length tc /\ AnsA ta l w := by
 obtain ⟨ta, tc, z, hz, e, hr, _, hls⟩ := h
 refine ⟨ta, tc, e, fun i x hx => ?_⟩
 rw [e] at hr
 obtain ⟨p, hp, hpx⟩ : ∃ p, z[i]? = some p /\ p.1 = x := by
  rw [<- hz, List.getElem?_map, Option.map_eq_some_iff] at hx
  exact hx
 subst hpx
 obtain ⟨g, e, _, _, h0⟩ := Jt hr (Gv z i 0 p _ hp rfl)
 obtain ⟨g1, e1, _, _, h1⟩ := Jt hr (Gv z i 1 p _ hp rfl)
 obtain ⟨g2, e2, _, _, h2⟩ := Jt hr (Gv z i 2 p _ hp rfl)
 rw [e] at e1 e2
 cases e1
 cases e2
 obtain ⟨la, lc, hsl, hn, hlen⟩ := (hls p (List.mem_of_getElem? hp)).num
 refine ⟨g, 0, la, lc, e, ?_, ?_, ?_, hn, hlen⟩
 ·rw [Nat.zero_add]; exact h0
 ·rw [Nat.zero_add]; exact h1
 ·rw [Nat.zero_add, <- hsl]; exact h2
theorem OpsIn.old {tb toff n : Nat} {oa : Nat -> Option Addr} {ln oc : Nat -> Nat} {ops : Nat -> List OpV} {w w' : World} (I : OpsIn tb toff n oa ln oc ops w) (h : ∀ b, b < w.heap.size -> w'.heap[b]? = w.heap[b]?) : OpsIn tb toff n oa ln oc ops w' := by
 have hc : ∀ {b j : Nat} {v : Value}, w.cell? ⟨b, j, none⟩ = some v -> w'.cell? ⟨b, j, none⟩ = some v := fun {b j v} e => (World.cell?_of_block (a := ⟨b, j, none⟩) (h b (Aw e))).trans e
 exact ⟨fun i hi => hc (I.hd i hi), I.cap, I.ad, I.len, fun i hi j o ho => by
  obtain ⟨b, off, e, c0, c1, c2, c3⟩ := I.ops i hi j o ho
  exact ⟨b, off, e, hc c0, hc c1, hc c2, hc c3⟩⟩
end
section
variable {main : Bool} {V : Nat -> Option Wait}
theorem Hx : Try.prog.underlying 210 = some (.pointer 94) := by kernel_rfl
noncomputable def rowLoadB : Bool := match Try.prog.info? 210 with
 | some ti => (match ti.methods.find? (·.name == "Load") with
  | some m => m.path.isEmpty && (m.func == some (226, true))
  | none => false)
 | none => false
theorem rowLoad : ∃ ti m, Try.prog.info? 210 = some ti /\ ti.methods.find? (·.name == "Load") = some m /\ m.path = #[] /\ m.func = some (226, true) := by
 have h : rowLoadB = true := by kernel_rfl
 unfold rowLoadB at h
 revert h
 cases h1 : Try.prog.info? 210 with
 | none => simp
 | some ti =>
  simp only []
  cases h2 : ti.methods.find? (·.name == "Load") with
  | none => simp
  | some m =>
   simp only [Bool.and_eq_true, Array.isEmpty_iff, beq_iff_eq]
   exact fun h => ⟨ti, m, rfl, h2, h.1, h.2⟩
theorem method_load (p q : Nat) (w : World) (es : Array Event) : (method (Try.prog.types.size + Made.depth) 210 (.pointer (some ⟨p, q, none⟩)) "Load").run Try.prog w = .ok (226, .pointer (some ⟨p, q, none⟩)) w /\ (method (Try.prog.types.size + Made.depth) 210 (.pointer (some ⟨p, q, none⟩)) "Load").events Try.prog w es = es := by
 obtain ⟨ti, m, h1, h2, h3, h4⟩ := rowLoad
 obtain ⟨k, hk⟩ : ∃ k, Try.prog.types.size + Made.depth = k + 1 := ⟨Try.prog.types.size + (Made.depth - 1), by have : 1 <= Made.depth := by decide
                                                                                                               omega⟩
 rw [hk]
 unfold method
 refine ⟨?_, ?_⟩
 ·simp [typeInfo, h1, h2, h3, h4, follow, receiverAt, run_underlying Hx, Place.get]
 ·simp [typeInfo, h1, h2, h3, h4, follow, receiverAt, run_underlying Hx, Place.get]
section
variable {Stop : Goroutine -> World -> Prop} {w : World} {b : Frame} {a : Act} {k : List Item} {cs : List Frame} {ops : Array Oper} {i : Nat} {rest : List Nat} {o : Oper}
theorem stepG_invokeLoad {x : Operand} {ats : Array TypeId} (p q : Nat) (ho : ops[i]? = some o) (hw : Region.wanted o (yielded ops a.tmps) = true) (hk : b.kind ≠ .early) (hop : o.op = .call { callee := .invoke x "Load", args := #[], argTypes := ats }) (hx : a.eval x = .iface 210 (.pointer (some ⟨p, q, none⟩))) :
  stepG Try.prog main (G (b.at a (.inRegion ops (i :: rest) :: k)) cs) w = .go (G (Frame.enter Try.prog 226 #[.pointer (some ⟨p, q, none⟩)] .normal) (b.at a (.inRegion ops (i :: rest) :: k) :: cs)) w := by
 have h1 : ¬ Try.f226.name = "runtime.NumGoroutine" := by decide
 have h2 : ¬ Try.f226.body = none := by simp [Try.f226]
 have hm := method_load p q w #[]
 rw [show Try.prog.types.size = 310 from by kernel_rfl] at hm
 have hr : (execOp a.eval o).run Try.prog w = .ok (.enter 226 #[.pointer (some ⟨p, q, none⟩)]) w := by
  unfold execOp
  simp [hop, resolve, invoke, callMethod, callFunc, hm.1, Try.func226, h1, h2, hx]
 have he : (execOp a.eval o).events Try.prog w #[] = #[] := by
  unfold execOp
  simp [hop, resolve, invoke, callMethod, callFunc, hm.1, hm.2, Try.func226, h1, h2, hx]
 rw [stepG_enter ho hw hk hr]
 have : listed Try.prog b.fn a o w = #[] := by unfold listed; rw [he]; exact seen_none Try.prog _
 rw [this]
theorem Hc {x : Operand} {ats : Array TypeId} (p q : Nat) (ho : ops[i]? = some o) (hw : Region.wanted o (yielded ops a.tmps) = true) (hk : b.kind ≠ .early) (hop : o.op = .call { callee := .invoke x "Load", args := #[], argTypes := ats }) (hx : a.eval x = .iface 210 (.pointer (some ⟨p, q, none⟩)))
  (h : Walk Try.prog main (DR V) Stop (G (Frame.enter Try.prog 226 #[.pointer (some ⟨p, q, none⟩)] .normal) (b.at a (.inRegion ops (i :: rest) :: k) :: cs)) w) : Walk Try.prog main (DR V) Stop (G (b.at a (.inRegion ops (i :: rest) :: k)) cs) w :=
 Walk.ctl rfl (fun _ => stepG_invokeLoad p q ho hw hk hop hx) h
end
section
variable {P : Program}
theorem Mr (d : Nat) (t : TypeId) (q : Option Addr) (w : World) (es : Array Event) {e} (hu : P.underlying t = some (.pointer e)) : (Op.equalIn (d + 1) t (.pointer q) (.pointer none)).run P w = .ok q.isNone w /\ (Op.equalIn (d + 1) t (.pointer q) (.pointer none)).events P w es = es := by
 cases q <;> simp [Op.equalIn, run_underlying hu]
theorem Bz (t : TypeId) {e} (hu : P.underlying t = some (.pointer e)) (q : Option Addr) (w : World) : (binOp .eql t (.pointer q) (.pointer none)).run P w = .ok (.bool q.isNone) w := by
 simp only [binOp]
 simp [Op.equal, Op.maxDepth, (Mr 9999 t q w #[] hu).1]
theorem Cn (t : TypeId) {e} (hu : P.underlying t = some (.pointer e)) (q : Option Addr) (w : World) (es : Array Event) : (binOp .eql t (.pointer q) (.pointer none)).events P w es = es := by
 simp only [binOp]
 simp [Op.equal, Op.maxDepth, (Mr 9999 t q w #[] hu).1, (Mr 9999 t q w es hu).2]
end
section
theorem Gz (a : Option Addr) (w : World) : (Instr.makeInterface 210 (.pointer a)).run Try.prog w = .ok (.iface 210 (.pointer a)) w := by simp [Instr.makeInterface, run_underlying Hx]
theorem Hu (a : Option Addr) (w : World) (es : Array Event) : (Instr.makeInterface 210 (.pointer a)).events Try.prog w es = es := by simp [Instr.makeInterface, run_underlying Hx]
theorem Fj : Try.prog.underlying 193 = some (.pointer 96) := by kernel_rfl
end
end
section
section
variable {main : Bool} {V : Nat -> Option Wait}
theorem Walk.turn {P : Program} {Stop : Goroutine -> World -> Prop} {g g' : Goroutine} {w W : World} {es : Array Event} (hr : g.status = .running) (hs : ∀ d, stepG P main g (w.at d) = .go g' (W.at d) es) (hd : ∀ d, DR V (w.at d) (W.at d) es) (h : Walk P main (DR V) Stop g' W) : Walk P main (DR V) Stop g w :=
 Walk.step hr (fun _ => g') (fun d => W.at d) (fun _ => es) hs hd (fun d => h.back d)
theorem atLoad (b q : Nat) (v : Int) (w : World) (hc : w.cell? ⟨b, q, none⟩ = some (.int .i64 v)) : As Try.prog main V 226 #[.pointer (some ⟨b, q, none⟩)] w (.int .i64 v) w := by
 refine Ap Try.func226 rfl fun fr cs => ?_
 simp only [Try.ntmps226, ez, Nat.reduceAdd, Nat.reduceSub]
 refine Ae ?_
 refine Mx (fun _ => #[⟨.cell ⟨b, q, none⟩, false, true⟩]) rfl (fun d => stepG_load_atomic (w := w.at d) rfl (by rfl) (by decide) rfl Try.func227 (by kernel_rfl) (by rfl) (by kernel_rfl) .i64 (by kernel_rfl) rfl hc) (fun d e he => by simp at he; subst he; exact Cb _ _) ?_
 walk_nrm
 refine Ae ?_
 exact An rfl rfl Try.func226 rfl fun d => ⟨rfl, d, rfl⟩
theorem atStore (b q : Nat) (u : Value) (v : Int) (w : World) (hc : w.cell? ⟨b, q, none⟩ = some u) (hz : w.frozen? ⟨b, q, none⟩ = false) (hf : Di V ⟨b, q, none⟩) : As Try.prog main V 121 #[.pointer (some ⟨b, q, none⟩), .int .i64 v] w (.tuple #[]) (w.setCell ⟨b, q, none⟩ (.int .i64 v)) := by
 refine Ap Try.func121 rfl fun fr cs => ?_
 simp only [Try.ntmps121, ez, Nat.reduceAdd, Nat.reduceSub]
 refine Ae ?_
 refine Walk.turn (W := w.setCell ⟨b, q, none⟩ (.int .i64 v)) rfl (fun d => stepG_store_atomic (w := w.at d) rfl (by rfl) (by decide) rfl Try.func152 (by kernel_rfl) (by rfl) (by kernel_rfl) (by kernel_rfl) rfl rfl hc hz) (fun d => Od hf hc d _ (fun e he => by simp at he; subst he; exact Ic _ _ hf)) ?_
 walk_nrm
 refine Ae ?_
 exact Ke rfl rfl Try.func121 rfl fun d => ⟨rfl, d, rfl⟩
end
structure Wd (L : La) where
 on : L.Gh -> Prop
 up : ∀ {y y' : L.Gh}, L.le y y' -> on y -> on y'
 b : Nat
 q : Nat
 get : L.Sg -> Int
 put : L.Sg -> Int -> L.Sg
 ok : Int -> Prop
 sh : ∀ y, on y -> L.sh y b
 rd : ∀ y s w, on y -> L.I y s w -> w.cell? ⟨b, q, none⟩ = some (.int .i64 (get s)) /\ w.frozen? ⟨b, q, none⟩ = false
 wr : ∀ y s w v, on y -> ok v -> L.I y s w -> L.I y (put s v) (w.setCell ⟨b, q, none⟩ (.int .i64 v))
def Wd.p {L : La} (W : Wd L) : Value := .pointer (some ⟨W.b, W.q, none⟩)
noncomputable def reg133_0 := rk Try.f133.body 0
noncomputable def reg133_1 := rk Try.f133.body 1
noncomputable def reg133_2 := rk Try.f133.body 2
theorem z133 : reg133_0.size = 1 /\ reg133_1.size = 2 /\ reg133_2.size = 4 := by and_intros <;> kernel_rfl
theorem code133_is : Try.f133.body = some (.seq (.region 0 reg133_0 false) (.seq (.region 1 reg133_1 false) (.seq (.region 2 reg133_2 false) (.ret)))) := by kernel_rfl
noncomputable def reg100_0 := rk Try.f100.body 0
noncomputable def reg100_1 := rk Try.f100.body 1
noncomputable def reg100_2 := rk Try.f100.body 2
noncomputable def reg100_3 := rk Try.f100.body 3
theorem z100 : reg100_0.size = 1 /\ reg100_1.size = 2 /\ reg100_2.size = 1 /\ reg100_3.size = 6 := by and_intros <;> kernel_rfl
theorem code100_is : Try.f100.body = some (.seq (.region 0 reg100_0 false) (.seq (.seq (.region 1 reg100_1 false) (.cond (.tmp 6 ) (.seq (.region 2 reg100_2 false) (.ret)) (.skip))) (.seq (.region 3 reg100_3 false) (.ret)))) := by kernel_rfl
noncomputable def reg71_0 := rk Try.f71.body 0
noncomputable def reg71_1 := rk Try.f71.body 1
noncomputable def reg71_2 := rk Try.f71.body 2
theorem z71 : reg71_0.size = 2 /\ reg71_1.size = 2 /\ reg71_2.size = 5 := by and_intros <;> kernel_rfl
theorem code71_is : Try.f71.body = some (.seq (.seq (.region 0 reg71_0 false) (.cond (.tmp 7 ) (.ret) (.skip))) (.seq (.region 1 reg71_1 false) (.region 2 reg71_2 false))) := by kernel_rfl
section
variable {L : La} {sv : Value}
theorem step_s (K : Lg L sv) (e : K.E) (d : L.D) (ht : K.tgt e = (K.s e, .inr d)) : SCall K.toLb 120 #[sv] e (fun _ e' => Aft K.toLb e d e') := fun fr l hp hl hk => K.step e d ht fr l hp hl fun e' ha => hk _ e' ha
theorem Bl {fr : Frame} {l : List Frame} (hp : Cf fr) (hl : ∀ f ∈ l, Cf f) : ∀ f ∈ fr :: l, Cf f := fun x hx => by
 rcases List.mem_cons.1 hx with rfl | hx
 ·exact hp
 ·exact hl x hx
theorem Wd.put_mv (W : Wd L) (K : Lg L sv) (e : K.E) (v : Int) (hon : W.on (K.gh e)) (hv : W.ok v) : ∃ e', Mv K.toLb e e' (W.put (K.s e) v) ((K.w e).setCell ⟨W.b, W.q, none⟩ (.int .i64 v)) :=
 K.mv e _ _ (Nat.le_of_eq (Af ..).symm) (fun b _ _ hs => Ab _ _ _ _ fun he : b = W.b => hs (by rw [he]; exact W.sh _ hon)) (W.wr _ _ _ v hon hv (K.inv e))
theorem holds_s (K : Lg L sv) (W : Wd L) (e : K.E) (d : L.D) (hon : W.on (K.gh e)) (ht : K.tgt e = (K.s e, .inr d)) : SCall K.toLb 133 #[sv, W.p] e (fun v e' => Aft K.toLb e d e' /\ v = .int .i64 (W.get (K.s e'))) := by
 intro fr l hp hl hk
 unfold LW Wd.p
 rw [enter_at _ Try.func133 code133_is]
 simp only [Try.ntmps133, ez, Nat.reduceAdd, Nat.reduceSub]
 refine Aa z133 ?_
 refine Bt (K := K.toLb) (e := e) (l := fr :: l) (f := 120) (Q := fun _ e' => Aft K.toLb e d e') ?_ Aj (by rfl) (by decide) rfl Try.func120 (by kernel_rfl) (by rfl) ⟨rfl, rfl, _, Try.func133⟩ (Bl hp hl) ?_
 ·walk_nrm
  exact step_s K e d ht
 intro v e' ha
 have hc := (W.rd _ _ _ (W.up ha.le hon) (K.inv e')).1
 have hi1 := Gz
 have hi2 := Hu
 unfold LW
 walk_nrm
 refine Aa z133 ?_
 refine Hc W.b W.q Aj (by rfl) (by decide) rfl rfl ?_
 refine (atLoad W.b W.q _ (K.w e') hc _ _).then ?_
 rintro g' w' ⟨v', ⟨rfl, dd, rfl⟩, rfl⟩
 refine Walk.back ?_ dd
 refine Walk.finish Aj ?_
 walk_nrm
 refine Aa z133 ?_
 exact Be rfl rfl Try.func133 rfl (hk _ e' ⟨ha, rfl⟩)
theorem word_load (K : Lg L sv) (W : Wd L) (e : K.E) (d : L.D) (hon : W.on (K.gh e)) (ht : K.tgt e = (K.s e, .inr d)) : SCall K.toLb 100 #[W.p, sv] e (fun v e' => Aft K.toLb e d e' /\ v = .int .i64 (W.get (K.s e'))) := by
 intro fr l hp hl hk
 have hh := holds_s K W e d hon ht
 unfold Wd.p at *
 unfold LW
 have hp1 := fun w => Bz (P := Try.prog) 193 Fj (some ⟨W.b, W.q, none⟩) w
 have hp2 := fun w es => Cn (P := Try.prog) 193 Fj (some ⟨W.b, W.q, none⟩) w es
 simp only [Option.isNone_some] at hp1
 rw [enter_at _ Try.func100 code100_is]
 simp only [Try.ntmps100, ez, Nat.reduceAdd, Nat.reduceSub]
 refine Aa z100 ?_
 refine Bt (K := K.toLb) (e := e) (l := fr :: l) (f := 133) (Q := fun v e' => Aft K.toLb e d e' /\ v = .int .i64 (W.get (K.s e'))) ?_ Aj (by rfl) (by decide) rfl Try.func133 (by kernel_rfl) (by rfl) ⟨rfl, rfl, _, Try.func100⟩ (Bl hp hl) ?_
 ·walk_nrm
  exact hh
 rintro v e' ⟨ha, rfl⟩
 unfold LW
 walk_nrm
 refine Aa z100 ?_
 exact Be rfl rfl Try.func100 rfl (hk _ e' ⟨ha, rfl⟩)
structure Wrote (K : Lg L sv) (e : K.E) (d : L.D) (s : L.Sg) (s' : L.Sg) (e' : K.E) : Prop where
 tgt : K.tgt e' = L.act s d
 fuel : K.fuel e' < K.fuel e
 le : L.le (K.gh e) (K.gh e')
 s : K.s e' = s'
 size : (K.w e).heap.size <= (K.w e').heap.size
 mine : ∀ b, K.mine e b -> K.mine e' b /\ (K.w e').heap[b]? = (K.w e).heap[b]?
theorem Wrote.of {K : Lg L sv} {e e1 e' : K.E} {d : L.D} {s' : L.Sg} {W : Wd L} {v : Int} (hon : W.on (K.gh e)) (ha : Aft K.toLb e d e1) (m : Mv K.toLb e1 e' s' ((K.w e1).setCell ⟨W.b, W.q, none⟩ (.int .i64 v))) : Wrote K e d (K.s e1) s' e' :=
 ⟨m.tgt.trans ha.tgt, by rw [m.fuel]; exact ha.fuel, by rw [m.gh]; exact ha.le, m.s, by rw [m.w, Af]; exact ha.size, fun b hb => by
  obtain ⟨h1, h2⟩ := ha.mine b hb
  have hne : b ≠ W.b := fun he => (K.mineA e1 b h1).2.1 (by rw [he]; exact W.sh _ (W.up ha.le hon))
  refine ⟨(m.mine b).2 (.inl h1), ?_⟩
  rw [m.w, Ab _ _ _ _ hne]
  exact h2⟩
theorem Lm (K : Lg L sv) (W : Wd L) (e : K.E) (d : L.D) (x : Int) (hx : W.ok x) (hon : W.on (K.gh e)) (ht : K.tgt e = (K.s e, .inr d)) : SCall K.toLb 71 #[W.p, sv, .int .i64 x] e (fun _ e' => ∃ s, Wrote K e d s (W.put s x) e') := by
 intro fr l hp hl hk
 unfold Wd.p
 unfold LW
 have hp1 := fun w => Bz (P := Try.prog) 193 Fj (some ⟨W.b, W.q, none⟩) w
 have hp2 := fun w es => Cn (P := Try.prog) 193 Fj (some ⟨W.b, W.q, none⟩) w es
 simp only [Option.isNone_some] at hp1
 rw [enter_at _ Try.func71 code71_is]
 simp only [Try.ntmps71, ez, Nat.reduceAdd, Nat.reduceSub]
 refine Aa z71 ?_
 refine Bt (K := K.toLb) (e := e) (l := fr :: l) (f := 120) (Q := fun _ e' => Aft K.toLb e d e') ?_ Aj (by rfl) (by decide) rfl Try.func120 (by kernel_rfl) (by rfl) ⟨rfl, rfl, _, Try.func71⟩ (Bl hp hl) ?_
 ·walk_nrm
  exact step_s K e d ht
 intro v e1 ha
 obtain ⟨hc, hz⟩ := W.rd _ _ _ (W.up ha.le hon) (K.inv e1)
 obtain ⟨e', m⟩ := W.put_mv K e1 x (W.up ha.le hon) hx
 unfold LW
 walk_nrm
 refine Aa z71 ?_
 refine Walk.callV (x := .tuple #[]) (W := (K.w e1).setCell ⟨W.b, W.q, none⟩ (.int .i64 x)) ?_ Aj (by rfl) (by decide) rfl Try.func121 (by kernel_rfl) (by rfl) ?_
 ·walk_nrm
  exact atStore W.b W.q _ x (K.w e1) hc hz ((K.shA e1 _ (W.sh _ (W.up ha.le hon))).1 _ rfl)
 walk_nrm
 refine Aa z71 ?_
 exact Ar rfl rfl Try.func71 rfl (Jr m (hk _ e' ⟨K.s e1, Wrote.of hon ha m⟩))
end
end
section
structure Rg where
 st : Nat -> Int
 va : Nat -> Int
inductive RD where
 | p1 (q v : Int) | p2 (q v : Int) | p3 (q : Int) | g1 (q : Int) | g2 (q : Int) | g3 (q v : Int) | t (q : Int) | h (q l : Int) | a1 (q m : Int) (l : List Int) | a2 (q m : Int) (l : List Int) | a3 (q m : Int) (l : List Int) (v : Int)
def good (q : Int) : Prop := 0 <= q /\ q < 4611686018427387904
instance (q : Int) : Decidable (good q) := inferInstanceAs (Decidable (_ /\ _))
def Bq (n : Nat) (q : Int) : Nat := (q % n).toNat
def Ce (n : Nat) (q : Int) : Int := 2 * (q / n)
def Cg (s : Rg) (i : Nat) (x : Int) : Rg := ⟨upd s.st i x, s.va⟩
def Eu (s : Rg) (i : Nat) (x : Int) : Rg := ⟨s.st, upd s.va i x⟩
def Hf (l : List Int) (e : Int) : Ans := if l = [] then ⟨false, e, []⟩ else ⟨true, 0, l⟩
def Fo (n : Nat) (s : Rg) (_ : Int) (o : OpV) : Rg × (Ans ⊕ RD) :=
 if o.k = 1 then (s, if good o.a then .inr (.p1 o.a o.b) else .inl ⟨false, 1, []⟩)
 else if o.k = 2 then (s, if good o.a then .inr (.g1 o.a) else .inl ⟨false, 1, []⟩)
 else if o.k = 3 then (s, if good o.a then .inr (.t o.a) else .inl ⟨false, 0, []⟩)
 else if o.k = 4 then (s, if o.a = -9223372036854775808 then .inl ⟨true, o.a, []⟩ else if good o.a /\ o.a <= o.b then .inr (.h o.a (min o.b (min 4611686018427387903 (o.a + n - 1)))) else .inl ⟨true, IntKind.i64.wrap (o.a - 1), []⟩)
 else if o.k = 5 then (s, if good o.a then (if min o.b n <= 0 then .inl ⟨true, 0, []⟩ else .inr (.a1 o.a (min o.b n) [])) else .inl ⟨false, 1, []⟩)
 else (s, .inl ⟨false, 0, []⟩)
def Bh (n : Nat) (s : Rg) : RD -> Rg × (Ans ⊕ RD)
 | .p1 q v => (Cg s (Bq n q) (Ce n q - 1), .inr (.p2 q v))
 | .p2 q v => (Eu s (Bq n q) v, .inr (.p3 q))
 | .p3 q => (Cg s (Bq n q) (Ce n q), .inl ⟨true, 0, []⟩)
 | .g1 q => (s, if s.st (Bq n q) < Ce n q then .inl ⟨false, 6, []⟩ else if Ce n q < s.st (Bq n q) then .inl ⟨false, 10, []⟩ else .inr (.g2 q))
 | .g2 q => (s, .inr (.g3 q (s.va (Bq n q))))
 | .g3 q v => (s, if s.st (Bq n q) = Ce n q then .inl ⟨true, v, []⟩ else .inl ⟨false, 10, []⟩)
 | .t q => (s, .inl ⟨decide (s.st (Bq n q) = Ce n q), 0, []⟩)
 | .h q l => (s, if s.st (Bq n q) = Ce n q then (if q < l then .inr (.h (q + 1) l) else .inl ⟨true, l, []⟩) else .inl ⟨true, q - 1, []⟩)
 | .a1 q m l => (s, if s.st (Bq n q) < Ce n q then .inl (Hf l 6) else if Ce n q < s.st (Bq n q) then .inl (Hf l 10) else .inr (.a2 q m l))
 | .a2 q m l => (s, .inr (.a3 q m l (s.va (Bq n q))))
 | .a3 q m l v => (s, if s.st (Bq n q) = Ce n q then (if ((l.length : Int) + 1 < m) /\ good (q + 1) then .inr (.a1 (q + 1) m (l ++ [v])) else .inl ⟨true, 0, l ++ [v]⟩) else .inl (Hf l 10))
structure RgI (rb sb n : Nat) (s : Rg) (w : World) : Prop where
 hd : w.heap[rb]? = some (.cells #[.slice (some ⟨sb, 0, none⟩) n n] 132)
 sl : ∃ arr : Array Value, w.heap[sb]? = some (.cells arr 134) /\ arr.size = 2 * n /\ (∀ i, i < n -> arr[i * 2]? = some (.int .i64 (s.st i)) /\ arr[i * 2 + 1]? = some (.int .i64 (s.va i)))
 pos : 1 <= n /\ n <= 65536
theorem RgI.old {rb sb n : Nat} {s : Rg} {w w' : World} (h : RgI rb sb n s w) (hb : w'.heap[rb]? = w.heap[rb]?) (hc : w'.heap[sb]? = w.heap[sb]?) : RgI rb sb n s w' := by
 obtain ⟨arr, h1, h2⟩ := h.sl
 exact ⟨hb.trans h.hd, ⟨arr, hc.trans h1, h2⟩, h.pos⟩
theorem RgI.lt {rb sb n : Nat} {s : Rg} {w : World} (h : RgI rb sb n s w) : rb < w.heap.size /\ sb < w.heap.size := by
 obtain ⟨arr, h1, h2⟩ := h.sl
 exact ⟨(Array.getElem?_eq_some_iff.1 h.hd).1, (Array.getElem?_eq_some_iff.1 h1).1⟩
theorem RgI.ne {rb sb n : Nat} {s : Rg} {w : World} (h : RgI rb sb n s w) : rb ≠ sb := fun e => by
 obtain ⟨arr, h1, h2⟩ := h.sl
 have := h.hd
 rw [e, h1] at this
 cases this
def Bs (rb sb n : Nat) : La where
 Sg := Rg
 D := RD
 Gh := Unit
 le := fun _ _ => True
 refl := fun _ => trivial
 trans := fun _ _ => trivial
 enter := Fo n
 act := Bh n
 sh := fun _ b => b = rb ∨ b = sb
 mono := fun _ h => h
 I := fun _ => RgI rb sb n
 stable := fun h hb => h.old (hb _ (.inl rfl)) (hb _ (.inr rfl))
 lt := fun h hb => hb.elim (fun e => e ▸ h.lt.1) (fun e => e ▸ h.lt.2)
section
variable {rb sb n : Nat}
theorem RgI.size {s : Rg} {w : World} (h : RgI rb sb n s w) : w.cell? ⟨rb, 0, none⟩ = some (.slice (some ⟨sb, 0, none⟩) n n) := (Ac h.hd 0).trans rfl
theorem RgI.rdS {i : Nat} (hi : i < n) {s : Rg} {w : World} (h : RgI rb sb n s w) : w.cell? ⟨sb, i * 2, none⟩ = some (.int .i64 (s.st i)) /\ w.frozen? ⟨sb, i * 2, none⟩ = false := by
 obtain ⟨arr, h1, h2, h3⟩ := h.sl
 exact ⟨(Ac h1 _).trans (h3 i hi).1, Aq h1 _⟩
theorem RgI.rdV {i : Nat} (hi : i < n) {s : Rg} {w : World} (h : RgI rb sb n s w) : w.cell? ⟨sb, i * 2 + 1, none⟩ = some (.int .i64 (s.va i)) /\ w.frozen? ⟨sb, i * 2 + 1, none⟩ = false := by
 obtain ⟨arr, h1, h2, h3⟩ := h.sl
 exact ⟨(Ac h1 _).trans (h3 i hi).2, Aq h1 _⟩
theorem RgI.wrS {i : Nat} (hi : i < n) {s : Rg} {w : World} (v : Int) (h : RgI rb sb n s w) : RgI rb sb n (Cg s i v) (w.setCell ⟨sb, i * 2, none⟩ (.int .i64 v)) := by
 obtain ⟨arr, h1, h2, h3⟩ := h.sl
 refine ⟨(Ab _ _ _ _ h.ne).trans h.hd, ⟨_, Am _ _ h1, by simp [h2], fun j hj => ⟨?_, ?_⟩⟩, h.pos⟩
 ·show _ = some (Value.int .i64 (upd s.st i v j))
  by_cases e : j = i
  ·subst e
   rw [upd_same]
   exact Array.getElem?_setIfInBounds_self_of_lt (by omega)
  ·rw [upd_ne _ _ e, Array.getElem?_setIfInBounds_ne (by omega)]; exact (h3 j hj).1
 ·rw [Array.getElem?_setIfInBounds_ne (by omega)]; exact (h3 j hj).2
theorem RgI.wrV {i : Nat} (hi : i < n) {s : Rg} {w : World} (v : Int) (h : RgI rb sb n s w) : RgI rb sb n (Eu s i v) (w.setCell ⟨sb, i * 2 + 1, none⟩ (.int .i64 v)) := by
 obtain ⟨arr, h1, h2, h3⟩ := h.sl
 refine ⟨(Ab _ _ _ _ h.ne).trans h.hd, ⟨_, Am _ _ h1, by simp [h2], fun j hj => ⟨?_, ?_⟩⟩, h.pos⟩
 ·rw [Array.getElem?_setIfInBounds_ne (by omega)]; exact (h3 j hj).1
 ·show _ = some (Value.int .i64 (upd s.va i v j))
  by_cases e : j = i
  ·subst e
   rw [upd_same]
   exact Array.getElem?_setIfInBounds_self_of_lt (by omega)
  ·rw [upd_ne _ _ e, Array.getElem?_setIfInBounds_ne (by omega)]; exact (h3 j hj).2
def stpW (i : Nat) (hi : i < n) : Wd (Bs rb sb n) where
 on := fun _ => True
 up := fun _ _ => trivial
 b := sb
 q := i * 2
 get := fun s => (s : Rg).st i
 put := fun s v => Cg s i v
 ok := fun _ => True
 sh := fun _ _ => .inr rfl
 rd := fun _ s w _ h => RgI.rdS hi h
 wr := fun _ s w v _ _ h => RgI.wrS hi v h
def vluW (i : Nat) (hi : i < n) : Wd (Bs rb sb n) where
 on := fun _ => True
 up := fun _ _ => trivial
 b := sb
 q := i * 2 + 1
 get := fun s => (s : Rg).va i
 put := fun s v => Eu s i v
 ok := fun _ => True
 sh := fun _ _ => .inr rfl
 rd := fun _ s w _ h => RgI.rdV hi h
 wr := fun _ s w v _ _ h => RgI.wrV hi v h
end
theorem Mi {n : Nat} (hn : 1 <= n) (q : Int) : Bq n q < n := by
 unfold Bq
 have h1 := Int.emod_nonneg q (show (n : Int) ≠ 0 by omega)
 have h2 := Int.emod_lt_of_pos q (show (0 : Int) < n by omega)
 omega
end
section
def Bb (l : List Int) : List Value := l.map (.int .i64)
theorem Fq (l : List Int) (x : Int) : Bb (l ++ [x]) = Bb l ++ [.int .i64 x] := by simp [Bb]
structure R11 where
 ov : Value
 ops : List OpV
 av : Value
 ans : List Ans
 who : Int
 at' : Nat
 pc : Int
 q : Int
 x : Int
 v : Int
 sv : Value
 seen : List Int
 live : Prop
 ownA : Nat -> Prop
def R11.cells (t : R11) : List Value := [t.ov, t.av, .int .i64 t.who, .int .i64 t.at', .int .i64 t.pc, .int .i64 t.q, .int .i64 t.x, .int .i64 t.v, t.sv]
def R11.own (t : R11) (b : Nat) : Prop := t.ownA b ∨ (t.live /\ t.sv.ownBlock = some b)
def OpsAt (a0 : Nat) (ov : Value) (l : List OpV) (w : World) : Prop := ∃ oa oc, ov = .slice oa l.length oc /\ ∀ (k : Nat) (o : OpV), l[k]? = some o -> ∃ b off, oa = some ⟨b, off, none⟩ /\ b < a0 /\ b < w.heap.size /\ -9223372036854775808 <= o.a /\ ∀ (j : Nat) (v : Value), ([.int .i64 o.k, .int .i64 o.a, .int .i64 o.b, .int .i64 o.c] : List Value)[j]? = some v -> w.cell? ⟨b, off + k * 4 + j, none⟩ = some v
theorem OpsAt.same {a0 : Nat} {ov : Value} {l : List OpV} {w w' : World} (h : OpsAt a0 ov l w) (hO : ∀ b, b < a0 -> b < w.heap.size -> w'.heap[b]? = w.heap[b]?) : OpsAt a0 ov l w' := by
 obtain ⟨oa, oc, e, h⟩ := h
 refine ⟨oa, oc, e, fun k o ho => ?_⟩
 obtain ⟨b, off, e, h1, h2, h4, h3⟩ := h k o ho
 have hb := hO b h1 h2
 refine ⟨b, off, e, h1, ?_, h4, fun j v hv => (World.cell?_of_block (a := ⟨b, off + k * 4 + j, none⟩) hb).trans (h3 j v hv)⟩
 have := h3 0 _ rfl
 exact Aw ((World.cell?_of_block (a := ⟨b, off + k * 4 + 0, none⟩) hb).trans this)
structure R11.Rows (t : R11) (a0 : Nat) (w : World) : Prop where
 rO : OpsAt a0 t.ov t.ops w
 rA : RowA a0 t.ownA t.av t.ans w
 rS : t.live -> w.ownsRow a0 2 1 t.sv t.seen.length (Bb t.seen)
 ne : t.live -> ∀ b, t.sv.ownBlock = some b -> ¬ t.ownA b
 lo : ∀ b, t.ownA b -> a0 <= b /\ b < w.heap.size
theorem lt_same {w w' : World} {b : Nat} (h : b < w.heap.size) (e : w'.heap[b]? = w.heap[b]?) : b < w'.heap.size := by
 rw [Array.getElem?_eq_getElem h] at e
 exact (Array.getElem?_eq_some_iff.1 e).1
theorem R11.Rows.same {t : R11} {a0 : Nat} {w w' : World} (h : t.Rows a0 w) (hO : ∀ b, b < a0 -> b < w.heap.size -> w'.heap[b]? = w.heap[b]?) (hR : ∀ b, t.own b -> w'.heap[b]? = w.heap[b]?) : t.Rows a0 w' :=
 ⟨h.rO.same hO, h.rA.same fun b hb => hR b (.inl hb), fun hl => Ao (h.rS hl) fun b hb => hR b (.inr ⟨hl, hb⟩), h.ne, fun b hb => ⟨(h.lo b hb).1, lt_same (h.lo b hb).2 (hR b (.inl hb))⟩⟩
theorem R11.Rows.low {t : R11} {a0 : Nat} {w : World} (h : t.Rows a0 w) {b : Nat} (hb : t.own b) : a0 <= b /\ b < w.heap.size := by
 rcases hb with hb | ⟨hl, hb⟩
 ·exact h.lo b hb
 ·exact (h.rS hl).lt b hb
structure CB where
 sg : Nat
 sc : Nat
 vg : Nat
 vc : Nat
def CB.sa (cb : CB) (m : Nat) : Option Addr := if 0 < m then some ⟨cb.sg, 0, none⟩ else none
def CB.va (cb : CB) (m : Nat) : Option Addr := if 0 < m then some ⟨cb.vg, 0, none⟩ else none
def cI (m : Nat) (cb : CB) (b : Nat) : Prop := 0 < m /\ (b = cb.sg ∨ b = cb.vg)
structure M11 (a0 M : Nat) (cb : CB) (tb tc n m : Nat) (ta : Option Addr) (S : Rg) (T : Nat -> R11) (w : World) : Prop where
 hd : w.heap[M]? = some (.cells #[.int .i64 m, .slice (cb.sa m) m cb.sc, .slice (cb.va m) m cb.vc, .slice ta n tc, .int .i64 0] 190)
 cs : 0 < m -> (∃ arr : Array Value, w.heap[cb.sg]? = some (.cells arr 2) /\ ∀ i, i < m -> arr[i]? = some (.int .i64 (S.st i))) /\ ∃ arr : Array Value, w.heap[cb.vg]? = some (.cells arr 2) /\ ∀ i, i < m -> arr[i]? = some (.int .i64 (S.va i))
 ts : 0 < n -> ta = some ⟨tb, 0, none⟩ /\ ∃ arr : Array Value, w.heap[tb]? = some (.cells arr 192) /\ arr.size = tc * 9 /\ n <= tc /\ tc <= maxLen /\ ∀ i, i < n -> ∀ (j : Nat) (v : Value), (T i).cells[j]? = some v -> arr[i * 9 + j]? = some v
 rows : ∀ i, i < n -> (T i).Rows a0 w
 far : ∀ i, i < n -> ∀ b, (T i).own b -> b ≠ M /\ ¬ cI m cb b /\ b ≠ tb /\ ∀ k, k < n -> k ≠ i -> ¬ (T k).own b
 base : a0 <= M /\ (0 < m -> a0 <= cb.sg /\ a0 <= cb.vg) /\ (0 < m -> M ≠ cb.sg /\ M ≠ cb.vg /\ cb.sg ≠ cb.vg) /\ (0 < n -> a0 <= tb /\ M ≠ tb /\ ¬ cI m cb tb)
section
variable {a0 M tb tc n m : Nat} {cb : CB} {ta : Option Addr} {S : Rg} {T : Nat -> R11} {w w' : World}
theorem M11.lt (I : M11 a0 M cb tb tc n m ta S T w) : M < w.heap.size /\ (∀ b, cI m cb b -> b < w.heap.size) /\ (0 < n -> tb < w.heap.size) := by
 refine ⟨(Array.getElem?_eq_some_iff.1 I.hd).1, fun b hb => ?_, fun hn => ?_⟩
 ·obtain ⟨⟨a1, h1, _⟩, a2, h2, _⟩ := I.cs hb.1
  rcases hb.2 with rfl | rfl
  ·exact (Array.getElem?_eq_some_iff.1 h1).1
  ·exact (Array.getElem?_eq_some_iff.1 h2).1
 ·obtain ⟨_, arr, h2, _⟩ := I.ts hn
  exact (Array.getElem?_eq_some_iff.1 h2).1
theorem M11.cNe (I : M11 a0 M cb tb tc n m ta S T w) {b : Nat} (hb : cI m cb b) : b ≠ M := by
 obtain ⟨b1, b2, b3, b4⟩ := I.base
 obtain ⟨e1, e2, e3⟩ := b3 hb.1
 rcases hb.2 with rfl | rfl
 ·exact Ne.symm e1
 ·exact Ne.symm e2
theorem M11.cLo (I : M11 a0 M cb tb tc n m ta S T w) {b : Nat} (hb : cI m cb b) : a0 <= b := by
 obtain ⟨b1, b2, b3, b4⟩ := I.base
 rcases hb.2 with rfl | rfl
 ·exact (b2 hb.1).1
 ·exact (b2 hb.1).2
theorem Lj {S : Rg} {cb : CB} {m : Nat} {w w' : World} (h : 0 < m -> (∃ arr : Array Value, w.heap[cb.sg]? = some (.cells arr 2) /\ ∀ i, i < m -> arr[i]? = some (.int .i64 (S.st i))) /\ ∃ arr : Array Value, w.heap[cb.vg]? = some (.cells arr 2) /\ ∀ i, i < m -> arr[i]? = some (.int .i64 (S.va i))) (ho : ∀ b, cI m cb b -> w'.heap[b]? = w.heap[b]?) :
  0 < m -> (∃ arr : Array Value, w'.heap[cb.sg]? = some (.cells arr 2) /\ ∀ i, i < m -> arr[i]? = some (.int .i64 (S.st i))) /\ ∃ arr : Array Value, w'.heap[cb.vg]? = some (.cells arr 2) /\ ∀ i, i < m -> arr[i]? = some (.int .i64 (S.va i)) := fun hm => by
 obtain ⟨⟨a1, h1, k1⟩, a2, h2, k2⟩ := h hm
 exact ⟨⟨a1, (ho _ ⟨hm, .inl rfl⟩).trans h1, k1⟩, a2, (ho _ ⟨hm, .inr rfl⟩).trans h2, k2⟩
theorem M11.same (I : M11 a0 M cb tb tc n m ta S T w) (h : ∀ b, b < w.heap.size -> w'.heap[b]? = w.heap[b]?) : M11 a0 M cb tb tc n m ta S T w' := by
 obtain ⟨l1, l2, l3⟩ := I.lt
 refine ⟨(h M l1).trans I.hd, Lj I.cs fun b hb => h b (l2 b hb), fun hn => ?_, fun i hi => ?_, I.far, I.base⟩
 ·obtain ⟨e, arr, h1, h2⟩ := I.ts hn
  exact ⟨e, arr, (h tb (l3 hn)).trans h1, h2⟩
 ·have R := I.rows i hi
  exact R.same (fun b _ hb => h b hb) fun b hb => h b (R.low hb).2
theorem M11.tcell (I : M11 a0 M cb tb tc n m ta S T w) {i : Nat} (hi : i < n) {j : Nat} {v : Value} (h : (T i).cells[j]? = some v) : w.cell? ⟨tb, i * 9 + j, none⟩ = some v := by
 obtain ⟨_, arr, h1, _, _, _, h2⟩ := I.ts (by omega)
 exact (Ac h1 _).trans (h2 i hi j v h)
theorem M11.tfrz (I : M11 a0 M cb tb tc n m ta S T w) {i : Nat} (hi : i < n) (q : Nat) : w.frozen? ⟨tb, q, none⟩ = false := by
 obtain ⟨_, arr, h1, _⟩ := I.ts (by omega)
 exact Aq h1 q
theorem M11.cZ (I : M11 a0 M cb tb tc n m ta S T w) : w.cell? ⟨M, 0, none⟩ = some (.int .i64 m) := (Ac I.hd 0).trans rfl
theorem M11.cS (I : M11 a0 M cb tb tc n m ta S T w) (hm : 0 < m) : w.cell? ⟨M, 1, none⟩ = some (.slice (some ⟨cb.sg, 0, none⟩) m cb.sc) := by
 have h := (Ac I.hd 1).trans rfl
 rw [CB.sa, if_pos hm] at h
 exact h
theorem M11.cV (I : M11 a0 M cb tb tc n m ta S T w) (hm : 0 < m) : w.cell? ⟨M, 2, none⟩ = some (.slice (some ⟨cb.vg, 0, none⟩) m cb.vc) := by
 have h := (Ac I.hd 2).trans rfl
 rw [CB.va, if_pos hm] at h
 exact h
theorem M11.cT (I : M11 a0 M cb tb tc n m ta S T w) (hn : 0 < n) : w.cell? ⟨M, 3, none⟩ = some (.slice (some ⟨tb, 0, none⟩) n tc) := by
 obtain ⟨rfl, _⟩ := I.ts hn
 exact (Ac I.hd 3).trans rfl
theorem M11.scell (I : M11 a0 M cb tb tc n m ta S T w) {i : Nat} (hi : i < m) : w.cell? ⟨cb.sg, i, none⟩ = some (.int .i64 (S.st i)) := by
 obtain ⟨⟨arr, h1, h2⟩, _⟩ := I.cs (by omega)
 exact (Ac h1 _).trans (h2 i hi)
theorem M11.sfrz (I : M11 a0 M cb tb tc n m ta S T w) (hm : 0 < m) (q : Nat) : w.frozen? ⟨cb.sg, q, none⟩ = false := by
 obtain ⟨⟨arr, h1, _⟩, _⟩ := I.cs hm
 exact Aq h1 q
theorem M11.vcell (I : M11 a0 M cb tb tc n m ta S T w) {i : Nat} (hi : i < m) : w.cell? ⟨cb.vg, i, none⟩ = some (.int .i64 (S.va i)) := by
 obtain ⟨_, arr, h1, h2⟩ := I.cs (by omega)
 exact (Ac h1 _).trans (h2 i hi)
theorem M11.vfrz (I : M11 a0 M cb tb tc n m ta S T w) (hm : 0 < m) (q : Nat) : w.frozen? ⟨cb.vg, q, none⟩ = false := by
 obtain ⟨_, arr, h1, _⟩ := I.cs hm
 exact Aq h1 q
theorem M11.putS (I : M11 a0 M cb tb tc n m ta S T w) {i : Nat} (hi : i < m) (x : Int) : M11 a0 M cb tb tc n m ta (Cg S i x) T (w.setCell ⟨cb.sg, i, none⟩ (.int .i64 x)) := by
 obtain ⟨b1, b2, b3, b4⟩ := I.base
 have hm : 0 < m := by omega
 obtain ⟨e1, e2, e3⟩ := b3 hm
 have hself : cI m cb cb.sg := ⟨hm, .inl rfl⟩
 have ho : ∀ b, b ≠ cb.sg -> (w.setCell ⟨cb.sg, i, none⟩ (.int .i64 x)).heap[b]? = w.heap[b]? := fun b hb => Ab _ _ _ _ hb
 have hlo := I.cLo hself
 refine ⟨(ho M e1).trans I.hd, fun hm => ?_, fun hn => ?_, fun k hk => ?_, I.far, I.base⟩
 ·obtain ⟨⟨a1, h1, k1⟩, a2, h2, k2⟩ := I.cs hm
  exact ⟨⟨_, Am _ _ h1, fun k hk => (by
   show _ = some (Value.int .i64 (upd S.st i x k))
   by_cases e : k = i
   ·subst e
    rw [upd_same]
    exact Array.getElem?_setIfInBounds_self_of_lt (Array.getElem?_eq_some_iff.1 (k1 k hk)).1
   ·rw [upd_ne _ _ e, Array.getElem?_setIfInBounds_ne (by omega)]
    exact k1 k hk)⟩, a2, (ho _ (Ne.symm e3)).trans h2, k2⟩
 ·obtain ⟨e, arr, h1, h2⟩ := I.ts hn
  exact ⟨e, arr, (ho tb (fun e => (b4 hn).2.2 (e ▸ hself))).trans h1, h2⟩
 ·have R := I.rows k hk
  exact R.same (fun b hb _ => ho b (by omega)) fun b hb => ho b (fun e => (I.far k hk b hb).2.1 (e ▸ hself))
theorem M11.putV (I : M11 a0 M cb tb tc n m ta S T w) {i : Nat} (hi : i < m) (x : Int) : M11 a0 M cb tb tc n m ta (Eu S i x) T (w.setCell ⟨cb.vg, i, none⟩ (.int .i64 x)) := by
 obtain ⟨b1, b2, b3, b4⟩ := I.base
 have hm : 0 < m := by omega
 obtain ⟨e1, e2, e3⟩ := b3 hm
 have hself : cI m cb cb.vg := ⟨hm, .inr rfl⟩
 have ho : ∀ b, b ≠ cb.vg -> (w.setCell ⟨cb.vg, i, none⟩ (.int .i64 x)).heap[b]? = w.heap[b]? := fun b hb => Ab _ _ _ _ hb
 have hlo := I.cLo hself
 refine ⟨(ho M e2).trans I.hd, fun hm => ?_, fun hn => ?_, fun k hk => ?_, I.far, I.base⟩
 ·obtain ⟨⟨a1, h1, k1⟩, a2, h2, k2⟩ := I.cs hm
  exact ⟨⟨a1, (ho _ e3).trans h1, k1⟩, _, Am _ _ h2, fun k hk => (by
   show _ = some (Value.int .i64 (upd S.va i x k))
   by_cases e : k = i
   ·subst e
    rw [upd_same]
    exact Array.getElem?_setIfInBounds_self_of_lt (Array.getElem?_eq_some_iff.1 (k2 k hk)).1
   ·rw [upd_ne _ _ e, Array.getElem?_setIfInBounds_ne (by omega)]
    exact k2 k hk)⟩
 ·obtain ⟨e, arr, h1, h2⟩ := I.ts hn
  exact ⟨e, arr, (ho tb (fun e => (b4 hn).2.2 (e ▸ hself))).trans h1, h2⟩
 ·have R := I.rows k hk
  exact R.same (fun b hb _ => ho b (by omega)) fun b hb => ho b (fun e => (I.far k hk b hb).2.1 (e ▸ hself))
theorem M11.put' (I : M11 a0 M cb tb tc n m ta S T w) {i : Nat} (hi : i < n) {j : Nat} {v : Value} {t : R11} (hc : t.cells = (T i).cells.set j v) (hj : j < 9) (w1 : World) (h1 : ∀ b, b < w.heap.size -> ¬ (T i).own b -> w1.heap[b]? = w.heap[b]?)
  (hr : t.Rows a0 w1) (hf : ∀ b, t.own b -> (T i).own b ∨ w.heap.size <= b) : M11 a0 M cb tb tc n m ta S (upd T i t) (w1.setCell ⟨tb, i * 9 + j, none⟩ v) := by
 obtain ⟨b1, b2, b3, b4⟩ := I.base
 obtain ⟨b5, b6, b7⟩ := b4 (by omega)
 obtain ⟨l1, l2, l3⟩ := I.lt
 have l3 := l3 (by omega)
 have hns : ∀ {b}, b = M ∨ cI m cb b ∨ b = tb -> ¬ (T i).own b := fun hb ho => by
  obtain ⟨e1, e2, e3, _⟩ := I.far i hi _ ho
  rcases hb with h | h | h
  ·exact e1 h
  ·exact e2 h
  ·exact e3 h
 have ho : ∀ b, b ≠ tb -> (w1.setCell ⟨tb, i * 9 + j, none⟩ v).heap[b]? = w1.heap[b]? := fun b hb => Ab _ _ _ _ hb
 have hfar : ∀ b, t.own b -> b ≠ M /\ ¬ cI m cb b /\ b ≠ tb /\ ∀ k, k < n -> k ≠ i -> ¬ (T k).own b := fun b hb => by
  rcases hf b hb with h | h
  ·exact I.far i hi b h
  ·exact ⟨by omega, fun hc => by have := l2 b hc; omega, by omega, fun k hk _ hk' => by have := ((I.rows k hk).low hk').2; omega⟩
 refine ⟨(ho M b6).trans ((h1 M l1 (hns (.inl rfl))).trans I.hd), Lj I.cs fun b hb => (ho b (fun e => b7 (e ▸ hb))).trans (h1 b (l2 b hb) (hns (.inr (.inl hb)))), fun hn => ?_, fun k hk => ?_, fun k hk b hb => ?_, I.base⟩
 ·obtain ⟨e, arr, h2, h3, h4, h5, h6⟩ := I.ts hn
  refine ⟨e, _, Am _ _ ((h1 tb l3 (hns (.inr (.inr rfl)))).trans h2), by simpa using h3, h4, h5, fun k hk q x hx => ?_⟩
  by_cases e : k = i
  ·subst e
   rw [upd_same, hc] at hx
   by_cases eq : q = j
   ·subst eq
    rw [List.getElem?_set_self (by simpa [R11.cells] using hj)] at hx
    cases hx
    exact Array.getElem?_setIfInBounds_self_of_lt (by rw [h3]; have : (k + 1) * 9 <= tc * 9 := Nat.mul_le_mul_right 9 (by omega); omega)
   ·rw [List.getElem?_set_ne (by omega)] at hx
    rw [Array.getElem?_setIfInBounds_ne (by omega)]
    exact h6 k hk q x hx
  ·rw [upd_ne _ _ e] at hx
   have hq : q < 9 := by have := (List.getElem?_eq_some_iff.1 hx).1; simpa [R11.cells] using this
   rw [Array.getElem?_setIfInBounds_ne (by
    rcases Nat.lt_or_gt_of_ne e with h | h
    ·have : (k + 1) * 9 <= i * 9 := Nat.mul_le_mul_right 9 h
     omega
    ·have : (i + 1) * 9 <= k * 9 := Nat.mul_le_mul_right 9 h
     omega)]
   exact h6 k hk q x hx
 ·by_cases e : k = i
  ·subst e
   rw [upd_same]
   exact hr.same (fun b hb _ => ho b (by omega)) fun b hb => ho b (hfar b hb).2.2.1
  ·rw [upd_ne _ _ e]
   have R := I.rows k hk
   exact R.same (fun b hb hw => (ho b (by omega)).trans (h1 b hw fun h => by have := ((I.rows i hi).low h).1; omega)) fun b hb => (ho b (I.far k hk b hb).2.2.1).trans (h1 b (R.low hb).2 ((I.far k hk b hb).2.2.2 i hi (Ne.symm e)))
 ·by_cases e : k = i
  ·subst e
   rw [upd_same] at hb
   obtain ⟨e1, e2, e3, e4⟩ := hfar b hb
   refine ⟨e1, e2, e3, fun q hq hqk => ?_⟩
   rw [upd_ne _ _ hqk]
   exact e4 q hq hqk
  ·rw [upd_ne _ _ e] at hb
   obtain ⟨e1, e2, e3, e4⟩ := I.far k hk b hb
   refine ⟨e1, e2, e3, fun q hq hqk => ?_⟩
   by_cases eq : q = i
   ·subst eq
    rw [upd_same]
    exact fun h => (hfar b h).2.2.2 k hk e hb
   ·rw [upd_ne _ _ eq]
    exact e4 q hq hqk
theorem M11.put (I : M11 a0 M cb tb tc n m ta S T w) {i : Nat} (hi : i < n) {j : Nat} {v : Value} {t : R11} (hc : t.cells = (T i).cells.set j v) (hj : j < 9) (h1 : t.ov = (T i).ov /\ t.ops = (T i).ops /\ t.av = (T i).av /\ t.ans = (T i).ans /\ t.sv = (T i).sv /\ t.seen = (T i).seen /\ t.live = (T i).live /\ t.ownA = (T i).ownA) : M11 a0 M cb tb tc n m ta S (upd T i t) (w.setCell ⟨tb, i * 9 + j, none⟩ v) := by
 obtain ⟨e1, e2, e3, e4, e5, e6, e7, e8⟩ := h1
 have R := I.rows i hi
 refine I.put' hi hc hj w (fun _ _ _ => rfl) ⟨?_, ?_, ?_, ?_, ?_⟩ fun b hb => .inl ?_
 ·rw [e1, e2]; exact R.rO
 ·rw [e3, e4, e8]; exact R.rA
 ·rw [e5, e6, e7]; exact R.rS
 ·rw [e5, e7, e8]; exact R.ne
 ·rw [e8]; exact R.lo
 ·unfold R11.own at hb ⊢
  rw [e5, e7, e8] at hb
  exact hb
end
end
end Go.Proofs.Ytcdcnmphjhfbpaa
