/- Part 22. -/
import Derived.Test.YtdcjgmlgmjjogaaJ4
import Derived.Test.YtdcjgmlgmjjogaaJ13
import Derived.Test.YtdcjgmlgmjjogaaJ21
import Derived.Laws.OwnMore
set_option linter.unusedSimpArgs false
set_option linter.unusedVariables false
set_option maxHeartbeats 8000000
set_option maxRecDepth 100000
namespace Go.Relay
section
open Go.Conc Go.RowKit
section
variable {P : Program} {main : Bool} {V : Nat → Option Wait} {Stop : Goroutine → World → Prop} {w : World} {b : Frame} {a : Act} {k : List Item} {cs : List Frame} {ops : Array Oper} {i : Nat} {rest : List Nat} {o : Oper}
theorem Walk.appendAny (s x : Operand) (t : TypeId) (ho : ops[i]? = some o) (hw : Region.wanted o (yielded ops a.tmps) = true) (hk : b.kind ≠ .early) (hop : o.op = .call { callee := .builtin .append, args := #[s, x], argTypes := #[t, t] })
  (base : Nat) (e : TypeId) (ti : TypeInfo) (z : Value) (size bytes : Nat) (ht : P.underlying t = some (.slice e)) (hi : P.info? e = some ti) (hz : ti.zero = some z) (hsize : ti.size = size) (hby : ti.bytes = bytes) (hzs : z.cells.size = size) (hsz : 0 < size)
  (v : Value) (n : Nat) (xs : List Value) (hs : a.eval s = v) (hown : w.ownsRow base e size v n xs)
  (ad : Addr) (m c : Nat) (news : List Value) (hx : a.eval x = .slice (some ad) m c) (hl : news.length = m * size) (hnews : ∀ j u, news[j]? = some u → w.cell? (ad.add j) = some u) (h1 : ∀ u ∈ news, u.oneCell' = true)
  (h63 : n + m ≤ maxLen) (hbytes : (n + m) * bytes ≤ 140737488355328) (hbase : base ≤ w.heap.size) (hap : ∀ g, v.ownBlock = some g → Apart V g)
  (h : ∀ v' w', w'.ownsRow base e size v' (n + m) (xs ++ news) → w.grownBy w' v.ownBlock → (v'.ownBlock = v.ownBlock ∨ v'.ownBlock = some w.heap.size) → Walk P main (DR V) Stop (G (b.at (a.put o.dst v') (.inRegion ops rest :: k)) cs) w') :
  Walk P main (DR V) Stop (G (b.at a (.inRegion ops (i :: rest) :: k)) cs) w := by
 refine Walk.go rfl fun d => goes_oper_k ho hw hk fun K hK => ?_
 obtain ⟨v', w', hr, hown', hg, _, hat⟩ := run_append_own_at (P := P) (w.at d) base t o.type e ti z size bytes ht hi hz hsize hby hzs hsz v n xs hown ad m c news hl hnews h1 h63 hbytes hbase
 refine uponK_append s x t hop hs hx hr (hK _ _ ⟨DR.grown hg hap fun ev hev => ?_, h v' w' hown' ⟨hg.os, hg.tape, hg.output, hg.size, hg.block⟩ hat⟩)
 have hm' := mem_listed hev
 rw [events_append_op s x t hop hs hx] at hm'
 rcases events_append_own (w.at d) base t o.type e ti z size bytes ht hi hz hsize hby v n xs hown ad m c news hl hnews h1 h63 hbytes ev hm' with h' | ⟨ad', h', hb⟩ | ⟨mk, h', hn⟩
 ·exact evR_isRead h'
 ·exact evR_cell h' ((hap _ hb.symm).1 ad' rfl)
 ·rw [h', show mk = .noRoom from hn]; exact evR_noRoom
theorem events_append_owned_none (w : World) (base : Nat) (t ty e : TypeId) (ti : TypeInfo) (size : Nat) (ht : P.underlying t = some (.slice e)) (hi : P.info? e = some ti) (v : Value) (n : Nat) (xs : List Value) (hown : w.ownsRow base e size v n xs) (es : Array Event) :
  (Builtin.append_ #[t, t] ty #[v, .slice none 0 0]).events P w es = es := by
 rcases hown.2 with ⟨rfl, rfl⟩ | ⟨g, cap, cur, rfl, _, _, hnc, _⟩
 ·simp [Builtin.append_, run_underlying ht, sizeOf, typeInfo, hi, Builtin.lenOf, Builtin.firstCells]
 ·simp [Builtin.append_, run_underlying ht, sizeOf, typeInfo, hi, Builtin.lenOf, Builtin.firstCells, hnc, storeCells]
theorem Walk.appendNone (s x : Operand) (t : TypeId) (ho : ops[i]? = some o) (hw : Region.wanted o (yielded ops a.tmps) = true) (hk : b.kind ≠ .early) (hop : o.op = .call { callee := .builtin .append, args := #[s, x], argTypes := #[t, t] })
  (base : Nat) (e : TypeId) (ti : TypeInfo) (size : Nat) (ht : P.underlying t = some (.slice e)) (hi : P.info? e = some ti)
  (v : Value) (n : Nat) (xs : List Value) (hs : a.eval s = v) (hown : w.ownsRow base e size v n xs) (hx : a.eval x = .slice none 0 0)
  (h : Walk P main (DR V) Stop (G (b.at (a.put o.dst v) (.inRegion ops rest :: k)) cs) w) :
  Walk P main (DR V) Stop (G (b.at a (.inRegion ops (i :: rest) :: k)) cs) w := by
 refine Walk.go rfl fun d => goes_oper_k ho hw hk fun K hK => ?_
 have hr := run_append_owned_none (P := P) (w := w.at d) base t o.type e ti size ht hi v n xs hown
 refine uponK_append s x t hop hs hx hr (hK _ _ ⟨⟨fun i v e hK => hK, fun i v o e ho _ => ho, fun ev hev => ?_, OsSame.refl _⟩, h.back d⟩)
 have hm' := mem_listed hev
 rw [events_append_op s x t hop hs hx, events_append_owned_none (w.at d) base t o.type e ti size ht hi v n xs hown] at hm'
 simp at hm'
theorem Walk.appendSl (s x : Operand) (t : TypeId) (ho : ops[i]? = some o) (hw : Region.wanted o (yielded ops a.tmps) = true) (hk : b.kind ≠ .early) (hop : o.op = .call { callee := .builtin .append, args := #[s, x], argTypes := #[t, t] })
  (base : Nat) (e : TypeId) (ti : TypeInfo) (z : Value) (size bytes : Nat) (ht : P.underlying t = some (.slice e)) (hi : P.info? e = some ti) (hz : ti.zero = some z) (hsize : ti.size = size) (hby : ti.bytes = bytes) (hzs : z.cells.size = size) (hsz : 0 < size)
  (v : Value) (n : Nat) (xs : List Value) (hs : a.eval s = v) (hown : w.ownsRow base e size v n xs)
  (xa : Option Addr) (m c : Nat) (news : List Value) (hx : a.eval x = .slice xa m c) (hnil : xa = none → m = 0 ∧ c = 0) (hl : news.length = m * size) (hnews : ∀ ad, xa = some ad → ∀ j u, news[j]? = some u → w.cell? (ad.add j) = some u) (h1 : ∀ u ∈ news, u.oneCell' = true)
  (h63 : n + m ≤ maxLen) (hbytes : (n + m) * bytes ≤ 140737488355328) (hbase : base ≤ w.heap.size) (hap : ∀ g, v.ownBlock = some g → Apart V g)
  (h : ∀ v' w', w'.ownsRow base e size v' (n + m) (xs ++ news) → w.grownBy w' v.ownBlock → (v'.ownBlock = v.ownBlock ∨ v'.ownBlock = some w.heap.size) → Walk P main (DR V) Stop (G (b.at (a.put o.dst v') (.inRegion ops rest :: k)) cs) w') :
  Walk P main (DR V) Stop (G (b.at a (.inRegion ops (i :: rest) :: k)) cs) w := by
 cases xa with
 | none =>
  obtain ⟨rfl, rfl⟩ := hnil rfl
  have hn : news = [] := List.eq_nil_of_length_eq_zero (by simpa using hl)
  subst hn
  refine Walk.appendNone s x t ho hw hk hop base e ti size ht hi v n xs hs hown hx (h v w ?_ ⟨rfl, rfl, rfl, Nat.le_refl _, fun _ _ _ => rfl⟩ (.inl rfl))
  rw [Nat.add_zero, List.append_nil]; exact hown
 | some ad => exact Walk.appendAny s x t ho hw hk hop base e ti z size bytes ht hi hz hsize hby hzs hsz v n xs hs hown ad m c news hx hl (hnews ad rfl) h1 h63 hbytes hbase hap h
theorem row_shape {w : World} {base : Nat} {e : TypeId} {size : Nat} {v : Value} {n : Nat} {xs : List Value} (h : w.ownsRow base e size v n xs) : ∃ a cap, v = .slice a n cap := by
 rcases h.2 with ⟨rfl, rfl⟩ | ⟨g, cap, cur, rfl, _⟩
 ·exact ⟨none, 0, rfl⟩
 ·exact ⟨_, _, rfl⟩
end
end
end Go.Relay
namespace Go.Proofs.Ytdcjgmlgmjjogaa
open Go.Conc Go.RowKit Go.Relay
open Go.ConcN (upd upd_ne upd_same)
section
theorem ap0 (b : Nat) : Apart (fun _ => none) b := ⟨fun _ _ _ _ h => (by cases h), fun _ _ h => (by cases h)⟩
theorem fr0 (b i : Nat) : Free (fun _ => none) ⟨b, i, none⟩ := (ap0 b).1 _ rfl
structure Chg (S : Nat → Prop) (w w' : World) : Prop where
 size : w.heap.size ≤ w'.heap.size
 same : ∀ b, b < w.heap.size → ¬ S b → w'.heap[b]? = w.heap[b]?
section
variable {S S' : Nat → Prop} {w w' w1 w2 : World}
theorem Chg.refl : Chg S w w := ⟨Nat.le_refl _, fun _ _ _ => rfl⟩
theorem Chg.at (h : Chg S w w') (d : Nat) : Chg S w (w'.at d) := ⟨h.size, h.same⟩
theorem Chg.mono (h : Chg S w w') (hS : ∀ b, b < w.heap.size → S b → S' b) : Chg S' w w' := ⟨h.size, fun b hb hn => h.same b hb fun e => hn (hS b hb e)⟩
theorem Chg.trans (h1 : Chg S w w1) (h2 : Chg S' w1 w2) (hS : ∀ b, b < w.heap.size → S' b → S b) : Chg S w w2 :=
 ⟨Nat.le_trans h1.size h2.size, fun b hb hn => (h2.same b (Nat.lt_of_lt_of_le hb h1.size) fun e => hn (hS b hb e)).trans (h1.same b hb hn)⟩
theorem Chg.set {b i : Nat} {v : Value} (hb : S b) : Chg S w (w.setCell ⟨b, i, none⟩ v) := ⟨Nat.le_of_eq (size_set ..).symm, fun c _ hn => heap_set_other _ _ _ _ (fun e => hn (by rw [e]; exact hb))⟩
theorem Chg.alloc {o : Obj} : Chg S w (w.alloc o) := ⟨by simp, fun b hb _ => heap_new_lt _ _ hb⟩
theorem Chg.grown {row : Option Nat} (h : w.grownBy w' row) (hr : ∀ g, row = some g → S g) : Chg S w w' := ⟨h.size, fun b hb hn => h.block b hb fun e => hn (hr b e.symm)⟩
end
theorem row_at {w : World} {base : Nat} {e : TypeId} {size m tc n : Nat} {ta : Option Addr} {xs : List Value} (h : w.ownsRow base e size (.slice ta m tc) n xs) {j : Nat} {x : Value} (hx : xs[j]? = some x) : ∃ g, ta = some ⟨g, 0, none⟩ ∧ base ≤ g ∧ g < w.heap.size ∧ w.cell? ⟨g, j, none⟩ = some x := by
 obtain ⟨hl, h⟩ := h
 have hj := (List.getElem?_eq_some_iff.1 hx).1
 rcases h with ⟨_, rfl⟩ | ⟨g, cap, cur, e, h1, h2, h3, _, h5, h6⟩
 ·omega
 ·injection e with e1 e2 e3
  refine ⟨g, e1, h1, (Array.getElem?_eq_some_iff.1 h2).1, (cell_of h2 j).trans ?_⟩
  rw [← h6, List.getElem?_take, if_pos (by omega)] at hx
  simpa using hx
def thA (o : Value) (I PC : Int) (N : Nat → Int) (l a : Value) (e : Bool) : Array Value := #[o, .int .i64 I, .int .i64 PC, .int .i64 (N 0), .int .i64 (N 1), .int .i64 (N 2), .int .i64 (N 3), .int .i64 (N 4), .int .i64 (N 5), .int .i64 (N 6), .int .i64 (N 7), l, a, .bool e]
section
variable {o l a : Value} {I PC : Int} {N : Nat → Int} {e : Bool}
theorem thA_I (x : Int) : (thA o I PC N l a e).setIfInBounds 1 (.int .i64 x) = thA o x PC N l a e := by simp [thA]
theorem thA_PC (x : Int) : (thA o I PC N l a e).setIfInBounds 2 (.int .i64 x) = thA o I x N l a e := by simp [thA]
theorem thA_0 (x : Int) : (thA o I PC N l a e).setIfInBounds 3 (.int .i64 x) = thA o I PC (upd N 0 x) l a e := by simp [thA, upd]
theorem thA_1 (x : Int) : (thA o I PC N l a e).setIfInBounds 4 (.int .i64 x) = thA o I PC (upd N 1 x) l a e := by simp [thA, upd]
theorem thA_L (x : Value) : (thA o I PC N l a e).setIfInBounds 11 x = thA o I PC N x a e := by simp [thA]
theorem thA_A (x : Value) : (thA o I PC N l a e).setIfInBounds 12 x = thA o I PC N l x e := by simp [thA]
theorem thA_E (x : Bool) : (thA o I PC N l a e).setIfInBounds 13 (.bool x) = thA o I PC N l a x := by simp [thA]
theorem thA_O (x : Value) : (thA o I PC N l a e).setIfInBounds 0 x = thA x I PC N l a e := by simp [thA]
end
section
variable {o l a : Value} {I PC : Int} {N : Nat → Int} {e : Bool} {w : World} {b : Nat} {ty : TypeId}
theorem tcO (h : w.heap[b]? = some (.cells (thA o I PC N l a e) ty)) : w.cell? ⟨b, 0, none⟩ = some (o) := (cell_of h 0).trans rfl
theorem tcI (h : w.heap[b]? = some (.cells (thA o I PC N l a e) ty)) : w.cell? ⟨b, 1, none⟩ = some (.int .i64 I) := (cell_of h 1).trans rfl
theorem tcP (h : w.heap[b]? = some (.cells (thA o I PC N l a e) ty)) : w.cell? ⟨b, 2, none⟩ = some (.int .i64 PC) := (cell_of h 2).trans rfl
theorem tc0 (h : w.heap[b]? = some (.cells (thA o I PC N l a e) ty)) : w.cell? ⟨b, 3, none⟩ = some (.int .i64 (N 0)) := (cell_of h 3).trans rfl
theorem tc1 (h : w.heap[b]? = some (.cells (thA o I PC N l a e) ty)) : w.cell? ⟨b, 4, none⟩ = some (.int .i64 (N 1)) := (cell_of h 4).trans rfl
theorem tc2 (h : w.heap[b]? = some (.cells (thA o I PC N l a e) ty)) : w.cell? ⟨b, 5, none⟩ = some (.int .i64 (N 2)) := (cell_of h 5).trans rfl
theorem tcL (h : w.heap[b]? = some (.cells (thA o I PC N l a e) ty)) : w.cell? ⟨b, 11, none⟩ = some (l) := (cell_of h 11).trans rfl
theorem tcA (h : w.heap[b]? = some (.cells (thA o I PC N l a e) ty)) : w.cell? ⟨b, 12, none⟩ = some (a) := (cell_of h 12).trans rfl
theorem tcE (h : w.heap[b]? = some (.cells (thA o I PC N l a e) ty)) : w.cell? ⟨b, 13, none⟩ = some (.bool e) := (cell_of h 13).trans rfl
end
def opRow (l : List OpV) : List Value := l.flatMap fun o => [.int .i64 o.k, .int .i64 o.a, .int .i64 o.b, .int .i64 o.c]
theorem opRow_snoc (l : List OpV) (o : OpV) : opRow (l ++ [o]) = opRow l ++ [.int .i64 o.k, .int .i64 o.a, .int .i64 o.b, .int .i64 o.c] := by simp [opRow]
theorem opRow_get : ∀ (l : List OpV) (k j : Nat) (o : OpV) (v : Value), l[k]? = some o → ([.int .i64 o.k, .int .i64 o.a, .int .i64 o.b, .int .i64 o.c] : List Value)[j]? = some v → (opRow l)[k * 4 + j]? = some v
 | o' :: l, 0, j, o, v, hk, hv => by
  simp only [List.getElem?_cons_zero, Option.some.injEq] at hk
  subst hk
  have hj := (List.getElem?_eq_some_iff.1 hv).1
  have : opRow (o' :: l) = [.int .i64 o'.k, .int .i64 o'.a, .int .i64 o'.b, .int .i64 o'.c] ++ opRow l := by simp [opRow]
  rw [this, Nat.zero_mul, Nat.zero_add, List.getElem?_append_left hj]
  exact hv
 | o' :: l, k + 1, j, o, v, hk, hv => by
  have : opRow (o' :: l) = [.int .i64 o'.k, .int .i64 o'.a, .int .i64 o'.b, .int .i64 o'.c] ++ opRow l := by simp [opRow]
  rw [this, List.getElem?_append_right (by simp; omega)]
  have h := opRow_get l k j o v (by simpa using hk) hv
  rw [← h]
  congr 1
  simp
  omega
structure ThX (S : Nat → Prop) (b : Nat) (ops : List OpV) (oa : Option Addr) (oc : Nat) (I PC : Int) (N : Nat → Int) (ans : List Ans) (aa : Option Addr) (ac : Nat) (e : Bool) (w : World) : Prop where
 blk : w.heap[b]? = some (.cells (thA (.slice oa ops.length oc) I PC N (.slice none 0 0) (.slice aa ans.length ac) e) 158)
 rO : w.ownsRow 0 34 4 (.slice oa ops.length oc) ops.length (opRow ops)
 rA : w.ownsRow 0 51 3 (.slice aa ans.length ac) ans.length (ansRow ans)
 sb : S b
 so : ∀ g, (Value.slice oa ops.length oc).ownBlock = some g → S g ∧ g ≠ b
 sa : ∀ g, (Value.slice aa ans.length ac).ownBlock = some g → S g ∧ g ≠ b ∧ (Value.slice oa ops.length oc).ownBlock ≠ some g
section
variable {S S' : Nat → Prop} {b : Nat} {ops : List OpV} {oa : Option Addr} {oc : Nat} {I PC : Int} {N : Nat → Int} {ans : List Ans} {aa : Option Addr} {ac : Nat} {e : Bool} {w w' : World}
theorem ThX.lt (X : ThX S b ops oa oc I PC N ans aa ac e w) : b < w.heap.size := (Array.getElem?_eq_some_iff.1 X.blk).1
theorem ThX.same (X : ThX S b ops oa oc I PC N ans aa ac e w) (h : ∀ g, g < w.heap.size → S g → w'.heap[g]? = w.heap[g]?) : ThX S b ops oa oc I PC N ans aa ac e w' :=
 ⟨(h b X.lt X.sb).trans X.blk, row_same X.rO fun g hg => h g (X.rO.lt g hg).2 (X.so g hg).1, row_same X.rA fun g hg => h g (X.rA.lt g hg).2 (X.sa g hg).1, X.sb, X.so, X.sa⟩
theorem ThX.at (X : ThX S b ops oa oc I PC N ans aa ac e w) (d : Nat) : ThX S b ops oa oc I PC N ans aa ac e (w.at d) := X.same fun _ _ _ => rfl
theorem ThX.mono (X : ThX S b ops oa oc I PC N ans aa ac e w) (h : ∀ g, S g → S' g) : ThX S' b ops oa oc I PC N ans aa ac e w := ⟨X.blk, X.rO, X.rA, h _ X.sb, fun g hg => ⟨h _ (X.so g hg).1, (X.so g hg).2⟩, fun g hg => ⟨h _ (X.sa g hg).1, (X.sa g hg).2⟩⟩
theorem ThX.put {I' PC' : Int} {N' : Nat → Int} {e' : Bool} (X : ThX S b ops oa oc I PC N ans aa ac e w) (hb : w'.heap[b]? = some (.cells (thA (.slice oa ops.length oc) I' PC' N' (.slice none 0 0) (.slice aa ans.length ac) e') 158)) (h : ∀ g, g ≠ b → g < w.heap.size → S g → w'.heap[g]? = w.heap[g]?) : ThX S b ops oa oc I' PC' N' ans aa ac e' w' :=
 ⟨hb, row_same X.rO fun g hg => h g (X.so g hg).2 (X.rO.lt g hg).2 (X.so g hg).1, row_same X.rA fun g hg => h g (X.sa g hg).2.1 (X.rA.lt g hg).2 (X.sa g hg).1, X.sb, X.so, X.sa⟩
end
noncomputable def reg60_0 := rg Try.f60.body [0]
noncomputable def reg60_1 := rg Try.f60.body [1, 0]
theorem size60_1 : reg60_1.size = 11 := by kernel_rfl
theorem z60 : List.range reg60_0.size = [0] ∧ List.range reg60_1.size = [0, 1, 2, 3, 4, 5, 6, 7, 8, 9, 10] := by refine ⟨?_, ?_⟩ <;> kernel_rfl
theorem code60_is : Try.f60.body = some (.seq (.region 0 reg60_0 false) (.seq (.region 1 reg60_1 true) (.ret))) := by kernel_rfl
section
variable {main : Bool} {S : Nat → Prop} {b : Nat} {ops : List OpV} {oa : Option Addr} {oc k : Nat} {I PC : Int} {N : Nat → Int} {ans : List Ans} {aa : Option Addr} {ac : Nat} {e : Bool}
theorem huOp45 : ∃ fs, Try.prog.underlying 34 = some (.struct fs) := structT 34 (by kernel_rfl)
noncomputable def opW (w : World) (o : OpV) : World := (w.alloc (.cells #[.int .i64 0, .int .i64 0, .int .i64 0, .int .i64 0] 34)).setRow w.heap.size #[.int .i64 o.k, .int .i64 o.a, .int .i64 o.b, .int .i64 o.c]
theorem opW_chg (w : World) (o : OpV) : Chg (fun _ => False) w (opW w o) := ⟨by unfold opW; rw [setRow_size]; simp, fun x hx _ => by unfold opW; rw [setRow_other _ _ (by omega)]; exact heap_new_lt _ _ hx⟩
theorem op_v (o : OpV) (w : World) (X : ThX S b ops oa oc (k : Nat) PC N ans aa ac e w) (hk : ops[k]? = some o) (hl : ops.length ≤ 65536) :
  CallW Try.prog main (fun _ => none) 60 #[.pointer (some ⟨b, 0, none⟩)] w (fun v w' => v = opVal o ∧ ∃ d, w' = (opW w o).at d) := by
 intro c cs
 obtain ⟨fsO, huO⟩ := huOp45
 have hkl := (List.getElem?_eq_some_iff.1 hk).1
 obtain ⟨g, rfl, _, hgl, hg0⟩ := row_at X.rO (opRow_get ops k 0 o _ hk rfl)
 have hcell : ∀ (j : Nat) (v : Value), ([.int .i64 o.k, .int .i64 o.a, .int .i64 o.b, .int .i64 o.c] : List Value)[j]? = some v → w.cell? ⟨g, k * 4 + j, none⟩ = some v := fun j v hv => by
  obtain ⟨g', e', _, _, h⟩ := row_at X.rO (opRow_get ops k j o v hk hv)
  injection e' with e'
  injection e' with e' _
  subst e'
  exact h
 have hb0 : w.heap[b]? = some (.cells (thA (.slice (some ⟨g, 0, none⟩) ops.length oc) k PC N (.slice none 0 0) (.slice aa ans.length ac) e) 158) := X.blk
 have hbl := X.lt
 rw [enter_at _ Try.func60 code60_is]
 simp only [Try.ntmps60, ez, Nat.reduceAdd, Nat.reduceSub]
 repeat (first | refine Walk.cx ?_ | (refine Walk.cReg ?_; simp only [z60]) | (refine Walk.oq ?_; try walk_nrm) | (refine Walk.un ?_; walk_nrm))
 (refine Walk.oa ?_; try walk_nrm)
 have s1 : (w.alloc (.cells #[.int .i64 0, .int .i64 0, .int .i64 0, .int .i64 0] 34)).heap.size = w.heap.size + 1 := by simp
 have o1 : ∀ b, b < w.heap.size → (w.alloc (.cells #[.int .i64 0, .int .i64 0, .int .i64 0, .int .i64 0] 34)).heap[b]? = w.heap[b]? := fun b hb => heap_new_lt _ _ hb
 have d1 := heap_alloc_new w (.cells #[.int .i64 0, .int .i64 0, .int .i64 0, .int .i64 0] 34)
 have hcell1 : ∀ (j : Nat) (v : Value), ([.int .i64 o.k, .int .i64 o.a, .int .i64 o.b, .int .i64 o.c] : List Value)[j]? = some v → (w.alloc (.cells #[.int .i64 0, .int .i64 0, .int .i64 0, .int .i64 0] 34)).cell? ⟨g, k * 4 + j, none⟩ = some v := fun j v hv => by
  exact cell_alloc w _ (hcell j v hv)
 have hb1 := (o1 b hbl).trans hb0
 generalize hN : w.heap.size = T at *
 generalize hw1 : w.alloc (.cells #[.int .i64 0, .int .i64 0, .int .i64 0, .int .i64 0] 34) = w1 at *
 have c0 := tcO hb1
 have c1 := tcI hb1
 have hk0 : (0 : Int) ≤ (k : Int) := by omega
 have hk1 : (k : Int) < (ops.length : Int) := by omega
 repeat (first | refine Walk.cx ?_ | (refine Walk.cReg ?_; simp only [z60]) | (refine Walk.oq ?_; try walk_nrm) | (refine Walk.un ?_; walk_nrm))
 (refine Walk.drawnL (by kernel_rfl) size60_1 (by kernel_rfl) (by kernel_rfl) (by kernel_rfl) (by decide) ?_; simp only [List.range, List.range.loop]; repeat (first | (refine Cm.oq ?_) | (refine Cm.unw (ho_of (by conv => lhs; whnf) (by kernel_rfl)) (by rfl) ?_; walk_nrm)))
 refine Cm.loadS 34 (.tmp 11) (ho_of (by conv => lhs; whnf) (by kernel_rfl)) (by rfl) rfl g (k * 4) [.int .i64 o.k, .int .i64 o.a, .int .i64 o.b, .int .i64 o.c] (.struct fsO) rfl (fun x hx => hx ▸ hcell1) huO rfl (by kernel_rfl) ?_
 walk_nrm
 refine Cm.done ?_
 intro rest hr
 refine Walk.storeS 34 (.tmp 2) (.tmp 12) (ho_of (by conv => lhs; whnf) (by kernel_rfl)) (by rfl) (by decide) rfl T #[.int .i64 o.k, .int .i64 o.a, .int .i64 o.b, .int .i64 o.c] _ 34 rfl rfl d1 (by kernel_rfl) (by rfl) (by simp [Value.oneCell']) (ap0 _) ?_
 have d2 := setRow_self (cells := #[.int .i64 o.k, .int .i64 o.a, .int .i64 o.b, .int .i64 o.c]) d1
 have o2 : ∀ x, x < T → (w1.setRow T #[.int .i64 o.k, .int .i64 o.a, .int .i64 o.b, .int .i64 o.c]).heap[x]? = w.heap[x]? := fun x hx => (setRow_other _ _ (by omega)).trans (o1 x hx)
 have s2 := setRow_size w1 T #[.int .i64 o.k, .int .i64 o.a, .int .i64 o.b, .int .i64 o.c]
 refine hr _ _ ?_
 generalize hw2 : w1.setRow T #[.int .i64 o.k, .int .i64 o.a, .int .i64 o.b, .int .i64 o.c] = w2 at *
 walk_nrm
 repeat (first | refine Walk.cx ?_ | (refine Walk.cReg ?_; simp only [z60]) | (refine Walk.oq ?_; try walk_nrm) | (refine Walk.un ?_; walk_nrm))
 refine Walk.onCell (T := T) rfl rfl rfl Try.func60 rfl (by rfl) d2 (by kernel_rfl) (by kernel_rfl) (.stop fun d => ⟨_, ⟨rfl, d, by rw [← hw2, ← hw1, ← hN]; rfl⟩, rfl⟩)
theorem op_w (o : OpV) (w : World) (X : ThX S b ops oa oc (k : Nat) PC N ans aa ac e w) (hk : ops[k]? = some o) (hl : ops.length ≤ 65536) :
  CallW Try.prog main (fun _ => none) 60 #[.pointer (some ⟨b, 0, none⟩)] w (fun v w' => v = opVal o ∧ Chg (fun _ => False) w w') := fun c cs => (op_v o w X hk hl c cs).mono fun g w' ⟨v, ⟨h1, d, h2⟩, h3⟩ => ⟨v, ⟨h1, by rw [h2]; exact (opW_chg w o).at d⟩, h3⟩
end
end
section
noncomputable def reg61_0 := rg Try.f61.body [0]
noncomputable def reg61_1 := rg Try.f61.body [1, 0]
theorem size61_1 : reg61_1.size = 11 := by kernel_rfl
noncomputable def reg61_2 := rg Try.f61.body [1, 1, 0]
noncomputable def reg61_3 := rg Try.f61.body [1, 1, 1, 0]
noncomputable def reg61_4 := rg Try.f61.body [1, 1, 1, 1]
theorem z61 : List.range reg61_0.size = [0] ∧ List.range reg61_1.size = [0, 1, 2, 3, 4, 5, 6, 7, 8, 9, 10] ∧ List.range reg61_2.size = [0, 1, 2, 3, 4, 5, 6, 7, 8] ∧ List.range reg61_3.size = [0, 1, 2, 3] ∧ List.range reg61_4.size = [0, 1, 2, 3] := by refine ⟨?_, ?_, ?_, ?_, ?_⟩ <;> kernel_rfl
theorem code61_is : Try.f61.body = some (.seq (.region 0 reg61_0 false) (.seq (.region 1 reg61_1 true) (.seq (.region 2 reg61_2 false) (.seq (.region 3 reg61_3 false) (.region 4 reg61_4 false))))) := by kernel_rfl
structure AppR (w1 : World) (a : Ans) (hd : Value) (ans : List Ans) (gb gcap : Nat) (w3 : World) : Prop where
 own : w3.ownsRow 0 51 3 (.slice (some ⟨gb, 0, none⟩) (ans.length + 1) gcap) (ans.length + 1) (ansRow ans ++ [.bool a.1, .int .i64 a.2, .slice none 0 0])
 grown : (ansA w1 a).grownBy w3 hd.ownBlock
 hat : hd.ownBlock = some gb ∨ gb = (ansA w1 a).heap.size
 hlt : gb < w3.heap.size
section
variable {main : Bool} {S : Nat → Prop} {b : Nat} {ops : List OpV} {oa : Option Addr} {oc k : Nat} {PC : Int} {N : Nat → Int} {ans : List Ans} {aa : Option Addr} {ac : Nat} {e : Bool}
theorem end_w (a : Ans) (w : World) (X : ThX S b ops oa oc (k : Nat) PC N ans aa ac e w) (hk : k ≤ 65536) (hl : ans.length ≤ 65536) :
  CallW Try.prog main (fun _ => none) 61 #[.pointer (some ⟨b, 0, none⟩), ansVal a] w (fun v w' => v = .tuple #[] ∧ (∃ aa' ac', ThX (fun g => S g ∨ w.heap.size ≤ g) b ops oa oc ((k + 1 : Nat) : Int) 0 N (ans ++ [a]) aa' ac' e w') ∧ Chg S w w') := by
 intro c cs
 obtain ⟨fsA, huA⟩ := structT 51 (by kernel_rfl)
 obtain ⟨a1, a2⟩ := a
 simp only [ansVal]
 have hbl := X.lt
 have hw1 : IntKind.wrap .i64 ((k : Int) + 1) = (k : Int) + 1 := by rw [IntKind.wrap_i64]; omega
 rw [enter_at _ Try.func61 code61_is]
 simp only [Try.ntmps61, ez, Nat.reduceAdd, Nat.reduceSub]
 repeat (first | refine Walk.cx ?_ | (refine Walk.cReg ?_; simp only [z61]) | (refine Walk.oq ?_; try walk_nrm) | (refine Walk.un ?_; walk_nrm))
 (refine Walk.oa ?_; try walk_nrm)
 have s0 : (w.alloc (.cells #[.bool a1, .int .i64 a2, .slice none 0 0] 51)).heap.size = w.heap.size + 1 := by simp
 have o0 : ∀ x, x < w.heap.size → (w.alloc (.cells #[.bool a1, .int .i64 a2, .slice none 0 0] 51)).heap[x]? = w.heap[x]? := fun x hx => heap_new_lt _ _ hx
 have d0 := heap_alloc_new w (.cells #[.bool a1, .int .i64 a2, .slice none 0 0] 51)
 generalize hT : w.heap.size = T at *
 generalize hw0 : w.alloc (.cells #[.bool a1, .int .i64 a2, .slice none 0 0] 51) = w0 at *
 replace s0 : T + 1 ≤ w0.heap.size ∧ w0.heap.size ≤ T + 1 := by omega
 have X0 : ThX S b ops oa oc (k : Nat) PC N ans aa ac e w0 := X.same fun g hg _ => o0 g (by omega)
 have hb0 := X0.blk
 have c12 : w0.cell? ⟨b, 12, none⟩ = some (.slice aa ans.length ac) := (cell_of hb0 12).trans rfl
 have hsz1 : w0.heap.size + 1 ≤ (ansA w0 (a1, a2)).heap.size ∧ (ansA w0 (a1, a2)).heap.size ≤ w0.heap.size + 1 := by simp [ansA]
 have hO1 : ∀ x, x < w0.heap.size → (ansA w0 (a1, a2)).heap[x]? = w0.heap[x]? := fun x hx => heap_new_lt _ _ hx
 have hown' : (ansA w0 (a1, a2)).ownsRow 0 51 3 (.slice aa ans.length ac) ans.length (ansRow ans) := row_same X0.rA fun g hg => hO1 g (X0.rA.lt g hg).2
 have hnews : ∀ (j : Nat) (u : Value), ([.bool a1, .int .i64 a2, .slice none 0 0] : List Value)[j]? = some u → (ansA w0 (a1, a2)).cell? ((⟨w0.heap.size, 0, none⟩ : Addr).add j) = some u := fun j u hu => by
  rw [add_none, Nat.zero_add]
  refine (cell_of (heap_alloc_new _ _) j).trans ?_
  simpa using hu
 have hnb : ∀ g, (Value.slice aa ans.length ac).ownBlock = some g → g ≠ b := fun g hg => (X0.sa g hg).2.1
 have hnT : ∀ g, (Value.slice aa ans.length ac).ownBlock = some g → g ≠ T := fun g hg => by have := (X.rA.lt g hg).2; omega
 have hfar : ∀ (x : Nat) (w2 : World), x < w0.heap.size → (∀ g, (Value.slice aa ans.length ac).ownBlock = some g → g ≠ x) → (ansA w0 (a1, a2)).grownBy w2 (Value.slice aa ans.length ac).ownBlock → w2.heap[x]? = w0.heap[x]? := fun x w2 hx hne hg => (hg.block x (by omega) (fun e => hne x e.symm rfl)).trans (hO1 x hx)
 have zT : ∀ x : World, x.heap[T]? = w0.heap[T]? → ∀ (j : Nat) (v : Value), ([.bool a1, .int .i64 a2, .slice none 0 0] : List Value)[j]? = some v → x.cell? ⟨T, 0 + j, none⟩ = some v := fun x hx j v hv => by
  rw [Nat.zero_add, cell_of (hx.trans d0)]
  simpa using hv
 repeat (first | refine Walk.cx ?_ | (refine Walk.cReg ?_; simp only [z61]) | (refine Walk.oq ?_; try walk_nrm) | (refine Walk.un ?_; walk_nrm))
 refine Walk.drawnT (iA := 6) (iB := 7) (w1 := ansA w0 (a1, a2)) (vA := .slice (some ⟨w0.heap.size, 0, none⟩) 1 1) (Z := fun x => x.cell? ⟨b, 12, none⟩ = some (.slice aa ans.length ac) ∧ x.heap[T]? = w0.heap[T]?)
  (fun v w2 => ∃ g cap, v = .slice (some ⟨g, 0, none⟩) (ans.length + 1) cap ∧ AppR w0 (a1, a2) (.slice aa ans.length ac) ans g cap w2) (by kernel_rfl) size61_1 (by kernel_rfl) (by kernel_rfl) (by kernel_rfl) (by kernel_rfl) (by decide) (ho_of (by conv => lhs; whnf) (by kernel_rfl)) (ho_of (by conv => lhs; whnf) (by kernel_rfl)) ⟨c12, rfl⟩ ⟨cell_alloc _ _ c12, hO1 T (by omega)⟩ ?_ ?_
 ·rintro v w2 ⟨g, cap, _, hA⟩
  exact ⟨(World.cell?_of_block (a := ⟨b, 12, none⟩) (hfar b w2 (by omega) hnb hA.grown)).trans c12, hfar T w2 (by omega) hnT hA.grown⟩
 rw [show List.filter (quietQ 6 7) (List.range 10) = [0, 1, 2, 3, 4, 5, 8, 9] from by decide]
 repeat (first | (refine Cm.opqZ (ho_of (by conv => lhs; whnf) (by kernel_rfl)) (by rfl) (fun wz hz dd e he => ?_) ?_; (· (obtain ⟨z1, z2⟩ := hz; simp [go_sem, *] at he; try (subst he; exact evR_read _ _))); apply Exists.intro; apply And.intro; (· (intro wz hz dd K hK; obtain ⟨z1, z2⟩ := hz; go_simp; exact hK))) | (refine Cm.unw (ho_of (by conv => lhs; whnf) (by kernel_rfl)) (by rfl) ?_; walk_nrm))
 refine Cm.loadS 51 (.tmp 3) (ho_of (by conv => lhs; whnf) (by kernel_rfl)) (by rfl) rfl T 0 [.bool a1, .int .i64 a2, .slice none 0 0] (.struct fsA) rfl (fun x hx => zT x hx.2) huA rfl (by kernel_rfl) ?_
 walk_nrm
 repeat (first | (refine Cm.opqZ (ho_of (by conv => lhs; whnf) (by kernel_rfl)) (by rfl) (fun wz hz dd e he => ?_) ?_; (· (obtain ⟨z1, z2⟩ := hz; simp [go_sem, *] at he; try (subst he; exact evR_read _ _))); apply Exists.intro; apply And.intro; (· (intro wz hz dd K hK; obtain ⟨z1, z2⟩ := hz; go_simp; exact hK))) | (refine Cm.unw (ho_of (by conv => lhs; whnf) (by kernel_rfl)) (by rfl) ?_; walk_nrm))
 refine Cm.done ⟨?_, ?_, ?_⟩
 ·intro x hev rest hr'
  have e1 : x.tmps[9]?.getD undef = .agg #[.bool a1, .int .i64 a2, .slice none 0 0] := by simpa [Act.eval] using hev (.tmp 9) (by simp [Op.operands])
  clear hev
  (refine Walk.oa ?_; try walk_nrm)
  exact hr' _ _ ⟨rfl, _, rfl⟩
 ·intro x hev rest hr'
  have e1 : x.eval (.tmp 8) = .slice aa ans.length ac := by simpa [Act.eval] using hev (.tmp 8) (by simp [Op.operands, Call.operands])
  have e2 : x.eval (.tmp 10) = .slice (some ⟨w0.heap.size, 0, none⟩) 1 1 := by simpa [Act.eval] using hev (.tmp 10) (by simp [Op.operands, Call.operands])
  have hiA := Option.some_get (show (Try.prog.info? 51).isSome = true by kernel_rfl)
  refine Walk.append (.tmp 8) (.tmp 10) 49 (ho_of (by conv => lhs; whnf) (by kernel_rfl)) (by rfl) (by decide) rfl 0 51 _ (.agg #[.bool false, .int .i64 0, .slice none 0 0]) 3 40 (by kernel_rfl) hiA.symm (by rfl) (by rfl) (by rfl) (by rfl) (by decide) (.slice aa ans.length ac) ans.length (ansRow ans) e1 hown' ⟨w0.heap.size, 0, none⟩ 1 1 [.bool a1, .int .i64 a2, .slice none 0 0] e2 (by rfl) hnews (by simp [Value.oneCell']) (by decide) (by simp [maxLen]; omega) (by omega) (Nat.zero_le _) (fun g _ => ap0 g) (fun g cap w3 hown hg hat hlt => ?_)
  exact hr' _ _ ⟨_, w3, ⟨g, cap, rfl, hown, hg, hat, hlt⟩, rfl, w3.drawn, rfl⟩
 rintro v w2 ⟨g, cap, rfl, hA⟩ rest hr'
 have hb2 : w2.heap[b]? = w0.heap[b]? := hfar b w2 (by omega) hnb hA.grown
 have h12 : w2.cell? ⟨b, 12, none⟩ = some (.slice aa ans.length ac) := (World.cell?_of_block (a := ⟨b, 12, none⟩) hb2).trans c12
 have z12 : w2.frozen? ⟨b, 12, none⟩ = false := frozen_of (hb2.trans hb0) 12
 have f12 : Free (fun _ => none) ⟨b, 12, none⟩ := fr0 b 12
 (refine Walk.os f12 h12 ?_; try walk_nrm)
 refine hr' _ _ ?_
 have hgs := hA.grown.size
 have hgb : g ≠ b := fun e => by
  rcases hA.hat with h | h
  ·exact hnb g h e
  ·omega
 have hb3 : (w2.setCell ⟨b, 12, none⟩ (.slice (some ⟨g, 0, none⟩) (ans.length + 1) cap)).heap[b]? = some (.cells (thA (.slice oa ops.length oc) k PC N (.slice none 0 0) (.slice (some ⟨g, 0, none⟩) (ans.length + 1) cap) e) 158) := by
  rw [heap_set_self _ _ (hb2.trans hb0), thA_A]
 have hX3 : ThX (fun g => S g ∨ T ≤ g) b ops oa oc (k : Nat) PC N (ans ++ [(a1, a2)]) (some ⟨g, 0, none⟩) cap e (w2.setCell ⟨b, 12, none⟩ (.slice (some ⟨g, 0, none⟩) (ans.length + 1) cap)) := by
  have hlen : (ans ++ [(a1, a2)]).length = ans.length + 1 := by simp
  refine ⟨by rw [hlen]; exact hb3, ?_, ?_, .inl X.sb, fun x hx => ⟨.inl (X.so x hx).1, (X.so x hx).2⟩, fun x hx => ?_⟩
  ·refine row_same X0.rO fun x hx => (heap_set_other _ _ _ _ (X.so x hx).2).trans ?_
   refine hfar x w2 (X0.rO.lt x hx).2 (fun y hy he => ?_) hA.grown
   exact (X.sa y hy).2.2 (by rw [hx, he])
  ·rw [hlen, ansRow_snoc]
   exact row_same hA.own fun x hx => heap_set_other _ _ _ _ (by
    simp only [Value.ownBlock, Option.some.injEq] at hx
    show x ≠ b
    omega)
  ·simp only [Value.ownBlock, Option.some.injEq] at hx
   subst hx
   rcases hA.hat with h | h
   ·exact ⟨.inl (X.sa g h).1, (X.sa g h).2⟩
   ·refine ⟨.inr (by omega), hgb, fun e => ?_⟩
    have := (X.rO.lt g e).2
    omega
 have hC3 : Chg S w (w2.setCell ⟨b, 12, none⟩ (.slice (some ⟨g, 0, none⟩) (ans.length + 1) cap)) := by
  refine ⟨by rw [size_set]; omega, fun x hx hn => ?_⟩
  rw [heap_set_other _ _ _ _ (fun e => hn (by rw [e]; exact X.sb)), hA.grown.block x (by omega) (fun e => hn (X.sa x e.symm).1), hO1 x (by omega), o0 x (by omega)]
 generalize w2.setCell ⟨b, 12, none⟩ (.slice (some ⟨g, 0, none⟩) (ans.length + 1) cap) = w3 at *
 walk_nrm
 have c1 := tcI hb3
 have z1 := frozen_of hb3 1
 repeat (first | refine Walk.cx ?_ | (refine Walk.cReg ?_; simp only [z61]) | (refine Walk.oq ?_; try walk_nrm) | (refine Walk.un ?_; walk_nrm))
 (have hfr := fr0 b 1; refine Walk.os hfr c1 ?_; clear hfr; try walk_nrm)
 have hb4 : (w3.setCell ⟨b, 1, none⟩ (.int .i64 ((k : Int) + 1))).heap[b]? = some (.cells (thA (.slice oa ops.length oc) ((k : Int) + 1) PC N (.slice none 0 0) (.slice (some ⟨g, 0, none⟩) (ans.length + 1) cap) e) 158) := by
  rw [heap_set_self _ _ hb3, thA_I]
 have o4 : ∀ x, x ≠ b → (w3.setCell ⟨b, 1, none⟩ (.int .i64 ((k : Int) + 1))).heap[x]? = w3.heap[x]? := fun x hx => heap_set_other _ _ _ _ hx
 have s4 := size_set w3 ⟨b, 1, none⟩ (.int .i64 ((k : Int) + 1))
 clear c1 z1
 generalize w3.setCell ⟨b, 1, none⟩ (.int .i64 ((k : Int) + 1)) = w4 at *
 have c2 := tcP hb4
 have z2 := frozen_of hb4 2
 repeat (first | refine Walk.cx ?_ | (refine Walk.cReg ?_; simp only [z61]) | (refine Walk.oq ?_; try walk_nrm) | (refine Walk.un ?_; walk_nrm))
 (have hfr := fr0 b 2; refine Walk.os hfr c2 ?_; clear hfr; try walk_nrm)
 have hb5 : (w4.setCell ⟨b, 2, none⟩ (.int .i64 0)).heap[b]? = some (.cells (thA (.slice oa ops.length oc) ((k : Int) + 1) 0 N (.slice none 0 0) (.slice (some ⟨g, 0, none⟩) (ans.length + 1) cap) e) 158) := by
  rw [heap_set_self _ _ hb4, thA_PC]
 have o5 : ∀ x, x ≠ b → (w4.setCell ⟨b, 2, none⟩ (.int .i64 0)).heap[x]? = w4.heap[x]? := fun x hx => heap_set_other _ _ _ _ hx
 have s5 := size_set w4 ⟨b, 2, none⟩ (.int .i64 0)
 clear c2 z2
 generalize w4.setCell ⟨b, 2, none⟩ (.int .i64 0) = w5 at *
 have c3 := tcL hb5
 have z3 := frozen_of hb5 11
 repeat (first | refine Walk.cx ?_ | (refine Walk.cReg ?_; simp only [z61]) | (refine Walk.oq ?_; try walk_nrm) | (refine Walk.un ?_; walk_nrm))
 (have hfr := fr0 b 11; refine Walk.os hfr c3 ?_; clear hfr; try walk_nrm)
 have hb6 : (w5.setCell ⟨b, 11, none⟩ (.slice none 0 0)).heap[b]? = some (.cells (thA (.slice oa ops.length oc) ((k : Int) + 1) 0 N (.slice none 0 0) (.slice (some ⟨g, 0, none⟩) (ans.length + 1) cap) e) 158) := by
  rw [heap_set_self _ _ hb5, thA_L]
 have o6 : ∀ x, x ≠ b → (w5.setCell ⟨b, 11, none⟩ (.slice none 0 0)).heap[x]? = w5.heap[x]? := fun x hx => heap_set_other _ _ _ _ hx
 have s6 := size_set w5 ⟨b, 11, none⟩ (.slice none 0 0)
 clear c3 z3
 generalize w5.setCell ⟨b, 11, none⟩ (.slice none 0 0) = w6 at *
 have hall : ∀ x, x ≠ b → w6.heap[x]? = w3.heap[x]? := fun x hx => (o6 x hx).trans ((o5 x hx).trans (o4 x hx))
 repeat (first | refine Walk.cx ?_ | (refine Walk.cReg ?_; simp only [z61]) | (refine Walk.oq ?_; try walk_nrm) | (refine Walk.un ?_; walk_nrm))
 refine Walk.ctl rfl (fun w => stepG_leave rfl rfl Try.func61 (results_none rfl _ _ w) (events_results_none rfl _ _)) (.stop fun d => ⟨_, ⟨rfl, ⟨_, _, ThX.at (hX3.put ?_ fun x hx _ _ => hall x hx) d⟩, ?_⟩, rfl⟩)
 ·have hlen : (ans ++ [(a1, a2)]).length = ans.length + 1 := by simp
  rw [hlen]
  have hc : ((k + 1 : Nat) : Int) = (k : Int) + 1 := by simp
  rw [hc]
  exact hb6
 ·have hs3 := hC3.size
  exact Chg.at ⟨by omega, fun x hx hn => (hall x (fun e => hn (by rw [e]; exact X.sb))).trans (hC3.same x hx hn)⟩ d
end
end
end Go.Proofs.Ytdcjgmlgmjjogaa
