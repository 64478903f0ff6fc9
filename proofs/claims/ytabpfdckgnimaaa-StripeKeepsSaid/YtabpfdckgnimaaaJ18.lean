/- Part 18. -/
import Derived.Test.YtabpfdckgnimaaaJ4
import Derived.Test.YtabpfdckgnimaaaJ5
import Derived.Test.YtabpfdckgnimaaaJ6
import Derived.Test.YtabpfdckgnimaaaJ12
import Derived.Test.YtabpfdckgnimaaaJ14
import Derived.Test.YtabpfdckgnimaaaJ15
import Derived.Test.YtabpfdckgnimaaaJ17
import Derived.Laws.OwnMore
set_option linter.unusedSimpArgs false
set_option linter.unusedVariables false
set_option linter.unusedVariables false
set_option maxHeartbeats 8000000
set_option maxRecDepth 100000
namespace Go.Relay
section
open Go.Conc Go.RowKit
def Sizes (w w' : World) : Prop := ∀ (b : Nat) (cur : Array Value) (t : TypeId), w.heap[b]? = some (.cells cur t (0, 0)) → ∃ cur' : Array Value, w'.heap[b]? = some (.cells cur' t (0, 0)) ∧ cur'.size = cur.size
theorem Sizes.refl (w : World) : Sizes w w := fun _ cur _ h => ⟨cur, h, rfl⟩
theorem Sizes.trans {w w1 w2 : World} (h : Sizes w w1) (h' : Sizes w1 w2) : Sizes w w2 := fun b cur t hb => by
  obtain ⟨c1, e1, s1⟩ := h b cur t hb
  obtain ⟨c2, e2, s2⟩ := h' b c1 t e1
  exact ⟨c2, e2, s2.trans s1⟩
theorem Sizes.old {w w' : World} (h : ∀ b, b < w.heap.size → w'.heap[b]? = w.heap[b]?) : Sizes w w' := fun b cur t hb => ⟨cur, (h b (Array.getElem?_eq_some_iff.1 hb).1).trans hb, rfl⟩
theorem Sizes.at {w w' : World} (h : Sizes w w') (d : Nat) : Sizes w (w'.at d) := h
theorem append_sizes {P : Program} {w w' : World} {v v' : Value} (t ty : TypeId) (base : Nat) (e : TypeId) (i : TypeInfo) (z : Value) (size bytes : Nat) (ht : P.underlying t = some (.slice e)) (hi : P.info? e = some i) (hz : i.zero = some z)
    (hsize : i.size = size) (hby : i.bytes = bytes) (n : Nat) (xs : List Value) (hown : w.ownsRow base e size v n xs)
    (a : Addr) (m c : Nat) (news : List Value) (hl : news.length = m * size) (hnews : ∀ j u, news[j]? = some u → w.cell? (a.add j) = some u) (h1 : ∀ u ∈ news, u.oneCell' = true)
    (hm : 0 < m) (h63 : n + m ≤ maxLen) (hbytes : (n + m) * bytes ≤ 140737488355328) (hr : (Builtin.append_ #[t, t] ty #[v, .slice (some a) m c]).run P w = .ok v' w') : Sizes w w' ∧ ∀ b, b < w.heap.size → v'.ownBlock ≠ some b → w'.heap[b]? = w.heap[b]? := by
  subst hsize
  subst hby
  have hsmall : n + m ≤ 9223372036854775807 := by simp only [maxLen] at h63; omega
  have new : ∀ (o : Obj) (x : Value), Sizes w (w.drew.alloc o) ∧ ∀ b, b < w.heap.size → x.ownBlock ≠ some b → (w.drew.alloc o).heap[b]? = w.heap[b]? := fun o x => by
    have h : ∀ b, b < w.heap.size → (w.drew.alloc o).heap[b]? = w.heap[b]? := fun b hb => by
      show (w.heap.push o)[b]? = w.heap[b]?
      rw [Array.getElem?_push, if_neg (Nat.ne_of_lt hb)]
    exact ⟨Sizes.old h, fun b hb _ => h b hb⟩
  rcases hown.2 with ⟨rfl, rfl⟩ | ⟨g, cap, cur, rfl, hbg, hg, hnc, hcm, hcs, htake⟩
  · have he := run_append_nil (P := P) w t ty e i z ht hi hz a m c news hl hnews hm (by omega) (by simp only [Nat.zero_add] at hbytes; omega)
    rw [he] at hr
    cases hr
    exact new _ _
  · by_cases hroom : n + m ≤ cap
    · have hfit : n * i.size + news.length ≤ cur.size := by rw [hl, hcs, ← Nat.add_mul]; exact Nat.mul_le_mul_right _ hroom
      have he := run_append_room (P := P) w t ty e i ht hi g n cap cur hg a m c news hl hnews h1 hroom hfit
      rw [he] at hr
      cases hr
      refine ⟨fun b cb tb hb => ?_, fun b hb hne => setRow_other w g b _ fun e => hne (by rw [e]; rfl)⟩
      by_cases hbg : b = g
      · subst hbg
        rw [hg] at hb
        cases hb
        exact ⟨_, setRow_heap w b cur _ e _ hg, by simp only [List.size_toArray, List.length_append, List.length_take, List.length_drop, Array.length_toList]; omega⟩
      · exact ⟨cb, (setRow_other w g b _ hbg).trans hb, rfl⟩
    · have he := run_append_grow (P := P) w t ty e i z ht hi hz ⟨g, 0, none⟩ n cap xs hown.1 (hown.cells (g := g) rfl) a m c news hl hnews (by omega) (by omega) (growslice_fits (by omega) hbytes)
      rw [he] at hr
      cases hr
      exact new _ _
section
variable {P : Program} {main : Bool} {V : Nat → Option Wait} {Stop : Goroutine → World → Prop} {w : World} {b : Frame} {a : Act} {k : List Item} {cs : List Frame} {ops : Array Oper} {i : Nat} {rest : List Nat} {o : Oper}
theorem Walk.appendS (s x : Operand) (t : TypeId) (ho : ops[i]? = some o) (hw : Region.wanted o (yielded ops a.tmps) = true) (hk : b.kind ≠ .early) (hop : o.op = .call { callee := .builtin .append, args := #[s, x], argTypes := #[t, t] })
    (base : Nat) (e : TypeId) (ti : TypeInfo) (z : Value) (size bytes : Nat) (ht : P.underlying t = some (.slice e)) (hi : P.info? e = some ti) (hz : ti.zero = some z) (hsize : ti.size = size) (hby : ti.bytes = bytes) (hzs : z.cells.size = size) (hsz : 0 < size)
    (v : Value) (n : Nat) (xs : List Value) (hs : a.eval s = v) (hown : w.ownsRow base e size v n xs)
    (ad : Addr) (m c : Nat) (news : List Value) (hx : a.eval x = .slice (some ad) m c) (hl : news.length = m * size) (hnews : ∀ j u, news[j]? = some u → w.cell? (ad.add j) = some u) (h1 : ∀ u ∈ news, u.oneCell' = true)
    (hm : 0 < m) (h63 : n + m ≤ maxLen) (hbytes : (n + m) * bytes ≤ 140737488355328) (hbase : base ≤ w.heap.size) (hap : ∀ g, v.ownBlock = some g → Apart V g)
    (h : ∀ g cap w', w'.ownsRow base e size (.slice (some ⟨g, 0, none⟩) (n + m) cap) (n + m) (xs ++ news) → w.grownBy w' v.ownBlock → Sizes w w' → (∀ b, b < w.heap.size → b ≠ g → w'.heap[b]? = w.heap[b]?) → (v.ownBlock = some g ∨ g = w.heap.size) → g < w'.heap.size →
      Walk P main (DR V) Stop (G (b.at (a.put o.dst (.slice (some ⟨g, 0, none⟩) (n + m) cap)) (.inRegion ops rest :: k)) cs) w') :
    Walk P main (DR V) Stop (G (b.at a (.inRegion ops (i :: rest) :: k)) cs) w := by
  refine Walk.go rfl fun d => goes_oper_k ho hw hk fun K hK => ?_
  obtain ⟨g, cap, w', hr, hown', hg, hat, hlt⟩ := run_append_lies (P := P) (w := w.at d) t o.type base e ti z size bytes ht hi hz hsize hby hzs hsz v n xs hown ad m c news hl hnews h1 hm h63 hbytes hbase w.heap.size rfl
  have hS := append_sizes (P := P) (w := w.at d) t o.type base e ti z size bytes ht hi hz hsize hby n xs hown ad m c news hl hnews h1 hm h63 hbytes hr
  refine uponK_append s x t hop hs hx hr (hK _ _ ⟨DR.grown hg hap fun ev hev => ?_, h g cap w' hown' ⟨hg.os, hg.tape, hg.output, hg.size, hg.block⟩ hS.1 (fun b hb hne => hS.2 b hb fun e => hne (Option.some.inj e).symm) hat hlt⟩)
  have hm' := mem_listed hev
  rw [events_append_op s x t hop hs hx] at hm'
  rcases events_append_own (w.at d) base t o.type e ti z size bytes ht hi hz hsize hby v n xs hown ad m c news hl hnews h1 h63 hbytes ev hm' with h' | ⟨ad', h', hb⟩ | ⟨mk, h', hn⟩
  · exact evR_isRead h'
  · exact evR_cell h' ((hap _ hb.symm).1 ad' rfl)
  · rw [h', show mk = .noRoom from hn]; exact evR_noRoom
end
end
end Go.Relay
namespace Go.Proofs.Ytabpfdckgnimaaa
open Go.Conc Go.RowKit Go.Relay
open Go.ConcN (upd upd_ne upd_same)
structure Closing (f : FuncId) (t : Tmp) (v : Value) (g : Goroutine) : Prop where
  all : ∃ fr, g = G fr [] ∧ fr.mode = .returning ∧ fr.kind = .normal ∧ fr.defers = [] ∧ fr.fn = f ∧ fr.tmps.getD t undef = v
section
theorem ap0 (b : Nat) : Apart (fun _ => none) b := ⟨fun _ _ _ _ h => (by cases h), fun _ _ h => (by cases h)⟩
structure Chg (S : Nat → Prop) (w w' : World) : Prop where
  size : w.heap.size ≤ w'.heap.size
  same : ∀ b, b < w.heap.size → ¬ S b → w'.heap[b]? = w.heap[b]?
section
variable {S S' : Nat → Prop} {w w' w1 w2 : World}
theorem Chg.refl : Chg S w w := ⟨Nat.le_refl _, fun _ _ _ => rfl⟩
theorem Chg.at (h : Chg S w w') (d : Nat) : Chg S w (w'.at d) := ⟨h.size, h.same⟩
theorem Chg.mono (h : Chg S w w') (hS : ∀ b, b < w.heap.size → S b → S' b) : Chg S' w w' := ⟨h.size, fun b hb hn => h.same b hb fun e => hn (hS b hb e)⟩
theorem Chg.trans (h1 : Chg S w w1) (h2 : Chg S' w1 w2) (hS : ∀ b, b < w.heap.size → S' b → S b) : Chg S w w2 :=
  ⟨Nat.le_trans h1.size h2.size, fun b hb hn => (h2.same b (Nat.lt_of_lt_of_le hb h1.size) fun e => hn (hS b hb e)).trans (h1.same b hb hn)⟩
theorem Chg.set {b i : Nat} {v : Value} (hb : S b) : Chg S w (w.setCell ⟨b, i, none⟩ v) := ⟨Nat.le_of_eq (size_set ..).symm, fun c _ hn => heap_set_other _ _ _ _ (fun e => hn (by rw [e]; exact hb))⟩
theorem Chg.alloc {o : Obj} : Chg S w (w.alloc o) := ⟨by simp, fun b hb _ => heap_new_lt _ _ hb⟩
theorem Chg.grown {row : Option Nat} (h : w.grownBy w' row) (hr : ∀ g, row = some g → S g) : Chg S w w' := ⟨h.size, fun b hb hn => h.block b hb fun e => hn (hr b e.symm)⟩
end
theorem row_at {w : World} {base : Nat} {e : TypeId} {size m tc n : Nat} {ta : Option Addr} {xs : List Value} (h : w.ownsRow base e size (.slice ta m tc) n xs) {j : Nat} {x : Value} (hx : xs[j]? = some x) : ∃ g, ta = some ⟨g, 0, none⟩ ∧ base ≤ g ∧ g < w.heap.size ∧ w.cell? ⟨g, j, none⟩ = some x := by
  obtain ⟨hl, h⟩ := h
  have hj := (List.getElem?_eq_some_iff.1 hx).1
  rcases h with ⟨_, rfl⟩ | ⟨g, cap, cur, e, h1, h2, h3, _, h5, h6⟩
  · omega
  · injection e with e1 e2 e3
    refine ⟨g, e1, h1, (Array.getElem?_eq_some_iff.1 h2).1, (cell_of h2 j).trans ?_⟩
    rw [← h6, List.getElem?_take, if_pos (by omega)] at hx
    simpa using hx
def trC (a b c : Value) (k : Bool) : Array Value := #[a, b, c, .bool k]
def NumA (a : Option Addr) (l : List Int) (w : World) : Prop := ∀ (i : Nat) (x : Int), l[i]? = some x → ∃ b o, a = some ⟨b, o, none⟩ ∧ w.cell? ⟨b, o + i, none⟩ = some (.int .i64 x)
def AnsA (a : Option Addr) (l : List Ans) (w : World) : Prop := ∀ (i : Nat) (x : Ans), l[i]? = some x → ∃ b o la lc, a = some ⟨b, o, none⟩ ∧ w.cell? ⟨b, o + i * 3, none⟩ = some (.bool x.ok) ∧ w.cell? ⟨b, o + i * 3 + 1, none⟩ = some (.int .i64 x.n) ∧ w.cell? ⟨b, o + i * 3 + 2, none⟩ = some (.slice la x.l.length lc) ∧ NumA la x.l w ∧ x.l.length ≤ 1048576
theorem NumA.chg {a : Option Addr} {l : List Int} {w w' : World} (h : NumA a l w) (hC : Chg (fun _ => False) w w') : NumA a l w' := fun i x hx => by
  obtain ⟨b, o, e, hc⟩ := h i x hx
  exact ⟨b, o, e, (World.cell?_of_block (a := ⟨b, o + i, none⟩) (hC.same b (cell_lt' hc) id)).trans hc⟩
theorem AnsA.chg {a : Option Addr} {l : List Ans} {w w' : World} (h : AnsA a l w) (hC : Chg (fun _ => False) w w') : AnsA a l w' := fun i x hx => by
  obtain ⟨b, o, la, lc, e, h1, h2, h3, h4, h5⟩ := h i x hx
  exact ⟨b, o, la, lc, e, (World.cell?_of_block (a := ⟨b, _, none⟩) (hC.same b (cell_lt' h1) id)).trans h1, (World.cell?_of_block (a := ⟨b, _, none⟩) (hC.same b (cell_lt' h1) id)).trans h2, (World.cell?_of_block (a := ⟨b, _, none⟩) (hC.same b (cell_lt' h1) id)).trans h3, h4.chg hC, h5⟩
structure TrA (cells : Array Value) (n : Nat) (F : Nat → List Ans) (ord : List Nat) (sts : List Int) (k : Bool) (w : World) : Prop where
  all : ∃ aa ac oa oc sa sc, cells = trC (.slice aa n ac) (.slice oa ord.length oc) (.slice sa sts.length sc) k ∧ NumA oa (ord.map fun i => ((i : Nat) : Int)) w ∧ NumA sa sts w ∧ ∀ i, i < n → ∃ b o ta tc, aa = some ⟨b, o, none⟩ ∧ w.cell? ⟨b, o + i, none⟩ = some (.slice ta (F i).length tc) ∧ AnsA ta (F i) w
theorem TrA.chg {cells : Array Value} {n : Nat} {F : Nat → List Ans} {ord : List Nat} {sts : List Int} {k : Bool} {w w' : World} (h : TrA cells n F ord sts k w) (hC : Chg (fun _ => False) w w') : TrA cells n F ord sts k w' := by
  obtain ⟨aa, ac, oa, oc, sa, sc, e, h1, h2, h3⟩ := h.all
  refine ⟨aa, ac, oa, oc, sa, sc, e, h1.chg hC, h2.chg hC, fun i hi => ?_⟩
  obtain ⟨b, o, ta, tc, e, k1, k2⟩ := h3 i hi
  exact ⟨b, o, ta, tc, e, (World.cell?_of_block (a := ⟨b, o + i, none⟩) (hC.same b (cell_lt' k1) id)).trans k1, k2.chg hC⟩
theorem ansRow_get : ∀ (l : List (Ans × Value)) (k j : Nat) (o : Ans × Value) (v : Value), l[k]? = some o → ([.bool o.1.ok, .int .i64 o.1.n, o.2] : List Value)[j]? = some v → (ansRow l)[k * 3 + j]? = some v
  | o' :: l, 0, j, o, v, hk, hv => by
    simp only [List.getElem?_cons_zero, Option.some.injEq] at hk
    subst hk
    have hj := (List.getElem?_eq_some_iff.1 hv).1
    have : ansRow (o' :: l) = [.bool o'.1.ok, .int .i64 o'.1.n, o'.2] ++ ansRow l := by simp [ansRow]
    rw [this, Nat.zero_mul, Nat.zero_add, List.getElem?_append_left hj]
    exact hv
  | o' :: l, k + 1, j, o, v, hk, hv => by
    have : ansRow (o' :: l) = [.bool o'.1.ok, .int .i64 o'.1.n, o'.2] ++ ansRow l := by simp [ansRow]
    rw [this, List.getElem?_append_right (by simp; omega)]
    have h := ansRow_get l k j o v (by simpa using hk) hv
    rw [← h]
    congr 1
    simp
    omega
theorem numA_of {w : World} {base : Nat} {e : TypeId} {ta : Option Addr} {m tc : Nat} {l : List Int} (h : w.ownsRow base e 1 (.slice ta m tc) m (l.map (.int .i64))) : NumA ta l w := fun i x hx => by
  obtain ⟨g, e, _, _, h0⟩ := row_at h (j := i) (x := .int .i64 x) (by simp [hx])
  exact ⟨g, 0, e, by rw [Nat.zero_add]; exact h0⟩
theorem numA_nil (a : Option Addr) (w : World) : NumA a [] w := fun i x hx => (by simp at hx)
theorem LsAt.num {base : Nat} {P : Nat → Prop} {sl : Value} {l : List Int} {w : World} (h : LsAt base P sl l w) : ∃ la lc, sl = .slice la l.length lc ∧ NumA la l w ∧ l.length ≤ 1048576 := by
  obtain ⟨a, c, e, hn, hr⟩ := h
  refine ⟨a, c, e, ?_, hn⟩
  by_cases hl : l = []
  · subst hl; exact numA_nil _ _
  · have h1 := (hr hl).1
    rw [e] at h1
    exact numA_of h1
theorem ansA_of {base : Nat} {P : Nat → Prop} {hd : Value} {l : List Ans} {w : World} (h : RowA base P hd l w) : ∃ ta tc, hd = .slice ta l.length tc ∧ AnsA ta l w := by
  obtain ⟨ta, tc, z, hz, e, hr, _, hls⟩ := h
  refine ⟨ta, tc, e, fun i x hx => ?_⟩
  rw [e] at hr
  obtain ⟨p, hp, hpx⟩ : ∃ p, z[i]? = some p ∧ p.1 = x := by
    rw [← hz, List.getElem?_map, Option.map_eq_some_iff] at hx
    exact hx
  subst hpx
  obtain ⟨g, e, _, _, h0⟩ := row_at hr (ansRow_get z i 0 p _ hp rfl)
  obtain ⟨g1, e1, _, _, h1⟩ := row_at hr (ansRow_get z i 1 p _ hp rfl)
  obtain ⟨g2, e2, _, _, h2⟩ := row_at hr (ansRow_get z i 2 p _ hp rfl)
  rw [e] at e1 e2
  cases e1
  cases e2
  obtain ⟨la, lc, hsl, hn, hlen⟩ := (hls p (List.mem_of_getElem? hp)).num
  refine ⟨g, 0, la, lc, e, ?_, ?_, ?_, hn, hlen⟩
  · rw [Nat.zero_add]; exact h0
  · rw [Nat.zero_add]; exact h1
  · rw [Nat.zero_add, ← hsl]; exact h2
theorem OpsIn.old {tb toff n : Nat} {oa : Nat → Option Addr} {ln oc : Nat → Nat} {ops : Nat → List OpV} {w w' : World} (I : OpsIn tb toff n oa ln oc ops w) (h : ∀ b, b < w.heap.size → w'.heap[b]? = w.heap[b]?) : OpsIn tb toff n oa ln oc ops w' := by
  have hc : ∀ {b j : Nat} {v : Value}, w.cell? ⟨b, j, none⟩ = some v → w'.cell? ⟨b, j, none⟩ = some v := fun {b j v} e => (World.cell?_of_block (a := ⟨b, j, none⟩) (h b (cell_lt' e))).trans e
  exact ⟨fun i hi => hc (I.hd i hi), I.cap, I.ad, I.len, fun i hi j o ho => by
    obtain ⟨b, off, e, c0, c1, c2, c3⟩ := I.ops i hi j o ho
    exact ⟨b, off, e, hc c0, hc c1, hc c2, hc c3⟩⟩
end
section
section
variable {P : Program}
theorem eqInB (d : Nat) (t : TypeId) (x y : Bool) (w : World) (es : Array Event) (hu : P.underlying t = some .bool) : (Op.equalIn (d + 1) t (.bool x) (.bool y)).run P w = .ok (x == y) w ∧ (Op.equalIn (d + 1) t (.bool x) (.bool y)).events P w es = es := by
  constructor <;> simp [Op.equalIn, run_underlying hu]
theorem run_neqB (t : TypeId) (hu : P.underlying t = some .bool) (x y : Bool) (w : World) : (binOp .neq t (.bool x) (.bool y)).run P w = .ok (.bool (x != y)) w := by
  simp only [binOp]
  simp [Op.equal, Op.maxDepth, (eqInB 9999 t x y w #[] hu).1, bne]
theorem ev_neqB (t : TypeId) (hu : P.underlying t = some .bool) (x y : Bool) (w : World) (es : Array Event) : (binOp .neq t (.bool x) (.bool y)).events P w es = es := by
  simp only [binOp]
  simp [Op.equal, Op.maxDepth, (eqInB 9999 t x y w #[] hu).1, (eqInB 9999 t x y w es hu).2]
end
theorem und4B : Try.prog.underlying 4 = some .bool := by kernel_rfl
noncomputable def reg7_0 := rg Try.f7.body [0]
noncomputable def reg7_1 := rg Try.f7.body [1, 0, 0]
noncomputable def reg7_2 := rg Try.f7.body [1, 0, 1, 0, 0]
noncomputable def reg7_3 := rg Try.f7.body [1, 1, 0, 0]
noncomputable def reg7_4 := rg Try.f7.body [1, 1, 0, 1, 0, 0, 0, 0]
noncomputable def reg7_6 := rg Try.f7.body [1, 1, 0, 1, 0, 0, 1, 0, 0, 0]
theorem size7_6 : reg7_6.size = 9 := by kernel_rfl
noncomputable def reg7_7 := rg Try.f7.body [1, 1, 0, 1, 0, 0, 1, 0, 0, 1, 0, 0]
noncomputable def reg7_5 := rg Try.f7.body [1, 1, 0, 1, 0, 0, 1, 1]
noncomputable def reg7_8 := rg Try.f7.body [1, 1, 1, 0]
theorem z7 : List.range reg7_0.size = [0] ∧ List.range reg7_1.size = [0, 1, 2, 3, 4] ∧ List.range reg7_2.size = [0] ∧ List.range reg7_3.size = [0] ∧ List.range reg7_4.size = [0, 1, 2, 3] ∧ List.range reg7_5.size = [0, 1, 2] ∧ List.range reg7_6.size = [0, 1, 2, 3, 4, 5, 6, 7, 8] ∧ List.range reg7_7.size = [0] ∧ List.range reg7_8.size = [0] := by refine ⟨?_, ?_, ?_, ?_, ?_, ?_, ?_, ?_, ?_⟩ <;> kernel_rfl
theorem code7_is : Try.f7.body = some (.seq (.region 0 reg7_0 false) (.seq (.seq (.region 1 reg7_1 false) (.cond (.tmp 10 ) (.seq (.region 2 reg7_2 false) (.ret)) (.skip))) (.seq (.seq (.region 3 reg7_3 false) (.block 0 (.loop (.seq (.seq (.region 4 reg7_4 false) (.cond (.tmp 14 ) (.skip) (.exit 0))) (.seq (.block 1 (.seq (.region 6 reg7_6 true) (.cond (.tmp 25 ) (.seq (.region 7 reg7_7 false) (.ret)) (.skip)))) (.region 5 reg7_5 false)))))) (.seq (.region 8 reg7_8 false) (.ret))))) := by kernel_rfl
noncomputable def hdSame (av bv : Value) (i : Nat) (u : Nat → Value) : Frame :=
  (base 7).at { tmps := #[av, bv, u 2, u 3, u 4, .int .i64 i, u 6, u 7, u 8, u 9, u 10, u 11, u 12, u 13, u 14, u 15, u 16, u 17, u 18, u 19, u 20, u 21, u 22, u 23, u 24, u 25], defers := [] } [.code (.seq (.seq (.region 4 reg7_4 false) (.cond (.tmp 14 ) (.skip) (.exit 0))) (.seq (.block 1 (.seq (.region 6 reg7_6 true) (.cond (.tmp 25 ) (.seq (.region 7 reg7_7 false) (.ret)) (.skip)))) (.region 5 reg7_5 false))), .inLoop (.seq (.seq (.region 4 reg7_4 false) (.cond (.tmp 14 ) (.skip) (.exit 0))) (.seq (.block 1 (.seq (.region 6 reg7_6 true) (.cond (.tmp 25 ) (.seq (.region 7 reg7_7 false) (.ret)) (.skip)))) (.region 5 reg7_5 false))), .inBlock 0, .code (.seq (.region 8 reg7_8 false) (.ret))]
noncomputable def reg8_0 := rg Try.f8.body [0]
noncomputable def reg8_1 := rg Try.f8.body [1, 0, 0]
noncomputable def reg8_2 := rg Try.f8.body [1, 0, 1, 0, 0]
noncomputable def reg8_3 := rg Try.f8.body [1, 1, 0, 0]
noncomputable def reg8_4 := rg Try.f8.body [1, 1, 0, 1, 0, 0, 0, 0]
noncomputable def reg8_6 := rg Try.f8.body [1, 1, 0, 1, 0, 0, 1, 0, 0, 0]
theorem size8_6 : reg8_6.size = 9 := by kernel_rfl
noncomputable def reg8_7 := rg Try.f8.body [1, 1, 0, 1, 0, 0, 1, 0, 0, 1, 0, 0]
noncomputable def reg8_5 := rg Try.f8.body [1, 1, 0, 1, 0, 0, 1, 1]
noncomputable def reg8_8 := rg Try.f8.body [1, 1, 1, 0]
theorem z8 : List.range reg8_0.size = [0] ∧ List.range reg8_1.size = [0, 1, 2, 3, 4] ∧ List.range reg8_2.size = [0] ∧ List.range reg8_3.size = [0] ∧ List.range reg8_4.size = [0, 1, 2, 3] ∧ List.range reg8_5.size = [0, 1, 2] ∧ List.range reg8_6.size = [0, 1, 2, 3, 4, 5, 6, 7, 8] ∧ List.range reg8_7.size = [0] ∧ List.range reg8_8.size = [0] := by refine ⟨?_, ?_, ?_, ?_, ?_, ?_, ?_, ?_, ?_⟩ <;> kernel_rfl
theorem code8_is : Try.f8.body = some (.seq (.region 0 reg8_0 false) (.seq (.seq (.region 1 reg8_1 false) (.cond (.tmp 10 ) (.seq (.region 2 reg8_2 false) (.ret)) (.skip))) (.seq (.seq (.region 3 reg8_3 false) (.block 0 (.loop (.seq (.seq (.region 4 reg8_4 false) (.cond (.tmp 14 ) (.skip) (.exit 0))) (.seq (.block 1 (.seq (.region 6 reg8_6 true) (.cond (.tmp 25 ) (.seq (.region 7 reg8_7 false) (.ret)) (.skip)))) (.region 5 reg8_5 false)))))) (.seq (.region 8 reg8_8 false) (.ret))))) := by kernel_rfl
noncomputable def hdSameI (av bv : Value) (i : Nat) (u : Nat → Value) : Frame :=
  (base 8).at { tmps := #[av, bv, u 2, u 3, u 4, .int .i64 i, u 6, u 7, u 8, u 9, u 10, u 11, u 12, u 13, u 14, u 15, u 16, u 17, u 18, u 19, u 20, u 21, u 22, u 23, u 24, u 25], defers := [] } [.code (.seq (.seq (.region 4 reg8_4 false) (.cond (.tmp 14 ) (.skip) (.exit 0))) (.seq (.block 1 (.seq (.region 6 reg8_6 true) (.cond (.tmp 25 ) (.seq (.region 7 reg8_7 false) (.ret)) (.skip)))) (.region 5 reg8_5 false))), .inLoop (.seq (.seq (.region 4 reg8_4 false) (.cond (.tmp 14 ) (.skip) (.exit 0))) (.seq (.block 1 (.seq (.region 6 reg8_6 true) (.cond (.tmp 25 ) (.seq (.region 7 reg8_7 false) (.ret)) (.skip)))) (.region 5 reg8_5 false))), .inBlock 0, .code (.seq (.region 8 reg8_8 false) (.ret))]
section
variable {main : Bool} {V : Nat → Option Wait}
theorem sn_in (a b : Option Addr) (n ca cb : Nat) (cs : List Frame) (w : World) :
    Walk Try.prog main (DR V) (fun g w' => (∃ u, g = G (hdSame (.slice a n ca) (.slice b n cb) 0 u) cs) ∧ ∃ d, w' = w.at d) (G (Frame.enter Try.prog 7 #[.slice a n ca, .slice b n cb] .normal) cs) w := by
  rw [enter_at _ Try.func7 code7_is]
  simp only [Try.ntmps7, ez, Nat.reduceAdd, Nat.reduceSub]
  repeat (first | refine Walk.cx ?_ | (refine Walk.cReg ?_; simp only [z7]) | (refine Walk.oq ?_; try walk_nrm) | (refine Walk.un ?_; walk_nrm))
  refine Walk.ctl rfl (fun w => stepG_loop) ?_
  refine .stop fun d => ⟨at_slots ?_, d, rfl⟩
  simp only [hdSame]
  rfl
theorem sn_out (a b : Option Addr) (n ca cb : Nat) (u : Nat → Value) (c : Frame) (cs : List Frame) (w : World) :
    Walk Try.prog main (DR V) (fun g w' => g = G (c.finish (.bool true)) cs ∧ ∃ d, w' = w.at d) (G (hdSame (.slice a n ca) (.slice b n cb) n u) (c :: cs)) w := by
  unfold hdSame
  repeat (first | refine Walk.cx ?_ | (refine Walk.cReg ?_; simp only [z7]) | (refine Walk.oq ?_; try walk_nrm) | (refine Walk.un ?_; walk_nrm))
  exact Walk.on1 rfl rfl Try.func7 rfl (.stop fun d => ⟨rfl, d, rfl⟩)
theorem sn_go (ab ao n ca bb bo cb i : Nat) (x : Int) (u : Nat → Value) (cs : List Frame) (w : World) (hi : i < n) (hn : n ≤ 17592186044416) (ha : w.cell? ⟨ab, ao + i, none⟩ = some (.int .i64 x)) (hb : w.cell? ⟨bb, bo + i, none⟩ = some (.int .i64 x)) :
    Walk Try.prog main (DR V) (fun g w' => (∃ u', g = G (hdSame (.slice (some ⟨ab, ao, none⟩) n ca) (.slice (some ⟨bb, bo, none⟩) n cb) (i + 1) u') cs) ∧ ∃ d, w' = w.at d) (G (hdSame (.slice (some ⟨ab, ao, none⟩) n ca) (.slice (some ⟨bb, bo, none⟩) n cb) i u) cs) w := by
  have hw1 : IntKind.wrap .i64 ((i : Int) + 1) = (i : Int) + 1 := by rw [IntKind.wrap_i64]; omega
  conv => arg 5; unfold hdSame
  repeat (first | refine Walk.cx ?_ | (refine Walk.cReg ?_; simp only [z7]) | (refine Walk.oq ?_; try walk_nrm) | (refine Walk.un ?_; walk_nrm))
  (refine Walk.drawnC (by kernel_rfl) size7_6 (by kernel_rfl) (by kernel_rfl) (by decide) ?_; simp only [List.range, List.range.loop]; repeat (first | (refine Cm.oq ?_) | (refine Cm.unw (ho_of (by conv => lhs; whnf) (by kernel_rfl)) (by rfl) ?_; walk_nrm)))
  refine Cm.done ?_
  repeat (first | refine Walk.cx ?_ | (refine Walk.cReg ?_; simp only [z7]) | (refine Walk.oq ?_; try walk_nrm) | (refine Walk.un ?_; walk_nrm))
  refine Walk.ctl rfl (fun w => stepG_inLoop) ?_
  refine .stop fun d' => ⟨at_slots ?_, d', rfl⟩
  have hc : ((i + 1 : Nat) : Int) = (i : Int) + 1 := by simp
  simp only [hdSame, hc]
  rfl
theorem sn_loop (a b : Option Addr) (l : List Int) (ca cb : Nat) (hn : l.length ≤ 17592186044416) (c : Frame) (cs : List Frame) (w : World) (ha : NumA a l w) (hb : NumA b l w) : ∀ (r i : Nat) (u : Nat → Value), i + r = l.length →
    Walk Try.prog main (DR V) (fun g w' => g = G (c.finish (.bool true)) cs ∧ ∃ d, w' = w.at d) (G (hdSame (.slice a l.length ca) (.slice b l.length cb) i u) (c :: cs)) w := by
  intro r
  induction r with
  | zero =>
    intro i u hi
    have hi : i = l.length := hi
    subst hi
    exact sn_out a b l.length ca cb u c cs w
  | succ r ih =>
    intro i u hi
    have hin : i < l.length := by omega
    have hx := List.getElem?_eq_getElem hin
    obtain ⟨ab, ao, rfl, h1⟩ := ha i _ hx
    obtain ⟨bb, bo, rfl, h2⟩ := hb i _ hx
    refine (sn_go ab ao l.length ca bb bo cb i _ u (c :: cs) w hin hn h1 h2).then ?_
    rintro g w' ⟨⟨u', rfl⟩, d, rfl⟩
    exact Walk.back (ih (i + 1) u' (by omega)) d
theorem sn_w (a b : Option Addr) (l : List Int) (ca cb : Nat) (hn : l.length ≤ 17592186044416) (w : World) (ha : NumA a l w) (hb : NumA b l w) : CallV Try.prog main V 7 #[.slice a l.length ca, .slice b l.length cb] w (.bool true) w := by
  intro fr cs
  refine (sn_in a b l.length ca cb (fr :: cs) w).then ?_
  rintro g w1 ⟨⟨u, rfl⟩, d, rfl⟩
  refine Walk.back ?_ d
  refine (sn_loop a b l ca cb hn fr cs w ha hb l.length 0 u (by omega)).mono ?_
  rintro g w' ⟨rfl, d, rfl⟩
  exact ⟨_, ⟨rfl, d, rfl⟩, rfl⟩
theorem si_in (a b : Option Addr) (n ca cb : Nat) (cs : List Frame) (w : World) :
    Walk Try.prog main (DR V) (fun g w' => (∃ u, g = G (hdSameI (.slice a n ca) (.slice b n cb) 0 u) cs) ∧ ∃ d, w' = w.at d) (G (Frame.enter Try.prog 8 #[.slice a n ca, .slice b n cb] .normal) cs) w := by
  rw [enter_at _ Try.func8 code8_is]
  simp only [Try.ntmps8, ez, Nat.reduceAdd, Nat.reduceSub]
  repeat (first | refine Walk.cx ?_ | (refine Walk.cReg ?_; simp only [z8]) | (refine Walk.oq ?_; try walk_nrm) | (refine Walk.un ?_; walk_nrm))
  refine Walk.ctl rfl (fun w => stepG_loop) ?_
  refine .stop fun d => ⟨at_slots ?_, d, rfl⟩
  simp only [hdSameI]
  rfl
theorem si_out (a b : Option Addr) (n ca cb : Nat) (u : Nat → Value) (c : Frame) (cs : List Frame) (w : World) :
    Walk Try.prog main (DR V) (fun g w' => g = G (c.finish (.bool true)) cs ∧ ∃ d, w' = w.at d) (G (hdSameI (.slice a n ca) (.slice b n cb) n u) (c :: cs)) w := by
  unfold hdSameI
  repeat (first | refine Walk.cx ?_ | (refine Walk.cReg ?_; simp only [z8]) | (refine Walk.oq ?_; try walk_nrm) | (refine Walk.un ?_; walk_nrm))
  exact Walk.on1 rfl rfl Try.func8 rfl (.stop fun d => ⟨rfl, d, rfl⟩)
theorem si_go (ab ao n ca bb bo cb i : Nat) (x : Int) (u : Nat → Value) (cs : List Frame) (w : World) (hi : i < n) (hn : n ≤ 17592186044416) (ha : w.cell? ⟨ab, ao + i, none⟩ = some (.int .i64 x)) (hb : w.cell? ⟨bb, bo + i, none⟩ = some (.int .i64 x)) :
    Walk Try.prog main (DR V) (fun g w' => (∃ u', g = G (hdSameI (.slice (some ⟨ab, ao, none⟩) n ca) (.slice (some ⟨bb, bo, none⟩) n cb) (i + 1) u') cs) ∧ ∃ d, w' = w.at d) (G (hdSameI (.slice (some ⟨ab, ao, none⟩) n ca) (.slice (some ⟨bb, bo, none⟩) n cb) i u) cs) w := by
  have hw1 : IntKind.wrap .i64 ((i : Int) + 1) = (i : Int) + 1 := by rw [IntKind.wrap_i64]; omega
  conv => arg 5; unfold hdSameI
  repeat (first | refine Walk.cx ?_ | (refine Walk.cReg ?_; simp only [z8]) | (refine Walk.oq ?_; try walk_nrm) | (refine Walk.un ?_; walk_nrm))
  (refine Walk.drawnC (by kernel_rfl) size8_6 (by kernel_rfl) (by kernel_rfl) (by decide) ?_; simp only [List.range, List.range.loop]; repeat (first | (refine Cm.oq ?_) | (refine Cm.unw (ho_of (by conv => lhs; whnf) (by kernel_rfl)) (by rfl) ?_; walk_nrm)))
  refine Cm.done ?_
  repeat (first | refine Walk.cx ?_ | (refine Walk.cReg ?_; simp only [z8]) | (refine Walk.oq ?_; try walk_nrm) | (refine Walk.un ?_; walk_nrm))
  refine Walk.ctl rfl (fun w => stepG_inLoop) ?_
  refine .stop fun d' => ⟨at_slots ?_, d', rfl⟩
  have hc : ((i + 1 : Nat) : Int) = (i : Int) + 1 := by simp
  simp only [hdSameI, hc]
  rfl
theorem si_loop (a b : Option Addr) (l : List Int) (ca cb : Nat) (hn : l.length ≤ 17592186044416) (c : Frame) (cs : List Frame) (w : World) (ha : NumA a l w) (hb : NumA b l w) : ∀ (r i : Nat) (u : Nat → Value), i + r = l.length →
    Walk Try.prog main (DR V) (fun g w' => g = G (c.finish (.bool true)) cs ∧ ∃ d, w' = w.at d) (G (hdSameI (.slice a l.length ca) (.slice b l.length cb) i u) (c :: cs)) w := by
  intro r
  induction r with
  | zero =>
    intro i u hi
    have hi : i = l.length := hi
    subst hi
    exact si_out a b l.length ca cb u c cs w
  | succ r ih =>
    intro i u hi
    have hin : i < l.length := by omega
    have hx := List.getElem?_eq_getElem hin
    obtain ⟨ab, ao, rfl, h1⟩ := ha i _ hx
    obtain ⟨bb, bo, rfl, h2⟩ := hb i _ hx
    refine (si_go ab ao l.length ca bb bo cb i _ u (c :: cs) w hin hn h1 h2).then ?_
    rintro g w' ⟨⟨u', rfl⟩, d, rfl⟩
    exact Walk.back (ih (i + 1) u' (by omega)) d
theorem si_w (a b : Option Addr) (l : List Int) (ca cb : Nat) (hn : l.length ≤ 17592186044416) (w : World) (ha : NumA a l w) (hb : NumA b l w) : CallV Try.prog main V 8 #[.slice a l.length ca, .slice b l.length cb] w (.bool true) w := by
  intro fr cs
  refine (si_in a b l.length ca cb (fr :: cs) w).then ?_
  rintro g w1 ⟨⟨u, rfl⟩, d, rfl⟩
  refine Walk.back ?_ d
  refine (si_loop a b l ca cb hn fr cs w ha hb l.length 0 u (by omega)).mono ?_
  rintro g w' ⟨rfl, d, rfl⟩
  exact ⟨_, ⟨rfl, d, rfl⟩, rfl⟩
noncomputable def reg17_0 := rg Try.f17.body [0]
noncomputable def reg17_1 := rg Try.f17.body [1, 0, 0]
noncomputable def reg17_2 := rg Try.f17.body [1, 0, 1, 0, 0]
noncomputable def reg17_3 := rg Try.f17.body [1, 1, 0, 0]
noncomputable def reg17_4 := rg Try.f17.body [1, 1, 0, 1, 0, 0, 0, 0]
noncomputable def reg17_6 := rg Try.f17.body [1, 1, 0, 1, 0, 0, 1, 0, 0, 0]
theorem size17_6 : reg17_6.size = 38 := by kernel_rfl
noncomputable def reg17_7 := rg Try.f17.body [1, 1, 0, 1, 0, 0, 1, 0, 0, 1, 0, 0]
noncomputable def reg17_5 := rg Try.f17.body [1, 1, 0, 1, 0, 0, 1, 1]
noncomputable def reg17_8 := rg Try.f17.body [1, 1, 1, 0]
theorem z17 : List.range reg17_0.size = [0] ∧ List.range reg17_1.size = [0, 1, 2, 3, 4] ∧ List.range reg17_2.size = [0] ∧ List.range reg17_3.size = [0] ∧ List.range reg17_4.size = [0, 1, 2, 3] ∧ List.range reg17_5.size = [0, 1, 2] ∧ List.range reg17_6.size = [0, 1, 2, 3, 4, 5, 6, 7, 8, 9, 10, 11, 12, 13, 14, 15, 16, 17, 18, 19, 20, 21, 22, 23, 24, 25, 26, 27, 28, 29, 30, 31, 32, 33, 34, 35, 36, 37] ∧ List.range reg17_7.size = [0] ∧ List.range reg17_8.size = [0] := by refine ⟨?_, ?_, ?_, ?_, ?_, ?_, ?_, ?_, ?_⟩ <;> kernel_rfl
theorem code17_is : Try.f17.body = some (.seq (.region 0 reg17_0 false) (.seq (.seq (.region 1 reg17_1 false) (.cond (.tmp 10 ) (.seq (.region 2 reg17_2 false) (.ret)) (.skip))) (.seq (.seq (.region 3 reg17_3 false) (.block 0 (.loop (.seq (.seq (.region 4 reg17_4 false) (.cond (.tmp 14 ) (.skip) (.exit 0))) (.seq (.block 1 (.seq (.region 6 reg17_6 true) (.cond (.tmp 54 ) (.seq (.region 7 reg17_7 false) (.ret)) (.skip)))) (.region 5 reg17_5 false)))))) (.seq (.region 8 reg17_8 false) (.ret))))) := by kernel_rfl
noncomputable def hdSA (a b : Value) (i : Nat) (u : Nat → Value) : Frame :=
  (base 17).at { tmps := #[a, b, u 2, u 3, u 4, .int .i64 i, u 6, u 7, u 8, u 9, u 10, u 11, u 12, u 13, u 14, u 15, u 16, u 17, u 18, u 19, u 20, u 21, u 22, u 23, u 24, u 25, u 26, u 27, u 28, u 29, u 30, u 31, u 32, u 33, u 34, u 35, u 36, u 37, u 38, u 39, u 40, u 41, u 42, u 43, u 44, u 45, u 46, u 47, u 48, u 49, u 50, u 51, u 52, u 53, u 54], defers := [] } [.code (.seq (.seq (.region 4 reg17_4 false) (.cond (.tmp 14 ) (.skip) (.exit 0))) (.seq (.block 1 (.seq (.region 6 reg17_6 true) (.cond (.tmp 54 ) (.seq (.region 7 reg17_7 false) (.ret)) (.skip)))) (.region 5 reg17_5 false))), .inLoop (.seq (.seq (.region 4 reg17_4 false) (.cond (.tmp 14 ) (.skip) (.exit 0))) (.seq (.block 1 (.seq (.region 6 reg17_6 true) (.cond (.tmp 54 ) (.seq (.region 7 reg17_7 false) (.ret)) (.skip)))) (.region 5 reg17_5 false))), .inBlock 0, .code (.seq (.region 8 reg17_8 false) (.ret))]
theorem sa_in (a b : Option Addr) (n ca cb : Nat) (cs : List Frame) (w : World) :
    Walk Try.prog main (DR V) (fun g w' => (∃ u, g = G (hdSA (.slice a n ca) (.slice b n cb) 0 u) cs) ∧ ∃ d, w' = w.at d) (G (Frame.enter Try.prog 17 #[.slice a n ca, .slice b n cb] .normal) cs) w := by
  rw [enter_at _ Try.func17 code17_is]
  simp only [Try.ntmps17, ez, Nat.reduceAdd, Nat.reduceSub]
  repeat (first | refine Walk.cx ?_ | (refine Walk.cReg ?_; simp only [z17]) | (refine Walk.oq ?_; try walk_nrm) | (refine Walk.un ?_; walk_nrm))
  refine Walk.ctl rfl (fun w => stepG_loop) ?_
  refine .stop fun d => ⟨at_slots ?_, d, rfl⟩
  simp only [hdSA]
  rfl
theorem sa_out (a b : Option Addr) (n ca cb : Nat) (u : Nat → Value) (c : Frame) (cs : List Frame) (w : World) :
    Walk Try.prog main (DR V) (fun g w' => g = G (c.finish (.bool true)) cs ∧ ∃ d, w' = w.at d) (G (hdSA (.slice a n ca) (.slice b n cb) n u) (c :: cs)) w := by
  unfold hdSA
  repeat (first | refine Walk.cx ?_ | (refine Walk.cReg ?_; simp only [z17]) | (refine Walk.oq ?_; try walk_nrm) | (refine Walk.un ?_; walk_nrm))
  exact Walk.on1 rfl rfl Try.func17 rfl (.stop fun d => ⟨rfl, d, rfl⟩)
theorem sa_go (ab ao n ca bb bo cb i : Nat) (y : Bool) (x : Int) (la lb : Option Addr) (lc ld : Nat) (xl : List Int) (hxl : xl.length ≤ 1048576) (u : Nat → Value) (cs : List Frame) (w : World) (hi : i < n) (hn : n ≤ 17592186044416) (a0 : w.cell? ⟨ab, ao + i * 3, none⟩ = some (.bool y)) (a1 : w.cell? ⟨ab, ao + i * 3 + 1, none⟩ = some (.int .i64 x)) (a2 : w.cell? ⟨ab, ao + i * 3 + 2, none⟩ = some (.slice la xl.length lc)) (b0 : w.cell? ⟨bb, bo + i * 3, none⟩ = some (.bool y)) (b1 : w.cell? ⟨bb, bo + i * 3 + 1, none⟩ = some (.int .i64 x)) (b2 : w.cell? ⟨bb, bo + i * 3 + 2, none⟩ = some (.slice lb xl.length ld)) (n1 : NumA la xl w) (n2 : NumA lb xl w) :
    Walk Try.prog main (DR V) (fun g w' => (∃ u', g = G (hdSA (.slice (some ⟨ab, ao, none⟩) n ca) (.slice (some ⟨bb, bo, none⟩) n cb) (i + 1) u') cs) ∧ ∃ d, w' = w.at d) (G (hdSA (.slice (some ⟨ab, ao, none⟩) n ca) (.slice (some ⟨bb, bo, none⟩) n cb) i u) cs) w := by
  have hw1 : IntKind.wrap .i64 ((i : Int) + 1) = (i : Int) + 1 := by rw [IntKind.wrap_i64]; omega
  have qb := run_neqB (P := Try.prog) 4 und4B y y
  have qe := ev_neqB (P := Try.prog) 4 und4B y y
  have qy : (y != y) = false := by cases y <;> rfl
  have hq := sn_w (main := main) (V := V) la lb xl lc ld (by omega) w n1 n2
  clear n1 n2
  generalize xl.length = m at *
  rw [qy] at qb
  conv => arg 5; unfold hdSA
  repeat (first | refine Walk.cx ?_ | (refine Walk.cReg ?_; simp only [z17]) | (refine Walk.oq ?_; try walk_nrm) | (refine Walk.un ?_; walk_nrm))
  (refine Walk.drawnC (by kernel_rfl) size17_6 (by kernel_rfl) (by kernel_rfl) (by decide) ?_; simp only [List.range, List.range.loop]; repeat (first | (refine Cm.oq ?_) | (refine Cm.unw (ho_of (by conv => lhs; whnf) (by kernel_rfl)) (by rfl) ?_; walk_nrm)))
  refine Cm.callV (x := .bool true) ?_ (ho_of (by conv => lhs; whnf) (by kernel_rfl)) (by rfl) rfl Try.func7 (by kernel_rfl) (by rfl) ?_
  · intro w' e
    subst e
    walk_nrm
    exact hq
  walk_nrm
  repeat (first | (refine Cm.oq ?_) | (refine Cm.unw (ho_of (by conv => lhs; whnf) (by kernel_rfl)) (by rfl) ?_; walk_nrm))
  refine Cm.done ?_
  repeat (first | refine Walk.cx ?_ | (refine Walk.cReg ?_; simp only [z17]) | (refine Walk.oq ?_; try walk_nrm) | (refine Walk.un ?_; walk_nrm))
  refine Walk.ctl rfl (fun w => stepG_inLoop) ?_
  refine .stop fun d' => ⟨at_slots ?_, d', rfl⟩
  have hc : ((i + 1 : Nat) : Int) = (i : Int) + 1 := by simp
  simp only [hdSA, hc]
  rfl
theorem sa_loop (a b : Option Addr) (l : List Ans) (ca cb : Nat) (hn : l.length ≤ 17592186044416) (c : Frame) (cs : List Frame) (w : World) (ha : AnsA a l w) (hb : AnsA b l w) : ∀ (r i : Nat) (u : Nat → Value), i + r = l.length →
    Walk Try.prog main (DR V) (fun g w' => g = G (c.finish (.bool true)) cs ∧ ∃ d, w' = w.at d) (G (hdSA (.slice a l.length ca) (.slice b l.length cb) i u) (c :: cs)) w := by
  intro r
  induction r with
  | zero =>
    intro i u hi
    have hi : i = l.length := hi
    subst hi
    exact sa_out a b l.length ca cb u c cs w
  | succ r ih =>
    intro i u hi
    have hin : i < l.length := by omega
    have hx := List.getElem?_eq_getElem hin
    generalize l[i] = x at hx
    obtain ⟨ab, ao, la, lc, rfl, h1, h2, h3, h4, h5⟩ := ha i _ hx
    obtain ⟨bb, bo, lb, ld, rfl, k1, k2, k3, k4, _⟩ := hb i _ hx
    refine (sa_go ab ao l.length ca bb bo cb i x.ok x.n la lb lc ld x.l h5 u (c :: cs) w hin hn h1 h2 h3 k1 k2 k3 h4 k4).then ?_
    rintro g w' ⟨⟨u', rfl⟩, d, rfl⟩
    exact Walk.back (ih (i + 1) u' (by omega)) d
theorem sa_w (a b : Option Addr) (l : List Ans) (ca cb : Nat) (hn : l.length ≤ 17592186044416) (w : World) (ha : AnsA a l w) (hb : AnsA b l w) : CallV Try.prog main V 17 #[.slice a l.length ca, .slice b l.length cb] w (.bool true) w := by
  intro fr cs
  refine (sa_in a b l.length ca cb (fr :: cs) w).then ?_
  rintro g w1 ⟨⟨u, rfl⟩, d, rfl⟩
  refine Walk.back ?_ d
  refine (sa_loop a b l ca cb hn fr cs w ha hb l.length 0 u (by omega)).mono ?_
  rintro g w' ⟨rfl, d, rfl⟩
  exact ⟨_, ⟨rfl, d, rfl⟩, rfl⟩
end
section
variable {main : Bool}
noncomputable def reg6_0 := rg Try.f6.body [0]
noncomputable def reg6_1 := rg Try.f6.body [1, 0, 0]
noncomputable def reg6_2 := rg Try.f6.body [1, 0, 1, 0, 0]
noncomputable def reg6_3 := rg Try.f6.body [1, 1, 0, 0]
noncomputable def reg6_4 := rg Try.f6.body [1, 1, 0, 1, 0, 0, 0, 0]
noncomputable def reg6_6 := rg Try.f6.body [1, 1, 0, 1, 0, 0, 1, 0, 0, 0]
theorem size6_6 : reg6_6.size = 12 := by kernel_rfl
noncomputable def reg6_7 := rg Try.f6.body [1, 1, 0, 1, 0, 0, 1, 0, 0, 1, 0, 0]
noncomputable def reg6_5 := rg Try.f6.body [1, 1, 0, 1, 0, 0, 1, 1]
noncomputable def reg6_8 := rg Try.f6.body [1, 1, 1, 0]
theorem z6 : List.range reg6_0.size = [0, 1, 2] ∧ List.range reg6_1.size = [0, 1, 2, 3, 4, 5, 6, 7, 8, 9, 10, 11, 12, 13, 14, 15, 16, 17, 18, 19, 20, 21, 22, 23, 24, 25, 26, 27, 28, 29] ∧ List.range reg6_2.size = [0] ∧ List.range reg6_3.size = [0] ∧ List.range reg6_4.size = [0, 1, 2, 3, 4] ∧ List.range reg6_5.size = [0, 1, 2] ∧ List.range reg6_6.size = [0, 1, 2, 3, 4, 5, 6, 7, 8, 9, 10, 11] ∧ List.range reg6_7.size = [0] ∧ List.range reg6_8.size = [0] := by refine ⟨?_, ?_, ?_, ?_, ?_, ?_, ?_, ?_, ?_⟩ <;> kernel_rfl
theorem code6_is : Try.f6.body = some (.seq (.region 0 reg6_0 false) (.seq (.seq (.region 1 reg6_1 false) (.cond (.tmp 35 ) (.seq (.region 2 reg6_2 false) (.ret)) (.skip))) (.seq (.seq (.region 3 reg6_3 false) (.block 0 (.loop (.seq (.seq (.region 4 reg6_4 false) (.cond (.tmp 40 ) (.skip) (.exit 0))) (.seq (.block 1 (.seq (.region 6 reg6_6 true) (.cond (.tmp 54 ) (.seq (.region 7 reg6_7 false) (.ret)) (.skip)))) (.region 5 reg6_5 false)))))) (.seq (.region 8 reg6_8 false) (.ret))))) := by kernel_rfl
noncomputable def hdSm (X Y i : Nat) (u : Nat → Value) : Frame :=
  (base 6).at { tmps := #[u 0, u 1, .pointer (some ⟨X, 0, none⟩), .pointer (some ⟨Y, 0, none⟩), u 4, .int .i64 i, u 6, u 7, u 8, u 9, u 10, u 11, u 12, u 13, u 14, u 15, u 16, u 17, u 18, u 19, u 20, u 21, u 22, u 23, u 24, u 25, u 26, u 27, u 28, u 29, u 30, u 31, u 32, u 33, u 34, u 35, u 36, u 37, u 38, u 39, u 40, u 41, u 42, u 43, u 44, u 45, u 46, u 47, u 48, u 49, u 50, u 51, u 52, u 53, u 54], defers := [] } [.code (.seq (.seq (.region 4 reg6_4 false) (.cond (.tmp 40 ) (.skip) (.exit 0))) (.seq (.block 1 (.seq (.region 6 reg6_6 true) (.cond (.tmp 54 ) (.seq (.region 7 reg6_7 false) (.ret)) (.skip)))) (.region 5 reg6_5 false))), .inLoop (.seq (.seq (.region 4 reg6_4 false) (.cond (.tmp 40 ) (.skip) (.exit 0))) (.seq (.block 1 (.seq (.region 6 reg6_6 true) (.cond (.tmp 54 ) (.seq (.region 7 reg6_7 false) (.ret)) (.skip)))) (.region 5 reg6_5 false))), .inBlock 0, .code (.seq (.region 8 reg6_8 false) (.ret))]
theorem sm_in (aa : Option Addr) (n ac : Nat) (oa : Option Addr) (ord : List Int) (oc : Nat) (sa : Option Addr) (sts : List Int) (sc : Nat) (k : Bool) (ba : Option Addr) (bc : Nat) (pa : Option Addr) (pc : Nat) (ra : Option Addr) (rc : Nat) (cs : List Frame) (w : World) (hsn : sts.length ≤ 17592186044416) (s1 : NumA sa sts w) (s2 : NumA ra sts w) (hon : ord.length ≤ 17592186044416) (t1 : NumA oa ord w) (t2 : NumA pa ord w) :
    Walk Try.prog main (DR (fun _ => none)) (fun g w' => (∃ u, g = G (hdSm w.heap.size (w.heap.size + 1) 0 u) cs) ∧ Chg (fun _ => False) w w' ∧ w'.heap[w.heap.size]? = some (.cells (trC (.slice aa n ac) (.slice oa ord.length oc) (.slice sa sts.length sc) k) 31) ∧ w'.heap[w.heap.size + 1]? = some (.cells (trC (.slice ba n bc) (.slice pa ord.length pc) (.slice ra sts.length rc) k) 31))
      (G (Frame.enter Try.prog 6 #[.agg (trC (.slice aa n ac) (.slice oa ord.length oc) (.slice sa sts.length sc) k), .agg (trC (.slice ba n bc) (.slice pa ord.length pc) (.slice ra sts.length rc) k)] .normal) cs) w := by
  have qb := run_neqB (P := Try.prog) 4 und4B k k
  have qe := ev_neqB (P := Try.prog) 4 und4B k k
  have qk : (k != k) = false := by cases k <;> rfl
  rw [qk] at qb
  rw [enter_at _ Try.func6 code6_is]
  simp only [Try.ntmps6, ez, Nat.reduceAdd, Nat.reduceSub]
  repeat (first | refine Walk.cx ?_ | (refine Walk.cReg ?_; simp only [z6]) | (refine Walk.oq ?_; try walk_nrm) | (refine Walk.un ?_; walk_nrm))
  (refine Walk.oa ?_; try walk_nrm)
  have hO : Chg (fun _ => False) w (w.alloc (.cells (trC (.slice aa n ac) (.slice oa ord.length oc) (.slice sa sts.length sc) k) 31)) := Chg.alloc
  have hX := heap_alloc_new w (.cells (trC (.slice aa n ac) (.slice oa ord.length oc) (.slice sa sts.length sc) k) 31)
  have hsz : (w.alloc (.cells (trC (.slice aa n ac) (.slice oa ord.length oc) (.slice sa sts.length sc) k) 31)).heap.size = w.heap.size + 1 := by simp
  generalize w.alloc (.cells (trC (.slice aa n ac) (.slice oa ord.length oc) (.slice sa sts.length sc) k) 31) = w1 at *
  repeat (first | (refine Walk.oq ?_; try walk_nrm) | (refine Walk.un ?_; walk_nrm))
  (refine Walk.oa ?_; try walk_nrm)
  have hO2 : Chg (fun _ => False) w (w1.alloc (.cells (trC (.slice ba n bc) (.slice pa ord.length pc) (.slice ra sts.length rc) k) 31)) := hO.trans (S' := fun _ => False) Chg.alloc fun _ _ h => h
  have hY := heap_alloc_new w1 (.cells (trC (.slice ba n bc) (.slice pa ord.length pc) (.slice ra sts.length rc) k) 31)
  have hX2 := (heap_new_lt w1 (.cells (trC (.slice ba n bc) (.slice pa ord.length pc) (.slice ra sts.length rc) k) 31) (by rw [hsz]; exact Nat.lt_succ_self _)).trans hX
  rw [hsz] at hY
  clear hX hO hsz
  generalize w1.alloc (.cells (trC (.slice ba n bc) (.slice pa ord.length pc) (.slice ra sts.length rc) k) 31) = w2 at *
  have h17 := si_w (main := main) (V := fun _ => none) oa pa ord oc pc hon w2 (t1.chg hO2) (t2.chg hO2)
  have h18 := sn_w (main := main) (V := fun _ => none) sa ra sts sc rc hsn w2 (s1.chg hO2) (s2.chg hO2)
  generalize w.heap.size = X at *
  have x0 : w2.cell? ⟨X, 0, none⟩ = some (.slice aa n ac) := (cell_of hX2 0).trans rfl
  have x1 : w2.cell? ⟨X, 1, none⟩ = some (.slice oa ord.length oc) := (cell_of hX2 1).trans rfl
  have x2 : w2.cell? ⟨X, 2, none⟩ = some (.slice sa sts.length sc) := (cell_of hX2 2).trans rfl
  have x3 : w2.cell? ⟨X, 3, none⟩ = some (.bool k) := (cell_of hX2 3).trans rfl
  have y0 : w2.cell? ⟨X + 1, 0, none⟩ = some (.slice ba n bc) := (cell_of hY 0).trans rfl
  have y1 : w2.cell? ⟨X + 1, 1, none⟩ = some (.slice pa ord.length pc) := (cell_of hY 1).trans rfl
  have y2 : w2.cell? ⟨X + 1, 2, none⟩ = some (.slice ra sts.length rc) := (cell_of hY 2).trans rfl
  have y3 : w2.cell? ⟨X + 1, 3, none⟩ = some (.bool k) := (cell_of hY 3).trans rfl
  clear s1 s2 t1 t2
  repeat (first | refine Walk.cx ?_ | (refine Walk.cReg ?_; simp only [z6]) | (refine Walk.oq ?_; try walk_nrm) | (refine Walk.un ?_; walk_nrm))
  refine Walk.callV (x := .bool true) (W := w2) ?_ (ho_of (by conv => lhs; whnf) (by kernel_rfl)) (by rfl) (by decide) rfl Try.func8 (by kernel_rfl) (by rfl) ?_
  · walk_nrm
    exact h17
  walk_nrm
  repeat (first | refine Walk.cx ?_ | (refine Walk.cReg ?_; simp only [z6]) | (refine Walk.oq ?_; try walk_nrm) | (refine Walk.un ?_; walk_nrm))
  refine Walk.callV (x := .bool true) (W := w2) ?_ (ho_of (by conv => lhs; whnf) (by kernel_rfl)) (by rfl) (by decide) rfl Try.func7 (by kernel_rfl) (by rfl) ?_
  · walk_nrm
    exact h18
  walk_nrm
  repeat (first | refine Walk.cx ?_ | (refine Walk.cReg ?_; simp only [z6]) | (refine Walk.oq ?_; try walk_nrm) | (refine Walk.un ?_; walk_nrm))
  refine Walk.ctl rfl (fun w => stepG_loop) ?_
  refine .stop fun d => ⟨at_slots ?_, hO2.at d, hX2, hY⟩
  simp only [hdSm]
  rfl
theorem sm_go (X Y n i ab ao ac bb bo bc : Nat) (ta tb : Option Addr) (l : List Ans) (tc td : Nat) (u : Nat → Value) (cs : List Frame) (w : World) (hi : i < n) (hn : n ≤ 17592186044416) (htl : l.length ≤ 17592186044416) (x0 : w.cell? ⟨X, 0, none⟩ = some (.slice (some ⟨ab, ao, none⟩) n ac)) (y0 : w.cell? ⟨Y, 0, none⟩ = some (.slice (some ⟨bb, bo, none⟩) n bc))
    (ha : w.cell? ⟨ab, ao + i, none⟩ = some (.slice ta l.length tc)) (hb : w.cell? ⟨bb, bo + i, none⟩ = some (.slice tb l.length td)) (h1 : AnsA ta l w) (h2 : AnsA tb l w) :
    Walk Try.prog main (DR (fun _ => none)) (fun g w' => (∃ u', g = G (hdSm X Y (i + 1) u') cs) ∧ ∃ d, w' = w.at d) (G (hdSm X Y i u) cs) w := by
  have hw1 : IntKind.wrap .i64 ((i : Int) + 1) = (i : Int) + 1 := by rw [IntKind.wrap_i64]; omega
  have hq := sa_w (main := main) (V := fun _ => none) ta tb l tc td htl w h1 h2
  clear h1 h2
  conv => arg 5; unfold hdSm
  repeat (first | refine Walk.cx ?_ | (refine Walk.cReg ?_; simp only [z6]) | (refine Walk.oq ?_; try walk_nrm) | (refine Walk.un ?_; walk_nrm))
  (refine Walk.drawnC (by kernel_rfl) size6_6 (by kernel_rfl) (by kernel_rfl) (by decide) ?_; simp only [List.range, List.range.loop]; repeat (first | (refine Cm.oq ?_) | (refine Cm.unw (ho_of (by conv => lhs; whnf) (by kernel_rfl)) (by rfl) ?_; walk_nrm)))
  refine Cm.callV (x := .bool true) ?_ (ho_of (by conv => lhs; whnf) (by kernel_rfl)) (by rfl) rfl Try.func17 (by kernel_rfl) (by rfl) ?_
  · intro w' e
    subst e
    walk_nrm
    exact hq
  walk_nrm
  repeat (first | (refine Cm.oq ?_) | (refine Cm.unw (ho_of (by conv => lhs; whnf) (by kernel_rfl)) (by rfl) ?_; walk_nrm))
  refine Cm.done ?_
  repeat (first | refine Walk.cx ?_ | (refine Walk.cReg ?_; simp only [z6]) | (refine Walk.oq ?_; try walk_nrm) | (refine Walk.un ?_; walk_nrm))
  refine Walk.ctl rfl (fun w => stepG_inLoop) ?_
  refine .stop fun d' => ⟨at_slots ?_, d', rfl⟩
  have hc : ((i + 1 : Nat) : Int) = (i : Int) + 1 := by simp
  simp only [hdSm, hc]
  rfl
theorem sm_out (X Y n : Nat) (aa : Option Addr) (ac : Nat) (u : Nat → Value) (c : Frame) (cs : List Frame) (w : World) (x0 : w.cell? ⟨X, 0, none⟩ = some (.slice aa n ac)) :
    Walk Try.prog main (DR (fun _ => none)) (fun g w' => g = G (c.finish (.bool true)) cs ∧ ∃ d, w' = w.at d) (G (hdSm X Y n u) (c :: cs)) w := by
  unfold hdSm
  repeat (first | refine Walk.cx ?_ | (refine Walk.cReg ?_; simp only [z6]) | (refine Walk.oq ?_; try walk_nrm) | (refine Walk.un ?_; walk_nrm))
  exact Walk.on1 rfl rfl Try.func6 rfl (.stop fun d => ⟨rfl, d, rfl⟩)
theorem sm_w (ca cb : Array Value) (n : Nat) (F : Nat → List Ans) (ord : List Nat) (sts : List Int) (k : Bool) (w : World) (hn : n ≤ 64) (hord : ord.length ≤ 1048576) (hsn : sts.length ≤ 1048576) (hF : ∀ i, i < n → (F i).length ≤ 65536) (h1 : TrA ca n F ord sts k w) (h2 : TrA cb n F ord sts k w) :
    CallW Try.prog main (fun _ => none) 6 #[.agg ca, .agg cb] w (fun v w' => v = .bool true ∧ Chg (fun _ => False) w w') := by
  obtain ⟨aa, ac, oa, oc, sa, sc, rfl, n1, n2, n3⟩ := h1.all
  obtain ⟨ba, bc, pa, pc, ra, rc, rfl, m1, m2, m3⟩ := h2.all
  have olen : (ord.map fun i => ((i : Nat) : Int)).length = ord.length := by simp
  intro fr cs
  have hin := sm_in (main := main) aa n ac oa (ord.map fun i => ((i : Nat) : Int)) oc sa sts sc k ba bc pa pc ra rc (fr :: cs) w (by omega) n2 m2 (by omega) n1 m1
  rw [olen] at hin
  refine hin.then ?_
  rintro g w1 ⟨⟨u, rfl⟩, hC, hX, hY⟩
  have x0 : w1.cell? ⟨w.heap.size, 0, none⟩ = some (.slice aa n ac) := (cell_of hX 0).trans rfl
  have y0 : w1.cell? ⟨w.heap.size + 1, 0, none⟩ = some (.slice ba n bc) := (cell_of hY 0).trans rfl
  have hcell : ∀ {x j : Nat} {v : Value}, w.cell? ⟨x, j, none⟩ = some v → w1.cell? ⟨x, j, none⟩ = some v := fun {x j v} h => (World.cell?_of_block (a := ⟨x, j, none⟩) (hC.same x (cell_lt' h) id)).trans h
  have loop : ∀ (r i : Nat) (u : Nat → Value), i + r = n → Walk Try.prog main (DR (fun _ => none)) (fun g w' => g = G (fr.finish (.bool true)) cs ∧ ∃ d, w' = w1.at d) (G (hdSm w.heap.size (w.heap.size + 1) i u) (fr :: cs)) w1 := by
    intro r
    induction r with
    | zero =>
      intro i u hi
      obtain rfl : i = n := hi
      exact sm_out _ _ i aa ac u fr cs w1 x0
    | succ r ih =>
      intro i u hi
      obtain ⟨ab, ao, ta, tc, rfl, k1, k2⟩ := n3 i (by omega)
      obtain ⟨bb, bo, tb, td, rfl, j1, j2⟩ := m3 i (by omega)
      refine (sm_go _ _ n i ab ao ac bb bo bc ta tb (F i) tc td u (fr :: cs) w1 (by omega) (by omega) (by have := hF i (by omega); omega) x0 y0 (hcell k1) (hcell j1) (k2.chg hC) (j2.chg hC)).then ?_
      rintro g w' ⟨⟨u', rfl⟩, d, rfl⟩
      exact Walk.back (ih (i + 1) u' (by omega)) d
  refine (loop n 0 u (by omega)).mono ?_
  rintro g w' ⟨rfl, d, rfl⟩
  exact ⟨_, ⟨rfl, hC.at d⟩, rfl⟩
end
end
end Go.Proofs.Ytabpfdckgnimaaa
