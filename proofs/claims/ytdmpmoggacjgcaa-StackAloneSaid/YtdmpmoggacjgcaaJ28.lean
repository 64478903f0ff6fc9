/- Part 28. -/
import Derived.Test.YtdmpmoggacjgcaaJ19
import Derived.Test.YtdmpmoggacjgcaaJ26
import Derived.Test.YtdmpmoggacjgcaaJ27
set_option linter.unusedSimpArgs false
set_option linter.unusedVariables false
set_option maxHeartbeats 8000000
set_option maxRecDepth 100000
namespace Go.Proofs.Ytdmpmoggacjgcaa
open Go.Conc Go.RowKit Go.Relay
open Go.ConcN (upd upd_ne upd_same)
section
section
variable {P : Program}
theorem eqInB (d : Nat) (t : TypeId) (x y : Bool) (w : World) (es : Array Event) (hu : P.underlying t = some .bool) : (Op.equalIn (d + 1) t (.bool x) (.bool y)).run P w = .ok (x == y) w ∧ (Op.equalIn (d + 1) t (.bool x) (.bool y)).events P w es = es := by
 constructor <;> simp [Op.equalIn, run_underlying hu]
theorem run_neqB (t : TypeId) (hu : P.underlying t = some .bool) (x y : Bool) (w : World) : (binOp .neq t (.bool x) (.bool y)).run P w = .ok (.bool (x != y)) w := by
 simp only [binOp]
 simp [Op.equal, Op.maxDepth, (eqInB 9999 t x y w #[] hu).1, bne]
theorem ev_neqB (t : TypeId) (hu : P.underlying t = some .bool) (x y : Bool) (w : World) (es : Array Event) : (binOp .neq t (.bool x) (.bool y)).events P w es = es := by
 simp only [binOp]
 simp [Op.equal, Op.maxDepth, (eqInB 9999 t x y w #[] hu).1, (eqInB 9999 t x y w es hu).2]
end
theorem und4B : Try.prog.underlying 4 = some .bool := by kernel_rfl
def NumA (a : Option Addr) (l : List Int) (w : World) : Prop := ∀ (i : Nat) (x : Int), l[i]? = some x → ∃ b o, a = some ⟨b, o, none⟩ ∧ w.cell? ⟨b, o + i, none⟩ = some (.int .i64 x)
def AnsA (a : Option Addr) (l : List Ans) (w : World) : Prop := ∀ (i : Nat) (x : Ans), l[i]? = some x → ∃ b o, a = some ⟨b, o, none⟩ ∧ w.cell? ⟨b, o + i * 3, none⟩ = some (.bool x.1) ∧ w.cell? ⟨b, o + i * 3 + 1, none⟩ = some (.int .i64 x.2) ∧ w.cell? ⟨b, o + i * 3 + 2, none⟩ = some (.slice none 0 0)
theorem NumA.chg {a : Option Addr} {l : List Int} {w w' : World} (h : NumA a l w) (hC : Chg (fun _ => False) w w') : NumA a l w' := fun i x hx => by
 obtain ⟨b, o, e, hc⟩ := h i x hx
 exact ⟨b, o, e, (World.cell?_of_block (a := ⟨b, o + i, none⟩) (hC.same b (cell_lt' hc) id)).trans hc⟩
theorem AnsA.chg {a : Option Addr} {l : List Ans} {w w' : World} (h : AnsA a l w) (hC : Chg (fun _ => False) w w') : AnsA a l w' := fun i x hx => by
 obtain ⟨b, o, e, h1, h2, h3⟩ := h i x hx
 exact ⟨b, o, e, (World.cell?_of_block (a := ⟨b, _, none⟩) (hC.same b (cell_lt' h1) id)).trans h1, (World.cell?_of_block (a := ⟨b, _, none⟩) (hC.same b (cell_lt' h1) id)).trans h2, (World.cell?_of_block (a := ⟨b, _, none⟩) (hC.same b (cell_lt' h1) id)).trans h3⟩
section
variable {main : Bool} {V : Nat → Option Wait}
theorem sn_in (a b : Option Addr) (n ca cb : Nat) (cs : List Frame) (w : World) :
  Walk Try.prog main (DR V) (fun g w' => (∃ u, g = G (hdSame (.slice a n ca) (.slice b n cb) 0 u) cs) ∧ ∃ d, w' = w.at d) (G (Frame.enter Try.prog 13 #[.slice a n ca, .slice b n cb] .normal) cs) w := by
 rw [enter_at _ Try.func13 code13_is]
 simp only [Try.ntmps13, ez, Nat.reduceAdd, Nat.reduceSub]
 refine Walk.gz z13 ?_
 refine Walk.ctl rfl (fun w => stepG_loop) ?_
 refine .stop fun d => ⟨at_slots ?_, d, rfl⟩
 simp only [hdSame]
 rfl
theorem sn_out (a b : Option Addr) (n ca cb : Nat) (u : Nat → Value) (c : Frame) (cs : List Frame) (w : World) :
  Walk Try.prog main (DR V) (fun g w' => g = G (c.finish (.bool true)) cs ∧ ∃ d, w' = w.at d) (G (hdSame (.slice a n ca) (.slice b n cb) n u) (c :: cs)) w := by
 unfold hdSame
 refine Walk.gz z13 ?_
 exact Walk.on1 rfl rfl Try.func13 rfl (.stop fun d => ⟨rfl, d, rfl⟩)
theorem sn_go (ab ao n ca bb bo cb i : Nat) (x : Int) (u : Nat → Value) (cs : List Frame) (w : World) (hi : i < n) (hn : n ≤ 17592186044416) (ha : w.cell? ⟨ab, ao + i, none⟩ = some (.int .i64 x)) (hb : w.cell? ⟨bb, bo + i, none⟩ = some (.int .i64 x)) :
  Walk Try.prog main (DR V) (fun g w' => (∃ u', g = G (hdSame (.slice (some ⟨ab, ao, none⟩) n ca) (.slice (some ⟨bb, bo, none⟩) n cb) (i + 1) u') cs) ∧ ∃ d, w' = w.at d) (G (hdSame (.slice (some ⟨ab, ao, none⟩) n ca) (.slice (some ⟨bb, bo, none⟩) n cb) i u) cs) w := by
 have hw1 : IntKind.wrap .i64 ((i : Int) + 1) = (i : Int) + 1 := by rw [IntKind.wrap_i64]; omega
 conv => arg 5; unfold hdSame
 refine Walk.gz z13 ?_
 (refine Walk.drawnC (by kernel_rfl) size13_6 (by kernel_rfl) (by kernel_rfl) (by decide) ?_; simp only [List.range, List.range.loop]; repeat (first | (refine Cm.oq ?_) | (refine Cm.unw hoA (by rfl) ?_; walk_nrm)))
 refine Cm.done ?_
 refine Walk.gz z13 ?_
 refine Walk.ctl rfl (fun w => stepG_inLoop) ?_
 refine .stop fun d' => ⟨at_slots ?_, d', rfl⟩
 have hc : ((i + 1 : Nat) : Int) = (i : Int) + 1 := by simp
 simp only [hdSame, hc]
 rfl
theorem sn_loop (a b : Option Addr) (l : List Int) (ca cb : Nat) (hn : l.length ≤ 17592186044416) (c : Frame) (cs : List Frame) (w : World) (ha : NumA a l w) (hb : NumA b l w) : ∀ (r i : Nat) (u : Nat → Value), i + r = l.length →
  Walk Try.prog main (DR V) (fun g w' => g = G (c.finish (.bool true)) cs ∧ ∃ d, w' = w.at d) (G (hdSame (.slice a l.length ca) (.slice b l.length cb) i u) (c :: cs)) w := by
 intro r
 induction r with
 | zero =>
  intro i u hi
  have hi : i = l.length := hi
  subst hi
  exact sn_out a b l.length ca cb u c cs w
 | succ r ih =>
  intro i u hi
  have hin : i < l.length := by omega
  have hx := List.getElem?_eq_getElem hin
  obtain ⟨ab, ao, rfl, h1⟩ := ha i _ hx
  obtain ⟨bb, bo, rfl, h2⟩ := hb i _ hx
  refine (sn_go ab ao l.length ca bb bo cb i _ u (c :: cs) w hin hn h1 h2).then ?_
  rintro g w' ⟨⟨u', rfl⟩, d, rfl⟩
  exact Walk.back (ih (i + 1) u' (by omega)) d
theorem sn_w (a b : Option Addr) (l : List Int) (ca cb : Nat) (hn : l.length ≤ 17592186044416) (w : World) (ha : NumA a l w) (hb : NumA b l w) : CallV Try.prog main V 13 #[.slice a l.length ca, .slice b l.length cb] w (.bool true) w := by
 intro fr cs
 refine (sn_in a b l.length ca cb (fr :: cs) w).then ?_
 rintro g w1 ⟨⟨u, rfl⟩, d, rfl⟩
 refine Walk.back ?_ d
 refine (sn_loop a b l ca cb hn fr cs w ha hb l.length 0 u (by omega)).mono ?_
 rintro g w' ⟨rfl, d, rfl⟩
 exact ⟨_, ⟨rfl, d, rfl⟩, rfl⟩
end
structure TrA (cells : Array Value) (n : Nat) (F : Nat → List Ans) (ord : List Nat) (sts : List Int) (k : Bool) (w : World) : Prop where
 all : ∃ aa ac oa oc sa sc, cells = trC (.slice aa n ac) (.slice oa ord.length oc) (.slice sa sts.length sc) k ∧ NumA oa (ord.map fun i => ((i : Nat) : Int)) w ∧ NumA sa sts w ∧ ∀ i, i < n → ∃ b o ta tc, aa = some ⟨b, o, none⟩ ∧ w.cell? ⟨b, o + i, none⟩ = some (.slice ta (F i).length tc) ∧ AnsA ta (F i) w
theorem TrA.chg {cells : Array Value} {n : Nat} {F : Nat → List Ans} {ord : List Nat} {sts : List Int} {k : Bool} {w w' : World} (h : TrA cells n F ord sts k w) (hC : Chg (fun _ => False) w w') : TrA cells n F ord sts k w' := by
 obtain ⟨aa, ac, oa, oc, sa, sc, e, h1, h2, h3⟩ := h.all
 refine ⟨aa, ac, oa, oc, sa, sc, e, h1.chg hC, h2.chg hC, fun i hi => ?_⟩
 obtain ⟨b, o, ta, tc, e, k1, k2⟩ := h3 i hi
 exact ⟨b, o, ta, tc, e, (World.cell?_of_block (a := ⟨b, o + i, none⟩) (hC.same b (cell_lt' k1) id)).trans k1, k2.chg hC⟩
end
section
def ext (κ : Nat → Nat) (a c : Nat) : Nat → Nat := fun b => if a ≤ b then c else κ b
theorem ext_lt {κ : Nat → Nat} {a c b : Nat} (h : b < a) : ext κ a c b = κ b := if_neg (by omega)
theorem ext_ge {κ : Nat → Nat} {a c b : Nat} (h : a ≤ b) : ext κ a c b = c := if_pos h
theorem MaX.mono' {S S' : Nat → Prop} {m nb vb n cn cv : Nat} {tg : Bool} {tl : Value} {s : Sk} {w : World} (X : MaX S m nb vb n cn cv tg tl s w) (h : ∀ g, g < w.heap.size → S g → S' g) : MaX S' m nb vb n cn cv tg tl s w := by
 obtain ⟨l1, l2, l3⟩ := X.lt
 exact ⟨X.blk, X.nx, X.vl, X.hd, X.fr, X.nxb, X.tag, h _ l1 X.sm, h _ l2 X.sn, h _ l3 X.sv, X.ne⟩
theorem TuX.mono' {S S' : Nat → Prop} {B : Nat} {la : Option Addr} {lc : Nat} {sl : List Int} {most : Int} {p rd : Nat} {oa : Option Addr} {oc : Nat} {ord : List Nat} {st : Bool} {w : World} (X : TuX S B la lc sl most p rd oa oc ord st w) (h : ∀ g, g < w.heap.size → S g → S' g) : TuX S' B la lc sl most p rd oa oc ord st w :=
 ⟨X.blk, X.lst, X.row, h _ X.lt X.sb, fun g hg => ⟨h _ (X.lst.lt g hg).2 (X.sq g hg).1, (X.sq g hg).2⟩, fun g hg => ⟨h _ (X.row.lt g hg).2 (X.so g hg).1, (X.so g hg).2⟩⟩
theorem TIs.mono' {S S' : Nat → Prop} {n b : Nat} {ops : List OpV} {oa : Option Addr} {oc : Nat} {left : List OpV} {d : Option SD} {ans : List Ans} {e : Bool} {w : World} (X : TIs S n b ops oa oc left d ans e w) (h : ∀ g, g < w.heap.size → S g → S' g) : TIs S' n b ops oa oc left d ans e w := by
 obtain ⟨k, PC, N, aa, ac, X, h1, h2⟩ := X
 exact ⟨k, PC, N, aa, ac, X.mono' h, h1, h2⟩
structure RQ (N : Nat) (tg : Bool) (kb0 nb0 : Nat) (ops : Nat → List OpV) (n : Nat) (W : World) (nb vb cn cv : Nat) (ts : Nat → Nat) (oas : Nat → Option Addr) (ocs : Nat → Nat) (la : Option Addr) (lc : Nat) (κ : Nat → Nat) (k : Nat) (x : OX (skLa kb0 nb0 N tg)) (w : World) : Prop where
 size : W.heap.size + 1 ≤ w.heap.size
 old : ∀ b, b < W.heap.size → κ b = 0 ∧ w.heap[b]? = W.heap[b]?
 res : κ W.heap.size = 3 ∧ w.heap[W.heap.size]? = some zTr
 M : MaX (fun g => κ g = 1) (W.heap.size + 1) nb vb N cn cv tg (.slice la n lc) x.s w
 L : ∀ i, i < n → ∃ tl, la = some ⟨tl, 0, none⟩ ∧ κ tl = 4 ∧ w.cell? ⟨tl, i, none⟩ = some (.pointer (some ⟨ts i, 0, none⟩))
 T : ∀ i, i < n → i < k → TisR (skLa kb0 nb0 N tg) id (fun g => κ g = 5 + i) N (ts i) (ops i) (oas i) (ocs i) (x.th i) w
 Z : ∀ i, i < n → k ≤ i → ThX (fun g => κ g = 5 + i) (ts i) (ops i) (oas i) (ocs i) 0 0 (fun _ => 0) [] none 0 false w
 out : ∀ i, i < k → (x.out i).isSome = (x.th i).d.isNone
section
variable {N : Nat} {tg : Bool} {kb0 nb0 : Nat} {ops : Nat → List OpV} {n : Nat} {W : World} {nb vb cn cv : Nat} {ts : Nat → Nat} {oas : Nat → Option Addr} {ocs : Nat → Nat} {la : Option Addr} {lc : Nat} {κ : Nat → Nat} {k : Nat} {x : OX (skLa kb0 nb0 N tg)} {w w' : World}
theorem RQ.next {k' i c : Nat} {x' : OX (skLa kb0 nb0 N tg)} (H : RQ N tg kb0 nb0 ops n W nb vb cn cv ts oas ocs la lc κ k x w) (hc : c = 2 ∨ c = 5 + i) (hC : Chg (fun g => κ g = 1 ∨ κ g = c) w w')
  (hM : MaX (fun g => κ g = 1) (W.heap.size + 1) nb vb N cn cv tg (.slice la n lc) x'.s w') (hk : ∀ j, j < k' → j ≠ i → j < k) (hk2 : ∀ j, j < n → k' ≤ j → k ≤ j ∧ j ≠ i) (hth : ∀ j, j ≠ i → x'.th j = x.th j ∧ x'.out j = x.out j)
  (hT : i < n → i < k' → c = 5 + i ∧ TisR (skLa kb0 nb0 N tg) id (fun g => κ g = 5 + i ∨ w.heap.size ≤ g) N (ts i) (ops i) (oas i) (ocs i) (x'.th i) w') (ho : i < k' → (x'.out i).isSome = (x'.th i).d.isNone) (hi : i < n ∨ c = 2) :
  RQ N tg kb0 nb0 ops n W nb vb cn cv ts oas ocs la lc (ext κ w.heap.size c) k' x' w' := by
 have hs := hC.size
 have hsz := H.size
 have same : ∀ g, g < w.heap.size → κ g ≠ 1 → κ g ≠ c → w'.heap[g]? = w.heap[g]? := fun g hg h1 h2 => hC.same g hg fun e => e.elim h1 h2
 have five : ∀ j, j ≠ i → 5 + j ≠ c := fun j hj => by omega
 obtain ⟨l1, l2, l3⟩ := H.M.lt
 refine ⟨by omega, fun b hb => ?_, ⟨?_, ?_⟩, ?_, fun j hj => ?_, fun j hj hjk => ?_, fun j hj hjk => ?_, fun j hjk => ?_⟩
 ·obtain ⟨h1, h2⟩ := H.old b hb
  exact ⟨(ext_lt (by omega)).trans h1, (same b (by omega) (by omega) (by omega)).trans h2⟩
 ·exact (ext_lt (by omega)).trans H.res.1
 ·have := H.res.1
  exact (same _ (by omega) (by omega) (by omega)).trans H.res.2
 ·obtain ⟨a1, e1, e1'⟩ := H.M.nx
  exact ⟨hM.blk, hM.nx, hM.vl, hM.hd, hM.fr, hM.nxb, hM.tag, (ext_lt l1).trans H.M.sm, (ext_lt l2).trans H.M.sn, (ext_lt l3).trans H.M.sv, hM.ne⟩
 ·obtain ⟨tl, e, h1, h2⟩ := H.L j hj
  have := cell_lt' h2
  exact ⟨tl, e, (ext_lt this).trans h1, (World.cell?_of_block (a := ⟨tl, j, none⟩) (same tl this (by omega) (by omega))).trans h2⟩
 ·by_cases e : j = i
  ·subst e
   obtain ⟨hc2, h⟩ := hT hj hjk
   subst hc2
   refine TIs.mono h fun g hg => ?_
   by_cases hg2 : w.heap.size ≤ g
   ·exact ext_ge hg2
   ·rw [ext_lt (by omega)]
    exact hg.resolve_right hg2
  ·have hT' := H.T j hj (hk j hjk e)
   rw [(hth j e).1]
   refine TIs.same (TIs.mono' hT' (S' := fun g => ext κ w.heap.size c g = 5 + j) fun g hg h => (ext_lt hg).trans h) fun g hg h => ?_
   rw [ext_lt hg] at h
   exact same g hg (by omega) (by rw [h]; exact five j e)
 ·obtain ⟨h1, h2⟩ := hk2 j hj hjk
  refine ((H.Z j hj h1).mono' (S' := fun g => ext κ w.heap.size c g = 5 + j) fun g hg h => (ext_lt hg).trans h).same fun g hg h => ?_
  rw [ext_lt hg] at h
  exact same g hg (by omega) (by rw [h]; exact five j h2)
 ·by_cases e : j = i
  ·subst e
   exact ho hjk
  ·rw [(hth j e).1, (hth j e).2]
   exact H.out j (hk j hjk e)
theorem TuX.ext {B : Nat} {lo : Option Addr} {lco : Nat} {sl : List Int} {most : Int} {p rd : Nat} {oa : Option Addr} {oc : Nat} {ord : List Nat} {st : Bool} {c : Nat} (X : TuX (fun g => κ g = 2) B lo lco sl most p rd oa oc ord st w) (hC : Chg (fun g => κ g = 1 ∨ κ g = c) w w') (hc : c ≠ 2) : TuX (fun g => ext κ w.heap.size c g = 2) B lo lco sl most p rd oa oc ord st w' := by
 refine (X.mono' (S' := fun g => Go.Proofs.Ytdmpmoggacjgcaa.ext κ w.heap.size c g = 2) fun g hg h => (ext_lt hg).trans h).same fun g hg h => ?_
 have h : Go.Proofs.Ytdmpmoggacjgcaa.ext κ w.heap.size c g = 2 := h
 rw [ext_lt hg] at h
 exact hC.same g hg fun e => by omega
theorem RQ.init (sz : Int) {a2 : Nat} {pr : Nat → Option Nat} (hN : N = sizeN sz) (H : PlyIn sz tg ops n W a2 nb vb cn cv pr ts oas ocs la lc w) : ∃ κ, RQ N tg kb0 nb0 ops n W nb vb cn cv ts oas ocs la lc κ 0 (x0O (skLa kb0 nb0 N tg) (sk0 N)) w := by
 subst hN
 obtain ⟨h1, h2⟩ := H.lo
 refine ⟨fun b => if b < W.heap.size then 0 else if b = W.heap.size then 3 else if b < a2 then 1 else match pr b with | some i => 5 + i | none => 4, by omega, fun b hb => ⟨if_pos hb, H.old b hb⟩, ⟨?_, H.res⟩, H.M.mono fun g hg => ?_, fun i hi => ?_, fun i _ h => absurd h (Nat.not_lt_zero _), fun i hi _ => (H.th i hi).mono fun g hg => ?_, fun i h => absurd h (Nat.not_lt_zero _)⟩
 ·show (if W.heap.size < W.heap.size then 0 else _) = 3
  rw [if_neg (Nat.lt_irrefl _), if_pos rfl]
 ·show (if g < W.heap.size then 0 else _) = 1
  rw [if_neg (by omega), if_neg (by omega), if_pos hg.2]
 ·obtain ⟨g, e, hg, _, hc⟩ := row_at H.row (ptrRow_get (ts := ts) hi)
  refine ⟨g, e, ?_, hc⟩
  show (if g < W.heap.size then 0 else _) = 4
  rw [if_neg (by omega), if_neg (by omega), if_neg (by omega), H.rowp g (by rw [e]; rfl)]
 ·have := H.prl g i hg
  show (if g < W.heap.size then 0 else _) = 5 + i
  rw [if_neg (by omega), if_neg (by omega), if_neg (by omega), hg]
end
end
section
theorem ansRow_get : ∀ (l : List Ans) (k j : Nat) (o : Ans) (v : Value), l[k]? = some o → ([.bool o.1, .int .i64 o.2, .slice none 0 0] : List Value)[j]? = some v → (ansRow l)[k * 3 + j]? = some v
 | o' :: l, 0, j, o, v, hk, hv => by
  simp only [List.getElem?_cons_zero, Option.some.injEq] at hk
  subst hk
  have hj := (List.getElem?_eq_some_iff.1 hv).1
  have : ansRow (o' :: l) = [.bool o'.1, .int .i64 o'.2, .slice none 0 0] ++ ansRow l := by simp [ansRow]
  rw [this, Nat.zero_mul, Nat.zero_add, List.getElem?_append_left hj]
  exact hv
 | o' :: l, k + 1, j, o, v, hk, hv => by
  have : ansRow (o' :: l) = [.bool o'.1, .int .i64 o'.2, .slice none 0 0] ++ ansRow l := by simp [ansRow]
  rw [this, List.getElem?_append_right (by simp; omega)]
  have h := ansRow_get l k j o v (by simpa using hk) hv
  rw [← h]
  congr 1
  simp
  omega
theorem ansA_of {w : World} {base : Nat} {ta : Option Addr} {m tc : Nat} {l : List Ans} (h : w.ownsRow base 32 3 (.slice ta m tc) m (ansRow l)) (hm : m = l.length) : AnsA ta l w := fun i x hx => by
 obtain ⟨g, e, _, _, h0⟩ := row_at h (ansRow_get l i 0 x _ hx rfl)
 obtain ⟨g1, e1, _, _, h1⟩ := row_at h (ansRow_get l i 1 x _ hx rfl)
 obtain ⟨g2, e2, _, _, h2⟩ := row_at h (ansRow_get l i 2 x _ hx rfl)
 rw [e] at e1 e2
 cases e1
 cases e2
 refine ⟨g, 0, e, ?_, ?_, ?_⟩
 ·rw [Nat.zero_add]; exact h0
 ·rw [Nat.zero_add]; exact h1
 ·rw [Nat.zero_add]; exact h2
theorem numA_of {w : World} {base : Nat} {e : TypeId} {ta : Option Addr} {m tc : Nat} {l : List Int} (h : w.ownsRow base e 1 (.slice ta m tc) m (l.map (.int .i64))) : NumA ta l w := fun i x hx => by
 obtain ⟨g, e, _, _, h0⟩ := row_at h (j := i) (x := .int .i64 x) (by simp [hx])
 exact ⟨g, 0, e, by rw [Nat.zero_add]; exact h0⟩
section
variable {main : Bool} {N : Nat} {tg : Bool} {kb0 nb0 : Nat} {ops : Nat → List OpV} {n : Nat} {W : World} {nb vb cn cv : Nat} {ts : Nat → Nat} {oas : Nat → Option Addr} {ocs : Nat → Nat} {la : Option Addr} {lc : Nat} {most : Int} {sl : List Int}
theorem rq_begin (sv : Value) (mst : Int) (hn : n ≤ 64) (hol : ∀ i, i < n → (ops i).length ≤ 65536) (cs : List Frame) : ∀ (r k : Nat) (κ : Nat → Nat) (x : OX (skLa kb0 nb0 N tg)) (u : Nat → Value) (w : World), k + r = n → RQ N tg kb0 nb0 ops n W nb vb cn cv ts oas ocs la lc κ k x w →
  Walk Try.prog main (DR (fun _ => none)) (fun g w' => (∃ u, g = G (hdQ0 sv mst W.heap.size (W.heap.size + 1) n u) cs) ∧ ∃ κ', RQ N tg kb0 nb0 ops n W nb vb cn cv ts oas ocs la lc κ' n (bornsA (absO (skLa kb0 nb0 N tg) n most ops) r k x) w') (G (hdQ0 sv mst W.heap.size (W.heap.size + 1) k u) cs) w := by
 intro r
 induction r with
 | zero =>
  intro k κ x u w hk H
  obtain rfl : k = n := hk
  exact .stop fun d => ⟨⟨u, rfl⟩, κ, ⟨H.size, H.old, H.res, H.M.at d, H.L, fun i h1 h2 => TIs.same (H.T i h1 h2) fun _ _ _ => rfl, fun i h1 h2 => (H.Z i h1 h2).at d, H.out⟩⟩
 | succ r ih =>
  intro k κ x u w hk H
  have hkn : k < n := by omega
  obtain ⟨tl, rfl, _, hl⟩ := H.L k hkn
  have X0 := H.Z k hkn (Nat.le_refl _)
  have hb := mbg_w (main := main) (kb := kb0) (nb := nb0) (n := N) (tg := tg) (W.heap.size + 1) 0 (fun _ => 0) [] none 0 x.s w (hol k hkn) (Nat.zero_le _) rfl X0
  refine (ply_one sv mst W.heap.size (W.heap.size + 1) k tl n lc (ts k) _ u cs w hkn hn (mc7 H.M.blk) hl hb).then ?_
  rintro g w' ⟨⟨u', rfl⟩, w1, d, ⟨hT, hC⟩, rfl⟩
  refine Walk.back ?_ d
  rw [List.drop_zero] at hT
  have hC2 : Chg (fun g => κ g = 1 ∨ κ g = 5 + k) w w1 := hC.mono fun g _ h => .inr h
  have hM1 := H.M.chg hC fun g _ h h2 => by have h : κ g = 1 := h; have h2 : κ g = 5 + k := h2; omega
  have key : RQ N tg kb0 nb0 ops n W nb vb cn cv ts oas ocs (some ⟨tl, 0, none⟩) lc (ext κ w.heap.size (5 + k)) (k + 1) (bornO ops x k) w1 := by
   refine H.next (i := k) (.inr rfl) hC2 ?_ (fun j h1 h2 => by omega) (fun j _ h => by omega) (fun j hj => ⟨upd_ne _ _ hj, upd_ne _ _ hj⟩) (fun _ _ => ⟨rfl, ?_⟩) (fun _ => ?_) (.inl hkn)
   ·show MaX (fun g => κ g = 1) (W.heap.size + 1) nb vb N cn cv tg (.slice (some ⟨tl, 0, none⟩) n lc) (settleO (skLa kb0 nb0 N tg) x.s (ops k) []).1 w1
    exact (congrArg (fun s : Sk => MaX (fun g => κ g = 1) (W.heap.size + 1) nb vb N cn cv tg (.slice (some ⟨tl, 0, none⟩) n lc) s w1) (settle_same (kb := kb0) (nb := nb0) (n := N) (tg := tg) x.s (ops k) [])).mpr hM1
   ·show TisR (skLa kb0 nb0 N tg) id _ N (ts k) (ops k) (oas k) (ocs k) (upd x.th k (settleO (skLa kb0 nb0 N tg) x.s (ops k) []).2 k) w1
    rw [upd_same]
    exact hT
   ·unfold bornO putO
    simp only [upd_same]
    cases (settleO (skLa kb0 nb0 N tg) x.s (ops k) []).2.d <;> rfl
  exact ih (k + 1) _ _ u' w1 (by omega) key
def RPlay (N : Nat) (n : Nat) (W : World) (L : La) (stx : L.Sg → List Int) (F : OX L × List Nat) (v : Value) (w' : World) : Prop := ∃ cells, v = .agg cells ∧ TrA cells n (fun i => (F.1.th i).ans) F.2 (stx F.1.s) (stuckO n F.1) w' ∧ Chg (fun _ => False) W w' ∧ F.2.length ≤ 1048576 ∧ ∀ i, i < n → (F.1.th i).ans.length ≤ 65536
theorem rq_last (hm0 : 0 ≤ most) (hm1 : most ≤ 1048576) (hn : n ≤ 64) (hN : N ≤ 65536) (hol : ∀ i, i < n → (ops i).length ≤ 65536) (hsl : sl.length ≤ 17592186044416) (F : OX (skLa kb0 nb0 N tg) × List Nat) (c : Frame) (cs : List Frame) (κ : Nat → Nat) (x : OX (skLa kb0 nb0 N tg)) (ord : List Nat) (p rd : Nat) (oa : Option Addr) (oc B : Nat) (lo : Option Addr) (lco : Nat) (u : Nat → Value) (w : World)
  (H : RQ N tg kb0 nb0 ops n W nb vb cn cv ts oas ocs la lc κ n x w) (U : TuX (fun g => κ g = 2) B lo lco sl most p rd oa oc ord false w) (A : Ahead (absO (skLa kb0 nb0 N tg) n most ops) F sl p rd (x, ord)) (hrd : rd < n ∨ n = 0) (he : EndAt (fun g => κ g = 2) la n (fun i => (x.out i).isSome) w) (hov : overA (absO (skLa kb0 nb0 N tg) n most ops) (x, ord) = true) :
  Walk Try.prog main (DR (fun _ => none)) (fun g w' => ∃ v, RPlay N n W (skLa kb0 nb0 N tg) (stateX N) F v w' ∧ g = G (c.finish v) cs) (G (hdQ1 W.heap.size (W.heap.size + 1) B u) (c :: cs)) w := by
 have hF := A.done hov
 have hshort := A.short
 have hx : ∀ i, ∃ v : Value, i < n → ∃ aa ac, v = .slice aa ((x.th i).ans).length ac ∧ w.cell? ⟨ts i, 12, none⟩ = some v ∧ κ (ts i) = 5 + i ∧ w.ownsRow 0 32 3 v ((x.th i).ans).length (ansRow (x.th i).ans) ∧ (∀ g, v.ownBlock = some g → κ g = 5 + i) ∧ ((x.th i).ans).length ≤ 65536 := fun i => by
  by_cases hi : i < n
  ·obtain ⟨k, PC, Nn, aa, ac, X, h1, h2⟩ := H.T i hi hi
   have hkl : k ≤ 65536 := by
    have := hol i hi
    rcases h2 with ⟨_, h, _⟩ | ⟨_, o, _, h, _⟩
    ·omega
    ·have := (List.getElem?_eq_some_iff.1 h).1; omega
   exact ⟨.slice aa ((x.th i).ans).length ac, fun _ => ⟨aa, ac, rfl, tcA X.blk, X.sb, X.rA, fun g hg => (X.sa g hg).1, by omega⟩⟩
  ·exact ⟨undef, fun h => absurd h hi⟩
 have hpick := pick_w (main := main) (tc := lc) (f := fun i => (x.out i).isSome) (fun i _ => rfl) hn hm1 hsl w U he A hrd
 refine (ply_last (W.heap.size + 1) nb vb N cn cv tg x.s n lc la (fun i => (hx i).choose) B (fun w' => TuX (fun g => κ g = 2) B lo lco sl most p rd oa oc ord (decide (0 < goingA (absO (skLa kb0 nb0 N tg) n most ops) x)) w' ∧ Chg (fun g => κ g = 2) w w') W.heap.size u c cs w hn hN (mc7 H.M.blk) (fun c' cs' => (hpick c' cs').mono fun g w' ⟨v, hP, hg⟩ => ?_) fun w1 hY => ?_).mono ?_
 ·rcases hP with ⟨h1, _, h2, h3⟩ | ⟨h, _⟩
  ·exact ⟨v, ⟨h1, h2, h3⟩, hg⟩
  ·rw [hov] at h; cases h
 ·obtain ⟨U1, hC1⟩ := hY
  have hs1 := hC1.size
  have hsz := H.size
  refine ⟨lo, lco, sl, most, p, rd, oa, oc, ord, _, ⟨?_, U1.mono' fun g hg _ => hg, fun i hi => ?_, ?_, by omega⟩⟩
  ·exact (H.M.chg hC1 fun g _ h h2 => by have h : κ g = 1 := h; have h2 : κ g = 2 := h2; omega).mono' fun g hg _ => hg
  ·obtain ⟨tl, e, h1, h2⟩ := H.L i hi
   obtain ⟨aa, ac, e1, e2, e3, _⟩ := (hx i).choose_spec hi
   have k1 : w1.cell? ⟨tl, i, none⟩ = some (.pointer (some ⟨ts i, 0, none⟩)) := (World.cell?_of_block (a := ⟨tl, i, none⟩) (hC1.same tl (cell_lt' h2) (by omega))).trans h2
   have k2 : w1.cell? ⟨ts i, 12, none⟩ = some (hx i).choose := (World.cell?_of_block (a := ⟨ts i, 12, none⟩) (hC1.same (ts i) (cell_lt' e2) (by omega))).trans e2
   refine ⟨tl, ts i, aa, _, ac, e, by rw [Nat.zero_add]; exact k1, ?_, e1⟩
   rw [k2, e1]
  ·have := H.res.1
   exact (hC1.same _ (by omega) (by omega)).trans H.res.2
 ·rintro g w' ⟨v, w1, lo', lco', sl', most', p', rd', oa', oc', ord', st', ⟨U1, hC1⟩, E, hO, rfl⟩
  have hs1 := hC1.size
  have hsz := H.size
  have hor : oa' = oa ∧ oc' = oc ∧ ord'.length = ord.length ∧ st' = decide (0 < goingA (absO (skLa kb0 nb0 N tg) n most ops) x) := by
   have e := E.U.blk.symm.trans U1.blk
   simp only [Option.some.injEq, Obj.cells.injEq, tuA] at e
   have e := e.1
   simp only [Array.mk.injEq, List.cons.injEq, Value.slice.injEq, Value.bool.injEq] at e
   exact ⟨e.2.2.2.2.1.1, e.2.2.2.2.1.2.2, e.2.2.2.2.1.2.1, e.2.2.2.2.2.1⟩
  obtain ⟨rfl, rfl, hol', rfl⟩ := hor
  obtain ⟨ha, hc, sa, sc, rfl, r1, r2, hC2⟩ := hO
  have hs2 := hC2.size
  have hR3 := H.res.1
  subst hF
  refine ⟨_, ⟨_, rfl, ⟨⟨ha, hc, oa', oc', sa, sc, by rw [hol']; rfl, ?_, ?_, fun i hi => ?_⟩⟩, ⟨by omega, fun b hb _ => ?_⟩, by have h : (ord.length : Int) ≤ most := hshort; show ord.length ≤ 1048576; omega, fun i hi => ?_⟩, rfl⟩
  ·refine numA_of (base := 0) (e := 3) (m := ord.length) (tc := oc') ?_
   have : ((ord.map fun i => ((i : Nat) : Int)).map (Value.int .i64)) = ordRow ord := by simp [ordRow]
   rw [this]
   refine row_same U1.row fun g hg => hC2.same g (U1.row.lt g hg).2 fun e => ?_
   have h2 : κ g = 2 := (U1.so g hg).1
   rw [e, hR3] at h2
   cases h2
  ·exact numA_of (base := w1.heap.size) (e := 2) (m := (stateX N x.s).length) (tc := sc) r2
  ·obtain ⟨aa, ac, e1, e2, e3, e4, e5, _⟩ := (hx i).choose_spec hi
   obtain ⟨g, eg, hg, _, hcell⟩ := row_at r1 (j := i) (x := (hx i).choose) (by simp [hdRow, hi])
   refine ⟨g, 0, aa, ac, eg, by rw [Nat.zero_add, hcell, e1], ?_⟩
   rw [e1] at e4 e5
   refine ansA_of (base := 0) (m := ((x.th i).ans).length) (tc := ac) ?_ rfl
   refine row_same e4 fun g hg => ?_
   have h5 := e5 g hg
   have hgl := (e4.lt g hg).2
   exact (hC2.same g (by omega) fun e => by rw [e, hR3] at h5; omega).trans (hC1.same g hgl (by omega))
  ·have h0 := H.old b hb
   exact (hC2.same b (by omega) (by omega)).trans ((hC1.same b (by omega) (by omega)).trans h0.2)
  ·obtain ⟨_, _, _, _, _, _, _, h⟩ := (hx i).choose_spec hi
   exact h
end
end
section
section
variable {main : Bool} {N : Nat} {tg : Bool} {kb0 nb0 : Nat} {ops : Nat → List OpV} {n : Nat} {W : World} {nb vb cn cv : Nat} {ts : Nat → Nat} {oas : Nat → Option Addr} {ocs : Nat → Nat} {la : Option Addr} {lc : Nat} {most : Int} {sl : List Int}
theorem RQ.ends {κ : Nat → Nat} {x : OX (skLa kb0 nb0 N tg)} {w : World} (H : RQ N tg kb0 nb0 ops n W nb vb cn cv ts oas ocs la lc κ n x w) : EndAt (fun g => κ g = 2) la n (fun i => (x.out i).isSome) w := fun i hi => by
 obtain ⟨tl, e, h1, h2⟩ := H.L i hi
 obtain ⟨k, PC, Nn, aa, ac, X, _⟩ := H.T i hi hi
 have hb : κ (ts i) = 5 + i := X.sb
 refine ⟨tl, 0, ts i, e, by rw [Nat.zero_add]; exact h2, ?_, fun h => by have h : κ tl = 2 := h; omega, fun h => by have h : κ (ts i) = 2 := h; omega⟩
 show w.cell? ⟨ts i, 13, none⟩ = some (.bool ((x.out i).isSome))
 rw [H.out i hi]
 exact tcE X.blk
theorem rq_run (hm0 : 0 ≤ most) (hm1 : most ≤ 1048576) (hn : n ≤ 64) (hN : N ≤ 65536) (hol : ∀ i, i < n → (ops i).length ≤ 65536) (hsl : sl.length ≤ 17592186044416) (F : OX (skLa kb0 nb0 N tg) × List Nat) (c : Frame) (cs : List Frame) (B : Nat) (lo : Option Addr) (lco : Nat) : ∀ (f : Nat) (κ : Nat → Nat) (x : OX (skLa kb0 nb0 N tg)) (ord : List Nat) (p rd : Nat) (oa : Option Addr) (oc : Nat) (u : Nat → Value) (w : World),
  most ≤ (ord.length + f : Nat) → RQ N tg kb0 nb0 ops n W nb vb cn cv ts oas ocs la lc κ n x w → TuX (fun g => κ g = 2) B lo lco sl most p rd oa oc ord false w → Ahead (absO (skLa kb0 nb0 N tg) n most ops) F sl p rd (x, ord) → (rd < n ∨ n = 0) →
  Walk Try.prog main (DR (fun _ => none)) (fun g w' => ∃ v, RPlay N n W (skLa kb0 nb0 N tg) (stateX N) F v w' ∧ g = G (c.finish v) cs) (G (hdQ1 W.heap.size (W.heap.size + 1) B u) (c :: cs)) w := by
 intro f
 induction f with
 | zero =>
  intro κ x ord p rd oa oc u w hf H U A hrd
  refine rq_last hm0 hm1 hn hN hol hsl F c cs κ x ord p rd oa oc B lo lco u w H U A hrd H.ends ?_
  unfold overA
  have : decide ((absO (skLa kb0 nb0 N tg) n most ops).most ≤ ((x, ord).2.length : Int)) = true := decide_eq_true (by show most ≤ (ord.length : Int); omega)
  rw [this, Bool.or_true]
 | succ f ih =>
  intro κ x ord p rd oa oc u w hf H U A hrd
  cases hov : overA (absO (skLa kb0 nb0 N tg) n most ops) (x, ord) with
  | true => exact rq_last hm0 hm1 hn hN hol hsl F c cs κ x ord p rd oa oc B lo lco u w H U A hrd H.ends hov
  | false =>
   have hpick := pick_w (main := main) (tc := lc) (f := fun i => (x.out i).isSome) (fun i _ => rfl) hn hm1 hsl w U H.ends A hrd
   have key : ∀ (i : Nat) (w1 : World), (∃ p' rd', i < n ∧ x.out i = none ∧ Ahead (absO (skLa kb0 nb0 N tg) n most ops) F sl p' rd' (nextO x i, ord ++ [i]) ∧ rd' < n ∧ PickOut (fun g => κ g = 2) B lo lco sl most p' rd' ord i w w1) →
     RQ N tg kb0 nb0 ops n W nb vb cn cv ts oas ocs la lc (ext κ w.heap.size 2) n x w1 := by
    rintro i w1 ⟨p', rd', h1, h2, h3, h4, oa', oc', U1, hC1⟩
    have hM1 := H.M.chg hC1 fun g _ h h2 => by have h : κ g = 1 := h; have h2 : κ g = 2 := h2; omega
    exact H.next (i := n) (.inl rfl) (hC1.mono fun g _ h => .inr h) hM1 (fun j h _ => h) (fun j h h2 => absurd h (by omega)) (fun j _ => ⟨rfl, rfl⟩) (fun h _ => absurd h (Nat.lt_irrefl _)) (fun h => absurd h (Nat.lt_irrefl _)) (.inr rfl)
   refine (ply_go W.heap.size (W.heap.size + 1) B n lc la (fun i w1 => ∃ p' rd', i < n ∧ x.out i = none ∧ Ahead (absO (skLa kb0 nb0 N tg) n most ops) F sl p' rd' (nextO x i, ord ++ [i]) ∧ rd' < n ∧ PickOut (fun g => κ g = 2) B lo lco sl most p' rd' ord i w w1)
    (fun i w1 w2 => MaX (fun g => ext κ w.heap.size 2 g = 1) (W.heap.size + 1) nb vb N cn cv tg (.slice la n lc) (Sk.mk (nextO x i).s.hd (nextO x i).s.fr (nextO x i).s.nx (nextO x i).s.vl) w2 ∧ TisR (skLa kb0 nb0 N tg) id (fun g => ext κ w.heap.size 2 g = 5 + i ∨ w1.heap.size ≤ g) N (ts i) (ops i) (oas i) (ocs i) ((nextO x i).th i) w2 ∧ Chg (fun g => ext κ w.heap.size 2 g = 1 ∨ ext κ w.heap.size 2 g = 5 + i) w1 w2 ∧ ((nextO x i).out i).isSome = ((nextO x i).th i).d.isNone ∧ ∀ j, j ≠ i → (nextO x i).th j = x.th j ∧ (nextO x i).out j = x.out j) u (c :: cs) w hn (mc7 H.M.blk) (fun c' cs' => (hpick c' cs').mono fun g w' ⟨v, hP, hg⟩ => ?_) fun i w1 hY => ?_).then ?_
   ·rcases hP with ⟨_, h, _⟩ | ⟨_, i, p', rd', h1, h2, rfl, h3, h4, h5⟩
    ·rw [hov] at h; cases h
    ·exact ⟨_, ⟨i, rfl, p', rd', h1, h2, h3, h4, h5⟩, hg⟩
   ·have H1 := key i w1 hY
    obtain ⟨p', rd', h1, h2, h3, h4, h5⟩ := hY
    obtain ⟨tl, e, _, k2⟩ := H1.L i h1
    refine ⟨h1, mc7 H1.M.blk, tl, ts i, e, k2, ?_⟩
    obtain ⟨k, PC, Nn, aa, ac, X, hk, hd⟩ := H1.T i h1 h1
    have hout := H1.out i h1
    rw [h2] at hout
    have hsome : ∃ d, (x.th i).d = some d := by
     cases hdd : (x.th i).d with
     | none => rw [hdd] at hout; cases hout
     | some d => exact ⟨d, rfl⟩
    obtain ⟨d, hdd⟩ := hsome
    rw [hdd] at hd
    rcases hd with ⟨hd, _⟩ | ⟨d', o, hd, ho, hleft, hdr, _⟩
    ·cases hd
    have hd : some d = some d' := hd
    cases hd
    have hst := step_w (main := main) (kb0 := kb0) (nb0 := nb0) d w1 X H1.M (fun g h h' => by have h : ext κ w.heap.size 2 g = 1 := h; have h' : ext κ w.heap.size 2 g = 5 + i := h'; omega) hdr ho (hol i h1) hk hN
    have hn' : nextO x i = putO x i (landO (skLa kb0 nb0 N tg) (skAct tg x.s d) (x.th i).left (x.th i).ans) (x.cnt + 1) := by
     unfold nextO
     rw [hdd]
     rfl
    intro c' cs'
    refine (hst c' cs').mono ?_
    rintro g w' ⟨v, ⟨rfl, hS⟩, rfl⟩
    rw [hn']
    unfold StepR at hS
    rw [← hleft] at hS
    obtain ⟨s1, s2, s3⟩ := hS
    refine ⟨_, ⟨rfl, s1, ?_, s3, ?_, fun j hj => ⟨upd_ne _ _ hj, upd_ne _ _ hj⟩⟩, rfl⟩
    ·show TisR (skLa kb0 nb0 N tg) id _ N (ts i) (ops i) (oas i) (ocs i) (upd x.th i (landO (skLa kb0 nb0 N tg) (skAct tg x.s d) (x.th i).left (x.th i).ans).2 i) w'
     rw [upd_same]
     exact s2
    ·unfold putO
     simp only [upd_same]
     cases (landO (skLa kb0 nb0 N tg) (skAct tg x.s d) (x.th i).left (x.th i).ans).2.d <;> rfl
   ·rintro g w' ⟨⟨u', rfl⟩, i, w1, w2, d, hY, ⟨z1, z2, z3, z4, z5⟩, rfl⟩
    refine Walk.back ?_ d
    have H1 := key i w1 hY
    obtain ⟨p', rd', h1, h2, h3, h4, oa', oc', U1, hC1⟩ := hY
    have hs1 := hC1.size
    have U2 : TuX (fun g => ext κ w.heap.size 2 g = 2) B lo lco sl most p' rd' oa' oc' (ord ++ [i]) false w1 := U1.mono fun g hg => by
     rcases hg with hg | hg
     ·by_cases h : w.heap.size ≤ g
      ·exact ext_ge h
      ·rw [ext_lt (by omega)]; exact hg
     ·exact ext_ge hg
    have H2 := H1.next (i := i) (c := 5 + i) (k' := n) (x' := nextO x i) (.inr rfl) z3 z1 (fun j h _ => h) (fun j h h2 => absurd h (by omega)) z5 (fun _ _ => ⟨rfl, z2⟩) (fun _ => z4) (.inl h1)
    have U3 := U2.ext z3 (by omega)
    exact ih _ (nextO x i) (ord ++ [i]) p' rd' oa' oc' u' w2 (by simp; omega) H2 U3 h3 (.inl h4)
theorem rplay_w (sz : Int) (kb0 nb0 : Nat) (tg : Bool) (tb toff n0 tc n : Nat) (ta : Option Addr) (oa : Nat → Option Addr) (ln oc : Nat → Nat) (ops : Nat → List OpV) (sa : Option Addr) (sc : Nat) (sl : List Int) (most : Int) (W : World) (I : OpsIn tb toff n oa ln oc ops W) (hn : n = min n0 64) (ht : 0 < n → ta = some ⟨tb, toff, none⟩)
  (hI : ∀ w, (∀ b, b < W.heap.size → w.heap[b]? = W.heap[b]?) → OpsIn tb toff n oa ln oc ops w) (hsl : sl.length ≤ 17592186044416) (hnil : sa = none → sl = [] ∧ sc = 0) (hs : ∀ (j : Nat) (z : Int), sl[j]? = some z → ∃ s so, sa = some ⟨s, so, none⟩ ∧ W.cell? ⟨s, so + j, none⟩ = some (.int .i64 z)) :
  CallW Try.prog main (fun _ => none) 16 #[.int .i64 sz, .bool tg, .slice ta n0 tc, .slice sa sl.length sc, .int .i64 most] W (fun v w' => RPlay (sizeN sz) n W (skLa kb0 nb0 (sizeN sz) tg) (stateX (sizeN sz)) (playO (skLa kb0 nb0 (sizeN sz) tg) (sk0 (sizeN sz)) ops n most sl) v w') := by
 intro c cs
 have hN := (sizeN_le sz).2.1
 have hol : ∀ i, i < n → (ops i).length ≤ 65536 := fun i hi => by have := I.len i hi; omega
 refine (ply_in sz tg tb toff n0 tc n ta oa ln oc ops (.slice sa sl.length sc) most (c :: cs) W I hn ht hI).then ?_
 rintro g w1 ⟨⟨u, rfl⟩, a2, nb, vb, cn, cv, pr, ts, oas, ocs, la, lc, hP⟩
 obtain ⟨κ, H0⟩ := RQ.init (kb0 := kb0) (nb0 := nb0) sz rfl hP
 refine (rq_begin (most := min (max most 0) 1048576) (.slice sa sl.length sc) most (by omega) hol (c :: cs) n 0 κ _ u w1 (by omega) H0).then ?_
 rintro g w2 ⟨⟨u2, rfl⟩, κ2, H2⟩
 have hcell : ∀ (j : Nat) (z : Int), sl[j]? = some z → ∃ s so, sa = some ⟨s, so, none⟩ ∧ w2.cell? ⟨s, so + j, none⟩ = some (.int .i64 z) := fun j z hz => by
  obtain ⟨s, so, e, h⟩ := hs j z hz
  exact ⟨s, so, e, (World.cell?_of_block (a := ⟨s, so + j, none⟩) (H2.old s (cell_lt' h)).2).trans h⟩
 have htu := newTurn_w (main := main) sa sc sl most w2 hsl hnil hcell
 refine (ply_turn sa sl.length sc most W.heap.size (W.heap.size + 1) n lc la (fun w b w' => ∃ lo lco, TuX (fun g => w.heap.size ≤ g) b lo lco sl (min (max most 0) 1048576) 0 0 none 0 [] false w' ∧ Chg (fun _ => False) w w') u2 (c :: cs) w2 (mc7 H2.M.blk) (fun c' cs' => (htu c' cs').mono fun g w' ⟨v, ⟨B, lo, lco, h1, h2, h3⟩, hg⟩ => ⟨v, ⟨B, h1, lo, lco, h2, h3⟩, hg⟩)).then ?_
 rintro g w' ⟨B, w3, d, ⟨u3, rfl⟩, ⟨lo, lco, U, hC⟩, rfl⟩
 refine Walk.back ?_ d
 have H3 := H2.next (i := n) (c := 2) (k' := n) (x' := bornsA (absO (skLa kb0 nb0 (sizeN sz) tg) n (min (max most 0) 1048576) ops) n 0 (x0O (skLa kb0 nb0 (sizeN sz) tg) (sk0 (sizeN sz)))) (.inl rfl) (hC.mono fun g _ h => h.elim) (H2.M.chg hC fun _ _ _ h => h) (fun j h _ => h) (fun j h h2 => absurd h (by omega)) (fun j _ => ⟨rfl, rfl⟩) (fun h _ => absurd h (Nat.lt_irrefl _)) (fun h => absurd h (Nat.lt_irrefl _)) (.inr rfl)
 have U3 : TuX (fun g => ext κ2 w2.heap.size 2 g = 2) B lo lco sl (min (max most 0) 1048576) 0 0 none 0 [] false w3 := U.mono fun g hg => ext_ge hg
 have hA := ahead_start (A := absO (skLa kb0 nb0 (sizeN sz) tg) n (min (max most 0) 1048576) ops) (sl := sl) (by show 0 ≤ min (max most 0) 1048576; omega) (bornsA (absO (skLa kb0 nb0 (sizeN sz) tg) n (min (max most 0) 1048576) ops) n 0 (x0O (skLa kb0 nb0 (sizeN sz) tg) (sk0 (sizeN sz))))
 exact rq_run (most := min (max most 0) 1048576) (by omega) (by omega) (by omega) hN hol hsl _ c cs B lo lco 1048576 _ _ [] 0 0 none 0 u3 w3 (by simp; omega) H3 U3 hA (by omega)
end
end
noncomputable def reg5_0 := rg Try.f5.body [0]
noncomputable def reg5_1 := rg Try.f5.body [1, 0, 0]
noncomputable def reg5_2 := rg Try.f5.body [1, 0, 1, 0, 0]
noncomputable def reg5_3 := rg Try.f5.body [1, 1, 0]
noncomputable def reg5_4 := rg Try.f5.body [1, 1, 1, 0, 0]
noncomputable def reg5_5 := rg Try.f5.body [1, 1, 1, 0, 1, 0, 0]
noncomputable def reg5_6 := rg Try.f5.body [1, 1, 1, 1, 0]
noncomputable def reg5_7 := rg Try.f5.body [1, 1, 1, 1, 1, 0, 0]
noncomputable def reg5_8 := rg Try.f5.body [1, 1, 1, 1, 1, 0, 1, 0, 0, 0]
noncomputable def reg5_9 := rg Try.f5.body [1, 1, 1, 1, 1, 0, 1, 0, 0, 1, 1, 0, 0, 0]
noncomputable def reg5_10 := rg Try.f5.body [1, 1, 1, 1, 1, 0, 1, 0, 0, 1, 1, 0, 0, 1, 0]
theorem size5_10 : reg5_10.size = 18 := by kernel_rfl
noncomputable def reg5_11 := rg Try.f5.body [1, 1, 1, 1, 1, 0, 1, 0, 0, 1, 1, 0, 0, 1, 1, 0]
noncomputable def reg5_12 := rg Try.f5.body [1, 1, 1, 1, 1, 0, 1, 0, 0, 1, 1, 0, 0, 1, 1, 1, 0, 0]
noncomputable def reg5_13 := rg Try.f5.body [1, 1, 1, 1, 1, 0, 1, 0, 0, 1, 1, 1]
noncomputable def reg5_14 := rg Try.f5.body [1, 1, 1, 1, 1, 1, 0]
noncomputable def reg5_15 := rg Try.f5.body [1, 1, 1, 1, 1, 1, 1, 0]
noncomputable def reg5_16 := rg Try.f5.body [1, 1, 1, 1, 1, 1, 1, 1, 0]
noncomputable def reg5_17 := rg Try.f5.body [1, 1, 1, 1, 1, 1, 1, 1, 1, 0]
theorem size5_17 : reg5_17.size = 47 := by kernel_rfl
theorem z5 : List.range reg5_0.size = [0] ∧ List.range reg5_1.size = [0, 1] ∧ List.range reg5_2.size = [0] ∧ List.range reg5_3.size = [0, 1, 2, 3, 4, 5] ∧ List.range reg5_4.size = [0, 1] ∧ List.range reg5_5.size = [0] ∧ List.range reg5_6.size = [0, 1, 2, 3, 4, 5, 6, 7, 8] ∧ List.range reg5_7.size = [0, 1, 2, 3, 4, 5] ∧ List.range reg5_8.size = [0] ∧ List.range reg5_9.size = [0, 1, 2, 3, 4, 5] ∧ List.range reg5_10.size = [0, 1, 2, 3, 4, 5, 6, 7, 8, 9, 10, 11, 12, 13, 14, 15, 16, 17] ∧ List.range reg5_11.size = [0, 1, 2, 3, 4, 5, 6, 7, 8, 9, 10, 11, 12, 13, 14, 15, 16, 17, 18, 19, 20, 21, 22, 23, 24, 25] ∧ List.range reg5_12.size = [0] ∧ List.range reg5_13.size = [0, 1] ∧ List.range reg5_14.size = [0, 1, 2, 3, 4, 5, 6, 7, 8, 9, 10] ∧ List.range reg5_15.size = [0, 1, 2, 3, 4, 5, 6, 7, 8] ∧ List.range reg5_16.size = [0, 1, 2, 3, 4, 5, 6, 7, 8, 9, 10] ∧ List.range reg5_17.size = [0, 1, 2, 3, 4, 5, 6, 7, 8, 9, 10, 11, 12, 13, 14, 15, 16, 17, 18, 19, 20, 21, 22, 23, 24, 25, 26, 27, 28, 29, 30, 31, 32, 33, 34, 35, 36, 37, 38, 39, 40, 41, 42, 43, 44, 45, 46] := by refine ⟨?_, ?_, ?_, ?_, ?_, ?_, ?_, ?_, ?_, ?_, ?_, ?_, ?_, ?_, ?_, ?_, ?_, ?_⟩ <;> kernel_rfl
theorem code5_is : Try.f5.body = some (.seq (.region 0 reg5_0 false) (.seq (.seq (.region 1 reg5_1 false) (.cond (.tmp 23 ) (.seq (.region 2 reg5_2 false) (.ret)) (.skip))) (.seq (.region 3 reg5_3 false) (.seq (.seq (.region 4 reg5_4 false) (.cond (.tmp 29 ) (.seq (.region 5 reg5_5 false) (.ret)) (.skip))) (.seq (.region 6 reg5_6 false) (.seq (.seq (.region 7 reg5_7 false) (.block 0 (.loop (.seq (.region 8 reg5_8 false) (.seq (.cond (.tmp 42 ) (.skip) (.exit 0)) (.seq (.block 1 (.seq (.region 9 reg5_9 false) (.seq (.region 10 reg5_10 true) (.seq (.region 11 reg5_11 false) (.cond (.tmp 85 ) (.seq (.region 12 reg5_12 false) (.ret)) (.skip)))))) (.region 13 reg5_13 false))))))) (.seq (.region 14 reg5_14 false) (.seq (.region 15 reg5_15 false) (.seq (.region 16 reg5_16 false) (.seq (.region 17 reg5_17 true) (.ret))))))))))) := by kernel_rfl
def tmA (sz : Int) (tb toff n0 tc R kb lb p q i : Nat) (aa : Option Addr) (m ac : Nat) (u : Nat → Value) : Array Value := #[.int .i64 sz, .slice (some ⟨tb, toff, none⟩) n0 tc, u 2, u 3, .bool false, .pointer (some ⟨R, 0, none⟩), .pointer (some ⟨kb, 0, none⟩), .pointer (some ⟨lb, 0, none⟩), .pointer (some ⟨p, 0, none⟩), .int .i64 i, .pointer (some ⟨q, 0, none⟩), u 11, u 12, u 13, u 14, u 15, u 16, u 17, u 18, u 19, u 20, u 21, u 22, u 23, u 24, u 25, u 26, u 27, u 28, u 29, u 30, u 31, u 32, u 33, u 34, u 35, u 36, u 37, u 38, .slice aa m ac, .int .i64 m, .int .i64 i, u 42, u 43, u 44, u 45, u 46, u 47, u 48, u 49, u 50, u 51, u 52, u 53, u 54, u 55, u 56, u 57, u 58, u 59, u 60, u 61, u 62, u 63, u 64, u 65, u 66, u 67, u 68, u 69, u 70, u 71, u 72, u 73, u 74, u 75, u 76, u 77, u 78, u 79, u 80, u 81, u 82, u 83, u 84, u 85, u 86, u 87, u 88, u 89, u 90, u 91, u 92, u 93, u 94, u 95, u 96, u 97, u 98, u 99, u 100, u 101, u 102, u 103, u 104, u 105, u 106, u 107, u 108, u 109, u 110, u 111, u 112, u 113, u 114, u 115, u 116, u 117, u 118, u 119, u 120, u 121, u 122, u 123, u 124, u 125, u 126, u 127, u 128, u 129, u 130, u 131, u 132, u 133, u 134, u 135, u 136, u 137, u 138, u 139, u 140, u 141, u 142, u 143, u 144, u 145, u 146, u 147, u 148, u 149, u 150, u 151, u 152, u 153, u 154]
def dsA : List Nat := [46, 47, 48, 49, 50, 51, 52, 53, 54, 55, 56, 57, 58, 59, 11, 12]
def vsA (tb toff n0 tc kb lb p i : Nat) (o : OpV) (a : Ans) (A B : Nat) : List Value := [.pointer (some ⟨kb, 0, none⟩), .pointer (some ⟨p, 0, none⟩), .iface 40 (.pointer (some ⟨p, 0, none⟩)), .slice (some ⟨tb, toff, none⟩) n0 tc, .int .i64 i, .pointer (some ⟨tb, toff + i * 4, none⟩), opVal o, ansVal a, .pointer (some ⟨lb, 0, none⟩), .slice (some ⟨tb, toff, none⟩) n0 tc, .int .i64 i, .pointer (some ⟨tb, toff + i * 4, none⟩), opVal o, ansVal a, .pointer (some ⟨A, 0, none⟩), .pointer (some ⟨B, 0, none⟩)]
structure AloW (kb nb lb mb n p : Nat) (S S' U U' : Sk) (c c' : Nat) (a : Ans) (W : World) (f : Nat → Bool) (A B : Nat) (w : World) : Prop where
 ik : SkI kb nb n true (if f 7 then S' else S) w
 cn : w.heap[p]? = some (.cells #[.int .i64 ((if f 7 then c' else c : Nat) : Int)] 42)
 il : SkI lb mb n false (if f 13 then U' else U) w
 a1 : f 14 = true → W.heap.size ≤ A ∧ w.heap[A]? = some (if f 16 then (.cells #[.bool a.1, .int .i64 a.2, .slice none 0 0] 32) else (.cells #[.bool false, .int .i64 0, .slice none 0 0] 32))
 b1 : f 15 = true → W.heap.size ≤ B ∧ w.heap[B]? = some (if f 17 then (.cells #[.bool a.1, .int .i64 a.2, .slice none 0 0] 32) else (.cells #[.bool false, .int .i64 0, .slice none 0 0] 32))
 ne : f 14 = true → f 15 = true → A ≠ B
 old : ∀ b, b < W.heap.size → b ≠ kb → b ≠ nb → b ≠ lb → b ≠ mb → b ≠ p → w.heap[b]? = W.heap[b]?
 size : W.heap.size ≤ w.heap.size
theorem AloW.at {kb nb lb mb n p : Nat} {S S' U U' : Sk} {c c' : Nat} {a : Ans} {W : World} {f : Nat → Bool} {A B : Nat} {w : World} (h : AloW kb nb lb mb n p S S' U U' c c' a W f A B w) (d : Nat) : AloW kb nb lb mb n p S S' U U' c c' a W f A B (w.at d) := ⟨h.ik.old fun _ _ => rfl, h.cn, h.il.old fun _ _ => rfl, h.a1, h.b1, h.ne, h.old, h.size⟩
theorem AloW.quiet {kb nb lb mb n p : Nat} {S S' U U' : Sk} {c c' : Nat} {a : Ans} {W : World} {f : Nat → Bool} {A B : Nat} {w : World} (h : AloW kb nb lb mb n p S S' U U' c c' a W f A B w) {i : Nat} (h7 : i ≠ 7) (h13 : i ≠ 13) (h14 : i ≠ 14) (h15 : i ≠ 15) (h16 : i ≠ 16) (h17 : i ≠ 17) : AloW kb nb lb mb n p S S' U U' c c' a W (upd f i true) A B w := by
 refine ⟨?_, ?_, ?_, ?_, ?_, ?_, h.old, h.size⟩
 ·rw [upd_ne _ _ (Ne.symm h7)]; exact h.ik
 ·rw [upd_ne _ _ (Ne.symm h7)]; exact h.cn
 ·rw [upd_ne _ _ (Ne.symm h13)]; exact h.il
 ·rw [upd_ne _ _ (Ne.symm h14), upd_ne _ _ (Ne.symm h16)]; exact h.a1
 ·rw [upd_ne _ _ (Ne.symm h15), upd_ne _ _ (Ne.symm h17)]; exact h.b1
 ·rw [upd_ne _ _ (Ne.symm h14), upd_ne _ _ (Ne.symm h15)]; exact h.ne
theorem facts_more {dsts : List Nat} {vals : List Value} {f : Nat → Bool} {u : Nat → Value} (F : Facts dsts vals f u) {i : Nat} (hd : dsts[i]? = none) : Facts dsts vals (upd f i true) u := by
 intro j d v hf hj hv
 by_cases e : j = i
 ·rw [e, hd] at hj; cases hj
 ·rw [upd_ne _ _ e] at hf
  exact F j d v hf hj hv
theorem facts_vals {dsts : List Nat} {vals vals' : List Value} {f : Nat → Bool} {u : Nat → Value} (F : Facts dsts vals f u) (h : ∀ j v, f j = true → vals'[j]? = some v → vals[j]? = some v) : Facts dsts vals' f u := fun j d v hf hd hv => F j d v hf hd (h j v hf hv)
theorem skEnter_any (s s' : Sk) (o : OpV) : skEnter s o = (s, (skEnter s' o).2) := by
 unfold skEnter
 split
 ·rfl
 split
 ·rfl
 split
 ·rfl
 split <;> rfl
theorem alone_do {main : Bool} (sz : Int) (tb toff n0 tc R kb nb lb mb n p q i : Nat) (aa : Option Addr) (m ac : Nat) (S U : Sk) (c : Nat) (o : OpV) (hn : n ≤ 65536) (hi : i < n0) (hn0 : n0 ≤ 17592186044416) (W : World)
  (hk : SkI kb nb n true S W) (hl : SkI lb mb n false U W) (hc : W.heap[p]? = some (.cells #[.int .i64 (c : Nat)] 42)) (hfew : c ≤ 9223372036854) (hs : (oneX false 0 U o).2.2 = (oneX true c S o).2.2)
  (hne : kb ≠ nb ∧ kb ≠ lb ∧ kb ≠ mb ∧ nb ≠ lb ∧ nb ≠ mb ∧ lb ≠ mb ∧ p ≠ kb ∧ p ≠ nb ∧ p ≠ lb ∧ p ≠ mb) (ht : tb ≠ kb ∧ tb ≠ nb ∧ tb ≠ lb ∧ tb ≠ mb ∧ tb ≠ p)
  (o0 : W.cell? ⟨tb, toff + i * 4, none⟩ = some (.int .i64 o.k)) (o1 : W.cell? ⟨tb, toff + i * 4 + 1, none⟩ = some (.int .i64 o.a)) (o2 : W.cell? ⟨tb, toff + i * 4 + 2, none⟩ = some (.int .i64 o.b)) (o3 : W.cell? ⟨tb, toff + i * 4 + 3, none⟩ = some (.int .i64 o.c))
  (k : List Item) (cs : List Frame) (u0 : Nat → Value) {Stop : Goroutine → World → Prop}
  (hend : ∀ (u : Nat → Value) (A B : Nat) (w : World), u 11 = .pointer (some ⟨A, 0, none⟩) → u 12 = .pointer (some ⟨B, 0, none⟩) → AloW kb nb lb mb n p S (oneX true c S o).2.1 U (oneX false 0 U o).2.1 c (oneX true c S o).1 (oneX true c S o).2.2 W (fun _ => true) A B w → Walk Try.prog main (DR (fun _ => none)) Stop (G ((base 5).at ⟨tmA sz tb toff n0 tc R kb lb p q i aa m ac u, []⟩ (.inRegion reg5_10 [] :: k)) cs) w) :
  Walk Try.prog main (DR (fun _ => none)) Stop (G ((base 5).at ⟨tmA sz tb toff n0 tc R kb lb p q i aa m ac u0, []⟩ (.code (.region 10 reg5_10 true) :: k)) cs) W := by
 have hif1 := run_ifaceSteps
 have hif2 := ev_ifaceSteps
 obtain ⟨fsO, huO⟩ := structT 45 (by kernel_rfl)
 have hrun := oneX_is kb nb n true c S o
 have hrunU : runN (skLa lb mb n false) 8 ((skLa lb mb n false).enter U o) = some ((oneX false 0 U o).2.1, (oneX false 0 U o).2.2) := lonC_runN (c1 := (oneX false 0 U o).1) (oneX_is lb mb n false 0 U o)
 generalize hX : oneX true c S o = X at *
 generalize hY : oneX false 0 U o = Y at *
 obtain ⟨c', S', a⟩ := X
 obtain ⟨cu, U', a'⟩ := Y
 have hs : a = a' := hs.symm
 subst hs
 dsimp only at hend hrun hrunU
 clear hX hY
 have hrun' : lonC (skLa kb nb n true) 8 c (S, (skEnter S o).2) = some (c', S', a) := (congrArg (lonC (skLa kb nb n true) 8 c) (skEnter_any S S o).symm).trans hrun
 have hrunU' : runN (skLa lb mb n false) 8 (U, (skEnter U o).2) = some (U', a) := (congrArg (runN (skLa lb mb n false) 8) (skEnter_any U U o).symm).trans hrunU
 have l1 : kb < W.heap.size := (skLa kb nb n true).lt hk (.inl rfl)
 have l2 : nb < W.heap.size := (skLa kb nb n true).lt hk (.inr rfl)
 have l3 : lb < W.heap.size := (skLa lb mb n false).lt hl (.inl rfl)
 have l4 : mb < W.heap.size := (skLa lb mb n false).lt hl (.inr rfl)
 have l5 : p < W.heap.size := (Array.getElem?_eq_some_iff.1 hc).1
 obtain ⟨n1, n2, n3, n4, n5, n6, n7, n8, n9, n10⟩ := hne
 refine Walk.drawnJ (Inv := fun f ac' w => ∃ u A B, ac' = ⟨tmA sz tb toff n0 tc R kb lb p q i aa m ac u, []⟩ ∧ Facts dsA (vsA tb toff n0 tc kb lb p i o a A B) f u ∧ AloW kb nb lb mb n p S S' U U' c c' a W f A B w) (by kernel_rfl) (by kernel_rfl) (fun d => ⟨u0, 0, 0, rfl, Facts.none _ _ _, AloW.at ⟨hk, hc, hl, fun h => (by cases h), fun h => (by cases h), fun h => (by cases h), fun _ _ _ _ _ _ _ => rfl, Nat.le_refl _⟩ d⟩) ?_ ?_
 ·rintro f j op act w ⟨u, A, B, rfl, F0, Q⟩ hC hfj ho hdeps rest hr
  have hj : j < 18 := by have := (Array.getElem?_eq_some_iff.1 ho).1; rw [size5_10] at this; exact this
  have hcell : ∀ {x y : Nat} {v : Value}, x = tb → W.cell? ⟨x, y, none⟩ = some v → w.cell? ⟨x, y, none⟩ = some v := fun {x y v} e h => by
   subst e
   exact (World.cell?_of_block (a := ⟨x, y, none⟩) (Q.old x (cell_lt' h) ht.1 ht.2.1 ht.2.2.1 ht.2.2.2.1 ht.2.2.2.2)).trans h
  have hC' := hC
  match j, hj with
  | 0, _ =>
   clear hdeps hC hC' hrun hrunU hrun' hrunU' hend
   simp only [tmA] at hr ⊢
   (refine Walk.oq ?_; try walk_nrm)
   refine hr _ _ ⟨upd u 46 (.pointer (some ⟨kb, 0, none⟩)), A, B, ?_, F0.set (by decide) rfl rfl, Q.quiet (by decide) (by decide) (by decide) (by decide) (by decide) (by decide)⟩
   simp [tmA, upd]
  | 1, _ =>
   clear hdeps hC hC' hrun hrunU hrun' hrunU' hend
   simp only [tmA] at hr ⊢
   (refine Walk.oq ?_; try walk_nrm)
   refine hr _ _ ⟨upd u 47 (.pointer (some ⟨p, 0, none⟩)), A, B, ?_, F0.set (by decide) rfl rfl, Q.quiet (by decide) (by decide) (by decide) (by decide) (by decide) (by decide)⟩
   simp [tmA, upd]
  | 2, _ =>
   have hd := deps_of (l := [1]) (by kernel_rfl) ho hdeps
   have e47 := F0 1 47 _ (hd 1 (by simp)) rfl rfl
   clear hdeps hC hC' hrun hrunU hrun' hrunU' hend
   simp only [tmA] at hr ⊢
   simp only [e47]
   (refine Walk.oq ?_; try walk_nrm)
   refine hr _ _ ⟨upd u 48 (.iface 40 (.pointer (some ⟨p, 0, none⟩))), A, B, ?_, F0.set (by decide) rfl rfl, Q.quiet (by decide) (by decide) (by decide) (by decide) (by decide) (by decide)⟩
   simp [tmA, upd, e47]
  | 3, _ =>
   clear hdeps hC hC' hrun hrunU hrun' hrunU' hend
   simp only [tmA] at hr ⊢
   (refine Walk.oq ?_; try walk_nrm)
   refine hr _ _ ⟨upd u 49 (.slice (some ⟨tb, toff, none⟩) n0 tc), A, B, ?_, F0.set (by decide) rfl rfl, Q.quiet (by decide) (by decide) (by decide) (by decide) (by decide) (by decide)⟩
   simp [tmA, upd]
  | 4, _ =>
   clear hdeps hC hC' hrun hrunU hrun' hrunU' hend
   simp only [tmA] at hr ⊢
   (refine Walk.oq ?_; try walk_nrm)
   refine hr _ _ ⟨upd u 50 (.int .i64 i), A, B, ?_, F0.set (by decide) rfl rfl, Q.quiet (by decide) (by decide) (by decide) (by decide) (by decide) (by decide)⟩
   simp [tmA, upd]
  | 5, _ =>
   have hd := deps_of (l := [3, 4]) (by kernel_rfl) ho hdeps
   have e49 := F0 3 49 _ (hd 3 (by simp)) rfl rfl
   have e50 := F0 4 50 _ (hd 4 (by simp)) rfl rfl
   have hi0 : (0 : Int) ≤ i := by omega
   have hi3 : decide (i < n0) = true := by simp; omega
   have hi1 : decide ((i : Int) < n0) = true := by simp; omega
   have hi4 : (i : Int) < n0 := by omega
   clear hdeps hC hC' hrun hrunU hrun' hrunU' hend
   simp only [tmA] at hr ⊢
   simp only [e49, e50]
   (refine Walk.oq ?_; try walk_nrm)
   refine hr _ _ ⟨upd u 51 (.pointer (some ⟨tb, toff + i * 4, none⟩)), A, B, ?_, F0.set (by decide) rfl rfl, Q.quiet (by decide) (by decide) (by decide) (by decide) (by decide) (by decide)⟩
   simp [tmA, upd, e49, e50]
  | 6, _ =>
   have hd := deps_of (l := [5]) (by kernel_rfl) ho hdeps
   have e51 := F0 5 51 _ (hd 5 (by simp)) rfl rfl
   have hcs : ∀ (y : Nat) (v : Value), ([.int .i64 o.k, .int .i64 o.a, .int .i64 o.b, .int .i64 o.c] : List Value)[y]? = some v → w.cell? ⟨tb, toff + i * 4 + y, none⟩ = some v := fun y v hv => by
    match y, hv with
    | 0, hv => cases hv; exact hcell rfl o0
    | 1, hv => cases hv; exact hcell rfl o1
    | 2, hv => cases hv; exact hcell rfl o2
    | 3, hv => cases hv; exact hcell rfl o3
   clear hdeps hC hC' hrun hrunU hrun' hrunU' hend
   simp only [tmA] at hr ⊢
   simp only [e51]
   refine Walk.loadS 45 (.tmp 51) hoA (by rfl) (by decide) rfl tb (toff + i * 4) [.int .i64 o.k, .int .i64 o.a, .int .i64 o.b, .int .i64 o.c] (.struct fsO) rfl hcs huO rfl (by kernel_rfl) ?_
   walk_nrm
   refine hr _ _ ⟨upd u 52 (opVal o), A, B, ?_, F0.set (by decide) rfl rfl, Q.quiet (by decide) (by decide) (by decide) (by decide) (by decide) (by decide)⟩
   simp [tmA, upd, opVal, e51]
  | 7, _ =>
   have hd := deps_of (l := [0, 2, 6]) (by kernel_rfl) ho hdeps
   have e46 := F0 0 46 _ (hd 0 (by simp)) rfl rfl
   have e48 := F0 2 48 _ (hd 2 (by simp)) rfl rfl
   have e52 := F0 6 52 _ (hd 6 (by simp)) rfl rfl
   have ik := Q.ik
   have cn := Q.cn
   rw [hfj] at ik cn
   simp only [Bool.false_eq_true, if_false] at ik cn
   clear hdeps hC hend
   simp only [tmA] at hr ⊢
   simp only [e46, e48, e52, opVal]
   refine Walk.callCnt (L := skLa kb nb n true) (p := p) (R := (c', S', a)) (Rel := fun v x => v = ansVal x) 8 c S (skEnter S o).2 ap0 ik (fun h => by rcases h with h | h; exact n7 h; exact n8 h) cn (by omega) hrun' ?_ hoA (by rfl) (by decide) rfl Try.func18 (by kernel_rfl) (by rfl) ⟨rfl, rfl, _, Try.func5⟩ ?_
   ·intro K e he
    walk_nrm
    exact (call_s K n1 hn e o.k o.a o.b o.c (he.trans (skEnter_any (K.s e) S o).symm)).mono fun v e' ⟨x, h1, h2⟩ => ⟨x, h2, h1⟩
   rintro v w1 rfl hCn
   have hCo := hCn.old
   have hCs := hCn.size
   have hQs := Q.size
   walk_nrm
   refine hr _ _ ⟨upd u 53 (ansVal a), A, B, ?_, F0.set (by decide) rfl rfl, ⟨?_, ?_, ?_, fun h => ?_, fun h => ?_, fun h h2 => ?_, fun b hb h1 h2 h3 h4 h5 => ?_, by omega⟩⟩
   ·simp [tmA, upd, ansVal, opVal, e46, e48, e52]
   ·rw [upd_same, if_pos rfl]; exact hCn.I
   ·rw [upd_same, if_pos rfl]; exact hCn.cnt
   ·rw [upd_ne _ _ (by decide)]
    exact (skLa lb mb n false).stable Q.il fun b hb => hCo b (by rcases hb with rfl | rfl <;> omega) (fun h => by rcases hb with rfl | rfl <;> rcases h with h | h <;> omega) (by rcases hb with rfl | rfl <;> omega)
   ·rw [upd_ne _ _ (by decide)] at h
    rw [upd_ne _ _ (by decide)]
    obtain ⟨z1, z2⟩ := Q.a1 h
    exact ⟨z1, (hCo A (Array.getElem?_eq_some_iff.1 z2).1 (fun h => by rcases h with h | h <;> omega) (by omega)).trans z2⟩
   ·rw [upd_ne _ _ (by decide)] at h
    rw [upd_ne _ _ (by decide)]
    obtain ⟨z1, z2⟩ := Q.b1 h
    exact ⟨z1, (hCo B (Array.getElem?_eq_some_iff.1 z2).1 (fun h => by rcases h with h | h <;> omega) (by omega)).trans z2⟩
   ·rw [upd_ne _ _ (by decide)] at h h2
    exact Q.ne h h2
   ·exact (hCo b (by omega) (fun h => by rcases h with h | h; exact h1 h; exact h2 h) h5).trans (Q.old b hb h1 h2 h3 h4 h5)
  | 8, _ =>
   clear hdeps hC hC' hrun hrunU hrun' hrunU' hend
   simp only [tmA] at hr ⊢
   (refine Walk.oq ?_; try walk_nrm)
   refine hr _ _ ⟨upd u 54 (.pointer (some ⟨lb, 0, none⟩)), A, B, ?_, F0.set (by decide) rfl rfl, Q.quiet (by decide) (by decide) (by decide) (by decide) (by decide) (by decide)⟩
   simp [tmA, upd]
  | 9, _ =>
   clear hdeps hC hC' hrun hrunU hrun' hrunU' hend
   simp only [tmA] at hr ⊢
   (refine Walk.oq ?_; try walk_nrm)
   refine hr _ _ ⟨upd u 55 (.slice (some ⟨tb, toff, none⟩) n0 tc), A, B, ?_, F0.set (by decide) rfl rfl, Q.quiet (by decide) (by decide) (by decide) (by decide) (by decide) (by decide)⟩
   simp [tmA, upd]
  | 10, _ =>
   clear hdeps hC hC' hrun hrunU hrun' hrunU' hend
   simp only [tmA] at hr ⊢
   (refine Walk.oq ?_; try walk_nrm)
   refine hr _ _ ⟨upd u 56 (.int .i64 i), A, B, ?_, F0.set (by decide) rfl rfl, Q.quiet (by decide) (by decide) (by decide) (by decide) (by decide) (by decide)⟩
   simp [tmA, upd]
  | 11, _ =>
   have hd := deps_of (l := [9, 10]) (by kernel_rfl) ho hdeps
   have e55 := F0 9 55 _ (hd 9 (by simp)) rfl rfl
   have e56 := F0 10 56 _ (hd 10 (by simp)) rfl rfl
   have hi0 : (0 : Int) ≤ i := by omega
   have hi3 : decide (i < n0) = true := by simp; omega
   have hi1 : decide ((i : Int) < n0) = true := by simp; omega
   have hi4 : (i : Int) < n0 := by omega
   clear hdeps hC hC' hrun hrunU hrun' hrunU' hend
   simp only [tmA] at hr ⊢
   simp only [e55, e56]
   (refine Walk.oq ?_; try walk_nrm)
   refine hr _ _ ⟨upd u 57 (.pointer (some ⟨tb, toff + i * 4, none⟩)), A, B, ?_, F0.set (by decide) rfl rfl, Q.quiet (by decide) (by decide) (by decide) (by decide) (by decide) (by decide)⟩
   simp [tmA, upd, e55, e56]
  | 12, _ =>
   have hd := deps_of (l := [11]) (by kernel_rfl) ho hdeps
   have e57 := F0 11 57 _ (hd 11 (by simp)) rfl rfl
   have hcs : ∀ (y : Nat) (v : Value), ([.int .i64 o.k, .int .i64 o.a, .int .i64 o.b, .int .i64 o.c] : List Value)[y]? = some v → w.cell? ⟨tb, toff + i * 4 + y, none⟩ = some v := fun y v hv => by
    match y, hv with
    | 0, hv => cases hv; exact hcell rfl o0
    | 1, hv => cases hv; exact hcell rfl o1
    | 2, hv => cases hv; exact hcell rfl o2
    | 3, hv => cases hv; exact hcell rfl o3
   clear hdeps hC hC' hrun hrunU hrun' hrunU' hend
   simp only [tmA] at hr ⊢
   simp only [e57]
   refine Walk.loadS 45 (.tmp 57) hoA (by rfl) (by decide) rfl tb (toff + i * 4) [.int .i64 o.k, .int .i64 o.a, .int .i64 o.b, .int .i64 o.c] (.struct fsO) rfl hcs huO rfl (by kernel_rfl) ?_
   walk_nrm
   refine hr _ _ ⟨upd u 58 (opVal o), A, B, ?_, F0.set (by decide) rfl rfl, Q.quiet (by decide) (by decide) (by decide) (by decide) (by decide) (by decide)⟩
   simp [tmA, upd, opVal, e57]
  | 13, _ =>
   have hd := deps_of (l := [8, 12, 7]) (by kernel_rfl) ho hdeps
   have e54 := F0 8 54 _ (hd 8 (by simp)) rfl rfl
   have e58 := F0 12 58 _ (hd 12 (by simp)) rfl rfl
   have e53 := F0 7 53 _ (hd 7 (by simp)) rfl rfl
   have il := Q.il
   rw [hfj] at il
   simp only [Bool.false_eq_true, if_false] at il
   clear hdeps hC hend
   simp only [tmA] at hr ⊢
   simp only [e54, e58, opVal]
   refine Walk.callLone (L := skLa lb mb n false) (R := (U', a)) (Rel := fun v x => v = ansVal x) 8 U (skEnter U o).2 ap0 il hrunU' ?_ hoA (by rfl) (by decide) rfl Try.func18 (by kernel_rfl) (by rfl) ⟨rfl, rfl, _, Try.func5⟩ ?_
   ·intro K e he
    walk_nrm
    exact (call_s K n6 hn e o.k o.a o.b o.c (he.trans (skEnter_any (K.s e) U o).symm)).mono fun v e' ⟨x, h1, h2⟩ => ⟨x, h2, h1⟩
   rintro v w1 rfl hCn
   have hCo := hCn.old
   have hCs := hCn.size
   have hQs := Q.size
   walk_nrm
   refine hr _ _ ⟨upd u 59 (ansVal a), A, B, ?_, F0.set (by decide) rfl rfl, ⟨?_, ?_, ?_, fun h => ?_, fun h => ?_, fun h h2 => ?_, fun b hb h1 h2 h3 h4 h5 => ?_, by omega⟩⟩
   ·simp [tmA, upd, ansVal, opVal, e54, e58]
   ·rw [upd_ne _ _ (by decide)]
    exact (skLa kb nb n true).stable Q.ik fun b hb => hCo b (by rcases hb with rfl | rfl <;> omega) (fun h => by rcases hb with rfl | rfl <;> rcases h with h | h <;> omega)
   ·rw [upd_ne _ _ (by decide)]
    exact (hCo p (by omega) (fun h => by rcases h with h | h <;> omega)).trans Q.cn
   ·rw [upd_same, if_pos rfl]; exact hCn.I
   ·rw [upd_ne _ _ (by decide)] at h
    rw [upd_ne _ _ (by decide)]
    obtain ⟨z1, z2⟩ := Q.a1 h
    exact ⟨z1, (hCo A (Array.getElem?_eq_some_iff.1 z2).1 (fun h => by rcases h with h | h <;> omega)).trans z2⟩
   ·rw [upd_ne _ _ (by decide)] at h
    rw [upd_ne _ _ (by decide)]
    obtain ⟨z1, z2⟩ := Q.b1 h
    exact ⟨z1, (hCo B (Array.getElem?_eq_some_iff.1 z2).1 (fun h => by rcases h with h | h <;> omega)).trans z2⟩
   ·rw [upd_ne _ _ (by decide)] at h h2
    exact Q.ne h h2
   ·exact (hCo b (by omega) (fun h => by rcases h with h | h; exact h3 h; exact h4 h)).trans (Q.old b hb h1 h2 h3 h4 h5)
  | 14, _ =>
   clear hdeps hC hrun hrunU hend
   have hN := heap_alloc_new w (.cells #[.bool false, .int .i64 0, .slice none 0 0] 32)
   have hO : ∀ b, b < w.heap.size → (w.alloc (.cells #[.bool false, .int .i64 0, .slice none 0 0] 32)).heap[b]? = w.heap[b]? := fun b hb => heap_new_lt _ _ hb
   have hZ : (w.alloc (.cells #[.bool false, .int .i64 0, .slice none 0 0] 32)).heap.size = w.heap.size + 1 := by simp
   have hQs := Q.size
   have h1x : f 16 = false := by
    cases h : f 16 with
    | false => rfl
    | true =>
     have := hC'.deps (i := 16) (l := [14]) h (by kernel_rfl) 14 (by simp)
     rw [hfj] at this
     cases this
   simp only [tmA] at hr ⊢
   (refine Walk.oa ?_; try walk_nrm)
   refine hr _ _ ⟨upd u 11 (.pointer (some ⟨w.heap.size, 0, none⟩)), w.heap.size, B, ?_, Facts.set (facts_vals F0 fun j v hf hv => ?_) (by decide) rfl rfl, ⟨?_, ?_, ?_, fun h => ?_, fun h => ?_, fun h h2 => ?_, fun b hb h1 h2 h3 h4 h5 => (hO b (by omega)).trans (Q.old b hb h1 h2 h3 h4 h5), by omega⟩⟩
   ·simp [tmA, upd]
   ·exact match j, hf, hv with
     | 0, _, hv => hv
     | 1, _, hv => hv
     | 2, _, hv => hv
     | 3, _, hv => hv
     | 4, _, hv => hv
     | 5, _, hv => hv
     | 6, _, hv => hv
     | 7, _, hv => hv
     | 8, _, hv => hv
     | 9, _, hv => hv
     | 10, _, hv => hv
     | 11, _, hv => hv
     | 12, _, hv => hv
     | 13, _, hv => hv
     | 14, hf, hv => by rw [hfj] at hf; cases hf
     | 15, _, hv => hv
     | j + 16, _, hv => hv
   ·rw [upd_ne _ _ (by decide)]; exact Q.ik.old hO
   ·rw [upd_ne _ _ (by decide)]; exact (hO p (by omega)).trans Q.cn
   ·rw [upd_ne _ _ (by decide)]; exact Q.il.old hO
   ·rw [upd_ne _ _ (by decide), h1x]
    exact ⟨hQs, hN⟩
   ·rw [upd_ne _ _ (by decide)] at h
    rw [upd_ne _ _ (by decide)]
    obtain ⟨z1, z2⟩ := Q.b1 h
    exact ⟨z1, (hO _ (Array.getElem?_eq_some_iff.1 z2).1).trans z2⟩
   ·rw [upd_ne _ _ (by decide)] at h2
    have := (Array.getElem?_eq_some_iff.1 (Q.b1 h2).2).1
    omega
  | 15, _ =>
   clear hdeps hC hrun hrunU hend
   have hN := heap_alloc_new w (.cells #[.bool false, .int .i64 0, .slice none 0 0] 32)
   have hO : ∀ b, b < w.heap.size → (w.alloc (.cells #[.bool false, .int .i64 0, .slice none 0 0] 32)).heap[b]? = w.heap[b]? := fun b hb => heap_new_lt _ _ hb
   have hZ : (w.alloc (.cells #[.bool false, .int .i64 0, .slice none 0 0] 32)).heap.size = w.heap.size + 1 := by simp
   have hQs := Q.size
   have h1x : f 17 = false := by
    cases h : f 17 with
    | false => rfl
    | true =>
     have := hC'.deps (i := 17) (l := [15]) h (by kernel_rfl) 15 (by simp)
     rw [hfj] at this
     cases this
   simp only [tmA] at hr ⊢
   (refine Walk.oa ?_; try walk_nrm)
   refine hr _ _ ⟨upd u 12 (.pointer (some ⟨w.heap.size, 0, none⟩)), A, w.heap.size, ?_, Facts.set (facts_vals F0 fun j v hf hv => ?_) (by decide) rfl rfl, ⟨?_, ?_, ?_, fun h => ?_, fun h => ?_, fun h h2 => ?_, fun b hb h1 h2 h3 h4 h5 => (hO b (by omega)).trans (Q.old b hb h1 h2 h3 h4 h5), by omega⟩⟩
   ·simp [tmA, upd]
   ·exact match j, hf, hv with
     | 0, _, hv => hv
     | 1, _, hv => hv
     | 2, _, hv => hv
     | 3, _, hv => hv
     | 4, _, hv => hv
     | 5, _, hv => hv
     | 6, _, hv => hv
     | 7, _, hv => hv
     | 8, _, hv => hv
     | 9, _, hv => hv
     | 10, _, hv => hv
     | 11, _, hv => hv
     | 12, _, hv => hv
     | 13, _, hv => hv
     | 14, _, hv => hv
     | 15, hf, hv => by rw [hfj] at hf; cases hf
     | j + 16, _, hv => hv
   ·rw [upd_ne _ _ (by decide)]; exact Q.ik.old hO
   ·rw [upd_ne _ _ (by decide)]; exact (hO p (by omega)).trans Q.cn
   ·rw [upd_ne _ _ (by decide)]; exact Q.il.old hO
   ·rw [upd_ne _ _ (by decide)] at h
    rw [upd_ne _ _ (by decide)]
    obtain ⟨z1, z2⟩ := Q.a1 h
    exact ⟨z1, (hO _ (Array.getElem?_eq_some_iff.1 z2).1).trans z2⟩
   ·rw [upd_ne _ _ (by decide), h1x]
    exact ⟨hQs, hN⟩
   ·rw [upd_ne _ _ (by decide)] at h
    have := (Array.getElem?_eq_some_iff.1 (Q.a1 h).2).1
    omega
  | 16, _ =>
   have hd := deps_of (l := [14, 7, 13]) (by kernel_rfl) ho hdeps
   have e11 := F0 14 11 _ (hd 14 (by simp)) rfl rfl
   have e53 := F0 7 53 _ (hd 7 (by simp)) rfl rfl
   have e59 := F0 13 59 _ (hd 13 (by simp)) rfl rfl
   have hz := Q.a1 (hd 14 (by simp))
   rw [hfj] at hz
   simp only [Bool.false_eq_true, if_false] at hz
   obtain ⟨z1, z2⟩ := hz
   have hQs := Q.size
   have hO : ∀ b, b ≠ A → (w.setRow A #[.bool a.1, .int .i64 a.2, .slice none 0 0]).heap[b]? = w.heap[b]? := fun b hb => setRow_other _ _ hb
   have hN := setRow_self (cells := #[.bool a.1, .int .i64 a.2, .slice none 0 0]) z2
   have hZ : (w.setRow A #[.bool a.1, .int .i64 a.2, .slice none 0 0]).heap.size = w.heap.size := setRow_size _ _ _
   clear hdeps hC hC' hrun hrunU hend
   simp only [tmA] at hr ⊢
   simp only [e11, e53, ansVal]
   refine Walk.storeS 32 (.tmp 11) (.tmp 53) hoA (by rfl) (by decide) rfl A #[.bool a.1, .int .i64 a.2, .slice none 0 0] _ 32 rfl rfl z2 (by kernel_rfl) (by rfl) (by simp [Value.oneCell']) (ap0 _) ?_
   walk_nrm
   refine hr _ _ ⟨u, A, B, ?_, facts_more F0 rfl, ⟨?_, ?_, ?_, fun h => ?_, fun h => ?_, fun h h2 => ?_, fun b hb h1 h2 h3 h4 h5 => (hO b (by omega)).trans (Q.old b hb h1 h2 h3 h4 h5), by omega⟩⟩
   ·simp [tmA, e11, e53, ansVal]
   ·rw [upd_ne _ _ (by decide)]
    exact (skLa kb nb n true).stable Q.ik fun b hb => hO b (by rcases hb with rfl | rfl <;> omega)
   ·rw [upd_ne _ _ (by decide)]; exact (hO p (by omega)).trans Q.cn
   ·rw [upd_ne _ _ (by decide)]
    exact (skLa lb mb n false).stable Q.il fun b hb => hO b (by rcases hb with rfl | rfl <;> omega)
   ·rw [upd_same, if_pos rfl]
    exact ⟨z1, hN⟩
   ·rw [upd_ne _ _ (by decide)] at h
    rw [upd_ne _ _ (by decide)]
    obtain ⟨y1, y2⟩ := Q.b1 h
    exact ⟨y1, (hO _ (Ne.symm (Q.ne (hd 14 (by simp)) h))).trans y2⟩
   ·rw [upd_ne _ _ (by decide)] at h h2
    exact Q.ne h h2
  | 17, _ =>
   have hd := deps_of (l := [15, 13, 16]) (by kernel_rfl) ho hdeps
   have e12 := F0 15 12 _ (hd 15 (by simp)) rfl rfl
   have e59 := F0 13 59 _ (hd 13 (by simp)) rfl rfl
   have hz := Q.b1 (hd 15 (by simp))
   rw [hfj] at hz
   simp only [Bool.false_eq_true, if_false] at hz
   obtain ⟨z1, z2⟩ := hz
   have hQs := Q.size
   have hO : ∀ b, b ≠ B → (w.setRow B #[.bool a.1, .int .i64 a.2, .slice none 0 0]).heap[b]? = w.heap[b]? := fun b hb => setRow_other _ _ hb
   have hN := setRow_self (cells := #[.bool a.1, .int .i64 a.2, .slice none 0 0]) z2
   have hZ : (w.setRow B #[.bool a.1, .int .i64 a.2, .slice none 0 0]).heap.size = w.heap.size := setRow_size _ _ _
   clear hdeps hC hC' hrun hrunU hend
   simp only [tmA] at hr ⊢
   simp only [e12, e59, ansVal]
   refine Walk.storeS 32 (.tmp 12) (.tmp 59) hoA (by rfl) (by decide) rfl B #[.bool a.1, .int .i64 a.2, .slice none 0 0] _ 32 rfl rfl z2 (by kernel_rfl) (by rfl) (by simp [Value.oneCell']) (ap0 _) ?_
   walk_nrm
   refine hr _ _ ⟨u, A, B, ?_, facts_more F0 rfl, ⟨?_, ?_, ?_, fun h => ?_, fun h => ?_, fun h h2 => ?_, fun b hb h1 h2 h3 h4 h5 => (hO b (by omega)).trans (Q.old b hb h1 h2 h3 h4 h5), by omega⟩⟩
   ·simp [tmA, e12, e59, ansVal]
   ·rw [upd_ne _ _ (by decide)]
    exact (skLa kb nb n true).stable Q.ik fun b hb => hO b (by rcases hb with rfl | rfl <;> omega)
   ·rw [upd_ne _ _ (by decide)]; exact (hO p (by omega)).trans Q.cn
   ·rw [upd_ne _ _ (by decide)]
    exact (skLa lb mb n false).stable Q.il fun b hb => hO b (by rcases hb with rfl | rfl <;> omega)
   ·rw [upd_ne _ _ (by decide)] at h
    rw [upd_ne _ _ (by decide)]
    obtain ⟨y1, y2⟩ := Q.a1 h
    exact ⟨y1, (hO _ (Q.ne h (hd 15 (by simp)))).trans y2⟩
   ·rw [upd_same, if_pos rfl]
    exact ⟨z1, hN⟩
   ·rw [upd_ne _ _ (by decide)] at h h2
    exact Q.ne h h2
 ·rintro f act w ⟨u, A, B, rfl, F0, Q⟩ hall
  have h : ∀ j, j < 18 → f j = true := fun j hj => hall j (by rw [size5_10]; exact hj)
  refine hend u A B w (F0 14 11 _ (h 14 (by decide)) rfl rfl) (F0 15 12 _ (h 15 (by decide)) rfl rfl) ?_
  have q1 := Q.ik
  have q2 := Q.cn
  have q3 := Q.il
  have q4 := Q.a1 (h 14 (by decide))
  have q5 := Q.b1 (h 15 (by decide))
  rw [h 7 (by decide)] at q1 q2
  rw [h 13 (by decide)] at q3
  rw [h 16 (by decide)] at q4
  rw [h 17 (by decide)] at q5
  exact ⟨q1, q2, q3, fun _ => q4, fun _ => q5, fun _ _ => Q.ne (h 14 (by decide)) (h 15 (by decide)), Q.old, Q.size⟩
end Go.Proofs.Ytdmpmoggacjgcaa
