/- Part 29. -/
import Derived.Test.YtcdcnmphjhfbpaaJ20
import Derived.Test.YtcdcnmphjhfbpaaJ26
import Derived.Test.YtcdcnmphjhfbpaaJ27
import Derived.Test.YtcdcnmphjhfbpaaJ28
set_option linter.unusedSimpArgs false
set_option linter.unusedVariables false
set_option maxHeartbeats 8000000
set_option maxRecDepth 100000
namespace Go.Proofs.Ytcdcnmphjhfbpaa
open Go.Conc Go.RowKit Go.Relay
open Go.ConcN (upd upd_ne upd_same)
structure TrO (base : Nat) (cells : Array Value) (n : Nat) (F : Nat -> List Ans) (ord : List Nat) (sts : List Int) (k : Bool) (w : World) : Prop where
 all : ∃ (A : Nat) (oo : Option Addr) (ok : Nat) (sv : Value) (hd : Nat -> Value) (own : Nat -> Nat -> Prop), cells = Ih (.slice (some ⟨A, 0, none⟩) n n) (.slice oo ord.length ok) sv k /\ base <= A /\
  w.ownsRow base 3 1 (.slice oo ord.length ok) ord.length (ord.map fun i => .int .i64 (i : Nat)) /\ w.ownsRow base 2 1 sv sts.length (sts.map fun z => .int .i64 z) /\
  (∃ arr : Array Value, w.heap[A]? = some (.cells arr 44) /\ arr.size = n /\ ∀ i, i < n -> arr[i]? = some (hd i)) /\ (∀ i, i < n -> RowA base (own i) (hd i) (F i) w) /\ (∀ i j b, own i b -> own j b -> i = j) /\
  (∀ i b, own i b -> b ≠ A /\ (Value.slice oo ord.length ok).ownBlock ≠ some b /\ sv.ownBlock ≠ some b) /\ (Value.slice oo ord.length ok).ownBlock ≠ some A /\ sv.ownBlock ≠ some A /\ ∀ b, (Value.slice oo ord.length ok).ownBlock = some b -> sv.ownBlock ≠ some b
theorem TrO.tr {base : Nat} {cells : Array Value} {n : Nat} {F : Nat -> List Ans} {ord : List Nat} {sts : List Int} {k : Bool} {w : World} (h : TrO base cells n F ord sts k w) : TrA cells n F ord sts k w := by
 obtain ⟨A, oo, ok, sv, hd, own, e, hA, hord, hst, ⟨arr, h1, h2, h3⟩, hrows, _⟩ := h.all
 obtain ⟨sa, sc, rfl⟩ : ∃ sa sc, sv = .slice sa sts.length sc := by
  rcases hst.2 with ⟨e, e0⟩ | ⟨g, cap, cur, e, _⟩
  ·exact ⟨none, 0, by rw [e, e0]⟩
  ·exact ⟨_, _, e⟩
 refine ⟨⟨some ⟨A, 0, none⟩, n, oo, ok, sa, sc, e, ?_, Jc hst, fun i hi => ?_⟩⟩
 ·refine Jc (base := base) (e := 3) (m := ord.length) (tc := ok) ?_
  have : ((ord.map fun i => ((i : Nat) : Int)).map (Value.int .i64)) = (ord.map fun i => .int .i64 (i : Nat)) := by simp
  rw [this]
  exact hord
 ·obtain ⟨ta, tc, e, hans⟩ := ansA_of (hrows i hi)
  refine ⟨A, 0, ta, tc, rfl, ?_, hans⟩
  rw [Nat.zero_add, <- e]
  exact (Ac h1 i).trans (h3 i hi)
structure SPAny (n : Nat) (L : La) (stx : L.Sg -> List Int) (F : OX L × List Nat) (w w' : World) (cells : Array Value) : Prop where
 tr : TrO w.heap.size cells n (fun i => (F.1.th i).ans) F.2 (stx F.1.s) (Fc n F.1) w'
 old : ∀ b, b < w.heap.size -> w'.heap[b]? = w.heap[b]?
 size : w.heap.size <= w'.heap.size
theorem Ld {w : World} {base base' : Nat} {e : TypeId} {size : Nat} {v : Value} {n : Nat} {xs : List Value} (h : w.ownsRow base e size v n xs) (hb : base' <= base) : w.ownsRow base' e size v n xs :=
 ⟨h.1, h.2.imp id fun ⟨g, cap, cur, h1, h2, h3⟩ => ⟨g, cap, cur, h1, Nat.le_trans hb h2, h3⟩⟩
theorem Qn (xsl : Value) (xs : List Int) (hxn : xs.length <= 17592186044416) (tv : Value) (most : Int) (ta : Option Addr) (tb toff tc n : Nat) (hta : 0 < n -> ta = some ⟨tb, toff, none⟩) (hn : n <= 64) (oa : Nat -> Option Addr) (ln oc : Nat -> Nat) (ops : Nat -> List OpV) (sa : Option Addr) (sc : Nat) (sl : List Int) (hsl : sl.length <= 17592186044416) (c : Frame) (cs : List Frame) (w : World) (hx : LsR xsl xs w) (hr : Nu xs)
  (I : OpsIn tb toff n oa ln oc ops w)
  (hsc : ∀ (j : Nat) (z : Int), sl[j]? = some z -> ∃ s so, sa = some ⟨s, so, none⟩ /\ w.cell? ⟨s, so + j, none⟩ = some (.int .i64 z))
  (hp : ∀ w' : World, (∀ b, b < w.heap.size -> w'.heap[b]? = w.heap[b]?) -> As Try.prog true (fun _ => none) 140 #[tv] w' (.slice ta n tc) w') :
  Runs (fun g w' => ∃ cells, SPAny n (Bs (w.heap.size + 2) (w.heap.size + 1) (Ki xs)) (Lc (Ki xs)) (Bu (Bs (w.heap.size + 2) (w.heap.size + 1) (Ki xs)) (r0R xs) ops n most sl) w w' cells /\ g = G (c.finish (.agg cells)) cs) (G (Frame.enter Try.prog 15 #[xsl, tv, .slice sa sl.length sc, .int .i64 most] .normal) (c :: cs)) w := by
 refine Runs.walk (Qaj xsl xs hxn tv (.slice sa sl.length sc) most c cs w hx hr) ?_
 rintro _ w1 ⟨fr, rfl, hI, hO, hS, hT, hB⟩
 have hc1 : ∀ {b j : Nat} {v : Value}, w.cell? ⟨b, j, none⟩ = some v -> w1.cell? ⟨b, j, none⟩ = some v := fun {b j v} e => (World.cell?_of_block (a := ⟨b, j, none⟩) (hO b (Aw e))).trans e
 have hsh : ∀ b, b < w.heap.size -> ¬ (b = w.heap.size + 2 ∨ b = w.heap.size + 1) := fun b hb h => by omega
 have I1 : OpsIn tb toff n oa ln oc ops w1 := I.old hO
 refine Runs.then (Yc (L := Bs (w.heap.size + 2) (w.heap.size + 1) (Ki xs)) rdo_ok () (r0R xs) tv most ta tb toff tc n hta hn oa ln oc ops sa sc sl hsl fr (c :: cs) w1 I1 hI (fun i hi j o ho b off e => ?_) (fun j z hz => ?_) (fun w' hw' => hp w' fun b hb => (hw' b (by omega)).trans (hO b hb))) ?_
 ·obtain ⟨b', off', e', c0, _⟩ := I.ops i hi j o ho
  rw [e] at e'
  injection e' with e'
  injection e' with e' _
  subst e'
  exact hsh b (Aw c0)
 ·obtain ⟨s, so, e, hc⟩ := hsc j z hz
  exact ⟨s, so, e, hc1 hc, hsh s (Aw hc)⟩
 ·rintro _ w4 ⟨cells, H, rfl⟩
  obtain ⟨y, A, oo, ok, hd, own, O⟩ := H.all
  have hold := H.old
  have hsz := H.size
  generalize Bu (Bs (w.heap.size + 2) (w.heap.size + 1) (Ki xs)) (r0R xs) ops n most sl = F at *
  obtain rfl := O.eq
  obtain ⟨arr, hAr, hAz, hAi⟩ := O.heads
  have hAl := O.Alo
  have hAlt : A < w4.heap.size := (Array.getElem?_eq_some_iff.1 hAr).1
  have hT4 : w4.heap[w.heap.size]? = some (.cells #[.slice none 0 0, .slice none 0 0, .slice none 0 0, .bool false] 31) := (hold _ (by omega) (show ¬ (w.heap.size = w.heap.size + 2 ∨ w.heap.size = w.heap.size + 1) by omega)).trans hT
  refine Runs.walk (hB A n oo _ ok _ _ w4 (by omega) (by omega) O.I hT4) ?_
  rintro _ w5 ⟨B, bc, rfl, hrow, hold5, hsz5⟩
  have hown : ∀ i b, i < n -> own i b -> (∃ b', b' = b /\ w1.heap.size <= b' /\ b' < w4.heap.size) -> w5.heap[b]? = w4.heap[b]? := fun i b _ _ ⟨b', e, h1, h2⟩ => by
   subst e
   exact hold5 b' h2 (by omega)
  have hrowlt : ∀ (v : Value) (e : TypeId) (sz m : Nat) (ys : List Value), w4.ownsRow w1.heap.size e sz v m ys -> w5.ownsRow w.heap.size e sz v m ys := fun v e sz m ys h => Ld (Ao h fun b hb => hold5 b (h.lt b hb).2 (by have := (h.lt b hb).1; omega)) (by omega)
  have hBb := fun b (h : (Value.slice (some (⟨B, 0, none⟩ : Addr)) (Ki xs + Ki xs) bc).ownBlock = some b) => (hrow.lt b h).1
  refine .now ⟨_, ⟨⟨A, oo, ok, .slice (some ⟨B, 0, none⟩) (Ki xs + Ki xs) bc, hd, fun i b => own i b /\ w1.heap.size <= b /\ b < w4.heap.size, rfl, by omega, hrowlt _ _ _ _ _ O.orow, ?_, ⟨arr, (hold5 A hAlt (by omega)).trans hAr, hAz, hAi⟩, fun i hi => ?_, fun i j b h1 h2 => O.one i j b h1.1 h2.1, fun i b h => ⟨(O.ownA i b h.1).1, O.ownO i b h.1, fun e => ?_⟩, O.Aord, fun e => ?_, fun b h e => ?_⟩, fun b hb => ?_, by omega⟩, rfl⟩
  ·rw [show (Lc (Ki xs) F.1.s).length = Ki xs + Ki xs from Nn _ _]
   exact Ld hrow (by omega)
  ·obtain ⟨ta2, tc2, z, hz1, hz2, hz3, hz4, hz5⟩ := O.rows i hi
   refine ⟨ta2, tc2, z, hz1, hz2, hrowlt _ _ _ _ _ hz3, fun b hb => ⟨hz4 b hb, hz3.lt b hb⟩, fun p hp' => ?_⟩
   obtain ⟨la, lc, e, hlen, hl⟩ := hz5 p hp'
   exact ⟨la, lc, e, hlen, fun hne => ⟨hrowlt _ _ _ _ _ (hl hne).1, fun b hb => ⟨(hl hne).2 b hb, (hl hne).1.lt b hb⟩⟩⟩
  ·have := hBb b e; omega
  ·have := hBb A e; omega
  ·have := hBb b e; have := (O.orow.lt b h).2; omega
  ·exact (hold5 b (by omega) (by omega)).trans ((hold b (by omega) (hsh b hb)).trans (hO b hb))
section
section
variable {X : Type} {A : Abs X}
theorem Mm : ∀ (l : List Int) (st : X × List Nat), (st.2.length : Int) <= A.most -> ((l.foldl (Bj A) st).2.length : Int) <= A.most
 | [], _, h => h
 | z :: l, st, h => Mm l _ (Lp h z)
theorem Ks : ∀ (l : List Nat) (st : X × List Nat), (st.2.length : Int) <= A.most -> ((l.foldl (fun st i => Bj A st (i : Nat)) st).2.length : Int) <= A.most
 | [], _, h => h
 | z :: l, st, h => Ks l _ (Lp h _)
theorem Lv : ∀ (f : Nat) (st : X × List Nat), (st.2.length : Int) <= A.most -> ((Dj A f st).2.length : Int) <= A.most
 | 0, _, h => h
 | f + 1, st, h => by
  unfold Dj
  split
  ·exact h
  ·exact Lv f _ (Ks _ _ h)
end
theorem Ze (L : La) (s0 : L.Sg) (ops : Nat -> List OpV) (n : Nat) (most : Int) (sl : List Int) : (Bu L s0 ops n most sl).2.length <= 1048576 := by
 have h : ((Bu L s0 ops n most sl).2.length : Int) <= min (max most 0) 1048576 := Lv (A := Cc L n (min (max most 0) 1048576) ops) _ _ (Mm _ _ (by show ((0 : Nat) : Int) <= min (max most 0) 1048576; omega))
 omega
def CapS (cells : Array Value) : Prop := ∀ (sa : Option Addr) (m sc : Nat), cells[2]? = some (.slice sa m sc) -> m <= sc
def RunR (n m a0 : Nat) (L : La) (stx : L.Sg -> List Int) (W w : World) (F : OX L × List Nat) (v : Value) (w' : World) : Prop := ∃ cells, v = .agg cells /\ (∀ w'' : World, (∀ b, a0 <= b -> b < w'.heap.size -> w''.heap[b]? = w'.heap[b]?) -> TrA cells n (fun i => (F.1.th i).ans) F.2 (stx F.1.s) (Fc n F.1) w'') /\ (∀ b, b < a0 -> w'.heap[b]? = W.heap[b]?) /\ w.heap.size <= w'.heap.size /\ (∀ i, i < n -> (F.1.th i).ans.length <= 65536) /\ CapS cells
section
variable {a0 M n m R : Nat} {cb : CB} {main : Bool} {ops : Nat -> List OpV} {W : World}
theorem Zm (hm : m <= 65536) (hz : m = 0 -> cb.sc = 0 /\ cb.vc = 0) (hn : n <= 64) (hol : ∀ i, i < n -> (ops i).length <= 65536) (F : OX (Bp m) × List Nat) (oa : Option Addr) (oc : Nat) (u : Nat -> Value) (c : Frame) (cs : List Frame) (w : World) (H : Nb a0 M cb m R ops W n F oa oc w) (hRa : a0 <= R) :
  Walk Try.prog main (DR (fun _ => none)) (fun g w' => ∃ v, RunR n m a0 (Bp m) (Lc m) W w F v w' /\ g = G (c.finish v) cs) (G (hdRunE M R n (.slice oa F.2.length oc) u) (c :: cs)) w := by
 obtain ⟨tb, tc, ta, T, N, hF⟩ := H.N
 have hRl := (Array.getElem?_eq_some_iff.1 N.res).1
 have hl := RO11.left (main := main) (most := 0) hn H
 have hl : As Try.prog main (fun _ => none) 118 #[.pointer (some ⟨M, 0, none⟩)] w (.bool (Fc n F.1)) w := hl
 have hav : ∀ i, i < n -> ∃ aa ac, (T i).av = .slice aa (T i).ans.length ac /\ RowA a0 (T i).ownA (.slice aa (T i).ans.length ac) (T i).ans w /\ w.cell? ⟨tb, i * 9 + 1, none⟩ = some (.slice aa (T i).ans.length ac) /\ (T i).ans = (F.1.th i).ans /\ (∀ b, (T i).ownA b -> a0 <= b /\ b < w.heap.size /\ b ≠ R) := fun i hi => by
  have hr := (N.I.rows i hi).rA
  have hlo := (N.I.rows i hi).lo
  obtain ⟨aa, ac, z, _, e, _⟩ := id hr
  have hc := N.I.tcell hi (j := 1) (v := (T i).av) rfl
  refine ⟨aa, ac, e, by rw [<- e]; exact hr, by rw [<- e]; exact hc, (N.th i hi).ans, fun b hb => ⟨(hlo b hb).1, (hlo b hb).2, fun hbR => N.resS ?_⟩⟩
  subst hbR
  exact .inr (.inr (.inr ⟨i, hi, .inl hb⟩))
 refine (Qco M R n (m + m) oa F.2.length oc (Fc n F.1) (Lc m F.1.s) u (c :: cs) w hl (Yl w N.I hm hz)).then ?_
 rintro _ w1 ⟨sa, sc, Q, ⟨u1, rfl⟩, hQ, hQb, hC1, hst, hs1, hsQ⟩
 have loop : ∀ (r i : Nat) (ha : Option Addr) (hc : Nat) (u : Nat -> Value) (w2 : World), i + r = n -> w2.heap[Q]? = some (.cells (Ih (.slice ha i hc) (.slice oa F.2.length oc) (.slice sa (m + m) sc) (Fc n F.1)) 31) -> w2.ownsRow (Q + 1) 44 1 (.slice ha i hc) i (Hr (fun i => (T i).av) i) -> Chg (fun x => x = Q ∨ Q + 1 <= x) w1 w2 ->
   Walk Try.prog main (DR (fun _ => none)) (fun g w' => ∃ v, RunR n m a0 (Bp m) (Lc m) W w F v w' /\ g = G (c.finish v) cs) (G (hdRun4 M R n Q i u) (c :: cs)) w2 := by
  intro r
  induction r with
  | zero =>
   intro i ha hc u w2 hi h2 h3 h4
   obtain rfl : i = n := hi
   have hR2 : w2.heap[R]? = some Ga := (h4.same R (by have := hC1.size; omega) (by omega)).trans ((hC1.same R hRl id).trans N.res)
   have hs4 := h4.size
   refine (Qbl M R i Q _ _ _ _ u c cs w2 h2 hR2 (by simp [Value.oneCell'])).mono ?_
   rintro g w' ⟨rfl, hC5⟩
   have hs5 := hC5.size
   have far : ∀ b, b < w.heap.size -> b ≠ R -> w'.heap[b]? = w.heap[b]? := fun b hb hbR => (hC5.same b (by have := hC1.size; omega) hbR).trans ((h4.same b (by have := hC1.size; omega) (by omega)).trans (hC1.same b hb id))
   refine ⟨_, ⟨_, rfl, fun w'' h'' => ⟨⟨ha, hc, oa, oc, sa, sc, ?_, ?_, ?_, fun j hj => ?_⟩⟩, fun b hb => ?_, by omega, fun j hj => ?_, fun s1 m1 c1 hc => ?_⟩, rfl⟩
   ·have e : (Lc m F.1.s).length = m + m := Nn _ _
    show _ = Ih _ _ (.slice sa (Lc m F.1.s).length sc) _
    rw [e]; rfl
   ·refine Jc (base := a0) (e := 3) (m := F.2.length) (tc := oc) ?_
    have e : ((F.2.map fun i => ((i : Nat) : Int)).map (Value.int .i64)) = Dz F.2 := by simp [Dz]
    rw [e]
    exact Ao H.row fun g hg => (h'' g (H.row.lt g hg).1 (by have := (H.row.lt g hg).2; have := hC1.size; omega)).trans (far g (H.row.lt g hg).2 (hF g hg).2)
   ·refine Jc (base := w.heap.size) (e := 2) (m := m + m) (tc := sc) ?_
    refine Ao hst fun g hg => ?_
    have g1 := (hst.lt g hg).1
    have g2 := hsQ g hg
    have gN := N.le
    exact (h'' g (by omega) (by omega)).trans <| (hC5.same g (by omega) (by omega)).trans (h4.same g (by omega) (by omega))
   ·obtain ⟨aa, ac, e1, e2, e3, e4, e5⟩ := hav j hj
    obtain ⟨g, eg, hg, hgl, hcell⟩ := Jt h3 (j := j) (x := (T j).av) (by simp [Hr, hj])
    refine ⟨g, 0, aa, ac, eg, ?_, ?_⟩
    ·rw [Nat.zero_add, <- e4, <- e1]
     have gN := N.le
     have gC := hC1.size
     exact (World.cell?_of_block (a := ⟨g, j, none⟩) ((h'' g (by omega) (by omega)).trans (hC5.same g hgl (by omega)))).trans hcell
    ·rw [<- e4]
     have hr : RowA a0 (T j).ownA (.slice aa (T j).ans.length ac) (T j).ans w'' := e2.same fun b hb => (h'' b (e5 b hb).1 (by have := (e5 b hb).2.1; have := hC1.size; omega)).trans (far b (e5 b hb).2.1 (e5 b hb).2.2)
     obtain ⟨ta', tc'', e, hA⟩ := ansA_of hr
     cases e
     exact hA
   ·have := N.le
    exact (far b (by omega) (by omega)).trans (N.old b hb)
   ·obtain ⟨aa, ac, e1, e2, e3, e4, e5⟩ := hav j hj
    rw [<- e4]
    have hal := N.al j hj
    have hp : (T j).at' <= (ops j).length := by
     rcases (N.th j hj).pos with ⟨_, _, h, _⟩ | ⟨_, o, _, h, _⟩
     ·omega
     ·have := (List.getElem?_eq_some_iff.1 h).1; omega
    have := hol j hj
    omega
   ·have hcv : Value.slice sa (m + m) sc = .slice s1 m1 c1 := by simpa [Ih] using hc
    obtain ⟨_, rfl, rfl⟩ := Value.slice.inj hcv
    rcases hst.2 with ⟨_, h⟩ | ⟨g', cap', cur, e, _, _, hle, _⟩
    ·omega
    ·injection e with _ _ e
     omega
  | succ r ih =>
   intro i ha hc u w2 hi h2 h3 h4
   obtain ⟨aa, ac, e1, e2, e3, e4, e5⟩ := hav i (by omega)
   obtain ⟨l1, l2, l3⟩ := N.I.lt
   have l3 := l3 (by omega)
   have hs4 := h4.size
   have hcell : ∀ {x j : Nat} {v : Value}, w.cell? ⟨x, j, none⟩ = some v -> w2.cell? ⟨x, j, none⟩ = some v := fun {x j v} h => (World.cell?_of_block (a := ⟨x, j, none⟩) ((h4.same x (by have := Aw h; have := hC1.size; omega) (by have := Aw h; omega)).trans (hC1.same x (Aw h) id))).trans h
   refine (Qcp M R n Q i tb tc _ _ _ ha hc aa (T i).ans.length ac (fun i => (T i).av) u (c :: cs) (Q + 1) w2 h2 h3 (by omega) hn e1 (by omega) (by omega) (hcell (N.I.cT (by omega))) (hcell e3) (by omega) (by omega)).then ?_
   rintro g w3 ⟨g', cap, ⟨u', rfl⟩, m1, m2, m3⟩
   exact ih (i + 1) _ cap u' w3 (by omega) m1 m2 (h4.trans m3 fun x hx h => h)
 exact loop n 0 none 0 u1 w1 (by omega) hQb (rowNil _ _ _ _) Chg.refl
theorem run_w (hm : m <= 65536) (hz : m = 0 -> cb.sc = 0 /\ cb.vc = 0) (C0 : Rg) (T : Nat -> R11) (b off n0 tcc N : Nat) (hN : N = min n0 64) (va : Option Addr) (hv : 0 < N -> va = some ⟨b, off, none⟩) (oa : Nat -> Option Addr) (ln oc : Nat -> Nat) (ops : Nat -> List OpV) (sa : Option Addr) (sc : Nat) (sl : List Int) (most : Int) (ha0 : a0 = W.heap.size) (O : OpsIn b off N oa ln oc ops W) (hwr : ∀ k, k < N -> ∀ o, o ∈ ops k -> -9223372036854775808 <= o.a)
  (hsl : sl.length <= 17592186044416) (hs : ∀ (j : Nat) (z : Int), sl[j]? = some z -> ∃ s so, sa = some ⟨s, so, none⟩ /\ W.cell? ⟨s, so + j, none⟩ = some (.int .i64 z)) (w : World) (I : M11 a0 M cb 0 0 0 m none C0 T w) (old : ∀ b, b < a0 -> w.heap[b]? = W.heap[b]?) (hle : a0 <= w.heap.size) :
  CallW Try.prog main (fun _ => none) 70 #[.pointer (some ⟨M, 0, none⟩), .slice va n0 tcc, .slice sa sl.length sc, .int .i64 most] w (RunR N m a0 (Bp m) (Lc m) W w (Bu (Bp m) C0 ops N most sl)) := by
 intro c cs
 have hol : ∀ i, i < N -> (ops i).length <= 65536 := fun i hi => by have := O.len i hi; omega
 have hN64 : N <= 64 := by omega
 refine (into_run M va n0 tcc (.slice sa sl.length sc) most (c :: cs) w).then ?_
 rw [<- hN]
 rintro _ _ ⟨⟨u0, rfl⟩, d0, rfl⟩
 refine Walk.back ?_ d0
 obtain ⟨l1, l2, l3⟩ := I.lt
 have hsz : (w.alloc Ga).heap.size = w.heap.size + 1 := by simp
 have H0 : RN11 a0 M cb m w.heap.size ops W M 0 none T 0 (Ok (Bp m) C0) (w.alloc Ga) := by
  refine ⟨(I.same fun b hb => Ad _ _ hb).noT, fun _ => ⟨rfl, rfl⟩, fun _ => rfl, fun i hi => absurd hi (Nat.not_lt_zero i), fun i hi => absurd hi (Nat.not_lt_zero i), fun i hi => absurd hi (Nat.not_lt_zero i), heap_alloc_new _ _, ?_, fun b hb => (Ad _ _ (by omega)).trans (old b hb), by omega⟩
  rintro (h | h | h | ⟨k, hk, _⟩)
  ·omega
  ·have := l2 _ h; omega
  ·omega
  ·exact absurd hk (Nat.not_lt_zero k)
 refine (run_threads (main := main) hN64 hm b off n0 tcc (.slice sa sl.length sc) (min (max most 0) 1048576) (min (max most 0) 1048576) oa ln oc ops (by omega) W ha0 O hwr (.slice va n0 tcc) (fun h => by rw [hv h]) (c :: cs) N 0 M 0 none T _ u0 _ (by omega) H0).then ?_
 rintro _ w1 ⟨⟨u1, rfl⟩, tb, tc', ta', T1, H1⟩
 have hs1 := H1.le
 refine (run_end0 M _ _ _ w.heap.size N u1 (c :: cs) w1).then ?_
 rintro _ _ ⟨⟨u2, rfl⟩, d, rfl⟩
 refine Walk.back ?_ d
 have HO : Nb a0 M cb m w.heap.size ops W N (Fh (Cc (Bp m) N (min (max most 0) 1048576) ops) N 0 (Ok (Bp m) C0), []) none 0 w1 := ⟨⟨tb, tc', ta', T1, H1, fun b hb => by cases hb⟩, rowNil _ _ _ _⟩
 refine (run_sched (main := main) (most := min (max most 0) 1048576) hm hN64 hol (by omega) sa sc sl hsl (fun j z hz => by
  obtain ⟨s, so, e, h⟩ := hs j z hz
  exact ⟨s, so, e, by rw [ha0]; exact Aw h, h⟩) (c :: cs) sl.length 0 _ none 0 u2 w1 (by omega) HO).then ?_
 rintro _ w2 ⟨oa2, oc2, ⟨u3, rfl⟩, H2⟩
 rw [List.drop_zero] at H2 ⊢
 refine (run_rest (main := main) (most := min (max most 0) 1048576) hm hN64 hol (by omega) (c :: cs) (min (max most 0) 1048576).toNat _ oa2 oc2 u3 w2 (by omega) H2).then ?_
 rintro _ w3 ⟨oa3, oc3, ⟨u4, rfl⟩, H3⟩
 have eF : Dj (Cc (Bp m) N (min (max most 0) 1048576) ops) (min (max most 0) 1048576).toNat (sl.foldl (Bj (Cc (Bp m) N (min (max most 0) 1048576) ops)) (Fh (Cc (Bp m) N (min (max most 0) 1048576) ops) N 0 (Ok (Bp m) C0), [])) = Bu (Bp m) C0 ops N most sl := rfl
 rw [eF] at H3 ⊢
 obtain ⟨_, _, _, _, N3, _⟩ := H3.N
 have hR3 := (Array.getElem?_eq_some_iff.1 N3.res).1
 refine (Zm (main := main) hm hz hN64 hol _ oa3 oc3 u4 c cs w3 H3 hle).mono ?_
 rintro g w' ⟨v, ⟨cells, e1, e2, e3, e4, e5⟩, hg⟩
 exact ⟨v, ⟨cells, e1, e2, e3, by omega, e5⟩, hg⟩
end
end
section
def Ky (sz : Int) : Bool := (List.range 17).any fun j => sz == (2 : Int) ^ j
section
variable {main : Bool} {V : Nat -> Option Wait}
theorem pow_pos (k : Nat) : 0 < (2 : Int) ^ k := Int.pow_pos (by decide)
theorem Qav {j k : Nat} (h : j <= k) : (2 : Int) ^ j <= (2 : Int) ^ k := by
 obtain ⟨d, rfl⟩ := Nat.exists_eq_add_of_le h
 induction d with
 | zero => exact Int.le_refl _
 | succ d ih =>
  have h1 := ih (by omega)
  have h2 := pow_pos (j + d)
  rw [show j + (d + 1) = (j + d) + 1 from rfl, Int.pow_succ]
  omega
end
end
theorem Kw (a b : Nat) (ha : a < 9223372036854775808) (hb : b < 9223372036854775808) : bits .and .i64 (a : Int) (b : Int) = ((a &&& b : Nat) : Int) := by
 have h0 : a &&& b < 9223372036854775808 := Nat.lt_of_le_of_lt Nat.and_le_left ha
 have e : (BitVec.ofInt 64 (a : Int) &&& BitVec.ofInt 64 (b : Int)).toNat = a &&& b := by
  rw [BitVec.toNat_and, BitVec.ofInt_natCast, BitVec.ofInt_natCast, BitVec.toNat_ofNat, BitVec.toNat_ofNat, Nat.mod_eq_of_lt (by omega), Nat.mod_eq_of_lt (by omega)]
 unfold bits
 show IntKind.i64.wrap ((BitVec.ofInt 64 (a : Int) &&& BitVec.ofInt 64 (b : Int)).toNat : Int) = _
 rw [e, IntKind.wrap_i64]
 omega
theorem Yb (sz : Int) : Ky sz = decide (okS sz) := by
 by_cases hk : okS sz
 ·rw [decide_eq_true hk]
  obtain ⟨h1, h2, h3⟩ := hk
  obtain ⟨n, rfl⟩ : ∃ n : Nat, sz = n := ⟨sz.toNat, by omega⟩
  have e : (n : Int) - 1 = ((n - 1 : Nat) : Int) := by omega
  rw [e, Kw n (n - 1) (by omega) (by omega)] at h3
  have h4 : n &&& (n - 1) = 0 := by omega
  obtain ⟨k, hk⟩ := (Nat.and_sub_one_eq_zero_iff_isPowerOfTwo (by omega : n ≠ 0)).1 h4
  have hk16 : k < 17 := by
   refine Classical.byContradiction fun h => ?_
   have h5 : 2 ^ 17 <= 2 ^ k := Nat.pow_le_pow_right (by decide) (by omega)
   rw [<- hk] at h5
   have : (2 : Nat) ^ 17 = 131072 := by decide
   omega
  refine List.any_eq_true.2 ⟨k, List.mem_range.2 hk16, ?_⟩
  rw [hk]
  simp
 ·rw [decide_eq_false hk]
  unfold Ky
  rw [List.any_eq_false]
  intro j hj
  have hj := List.mem_range.1 hj
  simp only [beq_iff_eq]
  rintro rfl
  refine hk ⟨by have := pow_pos j; omega, Int.le_trans (Qav (show j <= 16 by omega)) (by decide), ?_⟩
  have e1 : (2 : Int) ^ j = ((2 ^ j : Nat) : Int) := by simp
  have hp : 0 < 2 ^ j := Nat.pow_pos (by decide)
  have hle : 2 ^ j <= 2 ^ 16 := Nat.pow_le_pow_right (by decide) (by omega)
  have h16 : (2 : Nat) ^ 16 = 65536 := by decide
  have e2 : (2 : Int) ^ j - 1 = ((2 ^ j - 1 : Nat) : Int) := by omega
  rw [e2, e1, Kw _ _ (by omega) (by omega)]
  have h4 : 2 ^ j &&& (2 ^ j - 1) = 0 := (Nat.and_sub_one_eq_zero_iff_isPowerOfTwo (by omega)).2 ⟨j, rfl⟩
  rw [h4]
  rfl
section
noncomputable def reg18_0 := rk Try.f18.body 0
noncomputable def reg18_1 := rk Try.f18.body 1
noncomputable def reg18_2 := rk Try.f18.body 2
noncomputable def reg18_4 := rk Try.f18.body 4
noncomputable def reg18_5 := rk Try.f18.body 5
noncomputable def reg18_3 := rk Try.f18.body 3
noncomputable def reg18_6 := rk Try.f18.body 6
theorem z18 : reg18_0.size = 1 /\ reg18_1.size = 1 /\ reg18_2.size = 2 /\ reg18_3.size = 3 /\ reg18_4.size = 3 /\ reg18_5.size = 1 /\ reg18_6.size = 1 := by and_intros <;> kernel_rfl
theorem Qab : Try.f18.body = some (.seq (.region 0 reg18_0 false) (.seq (.seq (.region 1 reg18_1 false) (.block 0 (.loop (.seq (.seq (.region 2 reg18_2 false) (.cond (.tmp 5 ) (.skip) (.exit 0))) (.seq (.block 1 (.seq (.region 4 reg18_4 false) (.cond (.tmp 10 ) (.seq (.region 5 reg18_5 false) (.ret)) (.skip)))) (.region 3 reg18_3 false)))))) (.seq (.region 6 reg18_6 false) (.ret)))) := by kernel_rfl
noncomputable def Qh (sz x : Int) (u : Nat -> Value) : Frame :=
 (base 18).at { tmps := #[.int .i64 sz, u 1, .bool false, .int .i64 x, u 4, u 5, u 6, u 7, u 8, u 9, u 10], defers := [] } [.code (.seq (.seq (.region 2 reg18_2 false) (.cond (.tmp 5 ) (.skip) (.exit 0))) (.seq (.block 1 (.seq (.region 4 reg18_4 false) (.cond (.tmp 10 ) (.seq (.region 5 reg18_5 false) (.ret)) (.skip)))) (.region 3 reg18_3 false))), .inLoop (.seq (.seq (.region 2 reg18_2 false) (.cond (.tmp 5 ) (.skip) (.exit 0))) (.seq (.block 1 (.seq (.region 4 reg18_4 false) (.cond (.tmp 10 ) (.seq (.region 5 reg18_5 false) (.ret)) (.skip)))) (.region 3 reg18_3 false))), .inBlock 0, .code (.seq (.region 6 reg18_6 false) (.ret))]
section
variable {main : Bool} {V : Nat -> Option Wait}
theorem Qap (sz x : Int) (h0 : 0 < x) (h1 : x <= 65536) (h2 : x ≠ sz) (u : Nat -> Value) (cs : List Frame) (w : World) :
  Walk Try.prog main (DR V) (fun g w' => (∃ u, g = G (Qh sz (2 * x) u) cs) /\ ∃ d, w' = w.at d) (G (Qh sz x u) cs) w := by
 have g1 : decide (x <= 65536) = true := decide_eq_true h1
 have g2 : (x == sz) = false := by simp [h2]
 have hw : IntKind.wrap .i64 (x * 2) = 2 * x := by rw [IntKind.wrap_i64]; omega
 clear h2
 conv => arg 5; unfold Qh
 refine Aa z18 ?_
 refine Walk.ctl rfl (fun w => stepG_inLoop) ?_
 refine .stop fun d => ⟨Ak ?_, d, rfl⟩
 simp only [Qh]
 rfl
theorem Qde (sz : Int) (h1 : sz <= 65536) (u : Nat -> Value) (c : Frame) (cs : List Frame) (w : World) :
  Walk Try.prog main (DR V) (fun g w' => g = G (c.finish (.bool true)) cs /\ ∃ d, w' = w.at d) (G (Qh sz sz u) (c :: cs)) w := by
 have g1 : decide (sz <= 65536) = true := decide_eq_true h1
 have g2 : (sz == sz) = true := by simp
 conv => arg 5; unfold Qh
 refine Aa z18 ?_
 exact Be rfl rfl Try.func18 rfl (.stop fun d => ⟨rfl, d, rfl⟩)
theorem Qdf (sz x : Int) (h1 : ¬ x <= 65536) (u : Nat -> Value) (c : Frame) (cs : List Frame) (w : World) :
  Walk Try.prog main (DR V) (fun g w' => g = G (c.finish (.bool false)) cs /\ ∃ d, w' = w.at d) (G (Qh sz x u) (c :: cs)) w := by
 have g1 : decide (x <= 65536) = false := decide_eq_false h1
 conv => arg 5; unfold Qh
 refine Aa z18 ?_
 exact Be rfl rfl Try.func18 rfl (.stop fun d => ⟨rfl, d, rfl⟩)
theorem Qce (sz : Int) (c : Frame) (cs : List Frame) : ∀ (r k : Nat) (u : Nat -> Value) (w : World), k + r = 17 -> (∀ j, j < k -> sz ≠ (2 : Int) ^ j) -> Walk Try.prog main (DR V) (fun g w' => g = G (c.finish (.bool (Ky sz))) cs /\ ∃ d, w' = w.at d) (G (Qh sz ((2 : Int) ^ k) u) (c :: cs)) w := by
 intro r
 induction r with
 | zero =>
  intro k u w hk hno
  have hk : k = 17 := hk
  subst hk
  have hf : Ky sz = false := by
   unfold Ky
   rw [List.any_eq_false]
   intro j hj
   simp only [beq_iff_eq]
   exact hno j (List.mem_range.1 hj)
  rw [hf]
  exact Qdf sz _ (by decide) u c cs w
 | succ r ih =>
  intro k u w hk hno
  have hle : (2 : Int) ^ k <= 65536 := Int.le_trans (Qav (show k <= 16 by omega)) (by decide)
  by_cases he : (2 : Int) ^ k = sz
  ·have ht : Ky sz = true := List.any_eq_true.2 ⟨k, List.mem_range.2 (by omega), by simp [he]⟩
   rw [ht]
   rw [he] at hle ⊢
   exact Qde sz hle u c cs w
  ·refine (Qap sz _ (pow_pos k) hle he u (c :: cs) w).then ?_
   rintro _ _ ⟨⟨u2, rfl⟩, d, rfl⟩
   have h2 := ih (k + 1) u2 (w.at d) (by omega) fun j hj => by
    by_cases e : j = k
    ·subst e; exact Ne.symm he
    ·exact hno j (by omega)
   rw [Int.pow_succ, Int.mul_comm] at h2
   exact h2.mono fun g w' ⟨h3, d', h4⟩ => ⟨h3, d', h4⟩
theorem Zy (sz : Int) (w : World) : As Try.prog main V 18 #[.int .i64 sz] w (.bool (Ky sz)) w := by
 intro c cs
 have key := fun u => (Qce (main := main) (V := V) sz c cs 17 0 u w (by decide) (fun j hj => by omega)).mono (Stop' := fun g w' => ∃ v, (v = .bool (Ky sz) /\ ∃ d, w' = w.at d) /\ g = G (c.finish v) cs) fun g w' ⟨h1, h2⟩ => ⟨_, ⟨rfl, h2⟩, h1⟩
 rw [enter_at _ Try.func18 Qab]
 simp only [Try.ntmps18, ez, Nat.reduceAdd, Nat.reduceSub]
 refine Aa z18 ?_
 refine Walk.ctl rfl (fun w => stepG_loop) ?_
 refine Fd (F := fun u => G (Qh sz 1 u) (c :: cs)) key ?_
 simp only [Qh]
 rfl
end
end
section
noncomputable def reg69_0 := rk Try.f69.body 0
noncomputable def reg69_1 := rk Try.f69.body 1
noncomputable def reg69_2 := rk Try.f69.body 2
noncomputable def reg69_3 := rk Try.f69.body 3
noncomputable def reg69_4 := rk Try.f69.body 4
noncomputable def reg69_5 := rk Try.f69.body 5
noncomputable def reg69_6 := rk Try.f69.body 6
noncomputable def reg69_8 := rk Try.f69.body 8
noncomputable def reg69_9 := rk Try.f69.body 9
noncomputable def reg69_7 := rk Try.f69.body 7
noncomputable def reg69_10 := rk Try.f69.body 10
noncomputable def reg69_11 := rk Try.f69.body 11
noncomputable def reg69_13 := rk Try.f69.body 13
noncomputable def reg69_14 := rk Try.f69.body 14
theorem Yp : reg69_14.size = 13 := by kernel_rfl
noncomputable def reg69_15 := rk Try.f69.body 15
theorem Yo : reg69_15.size = 13 := by kernel_rfl
noncomputable def reg69_12 := rk Try.f69.body 12
noncomputable def reg69_16 := rk Try.f69.body 16
theorem z69 : reg69_0.size = 1 /\ reg69_1.size = 3 /\ reg69_2.size = 10 /\ reg69_3.size = 2 /\ reg69_4.size = 7 /\ reg69_5.size = 1 /\ reg69_6.size = 6 /\ reg69_7.size = 3 /\ reg69_8.size = 10 /\ reg69_9.size = 10 /\ reg69_10.size = 1 /\ reg69_11.size = 4 /\ reg69_12.size = 3 /\ reg69_13.size = 3 /\ reg69_14.size = 13 /\ reg69_15.size = 13 /\ reg69_16.size = 2 := by and_intros <;> kernel_rfl
theorem Qg : Try.f69.body = some (.seq (.region 0 reg69_0 false) (.seq (.region 1 reg69_1 false) (.seq (.seq (.region 2 reg69_2 false) (.cond (.tmp 18 ) (.seq (.region 3 reg69_3 false) (.ret)) (.skip))) (.seq (.region 4 reg69_4 false) (.seq (.seq (.region 5 reg69_5 false) (.block 0 (.loop (.seq (.seq (.region 6 reg69_6 false) (.cond (.tmp 31 ) (.skip) (.exit 0))) (.seq (.block 1 (.seq (.region 8 reg69_8 false) (.region 9 reg69_9 false))) (.region 7 reg69_7 false)))))) (.seq (.seq (.region 10 reg69_10 false) (.block 2 (.loop (.seq (.seq (.region 11 reg69_11 false) (.cond (.tmp 55 ) (.skip) (.exit 2))) (.seq (.block 3 (.seq (.region 13 reg69_13 false) (.seq (.region 14 reg69_14 true) (.region 15 reg69_15 true)))) (.region 12 reg69_12 false)))))) (.seq (.region 16 reg69_16 false) (.ret)))))))) := by kernel_rfl
noncomputable def Qx (M : Nat) (xv : Value) (j : Nat) (u : Nat -> Value) : Frame :=
 (base 69).at { tmps := #[xv, u 1, .pointer none, .pointer (some ⟨M, 0, none⟩), .int .i64 j, u 5, u 6, u 7, u 8, u 9, u 10, u 11, u 12, u 13, u 14, u 15, u 16, u 17, u 18, u 19, u 20, u 21, u 22, u 23, u 24, u 25, u 26, u 27, u 28, u 29, u 30, u 31, u 32, u 33, u 34, u 35, u 36, u 37, u 38, u 39, u 40, u 41, u 42, u 43, u 44, u 45, u 46, u 47, u 48, u 49, u 50, u 51, u 52, u 53, u 54, u 55, u 56, u 57, u 58, u 59, u 60, u 61, u 62, u 63, u 64, u 65, u 66, u 67, u 68, u 69, u 70, u 71, u 72, u 73, u 74, u 75, u 76, u 77, u 78, u 79, u 80, u 81, u 82, u 83, u 84], defers := [] } [.code (.seq (.seq (.region 6 reg69_6 false) (.cond (.tmp 31 ) (.skip) (.exit 0))) (.seq (.block 1 (.seq (.region 8 reg69_8 false) (.region 9 reg69_9 false))) (.region 7 reg69_7 false))), .inLoop (.seq (.seq (.region 6 reg69_6 false) (.cond (.tmp 31 ) (.skip) (.exit 0))) (.seq (.block 1 (.seq (.region 8 reg69_8 false) (.region 9 reg69_9 false))) (.region 7 reg69_7 false))), .inBlock 0, .code (.seq (.seq (.region 10 reg69_10 false) (.block 2 (.loop (.seq (.seq (.region 11 reg69_11 false) (.cond (.tmp 55 ) (.skip) (.exit 2))) (.seq (.block 3 (.seq (.region 13 reg69_13 false) (.seq (.region 14 reg69_14 true) (.region 15 reg69_15 true)))) (.region 12 reg69_12 false)))))) (.seq (.region 16 reg69_16 false) (.ret)))]
noncomputable def Qm (M : Nat) (xv : Value) (j : Nat) (u : Nat -> Value) : Frame :=
 (base 69).at { tmps := #[xv, u 1, .pointer none, .pointer (some ⟨M, 0, none⟩), u 4, .int .i64 j, u 6, u 7, u 8, u 9, u 10, u 11, u 12, u 13, u 14, u 15, u 16, u 17, u 18, u 19, u 20, u 21, u 22, u 23, u 24, u 25, u 26, u 27, u 28, u 29, u 30, u 31, u 32, u 33, u 34, u 35, u 36, u 37, u 38, u 39, u 40, u 41, u 42, u 43, u 44, u 45, u 46, u 47, u 48, u 49, u 50, u 51, u 52, u 53, u 54, u 55, u 56, u 57, u 58, u 59, u 60, u 61, u 62, u 63, u 64, u 65, u 66, u 67, u 68, u 69, u 70, u 71, u 72, u 73, u 74, u 75, u 76, u 77, u 78, u 79, u 80, u 81, u 82, u 83, u 84], defers := [] } [.code (.seq (.seq (.region 11 reg69_11 false) (.cond (.tmp 55 ) (.skip) (.exit 2))) (.seq (.block 3 (.seq (.region 13 reg69_13 false) (.seq (.region 14 reg69_14 true) (.region 15 reg69_15 true)))) (.region 12 reg69_12 false))), .inLoop (.seq (.seq (.region 11 reg69_11 false) (.cond (.tmp 55 ) (.skip) (.exit 2))) (.seq (.block 3 (.seq (.region 13 reg69_13 false) (.seq (.region 14 reg69_14 true) (.region 15 reg69_15 true)))) (.region 12 reg69_12 false))), .inBlock 2, .code (.seq (.region 16 reg69_16 false) (.ret))]
def Na (z : Int) (sv vv : Value) : Obj := .cells #[.int .i64 z, sv, vv, .slice none 0 0, .int .i64 0] 190
structure NwA (M j : Nat) (z : Int) (sv vv : Value) (w0 w : World) : Prop where
 hd : w.heap[M]? = some (Na z sv vv)
 rs : w.ownsRow (M + 1) 2 1 sv j (Bb (List.replicate j (-2)))
 rv : w.ownsRow (M + 1) 2 1 vv j (Bb (List.replicate j 0))
 ne : ∀ b, sv.ownBlock = some b -> vv.ownBlock ≠ some b
 old : ∀ b, b < M -> w.heap[b]? = w0.heap[b]?
 lt : M < w.heap.size
theorem NwA.at {M j : Nat} {z : Int} {sv vv : Value} {w0 w : World} (h : NwA M j z sv vv w0 w) (d : Nat) : NwA M j z sv vv w0 (w.at d) := ⟨h.hd, Ao h.rs fun _ _ => rfl, Ao h.rv fun _ _ => rfl, h.ne, h.old, h.lt⟩
theorem Zd (j : Nat) (x : Int) : Bb (List.replicate (j + 1) x) = Bb (List.replicate j x) ++ [.int .i64 x] := by
 simp [Bb, List.replicate_succ']
section
variable {main : Bool}
theorem Qdr (M j : Nat) (z : Int) (sv vv xv : Value) (hj : z = j) (w0 w : World) (I : NwA M j z sv vv w0 w) (cs : List Frame) (u : Nat -> Value) :
  Walk Try.prog main (DR (fun _ => none)) (fun g w' => (∃ u, g = G (Qm M xv 1 u) cs) /\ ∃ d, w' = w.at d) (G (Qx M xv j u) cs) w := by
 have c0 : w.cell? ⟨M, 0, none⟩ = some (.int .i64 j) := by
  have := (Ac I.hd 0).trans rfl
  rwa [hj] at this
 have hj1 : decide ((j : Int) < j) = false := by simp
 clear hj I
 conv => arg 5; unfold Qx
 refine Aa z69 ?_
 refine Walk.ctl rfl (fun w => stepG_loop) ?_
 refine .stop fun d => ⟨Ak ?_, d, rfl⟩
 simp only [Qm]
 rfl
theorem Qbc (M j : Nat) (z : Int) (sv vv xv : Value) (hj : (j : Int) < z) (hz : z <= 65536) (w0 w : World) (I : NwA M j z sv vv w0 w) (cs : List Frame) (u : Nat -> Value) :
  Walk Try.prog main (DR (fun _ => none)) (fun g w' => (∃ u, g = G (Qx M xv (j + 1) u) cs) /\ ∃ sv' vv', NwA M (j + 1) z sv' vv' w0 w') (G (Qx M xv j u) cs) w := by
 have hi2 := Option.some_get (show (Try.prog.info? 2).isSome = true by kernel_rfl)
 have c0 : w.cell? ⟨M, 0, none⟩ = some (.int .i64 z) := (Ac I.hd 0).trans rfl
 have hj1 : decide ((j : Int) < z) = true := decide_eq_true hj
 have hw1 : IntKind.wrap .i64 ((j : Int) + 1) = (j : Int) + 1 := by rw [IntKind.wrap_i64]; omega
 have hcc : ((j + 1 : Nat) : Int) = (j : Int) + 1 := by simp
 have hlt := I.lt
 have hrl := fun b hb => (I.rs.lt b hb)
 have hvl := fun b hb => (I.rv.lt b hb)
 have c1 : w.cell? ⟨M, 1, none⟩ = some sv := (Ac I.hd 1).trans rfl
 obtain ⟨sa, sc, rfl⟩ := Hz I.rs
 obtain ⟨va, vc, rfl⟩ := Hz I.rv
 conv => arg 5; unfold Qx
 refine Aa z69 ?_
 (refine Walk.oa ?_; try walk_nrm)
 have s1 : (w.alloc (.cells #[.int .i64 (-2)] 2)).heap.size = w.heap.size + 1 := by simp
 have o1 : ∀ b, b < w.heap.size -> (w.alloc (.cells #[.int .i64 (-2)] 2)).heap[b]? = w.heap[b]? := fun b hb => Ad _ _ hb
 have d1 := heap_alloc_new w (.cells #[.int .i64 (-2)] 2)
 generalize hA : w.heap.size = A at *
 generalize w.alloc (.cells #[.int .i64 (-2)] 2) = w1 at *
 have r1 := Ao I.rs (w' := w1) fun b hb => o1 b (hrl b hb).2
 have v1 := Ao I.rv (w' := w1) fun b hb => o1 b (hvl b hb).2
 have hd1 := (o1 M hlt).trans I.hd
 repeat (first | (refine Walk.oq ?_; try walk_nrm) | (refine Bn ?_; walk_nrm))
 refine Walk.append (.tmp 38) (.tmp 39) 22 Aj (by rfl) (by decide) rfl (M + 1) 2 _ (.int .i64 0) 1 8 (by kernel_rfl) hi2.symm (by rfl) (by rfl) (by rfl) (by rfl) (by decide) (.slice sa j sc) j (Bb (List.replicate j (-2))) rfl r1 ⟨A, 0, none⟩ 1 1 [.int .i64 (-2)] rfl (by rfl) (fun q x hx => ?_) (by simp [Value.oneCell']) (by decide) (by simp [maxLen]; omega) (by omega) (by omega) (fun g _ => Nx g) (fun g gc w2 hown2 hg2 hat2 hlt2 => ?_)
 ·rw [Bm, Nat.zero_add]
  refine (Ac d1 q).trans ?_
  simpa using hx
 have s2 := hg2.size
 have hd2 : w2.heap[M]? = some (Na z (.slice sa j sc) (.slice va j vc)) := (hg2.block M (by omega) (fun e => by have := (hrl M e.symm).1; omega)).trans hd1
 have v2 := Ao v1 (w' := w2) fun b hb => hg2.block b (by have := (hvl b hb).2; omega) (fun e => I.ne b e.symm hb)
 have o2 : ∀ b, b < M -> w2.heap[b]? = w0.heap[b]? := fun b hb => (hg2.block b (by omega) (fun e => by have := (hrl b e.symm).1; omega)).trans ((o1 b (by omega)).trans (I.old b hb))
 have ne2 : (Value.slice va j vc).ownBlock ≠ some g := fun e => by
  rcases hat2 with h | h
  ·exact I.ne g h e
  ·have := (hvl g e).2; omega
 have gl : M + 1 <= g /\ g < w2.heap.size := by
  refine ⟨?_, hlt2⟩
  rcases hat2 with h | h
  ·exact (hrl g h).1
  ·omega
 have cM : w2.cell? ⟨M, 1, none⟩ = some (.slice sa j sc) := (Ac hd2 1).trans rfl
 have zM : w2.frozen? ⟨M, 1, none⟩ = false := Aq hd2 1
 have vl2 := fun b hb => (v2.lt b hb)
 clear r1 v1 hd1 o1 d1 s1 I hrl hvl c0 c1
 walk_nrm
 repeat (first | (refine Walk.oq ?_; try walk_nrm) | (refine Bn ?_; walk_nrm))
 (have hfr := Dq M 1; refine Walk.os hfr cM ?_; clear hfr; try walk_nrm)
 have hd3 : (w2.setCell ⟨M, 1, none⟩ (.slice (some ⟨g, 0, none⟩) (j + 1) gc)).heap[M]? = some (Na z (.slice (some ⟨g, 0, none⟩) (j + 1) gc) (.slice va j vc)) := (Am _ _ hd2).trans rfl
 have s3 := Af w2 ⟨M, 1, none⟩ (.slice (some ⟨g, 0, none⟩) (j + 1) gc)
 have o3 : ∀ b, b ≠ M -> (w2.setCell ⟨M, 1, none⟩ (.slice (some ⟨g, 0, none⟩) (j + 1) gc)).heap[b]? = w2.heap[b]? := fun b hb => Ab _ _ _ _ hb
 generalize w2.setCell ⟨M, 1, none⟩ (.slice (some ⟨g, 0, none⟩) (j + 1) gc) = w3 at *
 replace s3 : w2.heap.size <= w3.heap.size /\ w3.heap.size <= w2.heap.size := by omega
 have r3 := Ao hown2 (w' := w3) fun b hb => o3 b (by have : g = b := Option.some.inj hb; omega)
 have v3 := Ao v2 (w' := w3) fun b hb => o3 b (by have := (vl2 b hb).1; omega)
 have old3 : ∀ b, b < M -> w3.heap[b]? = w0.heap[b]? := fun b hb => (o3 b (by omega)).trans (o2 b hb)
 have c2 : w3.cell? ⟨M, 2, none⟩ = some (.slice va j vc) := (Ac hd3 2).trans rfl
 have hlt3 : M < w3.heap.size := by omega
 clear cM zM hd2 o2 o3 v2 hown2 hg2 hat2
 try walk_nrm
 refine Aa z69 ?_
 (refine Walk.oa ?_; try walk_nrm)
 have s4 : (w3.alloc (.cells #[.int .i64 0] 2)).heap.size = w3.heap.size + 1 := by simp
 have o4 : ∀ b, b < w3.heap.size -> (w3.alloc (.cells #[.int .i64 0] 2)).heap[b]? = w3.heap[b]? := fun b hb => Ad _ _ hb
 have d4 := heap_alloc_new w3 (.cells #[.int .i64 0] 2)
 generalize hB : w3.heap.size = B at *
 generalize w3.alloc (.cells #[.int .i64 0] 2) = w4 at *
 have r4 := Ao r3 (w' := w4) fun b hb => o4 b (by have : g = b := Option.some.inj hb; omega)
 have v4 := Ao v3 (w' := w4) fun b hb => o4 b (by have := (vl2 b hb).2; omega)
 have hd4 := (o4 M hlt3).trans hd3
 repeat (first | (refine Walk.oq ?_; try walk_nrm) | (refine Bn ?_; walk_nrm))
 refine Walk.append (.tmp 47) (.tmp 48) 22 Aj (by rfl) (by decide) rfl (M + 1) 2 _ (.int .i64 0) 1 8 (by kernel_rfl) hi2.symm (by rfl) (by rfl) (by rfl) (by rfl) (by decide) (.slice va j vc) j (Bb (List.replicate j 0)) rfl v4 ⟨B, 0, none⟩ 1 1 [.int .i64 0] rfl (by rfl) (fun q x hx => ?_) (by simp [Value.oneCell']) (by decide) (by simp [maxLen]; omega) (by omega) (by omega) (fun g _ => Nx g) (fun h hc w5 hown5 hg5 hat5 hlt5 => ?_)
 ·rw [Bm, Nat.zero_add]
  refine (Ac d4 q).trans ?_
  simpa using hx
 have s5 := hg5.size
 have hd5 : w5.heap[M]? = some (Na z (.slice (some ⟨g, 0, none⟩) (j + 1) gc) (.slice va j vc)) := (hg5.block M (by omega) (fun e => by have := (vl2 M e.symm).1; omega)).trans hd4
 have r5 := Ao r4 (w' := w5) fun b hb => hg5.block b (by have : g = b := Option.some.inj hb; omega) (fun e => by
  have : g = b := Option.some.inj hb
  exact ne2 (this ▸ e.symm))
 have old5 : ∀ b, b < M -> w5.heap[b]? = w0.heap[b]? := fun b hb => (hg5.block b (by omega) (fun e => by have := (vl2 b e.symm).1; omega)).trans ((o4 b (by omega)).trans (old3 b hb))
 have ne5 : g ≠ h := fun e => by
  rcases hat5 with h' | h'
  ·exact ne2 (e ▸ h')
  ·omega
 have cM : w5.cell? ⟨M, 2, none⟩ = some (.slice va j vc) := (Ac hd5 2).trans rfl
 have zM : w5.frozen? ⟨M, 2, none⟩ = false := Aq hd5 2
 have hl5 : M + 1 <= h := by
  rcases hat5 with h' | h'
  ·exact (vl2 h h').1
  ·omega
 clear r4 v4 hd4 o4 d4 r3 v3 hd3 c2 old3
 walk_nrm
 repeat (first | (refine Walk.oq ?_; try walk_nrm) | (refine Bn ?_; walk_nrm))
 (have hfr := Dq M 2; refine Walk.os hfr cM ?_; clear hfr; try walk_nrm)
 have hd6 : (w5.setCell ⟨M, 2, none⟩ (.slice (some ⟨h, 0, none⟩) (j + 1) hc)).heap[M]? = some (Na z (.slice (some ⟨g, 0, none⟩) (j + 1) gc) (.slice (some ⟨h, 0, none⟩) (j + 1) hc)) := (Am _ _ hd5).trans rfl
 have s6 := Af w5 ⟨M, 2, none⟩ (.slice (some ⟨h, 0, none⟩) (j + 1) hc)
 have o6 : ∀ b, b ≠ M -> (w5.setCell ⟨M, 2, none⟩ (.slice (some ⟨h, 0, none⟩) (j + 1) hc)).heap[b]? = w5.heap[b]? := fun b hb => Ab _ _ _ _ hb
 generalize w5.setCell ⟨M, 2, none⟩ (.slice (some ⟨h, 0, none⟩) (j + 1) hc) = w6 at *
 have I6 : NwA M (j + 1) z (.slice (some ⟨g, 0, none⟩) (j + 1) gc) (.slice (some ⟨h, 0, none⟩) (j + 1) hc) w0 w6 := by
  refine ⟨hd6, ?_, ?_, fun b hb hb2 => ?_, fun b hb => (o6 b (by omega)).trans (old5 b hb), by omega⟩
  ·rw [Zd]
   exact Ao r5 fun b hb => o6 b (by have : g = b := Option.some.inj hb; omega)
  ·rw [Zd]
   exact Ao hown5 fun b hb => o6 b (by have : h = b := Option.some.inj hb; omega)
  ·have e1 : g = b := Option.some.inj hb
   have e2 : h = b := Option.some.inj hb2
   exact ne5 (e1.trans e2.symm)
 clear cM zM hd5 hd6 o6 r5 hown5 hg5 hat5 old5
 try walk_nrm
 refine Aa z69 ?_
 refine Walk.ctl rfl (fun w => stepG_inLoop) ?_
 refine .stop fun d => ⟨Ak ?_, _, _, I6.at d⟩
 simp only [Qx, hcc]
 rfl
end
end
end Go.Proofs.Ytcdcnmphjhfbpaa
