/- Part 29. -/
import Derived.Test.YtdmpmoggacjgcaaJ10
import Derived.Test.YtdmpmoggacjgcaaJ20
import Derived.Test.YtdmpmoggacjgcaaJ27
import Derived.Test.YtdmpmoggacjgcaaJ28
set_option linter.unusedSimpArgs false
set_option linter.unusedVariables false
set_option maxHeartbeats 8000000
set_option maxRecDepth 100000
namespace Go.Proofs.Ytdmpmoggacjgcaa
open Go.Conc Go.RowKit Go.Relay
open Go.ConcN (upd upd_ne upd_same)
section
theorem ansRow_get : ∀ (l : List Ans) (k j : Nat) (o : Ans) (v : Value), l[k]? = some o → ([.bool o.1, .int .i64 o.2, .slice none 0 0] : List Value)[j]? = some v → (ansRow l)[k * 3 + j]? = some v
  | o' :: l, 0, j, o, v, hk, hv => by
    simp only [List.getElem?_cons_zero, Option.some.injEq] at hk
    subst hk
    have hj := (List.getElem?_eq_some_iff.1 hv).1
    have : ansRow (o' :: l) = [.bool o'.1, .int .i64 o'.2, .slice none 0 0] ++ ansRow l := by simp [ansRow]
    rw [this, Nat.zero_mul, Nat.zero_add, List.getElem?_append_left hj]
    exact hv
  | o' :: l, k + 1, j, o, v, hk, hv => by
    have : ansRow (o' :: l) = [.bool o'.1, .int .i64 o'.2, .slice none 0 0] ++ ansRow l := by simp [ansRow]
    rw [this, List.getElem?_append_right (by simp; omega)]
    have h := ansRow_get l k j o v (by simpa using hk) hv
    rw [← h]
    congr 1
    simp
    omega
theorem ansA_of {w : World} {base : Nat} {ta : Option Addr} {m tc : Nat} {l : List Ans} (h : w.ownsRow base 32 3 (.slice ta m tc) m (ansRow l)) (hm : m = l.length) : AnsA ta l w := fun i x hx => by
  obtain ⟨g, e, _, _, h0⟩ := row_at h (ansRow_get l i 0 x _ hx rfl)
  obtain ⟨g1, e1, _, _, h1⟩ := row_at h (ansRow_get l i 1 x _ hx rfl)
  obtain ⟨g2, e2, _, _, h2⟩ := row_at h (ansRow_get l i 2 x _ hx rfl)
  rw [e] at e1 e2
  cases e1
  cases e2
  refine ⟨g, 0, e, ?_, ?_, ?_⟩
  · rw [Nat.zero_add]; exact h0
  · rw [Nat.zero_add]; exact h1
  · rw [Nat.zero_add]; exact h2
theorem numA_of {w : World} {base : Nat} {e : TypeId} {ta : Option Addr} {m tc : Nat} {l : List Int} (h : w.ownsRow base e 1 (.slice ta m tc) m (l.map (.int .i64))) : NumA ta l w := fun i x hx => by
  obtain ⟨g, e, _, _, h0⟩ := row_at h (j := i) (x := .int .i64 x) (by simp [hx])
  exact ⟨g, 0, e, by rw [Nat.zero_add]; exact h0⟩
section
variable {main : Bool} {N : Nat} {tg : Bool} {kb0 nb0 : Nat} {ops : Nat → List OpV} {n : Nat} {W : World} {nb vb cn cv : Nat} {ts : Nat → Nat} {oas : Nat → Option Addr} {ocs : Nat → Nat} {la : Option Addr} {lc : Nat} {most : Int} {sl : List Int}
theorem rq_begin (sv : Value) (mst : Int) (hn : n ≤ 64) (hol : ∀ i, i < n → (ops i).length ≤ 65536) (cs : List Frame) : ∀ (r k : Nat) (κ : Nat → Nat) (x : OX (skLa kb0 nb0 N tg)) (u : Nat → Value) (w : World), k + r = n → RQ N tg kb0 nb0 ops n W nb vb cn cv ts oas ocs la lc κ k x w →
    Walk Try.prog main (DR (fun _ => none)) (fun g w' => (∃ u, g = G (hdQ0 sv mst W.heap.size (W.heap.size + 1) n u) cs) ∧ ∃ κ', RQ N tg kb0 nb0 ops n W nb vb cn cv ts oas ocs la lc κ' n (bornsA (absO (skLa kb0 nb0 N tg) n most ops) r k x) w') (G (hdQ0 sv mst W.heap.size (W.heap.size + 1) k u) cs) w := by
  intro r
  induction r with
  | zero =>
    intro k κ x u w hk H
    obtain rfl : k = n := hk
    exact .stop fun d => ⟨⟨u, rfl⟩, κ, ⟨H.size, H.old, H.res, H.M.at d, H.L, fun i h1 h2 => TIs.same (H.T i h1 h2) fun _ _ _ => rfl, fun i h1 h2 => (H.Z i h1 h2).at d, H.out⟩⟩
  | succ r ih =>
    intro k κ x u w hk H
    have hkn : k < n := by omega
    obtain ⟨tl, rfl, _, hl⟩ := H.L k hkn
    have X0 := H.Z k hkn (Nat.le_refl _)
    have hb := mbg_w (main := main) (kb := kb0) (nb := nb0) (n := N) (tg := tg) (W.heap.size + 1) 0 (fun _ => 0) [] none 0 x.s w (hol k hkn) (Nat.zero_le _) rfl X0
    refine (ply_one sv mst W.heap.size (W.heap.size + 1) k tl n lc (ts k) _ u cs w hkn hn (mc7 H.M.blk) hl hb).then ?_
    rintro g w' ⟨⟨u', rfl⟩, w1, d, ⟨hT, hC⟩, rfl⟩
    refine Walk.back ?_ d
    rw [List.drop_zero] at hT
    have hC2 : Chg (fun g => κ g = 1 ∨ κ g = 5 + k) w w1 := hC.mono fun g _ h => .inr h
    have hM1 := H.M.chg hC fun g _ h h2 => by have h : κ g = 1 := h; have h2 : κ g = 5 + k := h2; omega
    have key : RQ N tg kb0 nb0 ops n W nb vb cn cv ts oas ocs (some ⟨tl, 0, none⟩) lc (ext κ w.heap.size (5 + k)) (k + 1) (bornO ops x k) w1 := by
      refine H.next (i := k) (.inr rfl) hC2 ?_ (fun j h1 h2 => by omega) (fun j _ h => by omega) (fun j hj => ⟨upd_ne _ _ hj, upd_ne _ _ hj⟩) (fun _ _ => ⟨rfl, ?_⟩) (fun _ => ?_) (.inl hkn)
      · show MaX (fun g => κ g = 1) (W.heap.size + 1) nb vb N cn cv tg (.slice (some ⟨tl, 0, none⟩) n lc) (settleO (skLa kb0 nb0 N tg) x.s (ops k) []).1 w1
        exact (congrArg (fun s : Sk => MaX (fun g => κ g = 1) (W.heap.size + 1) nb vb N cn cv tg (.slice (some ⟨tl, 0, none⟩) n lc) s w1) (settle_same (kb := kb0) (nb := nb0) (n := N) (tg := tg) x.s (ops k) [])).mpr hM1
      · show TisR (skLa kb0 nb0 N tg) id _ N (ts k) (ops k) (oas k) (ocs k) (upd x.th k (settleO (skLa kb0 nb0 N tg) x.s (ops k) []).2 k) w1
        rw [upd_same]
        exact hT
      · unfold bornO putO
        simp only [upd_same]
        cases (settleO (skLa kb0 nb0 N tg) x.s (ops k) []).2.d <;> rfl
    exact ih (k + 1) _ _ u' w1 (by omega) key
def RPlay (N : Nat) (n : Nat) (W : World) (L : La) (stx : L.Sg → List Int) (F : OX L × List Nat) (v : Value) (w' : World) : Prop := ∃ cells, v = .agg cells ∧ TrA cells n (fun i => (F.1.th i).ans) F.2 (stx F.1.s) (stuckO n F.1) w' ∧ Chg (fun _ => False) W w' ∧ F.2.length ≤ 1048576 ∧ ∀ i, i < n → (F.1.th i).ans.length ≤ 65536
theorem rq_last (hm0 : 0 ≤ most) (hm1 : most ≤ 1048576) (hn : n ≤ 64) (hN : N ≤ 65536) (hol : ∀ i, i < n → (ops i).length ≤ 65536) (hsl : sl.length ≤ 17592186044416) (F : OX (skLa kb0 nb0 N tg) × List Nat) (c : Frame) (cs : List Frame) (κ : Nat → Nat) (x : OX (skLa kb0 nb0 N tg)) (ord : List Nat) (p rd : Nat) (oa : Option Addr) (oc B : Nat) (lo : Option Addr) (lco : Nat) (u : Nat → Value) (w : World)
    (H : RQ N tg kb0 nb0 ops n W nb vb cn cv ts oas ocs la lc κ n x w) (U : TuX (fun g => κ g = 2) B lo lco sl most p rd oa oc ord false w) (A : Ahead (absO (skLa kb0 nb0 N tg) n most ops) F sl p rd (x, ord)) (hrd : rd < n ∨ n = 0) (he : EndAt (fun g => κ g = 2) la n (fun i => (x.out i).isSome) w) (hov : overA (absO (skLa kb0 nb0 N tg) n most ops) (x, ord) = true) :
    Walk Try.prog main (DR (fun _ => none)) (fun g w' => ∃ v, RPlay N n W (skLa kb0 nb0 N tg) (stateX N) F v w' ∧ g = G (c.finish v) cs) (G (hdQ1 W.heap.size (W.heap.size + 1) B u) (c :: cs)) w := by
  have hF := A.done hov
  have hshort := A.short
  have hx : ∀ i, ∃ v : Value, i < n → ∃ aa ac, v = .slice aa ((x.th i).ans).length ac ∧ w.cell? ⟨ts i, 12, none⟩ = some v ∧ κ (ts i) = 5 + i ∧ w.ownsRow 0 32 3 v ((x.th i).ans).length (ansRow (x.th i).ans) ∧ (∀ g, v.ownBlock = some g → κ g = 5 + i) ∧ ((x.th i).ans).length ≤ 65536 := fun i => by
    by_cases hi : i < n
    · obtain ⟨k, PC, Nn, aa, ac, X, h1, h2⟩ := H.T i hi hi
      have hkl : k ≤ 65536 := by
        have := hol i hi
        rcases h2 with ⟨_, h, _⟩ | ⟨_, o, _, h, _⟩
        · omega
        · have := (List.getElem?_eq_some_iff.1 h).1; omega
      exact ⟨.slice aa ((x.th i).ans).length ac, fun _ => ⟨aa, ac, rfl, tcA X.blk, X.sb, X.rA, fun g hg => (X.sa g hg).1, by omega⟩⟩
    · exact ⟨undef, fun h => absurd h hi⟩
  have hpick := pick_w (main := main) (tc := lc) (f := fun i => (x.out i).isSome) (fun i _ => rfl) hn hm1 hsl w U he A hrd
  refine (ply_last (W.heap.size + 1) nb vb N cn cv tg x.s n lc la (fun i => (hx i).choose) B (fun w' => TuX (fun g => κ g = 2) B lo lco sl most p rd oa oc ord (decide (0 < goingA (absO (skLa kb0 nb0 N tg) n most ops) x)) w' ∧ Chg (fun g => κ g = 2) w w') W.heap.size u c cs w hn hN (mc7 H.M.blk) (fun c' cs' => (hpick c' cs').mono fun g w' ⟨v, hP, hg⟩ => ?_) fun w1 hY => ?_).mono ?_
  · rcases hP with ⟨h1, _, h2, h3⟩ | ⟨h, _⟩
    · exact ⟨v, ⟨h1, h2, h3⟩, hg⟩
    · rw [hov] at h; cases h
  · obtain ⟨U1, hC1⟩ := hY
    have hs1 := hC1.size
    have hsz := H.size
    refine ⟨lo, lco, sl, most, p, rd, oa, oc, ord, _, ⟨?_, U1.mono' fun g hg _ => hg, fun i hi => ?_, ?_, by omega⟩⟩
    · exact (H.M.chg hC1 fun g _ h h2 => by have h : κ g = 1 := h; have h2 : κ g = 2 := h2; omega).mono' fun g hg _ => hg
    · obtain ⟨tl, e, h1, h2⟩ := H.L i hi
      obtain ⟨aa, ac, e1, e2, e3, _⟩ := (hx i).choose_spec hi
      have k1 : w1.cell? ⟨tl, i, none⟩ = some (.pointer (some ⟨ts i, 0, none⟩)) := (World.cell?_of_block (a := ⟨tl, i, none⟩) (hC1.same tl (cell_lt' h2) (by omega))).trans h2
      have k2 : w1.cell? ⟨ts i, 12, none⟩ = some (hx i).choose := (World.cell?_of_block (a := ⟨ts i, 12, none⟩) (hC1.same (ts i) (cell_lt' e2) (by omega))).trans e2
      refine ⟨tl, ts i, aa, _, ac, e, by rw [Nat.zero_add]; exact k1, ?_, e1⟩
      rw [k2, e1]
    · have := H.res.1
      exact (hC1.same _ (by omega) (by omega)).trans H.res.2
  · rintro g w' ⟨v, w1, lo', lco', sl', most', p', rd', oa', oc', ord', st', ⟨U1, hC1⟩, E, hO, rfl⟩
    have hs1 := hC1.size
    have hsz := H.size
    have hor : oa' = oa ∧ oc' = oc ∧ ord'.length = ord.length ∧ st' = decide (0 < goingA (absO (skLa kb0 nb0 N tg) n most ops) x) := by
      have e := E.U.blk.symm.trans U1.blk
      simp only [Option.some.injEq, Obj.cells.injEq, tuA] at e
      have e := e.1
      simp only [Array.mk.injEq, List.cons.injEq, Value.slice.injEq, Value.bool.injEq] at e
      exact ⟨e.2.2.2.2.1.1, e.2.2.2.2.1.2.2, e.2.2.2.2.1.2.1, e.2.2.2.2.2.1⟩
    obtain ⟨rfl, rfl, hol', rfl⟩ := hor
    obtain ⟨ha, hc, sa, sc, rfl, r1, r2, hC2⟩ := hO
    have hs2 := hC2.size
    have hR3 := H.res.1
    subst hF
    refine ⟨_, ⟨_, rfl, ⟨⟨ha, hc, oa', oc', sa, sc, by rw [hol']; rfl, ?_, ?_, fun i hi => ?_⟩⟩, ⟨by omega, fun b hb _ => ?_⟩, by have h : (ord.length : Int) ≤ most := hshort; show ord.length ≤ 1048576; omega, fun i hi => ?_⟩, rfl⟩
    · refine numA_of (base := 0) (e := 3) (m := ord.length) (tc := oc') ?_
      have : ((ord.map fun i => ((i : Nat) : Int)).map (Value.int .i64)) = ordRow ord := by simp [ordRow]
      rw [this]
      refine row_same U1.row fun g hg => hC2.same g (U1.row.lt g hg).2 fun e => ?_
      have h2 : κ g = 2 := (U1.so g hg).1
      rw [e, hR3] at h2
      cases h2
    · exact numA_of (base := w1.heap.size) (e := 2) (m := (stateX N x.s).length) (tc := sc) r2
    · obtain ⟨aa, ac, e1, e2, e3, e4, e5, _⟩ := (hx i).choose_spec hi
      obtain ⟨g, eg, hg, _, hcell⟩ := row_at r1 (j := i) (x := (hx i).choose) (by simp [hdRow, hi])
      refine ⟨g, 0, aa, ac, eg, by rw [Nat.zero_add, hcell, e1], ?_⟩
      rw [e1] at e4 e5
      refine ansA_of (base := 0) (m := ((x.th i).ans).length) (tc := ac) ?_ rfl
      refine row_same e4 fun g hg => ?_
      have h5 := e5 g hg
      have hgl := (e4.lt g hg).2
      exact (hC2.same g (by omega) fun e => by rw [e, hR3] at h5; omega).trans (hC1.same g hgl (by omega))
    · have h0 := H.old b hb
      exact (hC2.same b (by omega) (by omega)).trans ((hC1.same b (by omega) (by omega)).trans h0.2)
    · obtain ⟨_, _, _, _, _, _, _, h⟩ := (hx i).choose_spec hi
      exact h
end
end
section
section
variable {main : Bool} {N : Nat} {tg : Bool} {kb0 nb0 : Nat} {ops : Nat → List OpV} {n : Nat} {W : World} {nb vb cn cv : Nat} {ts : Nat → Nat} {oas : Nat → Option Addr} {ocs : Nat → Nat} {la : Option Addr} {lc : Nat} {most : Int} {sl : List Int}
theorem RQ.ends {κ : Nat → Nat} {x : OX (skLa kb0 nb0 N tg)} {w : World} (H : RQ N tg kb0 nb0 ops n W nb vb cn cv ts oas ocs la lc κ n x w) : EndAt (fun g => κ g = 2) la n (fun i => (x.out i).isSome) w := fun i hi => by
  obtain ⟨tl, e, h1, h2⟩ := H.L i hi
  obtain ⟨k, PC, Nn, aa, ac, X, _⟩ := H.T i hi hi
  have hb : κ (ts i) = 5 + i := X.sb
  refine ⟨tl, 0, ts i, e, by rw [Nat.zero_add]; exact h2, ?_, fun h => by have h : κ tl = 2 := h; omega, fun h => by have h : κ (ts i) = 2 := h; omega⟩
  show w.cell? ⟨ts i, 13, none⟩ = some (.bool ((x.out i).isSome))
  rw [H.out i hi]
  exact tcE X.blk
theorem rq_run (hm0 : 0 ≤ most) (hm1 : most ≤ 1048576) (hn : n ≤ 64) (hN : N ≤ 65536) (hol : ∀ i, i < n → (ops i).length ≤ 65536) (hsl : sl.length ≤ 17592186044416) (F : OX (skLa kb0 nb0 N tg) × List Nat) (c : Frame) (cs : List Frame) (B : Nat) (lo : Option Addr) (lco : Nat) : ∀ (f : Nat) (κ : Nat → Nat) (x : OX (skLa kb0 nb0 N tg)) (ord : List Nat) (p rd : Nat) (oa : Option Addr) (oc : Nat) (u : Nat → Value) (w : World),
    most ≤ (ord.length + f : Nat) → RQ N tg kb0 nb0 ops n W nb vb cn cv ts oas ocs la lc κ n x w → TuX (fun g => κ g = 2) B lo lco sl most p rd oa oc ord false w → Ahead (absO (skLa kb0 nb0 N tg) n most ops) F sl p rd (x, ord) → (rd < n ∨ n = 0) →
    Walk Try.prog main (DR (fun _ => none)) (fun g w' => ∃ v, RPlay N n W (skLa kb0 nb0 N tg) (stateX N) F v w' ∧ g = G (c.finish v) cs) (G (hdQ1 W.heap.size (W.heap.size + 1) B u) (c :: cs)) w := by
  intro f
  induction f with
  | zero =>
    intro κ x ord p rd oa oc u w hf H U A hrd
    refine rq_last hm0 hm1 hn hN hol hsl F c cs κ x ord p rd oa oc B lo lco u w H U A hrd H.ends ?_
    unfold overA
    have : decide ((absO (skLa kb0 nb0 N tg) n most ops).most ≤ ((x, ord).2.length : Int)) = true := decide_eq_true (by show most ≤ (ord.length : Int); omega)
    rw [this, Bool.or_true]
  | succ f ih =>
    intro κ x ord p rd oa oc u w hf H U A hrd
    cases hov : overA (absO (skLa kb0 nb0 N tg) n most ops) (x, ord) with
    | true => exact rq_last hm0 hm1 hn hN hol hsl F c cs κ x ord p rd oa oc B lo lco u w H U A hrd H.ends hov
    | false =>
      have hpick := pick_w (main := main) (tc := lc) (f := fun i => (x.out i).isSome) (fun i _ => rfl) hn hm1 hsl w U H.ends A hrd
      have key : ∀ (i : Nat) (w1 : World), (∃ p' rd', i < n ∧ x.out i = none ∧ Ahead (absO (skLa kb0 nb0 N tg) n most ops) F sl p' rd' (nextO x i, ord ++ [i]) ∧ rd' < n ∧ PickOut (fun g => κ g = 2) B lo lco sl most p' rd' ord i w w1) →
          RQ N tg kb0 nb0 ops n W nb vb cn cv ts oas ocs la lc (ext κ w.heap.size 2) n x w1 := by
        rintro i w1 ⟨p', rd', h1, h2, h3, h4, oa', oc', U1, hC1⟩
        have hM1 := H.M.chg hC1 fun g _ h h2 => by have h : κ g = 1 := h; have h2 : κ g = 2 := h2; omega
        exact H.next (i := n) (.inl rfl) (hC1.mono fun g _ h => .inr h) hM1 (fun j h _ => h) (fun j h h2 => absurd h (by omega)) (fun j _ => ⟨rfl, rfl⟩) (fun h _ => absurd h (Nat.lt_irrefl _)) (fun h => absurd h (Nat.lt_irrefl _)) (.inr rfl)
      refine (ply_go W.heap.size (W.heap.size + 1) B n lc la (fun i w1 => ∃ p' rd', i < n ∧ x.out i = none ∧ Ahead (absO (skLa kb0 nb0 N tg) n most ops) F sl p' rd' (nextO x i, ord ++ [i]) ∧ rd' < n ∧ PickOut (fun g => κ g = 2) B lo lco sl most p' rd' ord i w w1)
        (fun i w1 w2 => MaX (fun g => ext κ w.heap.size 2 g = 1) (W.heap.size + 1) nb vb N cn cv tg (.slice la n lc) (Sk.mk (nextO x i).s.hd (nextO x i).s.fr (nextO x i).s.nx (nextO x i).s.vl) w2 ∧ TisR (skLa kb0 nb0 N tg) id (fun g => ext κ w.heap.size 2 g = 5 + i ∨ w1.heap.size ≤ g) N (ts i) (ops i) (oas i) (ocs i) ((nextO x i).th i) w2 ∧ Chg (fun g => ext κ w.heap.size 2 g = 1 ∨ ext κ w.heap.size 2 g = 5 + i) w1 w2 ∧ ((nextO x i).out i).isSome = ((nextO x i).th i).d.isNone ∧ ∀ j, j ≠ i → (nextO x i).th j = x.th j ∧ (nextO x i).out j = x.out j) u (c :: cs) w hn (mc7 H.M.blk) (fun c' cs' => (hpick c' cs').mono fun g w' ⟨v, hP, hg⟩ => ?_) fun i w1 hY => ?_).then ?_
      · rcases hP with ⟨_, h, _⟩ | ⟨_, i, p', rd', h1, h2, rfl, h3, h4, h5⟩
        · rw [hov] at h; cases h
        · exact ⟨_, ⟨i, rfl, p', rd', h1, h2, h3, h4, h5⟩, hg⟩
      · have H1 := key i w1 hY
        obtain ⟨p', rd', h1, h2, h3, h4, h5⟩ := hY
        obtain ⟨tl, e, _, k2⟩ := H1.L i h1
        refine ⟨h1, mc7 H1.M.blk, tl, ts i, e, k2, ?_⟩
        obtain ⟨k, PC, Nn, aa, ac, X, hk, hd⟩ := H1.T i h1 h1
        have hout := H1.out i h1
        rw [h2] at hout
        have hsome : ∃ d, (x.th i).d = some d := by
          cases hdd : (x.th i).d with
          | none => rw [hdd] at hout; cases hout
          | some d => exact ⟨d, rfl⟩
        obtain ⟨d, hdd⟩ := hsome
        rw [hdd] at hd
        rcases hd with ⟨hd, _⟩ | ⟨d', o, hd, ho, hleft, hdr, _⟩
        · cases hd
        have hd : some d = some d' := hd
        cases hd
        have hst := step_w (main := main) (kb0 := kb0) (nb0 := nb0) d w1 X H1.M (fun g h h' => by have h : ext κ w.heap.size 2 g = 1 := h; have h' : ext κ w.heap.size 2 g = 5 + i := h'; omega) hdr ho (hol i h1) hk hN
        have hn' : nextO x i = putO x i (landO (skLa kb0 nb0 N tg) (skAct tg x.s d) (x.th i).left (x.th i).ans) (x.cnt + 1) := by
          unfold nextO
          rw [hdd]
          rfl
        intro c' cs'
        refine (hst c' cs').mono ?_
        rintro g w' ⟨v, ⟨rfl, hS⟩, rfl⟩
        rw [hn']
        unfold StepR at hS
        rw [← hleft] at hS
        obtain ⟨s1, s2, s3⟩ := hS
        refine ⟨_, ⟨rfl, s1, ?_, s3, ?_, fun j hj => ⟨upd_ne _ _ hj, upd_ne _ _ hj⟩⟩, rfl⟩
        · show TisR (skLa kb0 nb0 N tg) id _ N (ts i) (ops i) (oas i) (ocs i) (upd x.th i (landO (skLa kb0 nb0 N tg) (skAct tg x.s d) (x.th i).left (x.th i).ans).2 i) w'
          rw [upd_same]
          exact s2
        · unfold putO
          simp only [upd_same]
          cases (landO (skLa kb0 nb0 N tg) (skAct tg x.s d) (x.th i).left (x.th i).ans).2.d <;> rfl
      · rintro g w' ⟨⟨u', rfl⟩, i, w1, w2, d, hY, ⟨z1, z2, z3, z4, z5⟩, rfl⟩
        refine Walk.back ?_ d
        have H1 := key i w1 hY
        obtain ⟨p', rd', h1, h2, h3, h4, oa', oc', U1, hC1⟩ := hY
        have hs1 := hC1.size
        have U2 : TuX (fun g => ext κ w.heap.size 2 g = 2) B lo lco sl most p' rd' oa' oc' (ord ++ [i]) false w1 := U1.mono fun g hg => by
          rcases hg with hg | hg
          · by_cases h : w.heap.size ≤ g
            · exact ext_ge h
            · rw [ext_lt (by omega)]; exact hg
          · exact ext_ge hg
        have H2 := H1.next (i := i) (c := 5 + i) (k' := n) (x' := nextO x i) (.inr rfl) z3 z1 (fun j h _ => h) (fun j h h2 => absurd h (by omega)) z5 (fun _ _ => ⟨rfl, z2⟩) (fun _ => z4) (.inl h1)
        have U3 := U2.ext z3 (by omega)
        exact ih _ (nextO x i) (ord ++ [i]) p' rd' oa' oc' u' w2 (by simp; omega) H2 U3 h3 (.inl h4)
theorem rplay_w (sz : Int) (kb0 nb0 : Nat) (tg : Bool) (tb toff n0 tc n : Nat) (ta : Option Addr) (oa : Nat → Option Addr) (ln oc : Nat → Nat) (ops : Nat → List OpV) (sa : Option Addr) (sc : Nat) (sl : List Int) (most : Int) (W : World) (I : OpsIn tb toff n oa ln oc ops W) (hn : n = min n0 64) (ht : 0 < n → ta = some ⟨tb, toff, none⟩)
    (hI : ∀ w, (∀ b, b < W.heap.size → w.heap[b]? = W.heap[b]?) → OpsIn tb toff n oa ln oc ops w) (hsl : sl.length ≤ 17592186044416) (hnil : sa = none → sl = [] ∧ sc = 0) (hs : ∀ (j : Nat) (z : Int), sl[j]? = some z → ∃ s so, sa = some ⟨s, so, none⟩ ∧ W.cell? ⟨s, so + j, none⟩ = some (.int .i64 z)) :
    CallW Try.prog main (fun _ => none) 16 #[.int .i64 sz, .bool tg, .slice ta n0 tc, .slice sa sl.length sc, .int .i64 most] W (fun v w' => RPlay (sizeN sz) n W (skLa kb0 nb0 (sizeN sz) tg) (stateX (sizeN sz)) (playO (skLa kb0 nb0 (sizeN sz) tg) (sk0 (sizeN sz)) ops n most sl) v w') := by
  intro c cs
  have hN := (sizeN_le sz).2.1
  have hol : ∀ i, i < n → (ops i).length ≤ 65536 := fun i hi => by have := I.len i hi; omega
  refine (ply_in sz tg tb toff n0 tc n ta oa ln oc ops (.slice sa sl.length sc) most (c :: cs) W I hn ht hI).then ?_
  rintro g w1 ⟨⟨u, rfl⟩, a2, nb, vb, cn, cv, pr, ts, oas, ocs, la, lc, hP⟩
  obtain ⟨κ, H0⟩ := RQ.init (kb0 := kb0) (nb0 := nb0) sz rfl hP
  refine (rq_begin (most := min (max most 0) 1048576) (.slice sa sl.length sc) most (by omega) hol (c :: cs) n 0 κ _ u w1 (by omega) H0).then ?_
  rintro g w2 ⟨⟨u2, rfl⟩, κ2, H2⟩
  have hcell : ∀ (j : Nat) (z : Int), sl[j]? = some z → ∃ s so, sa = some ⟨s, so, none⟩ ∧ w2.cell? ⟨s, so + j, none⟩ = some (.int .i64 z) := fun j z hz => by
    obtain ⟨s, so, e, h⟩ := hs j z hz
    exact ⟨s, so, e, (World.cell?_of_block (a := ⟨s, so + j, none⟩) (H2.old s (cell_lt' h)).2).trans h⟩
  have htu := newTurn_w (main := main) sa sc sl most w2 hsl hnil hcell
  refine (ply_turn sa sl.length sc most W.heap.size (W.heap.size + 1) n lc la (fun w b w' => ∃ lo lco, TuX (fun g => w.heap.size ≤ g) b lo lco sl (min (max most 0) 1048576) 0 0 none 0 [] false w' ∧ Chg (fun _ => False) w w') u2 (c :: cs) w2 (mc7 H2.M.blk) (fun c' cs' => (htu c' cs').mono fun g w' ⟨v, ⟨B, lo, lco, h1, h2, h3⟩, hg⟩ => ⟨v, ⟨B, h1, lo, lco, h2, h3⟩, hg⟩)).then ?_
  rintro g w' ⟨B, w3, d, ⟨u3, rfl⟩, ⟨lo, lco, U, hC⟩, rfl⟩
  refine Walk.back ?_ d
  have H3 := H2.next (i := n) (c := 2) (k' := n) (x' := bornsA (absO (skLa kb0 nb0 (sizeN sz) tg) n (min (max most 0) 1048576) ops) n 0 (x0O (skLa kb0 nb0 (sizeN sz) tg) (sk0 (sizeN sz)))) (.inl rfl) (hC.mono fun g _ h => h.elim) (H2.M.chg hC fun _ _ _ h => h) (fun j h _ => h) (fun j h h2 => absurd h (by omega)) (fun j _ => ⟨rfl, rfl⟩) (fun h _ => absurd h (Nat.lt_irrefl _)) (fun h => absurd h (Nat.lt_irrefl _)) (.inr rfl)
  have U3 : TuX (fun g => ext κ2 w2.heap.size 2 g = 2) B lo lco sl (min (max most 0) 1048576) 0 0 none 0 [] false w3 := U.mono fun g hg => ext_ge hg
  have hA := ahead_start (A := absO (skLa kb0 nb0 (sizeN sz) tg) n (min (max most 0) 1048576) ops) (sl := sl) (by show 0 ≤ min (max most 0) 1048576; omega) (bornsA (absO (skLa kb0 nb0 (sizeN sz) tg) n (min (max most 0) 1048576) ops) n 0 (x0O (skLa kb0 nb0 (sizeN sz) tg) (sk0 (sizeN sz))))
  exact rq_run (most := min (max most 0) 1048576) (by omega) (by omega) (by omega) hN hol hsl _ c cs B lo lco 1048576 _ _ [] 0 0 none 0 u3 w3 (by simp; omega) H3 U3 hA (by omega)
end
end
section
variable {main : Bool} {V : Nat → Option Wait}
theorem end_zero (B : Nat) (c : Frame) (cs : List Frame) (w : World) (h0 : w.cell? ⟨B, 0, none⟩ = some (.slice none 0 0)) :
    Walk Try.prog main (DR V) (fun g w' => g = G (c.finish (.slice (some ⟨w.heap.size, 0, none⟩) 0 0)) cs ∧ ∃ d, w' = (w.alloc (.cells (madeCells #[.bool false] 0) 4)).at d) (G (Frame.enter Try.prog 74 #[.pointer (some ⟨B, 0, none⟩)] .normal) (c :: cs)) w := by
  rw [enter_at _ Try.func74 rfl]
  simp only [Try.f74, ez, Nat.reduceAdd, Nat.reduceSub]
  repeat (first | refine Walk.cx ?_ | refine Walk.cR ?_ | (refine Walk.oq ?_; try walk_nrm) | (refine Walk.un ?_; walk_nrm))
  have hi4 := Option.some_get (show (Try.prog.info? 4).isSome = true by kernel_rfl)
  refine Walk.make 114 (.tmp 10) (.tmp 10) rfl (by rfl) (by decide) rfl 4 _ (.bool false) 1 1 (by kernel_rfl) hi4.symm (by rfl) (by rfl) (by rfl) 0 (by rfl) (by rfl) (by omega) (by omega) ?_
  have h0' := cell_alloc w (.cells (madeCells #[.bool false] 0) 4) h0
  walk_nrm
  simp only [Value.cells, Nat.mul_one]
  repeat (first | refine Walk.cx ?_ | refine Walk.cR ?_ | (refine Walk.oq ?_; try walk_nrm) | (refine Walk.un ?_; walk_nrm))
  refine Walk.ctl rfl (fun w => stepG_loop) ?_
  repeat (first | refine Walk.cx ?_ | refine Walk.cR ?_ | (refine Walk.oq ?_; try walk_nrm) | (refine Walk.un ?_; walk_nrm))
  exact (Walk.ret1 (Post := fun v w' => v = .slice (some ⟨w.heap.size, 0, none⟩) 0 0 ∧ ∃ d, w' = (w.alloc (.cells (madeCells #[.bool false] 0) 4)).at d) rfl rfl Try.func74 rfl fun d => ⟨by simp, d, rfl⟩).mono fun g w' ⟨v, ⟨e, d, e'⟩, hg⟩ => ⟨by rw [hg, e], d, e'⟩
end
section
section
variable {main : Bool} {V : Nat → Option Wait}
theorem begin_zero' (B tc : Nat) (ta : Option Addr) (c : Frame) (cs : List Frame) (w : World) (h0 : w.cell? ⟨B, 0, none⟩ = some (.slice none 0 0)) :
    Walk Try.prog main (DR V) (fun g w' => g = G (c.finish (.tuple #[])) cs ∧ ∃ d, w' = w.at d) (G (Frame.enter Try.prog 72 #[.pointer (some ⟨B, 0, none⟩), .slice ta 0 tc] .normal) (c :: cs)) w := by
  rw [enter_at _ Try.func72 rfl]
  simp only [Try.f72, ez, Nat.reduceAdd, Nat.reduceSub]
  repeat (first | refine Walk.cx ?_ | refine Walk.cR ?_ | (refine Walk.oq ?_; try walk_nrm) | (refine Walk.un ?_; walk_nrm))
  refine Walk.ctl rfl (fun w => stepG_loop) ?_
  repeat (first | refine Walk.cx ?_ | refine Walk.cR ?_ | (refine Walk.oq ?_; try walk_nrm) | (refine Walk.un ?_; walk_nrm))
  exact Walk.ctl rfl (fun w => stepG_leave rfl rfl Try.func72 (results_none rfl _ _ w) (events_results_none rfl _ _)) (.stop fun d => ⟨rfl, d, rfl⟩)
theorem over_zero' (sa : Option Addr) (m sc tc : Nat) (ta : Option Addr) (most : Int) (og : Value) (c : Frame) (cs : List Frame) (w : World) (hog : CallV Try.prog main V 70 #[og] w (.slice ta 0 tc) w)
    (hs : 0 < m → ∃ s so x, sa = some ⟨s, so, none⟩ ∧ w.cell? ⟨s, so, none⟩ = some (.int .i64 x)) :
    Walk Try.prog main (DR V) (fun g w' => g = G (c.finish (.tuple #[.slice none 0 0, .bool false, .slice (some ⟨w.heap.size + 1, 0, none⟩) 0 0])) cs ∧ ∃ d, w' = ((turnW w 0 most).alloc (.cells (madeCells #[.bool false] 0) 4)).at d)
      (G (Frame.enter Try.prog 56 #[og, .slice sa m sc, .int .i64 most] .normal) (c :: cs)) w := by
  have hs1 : (turnW w 0 most).heap.size = w.heap.size + 1 := by simp [turnW]
  have ht : ∀ i, (turnW w 0 most).cell? ⟨w.heap.size, i, none⟩ = (#[.slice none 0 0, .int .i64 (0 : Nat), .int .i64 (min (max most 0) 1048576), .slice none 0 0] : Array Value)[i]? := fun i => cell_of (heap_alloc_new w _) i
  have t0 := (ht 0).trans rfl
  have t1 := (ht 1).trans rfl
  have t2 := (ht 2).trans rfl
  have t3 := (ht 3).trans rfl
  clear ht
  refine (over_in 0 tc m sc ta sa og most (c :: cs) w hog (nt_in 0 tc ta most (fr23t 0 tc m sc ta sa og most :: c :: cs) w)).then ?_
  rintro _ _ ⟨rfl, d1, rfl⟩
  refine Walk.back ?_ d1
  refine (nt_out w.heap.size 0 tc ta most _ (fr23t 0 tc m sc ta sa og most) (c :: cs) _).then ?_
  rintro _ _ ⟨rfl, d2, rfl⟩
  refine Walk.back ?_ d2
  refine (over_begin w.heap.size 0 tc m sc ta sa og most (c :: cs) _ (begin_zero' w.heap.size tc ta _ (c :: cs) _ t0)).then ?_
  rintro _ _ ⟨rfl, d3, rfl⟩
  refine Walk.back ?_ d3
  refine (over_follow w.heap.size 0 tc m sc ta sa og most (c :: cs) _ (follow_in w.heap.size sa m sc _ _)).then ?_
  rintro _ _ ⟨⟨u4, rfl⟩, d4, rfl⟩
  refine Walk.back ?_ d4
  have back : Walk Try.prog main (DR V) (fun g w' => g = G ((fr23b w.heap.size 0 tc m sc ta sa og most).finish (.tuple #[])) (c :: cs) ∧ ∃ d, w' = (turnW w 0 most).at d) (G (hd55 w.heap.size sa m sc 0 u4) (fr23b w.heap.size 0 tc m sc ta sa og most :: c :: cs)) (turnW w 0 most) := by
    rcases Nat.eq_zero_or_pos m with hm | hm
    · subst hm
      refine (follow_past w.heap.size sa 0 sc u4 _ _).then ?_
      rintro _ _ ⟨⟨u5, rfl⟩, d5, rfl⟩
      refine Walk.back ?_ d5
      exact round_over w.heap.size sa 0 sc (0 : Nat) _ none 0 0 u5 _ (c :: cs) _ t1 t2 t3 (by simp)
    · obtain ⟨s, so, x, rfl, hc⟩ := hs hm
      refine follow_over w.heap.size s so m sc 0 x (0 : Nat) _ none 0 0 u4 _ (c :: cs) _ hm ?_ t1 t2 t3 (by simp)
      exact cell_alloc w _ hc
  refine back.then ?_
  rintro _ _ ⟨rfl, d5, rfl⟩
  refine Walk.back ?_ d5
  refine (over_end w.heap.size 0 tc m sc ta sa og most (0 : Nat) (c :: cs) _ t1 (end_zero w.heap.size _ (c :: cs) _ t0)).then ?_
  rintro _ _ ⟨rfl, d6, rfl⟩
  refine Walk.back ?_ d6
  have t3' := cell_alloc _ (.cells (madeCells #[.bool false] 0) 4) t3
  rw [hs1]
  refine (over_out w.heap.size (w.heap.size + 1) 0 tc m sc ta sa og most (0 : Nat) none 0 0 c cs _ t3').mono ?_
  rintro _ _ ⟨rfl, d7, rfl⟩
  exact ⟨by simp, d7, rfl⟩
theorem huOpsS : Try.prog.underlying 33 = some (.slice 37) := by kernel_rfl
theorem firstOps_some (a : Option Addr) (m cap : Nat) (w : World) (hm : m ≤ cap) (ha : a = none ∧ cap = 0 ∨ ∃ p, a = some p) : CallV Try.prog main V 67 #[.slice a m cap] w (.slice a (min m 64) cap) w := by
  refine callW_in Try.func67 rfl fun fr cs => ?_
  simp only [Try.ntmps67, ez, Nat.reduceAdd, Nat.reduceSub]
  have hmn := @events_min_ints Try.prog
  repeat (first | refine Walk.cx ?_ | refine Walk.cR ?_ | (refine Walk.oq ?_; try walk_nrm) | (refine Walk.un ?_; walk_nrm))
  have hmin : min (m : Int) 64 = ((min m 64 : Nat) : Int) := by omega
  rw [hmin]
  have hxl : min m 64 ≤ cap := by omega
  generalize min m 64 = x at hxl ⊢
  have hi := Option.some_get (show (Try.prog.info? 37).isSome = true by kernel_rfl)
  have hs := fun w => (run_slx huOpsS hi.symm a m cap x hxl ha w #[]).1
  have hse := fun w es => (run_slx huOpsS hi.symm a m cap x hxl ha w es).2
  clear hi
  repeat (first | refine Walk.cx ?_ | refine Walk.cR ?_ | (refine Walk.oq ?_; try walk_nrm) | (refine Walk.un ?_; walk_nrm))
  exact Walk.ret1 rfl rfl Try.func67 rfl fun d => ⟨by simp, d, rfl⟩
end
theorem playO_zero (L : La) (s0 : L.Sg) (ops : Nat → List OpV) (most : Int) (sl : List Int) : playO L s0 ops 0 most sl = (x0O L s0, []) := by
  have hov : overA (absO L 0 (min (max most 0) 1048576) ops) (x0O L s0, []) = true := rfl
  have hst : ∀ z, stepA (absO L 0 (min (max most 0) 1048576) ops) (x0O L s0, []) z = (x0O L s0, []) := fun z => by
    unfold stepA
    rw [hov]
    exact if_neg fun h => by cases h.1
  have hfold : ∀ l : List Int, l.foldl (stepA (absO L 0 (min (max most 0) 1048576) ops)) (x0O L s0, []) = (x0O L s0, []) := fun l => by
    induction l with
    | nil => rfl
    | cons z l ih => rw [List.foldl_cons, hst, ih]
  show restA _ _ (sl.foldl _ (x0O L s0, [])) = _
  rw [hfold]
  generalize (absO L 0 (min (max most 0) 1048576) ops).most.toNat = f
  cases f with
  | zero => rfl
  | succ f =>
    unfold restA
    rw [hov]
    rfl
section
variable {L : La} {fdo : FuncId} {first cap : Array Value}
theorem ops_any (hD : DoFn L fdo first cap) (s0 : L.Sg) (tv : Value) (most : Int) (ta : Option Addr) (tb toff tc n : Nat) (hta : 0 < n → ta = some ⟨tb, toff, none⟩) (hn : n ≤ 64) (oa : Nat → Option Addr) (ln oc : Nat → Nat) (ops : Nat → List OpV) (sa : Option Addr) (sc : Nat) (sl : List Int) (hsl : sl.length ≤ 17592186044416) (c : Frame) (cs : List Frame) (w : World)
    (I : OpsIn tb toff n oa ln oc ops w) (hI : L.I s0 w) (hns : ∀ i, i < n → ∀ (j : Nat) (o : OpV), (ops i)[j]? = some o → ∀ b off, oa i = some ⟨b, off, none⟩ → ¬ L.sh b)
    (hsc : ∀ (j : Nat) (z : Int), sl[j]? = some z → ∃ s so, sa = some ⟨s, so, none⟩ ∧ w.cell? ⟨s, so + j, none⟩ = some (.int .i64 z) ∧ ¬ L.sh s)
    (hp : ∀ w' : World, (∀ b, b < w.heap.size → w'.heap[b]? = w.heap[b]?) → CallV Try.prog true (fun _ => none) 67 #[tv] w' (.slice ta n tc) w') :
    Runs (fun g w' => ∃ cells, OpsOut L s0 ops n most sl w w' cells ∧ g = G (c.finish (.agg cells)) cs) (G (Frame.enter Try.prog 32 #[tv, .func (.func fdo) first cap, .slice sa sl.length sc, .int .i64 most] .normal) (c :: cs)) w := by
  rcases Nat.eq_zero_or_pos n with h0 | h1
  · subst h0
    have hA : ∀ b, Apart (fun _ => none) b := fun b => ⟨fun _ _ _ _ h => (by cases h), fun _ _ h => (by cases h)⟩
    refine Runs.walk (ops_in fdo first cap tv (.slice sa sl.length sc) most ta tb toff tc 0 hta hn oa ln oc ops c cs w I (fun b _ => hA b) hp) ?_
    rintro _ w2 ⟨fr, w1, rfl, o1, s1, hT, M, hB⟩
    have s2 : w2.heap.size = w.heap.size + 1 + 4 + 2 * 0 := M.size
    have hN := M.cN
    have o2 : ∀ b, b < w.heap.size + 1 → w2.heap[b]? = w1.heap[b]? := fun b hb => M.old b hb
    have hc2 : ∀ {b j : Nat} {v : Value}, w.cell? ⟨b, j, none⟩ = some v → w2.cell? ⟨b, j, none⟩ = some v := fun {b j v} h => (World.cell?_of_block (a := ⟨b, j, none⟩) ((o2 b (by have := cell_lt' h; omega)).trans (o1 b (cell_lt' h)))).trans h
    refine Runs.walk (over_zero' sa sl.length sc 0 (some ⟨w.heap.size + 4, 0, none⟩) most _ fr (c :: cs) w2 ?_ fun h => ?_) ?_
    · have := first_some (main := true) (V := fun _ => none) (w.heap.size + 4) 0 0 w2 (Nat.le_refl _)
      simpa using this
    · obtain ⟨s, so, e, hc, _⟩ := hsc 0 (sl[0]'h) (List.getElem?_eq_getElem h)
      exact ⟨s, so, _, e, hc2 hc⟩
    rintro _ _ ⟨rfl, d, rfl⟩
    have o3 : ∀ b, b < w2.heap.size → ((turnW w2 0 most).alloc (.cells (madeCells #[.bool false] 0) 4)).heap[b]? = w2.heap[b]? := fun b hb => by
      rw [heap_new_lt _ _ (by simp [turnW]; omega)]
      exact heap_new_lt _ _ hb
    have s3 : w2.heap.size ≤ ((turnW w2 0 most).alloc (.cells (madeCells #[.bool false] 0) 4)).heap.size := by simp [turnW]; omega
    generalize (turnW w2 0 most).alloc (.cells (madeCells #[.bool false] 0) 4) = w3 at *
    have hT3 : (w3.at d).heap[w.heap.size]? = some (.cells #[.slice none 0 0, .slice none 0 0, .slice none 0 0, .bool false] 27) := (o3 _ (by omega)).trans ((o2 _ (by omega)).trans hT)
    refine Runs.walk (hB none 0 0 _ false _ hT3 (hA _)) ?_
    rintro _ _ ⟨rfl, d', rfl⟩
    have hset : ∀ b, b ≠ w.heap.size → ((w3.at d).setRow w.heap.size #[.slice (some ⟨w.heap.size + 2, 0, none⟩) 0 0, .slice none 0 0, .slice none 0 0, .bool false]).heap[b]? = w3.heap[b]? := fun b hb => setRow_other _ _ hb
    have hold : ∀ b, b < w.heap.size → ((w3.at d).setRow w.heap.size #[.slice (some ⟨w.heap.size + 2, 0, none⟩) 0 0, .slice none 0 0, .slice none 0 0, .bool false]).heap[b]? = w.heap[b]? := fun b hb => (hset b (by omega)).trans ((o3 b (by omega)).trans ((o2 b (by omega)).trans (o1 b hb)))
    have e1 : (playO L s0 ops 0 most sl).2 = [] := by rw [playO_zero]
    have e2 : (playO L s0 ops 0 most sl).1 = x0O L s0 := by rw [playO_zero]
    refine .now ⟨_, ⟨⟨w.heap.size + 2, none, 0, fun _ => .slice none 0 0, madeCells #[.slice none 0 0] 0, ?_, ?_, by omega, ?_, fun i hi => absurd hi (Nat.not_lt_zero _), fun i hi => absurd hi (Nat.not_lt_zero _)⟩, ?_, fun b hb _ => hold b hb, ?_⟩, rfl⟩
    · rw [e1, e2]; rfl
    · rw [e1]; exact ⟨rfl, .inl ⟨rfl, rfl⟩⟩
    · exact (hset _ (by omega)).trans ((o3 _ (by omega)).trans hN)
    · rw [e2]
      exact L.stable hI fun b h => hold b (L.lt hI h)
    · show w.heap.size ≤ (World.setRow _ _ _).heap.size
      rw [setRow_size]
      show _ ≤ w3.heap.size
      omega
  · obtain rfl := hta h1
    exact ops_run hD s0 tv most tb toff tc n h1 hn oa ln oc ops sa sc sl hsl c cs w I hI hns hsc hp
end
end
section
theorem valsX_len (s : Sk) : ∀ (f : Nat) (i : Int), (valsX s f i).length ≤ f := by
  intro f
  induction f with
  | zero => intro i; simp [valsX]
  | succ f ih =>
    intro i
    simp only [valsX]
    split
    · simp
    · have := ih (s.nx i.toNat); simp; omega
section
variable {main : Bool} {V : Nat → Option Wait} {kb nb n : Nat} {tg : Bool}
theorem state_any (hne : kb ≠ nb) (s : Sk) (w : World) (I : SkI kb nb n tg s w) (hn : n ≤ 65536) (hA : ∀ b, Apart V b) : CallW Try.prog main V 34 #[.pointer (some ⟨kb, 0, none⟩)] w (ValOut w (stateX n s)) := by
  intro c cs
  have hi2 := Option.some_get (show (Try.prog.info? 2).isSome = true by kernel_rfl)
  rw [enter_at _ Try.func34 code34_is]
  simp only [Try.ntmps34, ez, Nat.reduceAdd, Nat.reduceSub]
  repeat (first | refine Walk.cx ?_ | (refine Walk.cReg ?_; simp only [z34]) | (refine Walk.oq ?_; try walk_nrm) | (refine Walk.un ?_; walk_nrm))
  refine Walk.callV (x := headsV s) (W := w) ?_ (ho_of (by conv => lhs; whnf) (by kernel_rfl)) (by rfl) (by decide) rfl Try.func19 (by kernel_rfl) (by rfl) ?_
  · walk_nrm
    exact heads_w s w I
  walk_nrm
  simp only [headsV]
  repeat (first | refine Walk.cx ?_ | (refine Walk.cReg ?_; simp only [z34]) | (refine Walk.oq ?_; try walk_nrm) | (refine Walk.un ?_; walk_nrm))
  (refine Walk.oa ?_; try walk_nrm)
  generalize hl4 : ([nodeX s.hd, tagX s.hd, nodeX s.fr, tagX s.fr] : List Int) = l4
  have hs1 : (w.alloc (.cells #[.int .i64 (nodeX s.hd), .int .i64 (tagX s.hd), .int .i64 (nodeX s.fr), .int .i64 (tagX s.fr)] 2)).heap.size = w.heap.size + 1 := by simp
  have o1 : ∀ b, b < w.heap.size → (w.alloc (.cells #[.int .i64 (nodeX s.hd), .int .i64 (tagX s.hd), .int .i64 (nodeX s.fr), .int .i64 (tagX s.fr)] 2)).heap[b]? = w.heap[b]? := fun b hb => heap_new_lt _ _ hb
  have d1 := heap_alloc_new w (.cells #[.int .i64 (nodeX s.hd), .int .i64 (tagX s.hd), .int .i64 (nodeX s.fr), .int .i64 (tagX s.fr)] 2)
  generalize w.alloc (.cells #[.int .i64 (nodeX s.hd), .int .i64 (tagX s.hd), .int .i64 (nodeX s.fr), .int .i64 (tagX s.fr)] 2) = w1 at *
  have I1 : SkI kb nb n tg s w1 := I.old o1
  repeat (first | (refine Walk.oq ?_; try walk_nrm) | (refine Walk.un ?_; walk_nrm))
  refine Walk.callW (Post := ValOut w1 (valsX s n (nodeX s.hd))) ?_ (ho_of (by conv => lhs; whnf) (by kernel_rfl)) (by rfl) (by decide) rfl Try.func20 (by kernel_rfl) (by rfl) ?_
  · walk_nrm
    exact values_w hne s w1 I1 hn hA
  rintro v w2 ⟨ta, tc, rfl, H⟩
  have hlen := valsX_len s n (nodeX s.hd)
  generalize hvl : valsX s n (nodeX s.hd) = vl at *
  have d2 : w2.heap[w.heap.size]? = some (.cells #[.int .i64 (nodeX s.hd), .int .i64 (tagX s.hd), .int .i64 (nodeX s.fr), .int .i64 (tagX s.fr)] 2) := (H.old _ (by omega)).trans d1
  have hsz2 := H.size
  have hrow : w2.ownsRow w.heap.size 2 1 (.slice (some ⟨w.heap.size, 0, none⟩) 4 4) 4 (intRow [nodeX s.hd, tagX s.hd, nodeX s.fr, tagX s.fr]) := ⟨rfl, .inr ⟨w.heap.size, 4, _, rfl, Nat.le_refl _, d2, Nat.le_refl _, by simp [maxLen], rfl, rfl⟩⟩
  walk_nrm
  refine Walk.appendSl (.tmp 18) (.tmp 20) 25 (ho_of (by conv => lhs; whnf) (by kernel_rfl)) (by rfl) (by decide) rfl w.heap.size 2 _ (.int .i64 0) 1 8 (by kernel_rfl) hi2.symm (by rfl) (by rfl) (by rfl) (by rfl) (by decide) (.slice (some ⟨w.heap.size, 0, none⟩) 4 4) 4 (intRow [nodeX s.hd, tagX s.hd, nodeX s.fr, tagX s.fr]) rfl hrow ta vl.length tc (intRow vl) rfl (fun e => ?_) (by simp [intRow]) (fun ad e j x hx => ?_) (by simp [intRow, Value.oneCell']) (by simp [maxLen]; omega) (by omega) (by omega) (fun g _ => hA g) fun v w3 hown3 hgr hat => ?_
  · rcases H.row.2 with ⟨h, h0⟩ | ⟨g, cap, cur, h, _⟩
    · injection h with _ _ h3
      exact ⟨by simp [intRow, List.length_eq_zero_iff.1 h0], h3⟩
    · injection h with h1 _ _
      rw [e] at h1; cases h1
  · obtain ⟨g, e2, _, _, hc⟩ := row_at H.row hx
    rw [e] at e2
    cases e2
    rw [add_none, Nat.zero_add]
    exact hc
  obtain ⟨sa, sc, rfl⟩ := row_shape hown3
  have hold : ∀ b, b < w.heap.size → w3.heap[b]? = w.heap[b]? := fun b hb => (hgr.block b (by omega) (fun he => by simp only [Value.ownBlock, Option.some.injEq] at he; omega)).trans ((H.old b (by omega)).trans (o1 b hb))
  have hs3 := hgr.size
  walk_nrm
  repeat (first | refine Walk.cx ?_ | (refine Walk.cReg ?_; simp only [z34]) | (refine Walk.oq ?_; try walk_nrm) | (refine Walk.un ?_; walk_nrm))
  refine Walk.on1 rfl rfl Try.func34 rfl (.stop fun d => ⟨_, ⟨sa, sc, ?_, ⟨?_, hold, ?_⟩⟩, rfl⟩)
  · simp only [stateX, hvl, List.length_append, List.length_cons, List.length_nil]
    rfl
  · have he : intRow (stateX n s) = intRow [nodeX s.hd, tagX s.hd, nodeX s.fr, tagX s.fr] ++ intRow vl := by simp [intRow, stateX, hvl]
    have hle : (stateX n s).length = 4 + vl.length := by simp [stateX, hvl]; omega
    rw [he, hle]
    exact hown3
  · show w.heap.size ≤ w3.heap.size
    omega
end
def SPBackA (T0 kb nb n : Nat) (tg : Bool) (fr c : Frame) (cs : List Frame) : Prop := ∀ (A na : Nat) (oo : Option Addr) (ol ok : Nat) (stuck : Bool) (s : Sk) (w : World), kb ≠ nb → n ≤ 65536 → SkI kb nb n tg s w → w.heap[T0]? = some (.cells #[.slice none 0 0, .slice none 0 0, .slice none 0 0, .bool false] 27) →
  Walk Try.prog true (DR (fun _ => none)) (fun g w' => ∃ ta tc, g = G (c.finish (.agg #[.slice (some ⟨A, 0, none⟩) na na, .slice oo ol ok, .slice ta (stateX n s).length tc, .bool stuck])) cs ∧ w'.ownsRow w.heap.size 2 1 (.slice ta (stateX n s).length tc) (stateX n s).length (intRow (stateX n s)) ∧ (∀ b, b < w.heap.size → b ≠ T0 → w'.heap[b]? = w.heap[b]?) ∧ w.heap.size ≤ w'.heap.size)
    (G (fr.finish (.agg #[.slice (some ⟨A, 0, none⟩) na na, .slice oo ol ok, .slice none 0 0, .bool stuck])) (c :: cs)) w
theorem splay_inA (sz : Int) (tg : Bool) (tv sv : Value) (most : Int) (c : Frame) (cs : List Frame) (w : World) :
    Walk Try.prog true (DR (fun _ => none)) (fun g w' => ∃ fr, g = G (Frame.enter Try.prog 32 #[tv, .func (.func 33) #[.pointer (some ⟨w.heap.size + 2, 0, none⟩)] #[], sv, .int .i64 most] .normal) (fr :: c :: cs) ∧ SkI (w.heap.size + 2) (w.heap.size + 1) (sizeN sz) tg (sk0 (sizeN sz)) w' ∧ (∀ b, b < w.heap.size → w'.heap[b]? = w.heap[b]?) ∧ w'.heap.size = w.heap.size + 3 ∧
        w'.heap[w.heap.size]? = some (.cells #[.slice none 0 0, .slice none 0 0, .slice none 0 0, .bool false] 27) ∧ SPBackA w.heap.size (w.heap.size + 2) (w.heap.size + 1) (sizeN sz) tg fr c cs)
      (G (Frame.enter Try.prog 15 #[.int .i64 sz, .bool tg, tv, sv, .int .i64 most] .normal) (c :: cs)) w := by
  have hA : ∀ b, Apart (fun _ => none) b := fun b => ⟨fun _ _ _ _ h => (by cases h), fun _ _ h => (by cases h)⟩
  obtain ⟨fsT, huT⟩ := structT 27 (by kernel_rfl)
  rw [enter_at _ Try.func15 code15_is]
  simp only [Try.ntmps15, ez, Nat.reduceAdd, Nat.reduceSub]
  repeat (first | refine Walk.cx ?_ | (refine Walk.cReg ?_; simp only [z15]) | (refine Walk.oq ?_; try walk_nrm) | (refine Walk.un ?_; walk_nrm))
  (refine Walk.oa ?_; try walk_nrm)
  have s1 : (w.alloc (.cells #[.slice none 0 0, .slice none 0 0, .slice none 0 0, .bool false] 27)).heap.size = w.heap.size + 1 := by simp
  have o1 : ∀ b, b < w.heap.size → (w.alloc (.cells #[.slice none 0 0, .slice none 0 0, .slice none 0 0, .bool false] 27)).heap[b]? = w.heap[b]? := fun b hb => heap_new_lt _ _ hb
  have d1 := heap_alloc_new w (.cells #[.slice none 0 0, .slice none 0 0, .slice none 0 0, .bool false] 27)
  generalize hN : w.heap.size = T0 at *
  generalize w.alloc (.cells #[.slice none 0 0, .slice none 0 0, .slice none 0 0, .bool false] 27) = w1 at *
  repeat (first | refine Walk.cx ?_ | (refine Walk.cReg ?_; simp only [z15]) | (refine Walk.oq ?_; try walk_nrm) | (refine Walk.un ?_; walk_nrm))
  refine Walk.callW (Post := fun v w' => v = .pointer (some ⟨w1.heap.size + 1, 0, none⟩) ∧ SkI (w1.heap.size + 1) w1.heap.size (sizeN sz) tg (sk0 (sizeN sz)) w' ∧ (∀ b, b < w1.heap.size → w'.heap[b]? = w1.heap[b]?) ∧ w'.heap.size = w1.heap.size + 2) ?_ (ho_of (by conv => lhs; whnf) (by kernel_rfl)) (by rfl) (by decide) rfl Try.func17 (by kernel_rfl) (by rfl) ?_
  · walk_nrm
    exact new_w sz tg w1 hA
  rintro v w2 ⟨rfl, hI, hO, hS⟩
  rw [s1] at hI hO hS ⊢
  generalize hn : sizeN sz = n at *
  walk_nrm
  repeat (first | refine Walk.cx ?_ | (refine Walk.cReg ?_; simp only [z15]) | (refine Walk.oq ?_; try walk_nrm) | (refine Walk.un ?_; walk_nrm))
  refine Walk.callE (ho_of (by conv => lhs; whnf) (by kernel_rfl)) (by rfl) (by decide) rfl Try.func32 (by kernel_rfl) (by rfl) ?_
  walk_nrm
  refine .stop fun d => ⟨_, rfl, hI.old fun _ _ => rfl, fun b hb => (hO b (by omega)).trans (o1 b (by omega)), hS, (hO T0 (by omega)).trans d1, ?_⟩
  intro A na oo ol ok stuck s w4 hne hn6 I4 hT
  refine Walk.finish (ho_of (by conv => lhs; whnf) (by kernel_rfl)) ?_
  walk_nrm
  (refine Walk.oa ?_; try walk_nrm)
  have d5 := heap_alloc_new w4 (.cells #[.slice none 0 0, .slice none 0 0, .slice none 0 0, .bool false] 27)
  have s5 : (w4.alloc (.cells #[.slice none 0 0, .slice none 0 0, .slice none 0 0, .bool false] 27)).heap.size = w4.heap.size + 1 := by simp
  have o5 : ∀ b, b < w4.heap.size → (w4.alloc (.cells #[.slice none 0 0, .slice none 0 0, .slice none 0 0, .bool false] 27)).heap[b]? = w4.heap[b]? := fun b hb => heap_new_lt _ _ hb
  have hT0 : T0 < w4.heap.size := (Array.getElem?_eq_some_iff.1 hT).1
  generalize hT1 : w4.heap.size = T1 at *
  generalize w4.alloc (.cells #[.slice none 0 0, .slice none 0 0, .slice none 0 0, .bool false] 27) = w5 at *
  refine Walk.storeS 27 (.tmp 12) (.tmp 21) (ho_of (by conv => lhs; whnf) (by kernel_rfl)) (by rfl) (by decide) rfl T1 #[.slice (some ⟨A, 0, none⟩) na na, .slice oo ol ok, .slice none 0 0, .bool stuck] _ 27 rfl rfl d5 (by kernel_rfl) (by rfl) (by simp [Value.oneCell']) (hA _) ?_
  have d6 := setRow_self (cells := #[.slice (some ⟨A, 0, none⟩) na na, .slice oo ol ok, .slice none 0 0, .bool stuck]) d5
  have o6 : ∀ b, b < T1 → (w5.setRow T1 #[.slice (some ⟨A, 0, none⟩) na na, .slice oo ol ok, .slice none 0 0, .bool stuck]).heap[b]? = w4.heap[b]? := fun b hb => (setRow_other _ _ (by omega)).trans (o5 b (by omega))
  have s6 := setRow_size w5 T1 #[.slice (some ⟨A, 0, none⟩) na na, .slice oo ol ok, .slice none 0 0, .bool stuck]
  rw [s5] at s6
  generalize w5.setRow T1 #[.slice (some ⟨A, 0, none⟩) na na, .slice oo ol ok, .slice none 0 0, .bool stuck] = w6 at *
  have I6 : SkI (T0 + 1 + 1) (T0 + 1) n tg s w6 := I4.old fun b hb => o6 b (by omega)
  walk_nrm
  repeat (first | refine Walk.cx ?_ | (refine Walk.cReg ?_; simp only [z15]) | (refine Walk.oq ?_; try walk_nrm) | (refine Walk.un ?_; walk_nrm))
  refine Walk.callW (Post := ValOut w6 (stateX n s)) ?_ (ho_of (by conv => lhs; whnf) (by kernel_rfl)) (by rfl) (by decide) rfl Try.func34 (by kernel_rfl) (by rfl) ?_
  · walk_nrm
    exact state_any hne s w6 I6 hn6 hA
  rintro v w7 ⟨ta, tc, rfl, H⟩
  generalize hst : stateX n s = st at *
  have d7 := (H.old T1 (by omega)).trans d6
  have c7 := (cell_of d7 2).trans rfl
  have z7 := frozen_of d7 2
  have hs7 := H.size
  walk_nrm
  repeat (first | (refine Walk.oq ?_; try walk_nrm) | (refine Walk.un ?_; walk_nrm))
  (have hfr := (hA T1).1 ⟨T1, 2, none⟩ rfl; refine Walk.os hfr c7 ?_; clear hfr; try walk_nrm)
  have d8 : (w7.setCell ⟨T1, 2, none⟩ (.slice ta st.length tc)).heap[T1]? = some (.cells #[.slice (some ⟨A, 0, none⟩) na na, .slice oo ol ok, .slice ta st.length tc, .bool stuck] 27) := by
    rw [heap_set_self _ _ d7]
    simp
  have o8 : ∀ b, b ≠ T1 → (w7.setCell ⟨T1, 2, none⟩ (.slice ta st.length tc)).heap[b]? = w7.heap[b]? := fun b hb => heap_set_other _ _ _ _ hb
  have s8 := size_set w7 ⟨T1, 2, none⟩ (.slice ta st.length tc)
  clear c7 z7
  generalize w7.setCell ⟨T1, 2, none⟩ (.slice ta st.length tc) = w8 at *
  repeat (first | refine Walk.cx ?_ | (refine Walk.cReg ?_; simp only [z15]) | (refine Walk.oq ?_; try walk_nrm) | (refine Walk.un ?_; walk_nrm))
  refine Walk.loadS 27 (.tmp 12) (ho_of (by conv => lhs; whnf) (by kernel_rfl)) (by rfl) (by decide) rfl T1 0 [.slice (some ⟨A, 0, none⟩) na na, .slice oo ol ok, .slice ta st.length tc, .bool stuck] (.struct fsT) rfl (fun j v hj => ?_) huT rfl (by kernel_rfl) ?_
  · rw [Nat.zero_add, cell_of d8]
    simpa using hj
  have dT : w8.heap[T0]? = some (.cells #[.slice none 0 0, .slice none 0 0, .slice none 0 0, .bool false] 27) := (o8 T0 (by omega)).trans ((H.old T0 (by omega)).trans ((o6 T0 (by omega)).trans hT))
  walk_nrm
  refine Walk.storeS 27 (.tmp 10) (.tmp 25) (ho_of (by conv => lhs; whnf) (by kernel_rfl)) (by rfl) (by decide) rfl T0 #[.slice (some ⟨A, 0, none⟩) na na, .slice oo ol ok, .slice ta st.length tc, .bool stuck] _ 27 rfl rfl dT (by kernel_rfl) (by rfl) (by simp [Value.oneCell']) (hA _) ?_
  have d9 := setRow_self (cells := #[.slice (some ⟨A, 0, none⟩) na na, .slice oo ol ok, .slice ta st.length tc, .bool stuck]) dT
  walk_nrm
  repeat (first | refine Walk.cx ?_ | (refine Walk.cReg ?_; simp only [z15]) | (refine Walk.oq ?_; try walk_nrm) | (refine Walk.un ?_; walk_nrm))
  refine Walk.onCell (T := T0) rfl rfl rfl Try.func15 rfl (by rfl) d9 (by kernel_rfl) (by kernel_rfl) (.stop fun d => ⟨ta, tc, rfl, ?_, fun b hb hbT => ?_, ?_⟩)
  · have hr := row_raise (base' := T1) H.row fun b hb => by have := (H.row.lt b hb).1; omega
    refine row_same hr fun b hb => ?_
    have := (H.row.lt b hb).1
    exact (setRow_other _ _ (by omega)).trans (o8 b (by omega))
  · exact (setRow_other _ _ hbT).trans ((o8 b (by omega)).trans ((H.old b (by omega)).trans (o6 b hb)))
  · show T1 ≤ (w8.setRow _ _).heap.size
    rw [setRow_size]
    omega
structure SPAny (n N : Nat) (L : La) (stx : L.Sg → List Int) (F : OX L × List Nat) (w w' : World) (cells : Array Value) : Prop where
  tr : TrA cells n (fun i => (F.1.th i).ans) F.2 (stx F.1.s) (stuckO n F.1) w'
  old : ∀ b, b < w.heap.size → w'.heap[b]? = w.heap[b]?
  size : w.heap.size ≤ w'.heap.size
theorem splay_any (sz : Int) (tg : Bool) (tv : Value) (most : Int) (ta : Option Addr) (tb toff tc n : Nat) (hta : 0 < n → ta = some ⟨tb, toff, none⟩) (hn : n ≤ 64) (oa : Nat → Option Addr) (ln oc : Nat → Nat) (ops : Nat → List OpV) (sa : Option Addr) (sc : Nat) (sl : List Int) (hsl : sl.length ≤ 17592186044416) (c : Frame) (cs : List Frame) (w : World)
    (I : OpsIn tb toff n oa ln oc ops w)
    (hsc : ∀ (j : Nat) (z : Int), sl[j]? = some z → ∃ s so, sa = some ⟨s, so, none⟩ ∧ w.cell? ⟨s, so + j, none⟩ = some (.int .i64 z))
    (hp : ∀ w' : World, (∀ b, b < w.heap.size → w'.heap[b]? = w.heap[b]?) → CallV Try.prog true (fun _ => none) 67 #[tv] w' (.slice ta n tc) w') :
    Runs (fun g w' => ∃ cells, SPAny n (sizeN sz) (skLa (w.heap.size + 2) (w.heap.size + 1) (sizeN sz) tg) (stateX (sizeN sz)) (playO (skLa (w.heap.size + 2) (w.heap.size + 1) (sizeN sz) tg) (sk0 (sizeN sz)) ops n most sl) w w' cells ∧ g = G (c.finish (.agg cells)) cs) (G (Frame.enter Try.prog 15 #[.int .i64 sz, .bool tg, tv, .slice sa sl.length sc, .int .i64 most] .normal) (c :: cs)) w := by
  obtain ⟨q1, q2, q3⟩ := sizeN_le sz
  refine Runs.walk (splay_inA sz tg tv (.slice sa sl.length sc) most c cs w) ?_
  rintro _ w1 ⟨fr, rfl, hI, hO, hS, hT, hB⟩
  have hc1 : ∀ {b j : Nat} {v : Value}, w.cell? ⟨b, j, none⟩ = some v → w1.cell? ⟨b, j, none⟩ = some v := fun {b j v} e => (World.cell?_of_block (a := ⟨b, j, none⟩) (hO b (cell_lt' e))).trans e
  have hsh : ∀ b, b < w.heap.size → ¬ (b = w.heap.size + 2 ∨ b = w.heap.size + 1) := fun b hb h => by omega
  have I1 : OpsIn tb toff n oa ln oc ops w1 := I.old hO
  refine Runs.then (ops_any (L := skLa (w.heap.size + 2) (w.heap.size + 1) (sizeN sz) tg) (do_ok (by omega) q2) (sk0 (sizeN sz)) tv most ta tb toff tc n hta hn oa ln oc ops sa sc sl hsl fr (c :: cs) w1 I1 hI (fun i hi j o ho b off e => ?_) (fun j z hz => ?_) (fun w' hw' => hp w' fun b hb => (hw' b (by omega)).trans (hO b hb))) ?_
  · obtain ⟨b', off', e', c0, _⟩ := I.ops i hi j o ho
    rw [e] at e'
    injection e' with e'
    injection e' with e' _
    subst e'
    exact hsh b (cell_lt' c0)
  · obtain ⟨s, so, e, hc⟩ := hsc j z hz
    exact ⟨s, so, e, hc1 hc, hsh s (cell_lt' hc)⟩
  · rintro _ w4 ⟨cells, H, rfl⟩
    obtain ⟨A, oo, ok, hd, arr, rfl, hrow, hAl, hAr, hAi, hans⟩ := H.all
    have hIf := H.I
    have hold := H.old
    have hsz := H.size
    have hT4 : w4.heap[w.heap.size]? = some (.cells #[.slice none 0 0, .slice none 0 0, .slice none 0 0, .bool false] 27) := (hold _ (by omega) (fun h => by rcases h with h | h <;> omega)).trans hT
    refine Runs.walk (hB A n oo _ ok _ _ w4 (by omega) q2 hIf hT4) ?_
    rintro _ w5 ⟨ta', tc', rfl, hst, hold5, hsz5⟩
    generalize playO (skLa (w.heap.size + 2) (w.heap.size + 1) (sizeN sz) tg) (sk0 (sizeN sz)) ops n most sl = F at *
    refine .now ⟨_, ⟨⟨some ⟨A, 0, none⟩, n, oo, ok, ta', tc', rfl, ?_, ?_, fun i hi => ?_⟩, fun b hb => ?_, by omega⟩, rfl⟩
    · refine numA_of (base := 0) (e := 3) (m := F.2.length) (tc := ok) ?_
      have : ((F.2.map fun i => ((i : Nat) : Int)).map (Value.int .i64)) = (F.2.map fun i => .int .i64 (i : Nat)) := by simp
      rw [this]
      refine row_same (row_raise hrow fun b hb => Nat.zero_le _) fun b hb => hold5 b (hrow.lt b hb).2 ?_
      have := (hrow.lt b hb).1; omega
    · exact numA_of (base := w4.heap.size) (e := 2) (m := (stateX (sizeN sz) F.1.s).length) (tc := tc') hst
    · obtain ⟨ta2, tc2, e, hr⟩ := hans i hi
      refine ⟨A, 0, ta2, tc2, rfl, ?_, ?_⟩
      · rw [Nat.zero_add]
        refine (cell_of ((hold5 A (Array.getElem?_eq_some_iff.1 hAr).1 (by omega)).trans hAr) i).trans ?_
        rw [hAi i hi, e]
      · rw [e] at hr
        refine ansA_of (base := w1.heap.size) (m := ((F.1.th i).ans).length) (tc := tc2) ?_ rfl
        refine row_same hr fun b hb => hold5 b (hr.lt b hb).2 ?_
        have := (hr.lt b hb).1; omega
    · exact (hold5 b (by omega) (by omega)).trans ((hold b (by omega) (hsh b hb)).trans (hO b hb))
end
end Go.Proofs.Ytdmpmoggacjgcaa
