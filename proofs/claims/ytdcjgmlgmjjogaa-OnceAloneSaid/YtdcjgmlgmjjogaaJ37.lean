/- Part 37. -/
import Derived.Test.YtdcjgmlgmjjogaaJ36
set_option linter.unusedSimpArgs false
set_option linter.unusedVariables false
set_option maxHeartbeats 8000000
set_option maxRecDepth 100000
namespace Go.Proofs.Ytdcjgmlgmjjogaa
open Go.Conc Go.RowKit Go.Relay
open Go.ConcN (upd upd_ne upd_same)
section
section
variable {main : Bool} {N : Nat} {kb0 : Nat} {ops : Nat → List OpV} {n : Nat} {W : World} {a2 cb cc : Nat} {ts : Nat → Nat} {oas : Nat → Option Addr} {ocs : Nat → Nat} {la : Option Addr} {lc : Nat} {most : Int} {sl : List Int}
theorem rq_begin (sv : Value) (mst : Int) (hn : n ≤ 64) (hol : ∀ i, i < n → (ops i).length ≤ 65536) (cs : List Frame) : ∀ (r k : Nat) (κ : Nat → Nat) (x : OX (onLa kb0 N)) (u : Nat → Value) (w : World), k + r = n → RQ N kb0 ops n W a2 cb cc ts oas ocs la lc κ k x w →
  Walk Try.prog main (DR (fun _ => none)) (fun g w' => (∃ u, g = G (hdY1 sv mst W.heap.size a2 n u) cs) ∧ ∃ κ', RQ N kb0 ops n W a2 cb cc ts oas ocs la lc κ' n (bornsA (absO (onLa kb0 N) n most ops) r k x) w') (G (hdY1 sv mst W.heap.size a2 k u) cs) w := by
 intro r
 induction r with
 | zero =>
  intro k κ x u w hk H
  obtain rfl : k = n := hk
  exact .stop fun d => ⟨⟨u, rfl⟩, κ, ⟨H.size, H.old, H.res, H.M.at d, H.L, fun i h1 h2 => TIs.same (H.T i h1 h2) fun _ _ _ => rfl, fun i h1 h2 => (H.Z i h1 h2).at d, H.out⟩⟩
 | succ r ih =>
  intro k κ x u w hk H
  have hkn : k < n := by omega
  obtain ⟨tl, rfl, _, hl⟩ := H.L k hkn
  have X0 := H.Z k hkn (Nat.le_refl _)
  have hb := mbg_w (main := main) (kb := kb0) (n := N) (m := a2) 0 (fun _ => 0) [] none 0 x.s w H.M (fun g h h2 => by have h : κ g = 1 := h; have h2 : κ g = 5 + k := h2; omega) (hol k hkn) (Nat.zero_le _) rfl X0
  refine (ply_one sv mst W.heap.size a2 k tl n lc (ts k) _ u cs w hkn hn H.M.c1 hl hb).then ?_
  rintro g w' ⟨⟨u', rfl⟩, w1, d, ⟨hT, hC⟩, rfl⟩
  refine Walk.back ?_ d
  rw [List.drop_zero] at hT
  have hC2 : Chg (fun g => κ g = 1 ∨ κ g = 5 + k) w w1 := hC.mono fun g _ h => .inr h
  have hM1 := H.M.chg hC fun g _ h h2 => by have h : κ g = 1 := h; have h2 : κ g = 5 + k := h2; omega
  have key : RQ N kb0 ops n W a2 cb cc ts oas ocs (some ⟨tl, 0, none⟩) lc (ext κ w.heap.size (5 + k)) (k + 1) (bornO ops x k) w1 := by
   refine H.next (i := k) (.inr rfl) hC2 ?_ (fun j h1 h2 => by omega) (fun j _ h => by omega) (fun j hj => ⟨upd_ne _ _ hj, upd_ne _ _ hj⟩) (fun _ _ => ⟨rfl, ?_⟩) (fun _ => ?_) (.inl hkn)
   ·show OmX (fun g => κ g = 1) a2 cb N cc (.slice (some ⟨tl, 0, none⟩) n lc) (settleO (onLa kb0 N) x.s (ops k) []).1 w1
    exact (congrArg (fun s : Oz => OmX (fun g => κ g = 1) a2 cb N cc (.slice (some ⟨tl, 0, none⟩) n lc) s w1) (settle_same (kb := kb0) (n := N) x.s (ops k) [])).mpr hM1
   ·show TisR (onLa kb0 N) id _ N (ts k) (ops k) (oas k) (ocs k) (upd x.th k (settleO (onLa kb0 N) x.s (ops k) []).2 k) w1
    rw [upd_same]
    exact hT
   ·unfold bornO putO
    simp only [upd_same]
    cases (settleO (onLa kb0 N) x.s (ops k) []).2.d <;> rfl
  exact ih (k + 1) _ _ u' w1 (by omega) key
def RPlay (N : Nat) (n : Nat) (W : World) (L : La) (stx : L.Sg → List Int) (F : OX L × List Nat) (v : Value) (w' : World) : Prop := ∃ cells, v = .agg cells ∧ TrA cells n (fun i => (F.1.th i).ans) F.2 (stx F.1.s) (stuckO n F.1) w' ∧ Chg (fun _ => False) W w' ∧ F.2.length ≤ 1048576 ∧ ∀ i, i < n → (F.1.th i).ans.length ≤ 65536
theorem rq_last (hm0 : 0 ≤ most) (hm1 : most ≤ 1048576) (hn : n ≤ 64) (hN : N ≤ 64) (hol : ∀ i, i < n → (ops i).length ≤ 65536) (hsl : sl.length ≤ 17592186044416) (F : OX (onLa kb0 N) × List Nat) (c : Frame) (cs : List Frame) (κ : Nat → Nat) (x : OX (onLa kb0 N)) (ord : List Nat) (p rd : Nat) (oa : Option Addr) (oc B : Nat) (lo : Option Addr) (lco : Nat) (u : Nat → Value) (w : World)
  (H : RQ N kb0 ops n W a2 cb cc ts oas ocs la lc κ n x w) (U : TuX (fun g => κ g = 2) B lo lco sl most p rd oa oc ord false w) (A : Ahead (absO (onLa kb0 N) n most ops) F sl p rd (x, ord)) (hrd : rd < n ∨ n = 0) (he : EndAt (fun g => κ g = 2) la n (fun i => (x.out i).isSome) w) (hov : overA (absO (onLa kb0 N) n most ops) (x, ord) = true) :
  Walk Try.prog main (DR (fun _ => none)) (fun g w' => ∃ v, RPlay N n W (onLa kb0 N) (fun s => ozState s N) F v w' ∧ g = G (c.finish v) cs) (G (hdY2 W.heap.size a2 B u) (c :: cs)) w := by
 have hF := A.done hov
 have hshort := A.short
 have hx : ∀ i, ∃ v : Value, i < n → ∃ aa ac, v = .slice aa ((x.th i).ans).length ac ∧ w.cell? ⟨ts i, 12, none⟩ = some v ∧ κ (ts i) = 5 + i ∧ w.ownsRow 0 51 3 v ((x.th i).ans).length (ansRow (x.th i).ans) ∧ (∀ g, v.ownBlock = some g → κ g = 5 + i) ∧ ((x.th i).ans).length ≤ 65536 := fun i => by
  by_cases hi : i < n
  ·obtain ⟨k, PC, Nn, aa, ac, X, h1, h2⟩ := H.T i hi hi
   have hkl : k ≤ 65536 := by
    have := hol i hi
    rcases h2 with ⟨_, h, _⟩ | ⟨_, o, _, h, _⟩
    ·omega
    ·have := (List.getElem?_eq_some_iff.1 h).1; omega
   exact ⟨.slice aa ((x.th i).ans).length ac, fun _ => ⟨aa, ac, rfl, tcA X.blk, X.sb, X.rA, fun g hg => (X.sa g hg).1, by omega⟩⟩
  ·exact ⟨undef, fun h => absurd h hi⟩
 have hpick := pick_w (main := main) (tc := lc) (f := fun i => (x.out i).isSome) (fun i _ => rfl) hn hm1 hsl w U he A hrd
 refine (ply_last a2 cb N cc x.s n lc la (fun i => (hx i).choose) B (fun w' => TuX (fun g => κ g = 2) B lo lco sl most p rd oa oc ord (decide (0 < goingA (absO (onLa kb0 N) n most ops) x)) w' ∧ Chg (fun g => κ g = 2) w w') W.heap.size u c cs w hn hN (fun e => by have h1 : κ a2 = 1 := H.M.sm; have h2 := H.res.1; rw [e] at h1; omega) H.M.c1 (fun c' cs' => (hpick c' cs').mono fun g w' ⟨v, hP, hg⟩ => ?_) fun w1 hY => ?_).mono ?_
 ·rcases hP with ⟨h1, _, h2, h3⟩ | ⟨h, _⟩
  ·exact ⟨v, ⟨h1, h2, h3⟩, hg⟩
  ·rw [hov] at h; cases h
 ·obtain ⟨U1, hC1⟩ := hY
  have hs1 := hC1.size
  have hsz := H.size
  refine ⟨lo, lco, sl, most, p, rd, oa, oc, ord, _, ⟨?_, U1.mono' fun g hg _ => hg, fun i hi => ?_, ?_, by omega⟩⟩
  ·exact (H.M.chg hC1 fun g _ h h2 => by have h : κ g = 1 := h; have h2 : κ g = 2 := h2; omega).mono' fun g hg _ => hg
  ·obtain ⟨tl, e, h1, h2⟩ := H.L i hi
   obtain ⟨aa, ac, e1, e2, e3, _⟩ := (hx i).choose_spec hi
   have k1 : w1.cell? ⟨tl, i, none⟩ = some (.pointer (some ⟨ts i, 0, none⟩)) := (World.cell?_of_block (a := ⟨tl, i, none⟩) (hC1.same tl (cell_lt' h2) (by omega))).trans h2
   have k2 : w1.cell? ⟨ts i, 12, none⟩ = some (hx i).choose := (World.cell?_of_block (a := ⟨ts i, 12, none⟩) (hC1.same (ts i) (cell_lt' e2) (by omega))).trans e2
   refine ⟨tl, ts i, aa, _, ac, e, by rw [Nat.zero_add]; exact k1, ?_, e1⟩
   rw [k2, e1]
  ·have := H.res.1
   exact (hC1.same _ (by omega) (by omega)).trans H.res.2
 ·rintro g w' ⟨v, w1, lo', lco', sl', most', p', rd', oa', oc', ord', st', ⟨U1, hC1⟩, E, hO, rfl⟩
  have hs1 := hC1.size
  have hsz := H.size
  have hor : oa' = oa ∧ oc' = oc ∧ ord'.length = ord.length ∧ st' = decide (0 < goingA (absO (onLa kb0 N) n most ops) x) := by
   have e := E.U.blk.symm.trans U1.blk
   simp only [Option.some.injEq, Obj.cells.injEq, tuA] at e
   have e := e.1
   simp only [Array.mk.injEq, List.cons.injEq, Value.slice.injEq, Value.bool.injEq] at e
   exact ⟨e.2.2.2.2.1.1, e.2.2.2.2.1.2.2, e.2.2.2.2.1.2.1, e.2.2.2.2.2.1⟩
  obtain ⟨rfl, rfl, hol', rfl⟩ := hor
  obtain ⟨ha, hc, sa, sc, rfl, r1, r2, hC2⟩ := hO
  have hs2 := hC2.size
  have hR3 := H.res.1
  subst hF
  refine ⟨_, ⟨_, rfl, ⟨⟨ha, hc, oa', oc', sa, sc, by rw [hol']; rfl, ?_, ?_, fun i hi => ?_⟩⟩, ⟨by omega, fun b hb _ => ?_⟩, by have h : (ord.length : Int) ≤ most := hshort; show ord.length ≤ 1048576; omega, fun i hi => ?_⟩, rfl⟩
  ·refine numA_of (base := 0) (e := 3) (m := ord.length) (tc := oc') ?_
   have : ((ord.map fun i => ((i : Nat) : Int)).map (Value.int .i64)) = ordRow ord := by simp [ordRow]
   rw [this]
   refine row_same U1.row fun g hg => hC2.same g (U1.row.lt g hg).2 fun e => ?_
   have h2 : κ g = 2 := (U1.so g hg).1
   rw [e, hR3] at h2
   cases h2
  ·exact numA_of (base := w1.heap.size) (e := 2) (m := (ozState x.s N).length) (tc := sc) r2
  ·obtain ⟨aa, ac, e1, e2, e3, e4, e5, _⟩ := (hx i).choose_spec hi
   obtain ⟨g, eg, hg, _, hcell⟩ := row_at r1 (j := i) (x := (hx i).choose) (by simp [hdRow, hi])
   refine ⟨g, 0, aa, ac, eg, by rw [Nat.zero_add, hcell, e1], ?_⟩
   rw [e1] at e4 e5
   refine ansA_of (base := 0) (m := ((x.th i).ans).length) (tc := ac) ?_ rfl
   refine row_same e4 fun g hg => ?_
   have h5 := e5 g hg
   have hgl := (e4.lt g hg).2
   exact (hC2.same g (by omega) fun e => by rw [e, hR3] at h5; omega).trans (hC1.same g hgl (by omega))
  ·have h0 := H.old b hb
   exact (hC2.same b (by omega) (by omega)).trans ((hC1.same b (by omega) (by omega)).trans h0.2)
  ·obtain ⟨_, _, _, _, _, _, _, h⟩ := (hx i).choose_spec hi
   exact h
end
end
section
section
variable {main : Bool} {N : Nat} {kb0 : Nat} {ops : Nat → List OpV} {n : Nat} {W : World} {a2 cb cc : Nat} {ts : Nat → Nat} {oas : Nat → Option Addr} {ocs : Nat → Nat} {la : Option Addr} {lc : Nat} {most : Int} {sl : List Int}
theorem RQ.ends {κ : Nat → Nat} {x : OX (onLa kb0 N)} {w : World} (H : RQ N kb0 ops n W a2 cb cc ts oas ocs la lc κ n x w) : EndAt (fun g => κ g = 2) la n (fun i => (x.out i).isSome) w := fun i hi => by
 obtain ⟨tl, e, h1, h2⟩ := H.L i hi
 obtain ⟨k, PC, Nn, aa, ac, X, _⟩ := H.T i hi hi
 have hb : κ (ts i) = 5 + i := X.sb
 refine ⟨tl, 0, ts i, e, by rw [Nat.zero_add]; exact h2, ?_, fun h => by have h : κ tl = 2 := h; omega, fun h => by have h : κ (ts i) = 2 := h; omega⟩
 show w.cell? ⟨ts i, 13, none⟩ = some (.bool ((x.out i).isSome))
 rw [H.out i hi]
 exact tcE X.blk
theorem rq_run (hm0 : 0 ≤ most) (hm1 : most ≤ 1048576) (hn : n ≤ 64) (hN : N ≤ 64) (hol : ∀ i, i < n → (ops i).length ≤ 65536) (hsl : sl.length ≤ 17592186044416) (F : OX (onLa kb0 N) × List Nat) (c : Frame) (cs : List Frame) (B : Nat) (lo : Option Addr) (lco : Nat) : ∀ (f : Nat) (κ : Nat → Nat) (x : OX (onLa kb0 N)) (ord : List Nat) (p rd : Nat) (oa : Option Addr) (oc : Nat) (u : Nat → Value) (w : World),
  most ≤ (ord.length + f : Nat) → RQ N kb0 ops n W a2 cb cc ts oas ocs la lc κ n x w → TuX (fun g => κ g = 2) B lo lco sl most p rd oa oc ord false w → Ahead (absO (onLa kb0 N) n most ops) F sl p rd (x, ord) → (rd < n ∨ n = 0) →
  Walk Try.prog main (DR (fun _ => none)) (fun g w' => ∃ v, RPlay N n W (onLa kb0 N) (fun s => ozState s N) F v w' ∧ g = G (c.finish v) cs) (G (hdY2 W.heap.size a2 B u) (c :: cs)) w := by
 intro f
 induction f with
 | zero =>
  intro κ x ord p rd oa oc u w hf H U A hrd
  refine rq_last hm0 hm1 hn hN hol hsl F c cs κ x ord p rd oa oc B lo lco u w H U A hrd H.ends ?_
  unfold overA
  have : decide ((absO (onLa kb0 N) n most ops).most ≤ ((x, ord).2.length : Int)) = true := decide_eq_true (by show most ≤ (ord.length : Int); omega)
  rw [this, Bool.or_true]
 | succ f ih =>
  intro κ x ord p rd oa oc u w hf H U A hrd
  cases hov : overA (absO (onLa kb0 N) n most ops) (x, ord) with
  | true => exact rq_last hm0 hm1 hn hN hol hsl F c cs κ x ord p rd oa oc B lo lco u w H U A hrd H.ends hov
  | false =>
   have hpick := pick_w (main := main) (tc := lc) (f := fun i => (x.out i).isSome) (fun i _ => rfl) hn hm1 hsl w U H.ends A hrd
   have key : ∀ (i : Nat) (w1 : World), (∃ p' rd', i < n ∧ x.out i = none ∧ Ahead (absO (onLa kb0 N) n most ops) F sl p' rd' (nextO x i, ord ++ [i]) ∧ rd' < n ∧ PickOut (fun g => κ g = 2) B lo lco sl most p' rd' ord i w w1) →
     RQ N kb0 ops n W a2 cb cc ts oas ocs la lc (ext κ w.heap.size 2) n x w1 := by
    rintro i w1 ⟨p', rd', h1, h2, h3, h4, oa', oc', U1, hC1⟩
    have hM1 := H.M.chg hC1 fun g _ h h2 => by have h : κ g = 1 := h; have h2 : κ g = 2 := h2; omega
    exact H.next (i := n) (.inl rfl) (hC1.mono fun g _ h => .inr h) hM1 (fun j h _ => h) (fun j h h2 => absurd h (by omega)) (fun j _ => ⟨rfl, rfl⟩) (fun h _ => absurd h (Nat.lt_irrefl _)) (fun h => absurd h (Nat.lt_irrefl _)) (.inr rfl)
   refine (ply_go W.heap.size a2 B n lc la (fun i w1 => ∃ p' rd', i < n ∧ x.out i = none ∧ Ahead (absO (onLa kb0 N) n most ops) F sl p' rd' (nextO x i, ord ++ [i]) ∧ rd' < n ∧ PickOut (fun g => κ g = 2) B lo lco sl most p' rd' ord i w w1)
    (fun i w1 w2 => OmX (fun g => ext κ w.heap.size 2 g = 1) a2 cb N cc (.slice la n lc) (Oz.mk (nextO x i).s.st (nextO x i).s.vl (nextO x i).s.ct) w2 ∧ TisR (onLa kb0 N) id (fun g => ext κ w.heap.size 2 g = 5 + i ∨ w1.heap.size ≤ g) N (ts i) (ops i) (oas i) (ocs i) ((nextO x i).th i) w2 ∧ Chg (fun g => ext κ w.heap.size 2 g = 1 ∨ ext κ w.heap.size 2 g = 5 + i) w1 w2 ∧ ((nextO x i).out i).isSome = ((nextO x i).th i).d.isNone ∧ ∀ j, j ≠ i → (nextO x i).th j = x.th j ∧ (nextO x i).out j = x.out j) u (c :: cs) w hn H.M.c1 (fun c' cs' => (hpick c' cs').mono fun g w' ⟨v, hP, hg⟩ => ?_) fun i w1 hY => ?_).then ?_
   ·rcases hP with ⟨_, h, _⟩ | ⟨_, i, p', rd', h1, h2, rfl, h3, h4, h5⟩
    ·rw [hov] at h; cases h
    ·exact ⟨_, ⟨i, rfl, p', rd', h1, h2, h3, h4, h5⟩, hg⟩
   ·have H1 := key i w1 hY
    obtain ⟨p', rd', h1, h2, h3, h4, h5⟩ := hY
    obtain ⟨tl, e, _, k2⟩ := H1.L i h1
    refine ⟨h1, H1.M.c1, tl, ts i, e, k2, ?_⟩
    obtain ⟨k, PC, Nn, aa, ac, X, hk, hd⟩ := H1.T i h1 h1
    have hout := H1.out i h1
    rw [h2] at hout
    have hsome : ∃ d, (x.th i).d = some d := by
     cases hdd : (x.th i).d with
     | none => rw [hdd] at hout; cases hout
     | some d => exact ⟨d, rfl⟩
    obtain ⟨d, hdd⟩ := hsome
    rw [hdd] at hd
    rcases hd with ⟨hd, _⟩ | ⟨d', o, hd, ho, hleft, hdr, _⟩
    ·cases hd
    have hd : some d = some d' := hd
    cases hd
    have hst := step_w (main := main) (kb := kb0) d w1 X H1.M (fun g h h' => by have h : ext κ w.heap.size 2 g = 1 := h; have h' : ext κ w.heap.size 2 g = 5 + i := h'; omega) hdr ho (hol i h1) hk hN
    have hn' : nextO x i = putO x i (landO (onLa kb0 N) (onAct x.s d) (x.th i).left (x.th i).ans) (x.cnt + 1) := by
     unfold nextO
     rw [hdd]
     rfl
    intro c' cs'
    refine (hst c' cs').mono ?_
    rintro g w' ⟨v, ⟨rfl, hS⟩, rfl⟩
    rw [hn']
    unfold StepR at hS
    rw [← hleft] at hS
    obtain ⟨s1, s2, s3⟩ := hS
    refine ⟨_, ⟨rfl, s1, ?_, s3, ?_, fun j hj => ⟨upd_ne _ _ hj, upd_ne _ _ hj⟩⟩, rfl⟩
    ·show TisR (onLa kb0 N) id _ N (ts i) (ops i) (oas i) (ocs i) (upd x.th i (landO (onLa kb0 N) (onAct x.s d) (x.th i).left (x.th i).ans).2 i) w'
     rw [upd_same]
     exact s2
    ·unfold putO
     simp only [upd_same]
     cases (landO (onLa kb0 N) (onAct x.s d) (x.th i).left (x.th i).ans).2.d <;> rfl
   ·rintro g w' ⟨⟨u', rfl⟩, i, w1, w2, d, hY, ⟨z1, z2, z3, z4, z5⟩, rfl⟩
    refine Walk.back ?_ d
    have H1 := key i w1 hY
    obtain ⟨p', rd', h1, h2, h3, h4, oa', oc', U1, hC1⟩ := hY
    have hs1 := hC1.size
    have U2 : TuX (fun g => ext κ w.heap.size 2 g = 2) B lo lco sl most p' rd' oa' oc' (ord ++ [i]) false w1 := U1.mono fun g hg => by
     rcases hg with hg | hg
     ·by_cases h : w.heap.size ≤ g
      ·exact ext_ge h
      ·rw [ext_lt (by omega)]; exact hg
     ·exact ext_ge hg
    have H2 := H1.next (i := i) (c := 5 + i) (k' := n) (x' := nextO x i) (.inr rfl) z3 z1 (fun j h _ => h) (fun j h h2 => absurd h (by omega)) z5 (fun _ _ => ⟨rfl, z2⟩) (fun _ => z4) (.inl h1)
    have U3 := U2.ext z3 (by omega)
    exact ih _ (nextO x i) (ord ++ [i]) p' rd' oa' oc' u' w2 (by simp; omega) H2 U3 h3 (.inl h4)
theorem rplay_w (sz : Int) (kb0 : Nat) (tb toff n0 tc n : Nat) (ta : Option Addr) (oa : Nat → Option Addr) (ln oc : Nat → Nat) (ops : Nat → List OpV) (sa : Option Addr) (sc : Nat) (sl : List Int) (most : Int) (W : World) (I : OpsIn tb toff n oa ln oc ops W) (hn : n = min n0 64) (ht : 0 < n → ta = some ⟨tb, toff, none⟩)
  (hI : ∀ w, (∀ b, b < W.heap.size → w.heap[b]? = W.heap[b]?) → OpsIn tb toff n oa ln oc ops w) (hsl : sl.length ≤ 17592186044416) (hnil : sa = none → sl = [] ∧ sc = 0) (hs : ∀ (j : Nat) (z : Int), sl[j]? = some z → ∃ s so, sa = some ⟨s, so, none⟩ ∧ W.cell? ⟨s, so + j, none⟩ = some (.int .i64 z)) :
  CallW Try.prog main (fun _ => none) 12 #[.int .i64 sz, .slice ta n0 tc, .slice sa sl.length sc, .int .i64 most] W (fun v w' => RPlay (cellsN sz) n W (onLa kb0 (cellsN sz)) (fun s => ozState s (cellsN sz)) (playO (onLa kb0 (cellsN sz)) oz0 ops n most sl) v w') := by
 intro c cs
 have hN := (cellsN_le sz).2.1
 have hol : ∀ i, i < n → (ops i).length ≤ 65536 := fun i hi => by have := I.len i hi; omega
 refine (ply_in sz tb toff n0 tc n ta oa ln oc ops (.slice sa sl.length sc) most (c :: cs) W hn ht hI).then ?_
 rintro g w1 ⟨a2, cb, cc, pr, ts, oas, ocs, la, lc, ⟨u, rfl⟩, hP⟩
 obtain ⟨κ, H0⟩ := RQ.init (kb0 := kb0) sz rfl hP
 refine (rq_begin (most := min (max most 0) 1048576) (.slice sa sl.length sc) most (by omega) hol (c :: cs) n 0 κ _ u w1 (by omega) H0).then ?_
 rintro g w2 ⟨⟨u2, rfl⟩, κ2, H2⟩
 have hcell : ∀ (j : Nat) (z : Int), sl[j]? = some z → ∃ s so, sa = some ⟨s, so, none⟩ ∧ w2.cell? ⟨s, so + j, none⟩ = some (.int .i64 z) := fun j z hz => by
  obtain ⟨s, so, e, h⟩ := hs j z hz
  exact ⟨s, so, e, (World.cell?_of_block (a := ⟨s, so + j, none⟩) (H2.old s (cell_lt' h)).2).trans h⟩
 have htu := newTurn_w (main := main) sa sc sl most w2 hsl hnil hcell
 refine (ply_turn sa sl.length sc most W.heap.size a2 n lc la (fun w b w' => ∃ lo lco, TuX (fun g => w.heap.size ≤ g) b lo lco sl (min (max most 0) 1048576) 0 0 none 0 [] false w' ∧ Chg (fun _ => False) w w') u2 (c :: cs) w2 H2.M.c1 (fun c' cs' => (htu c' cs').mono fun g w' ⟨v, ⟨B, lo, lco, h1, h2, h3⟩, hg⟩ => ⟨v, ⟨B, h1, lo, lco, h2, h3⟩, hg⟩)).then ?_
 rintro g w' ⟨B, w3, d, ⟨u3, rfl⟩, ⟨lo, lco, U, hC⟩, rfl⟩
 refine Walk.back ?_ d
 have H3 := H2.next (i := n) (c := 2) (k' := n) (x' := bornsA (absO (onLa kb0 (cellsN sz)) n (min (max most 0) 1048576) ops) n 0 (x0O (onLa kb0 (cellsN sz)) oz0)) (.inl rfl) (hC.mono fun g _ h => h.elim) (H2.M.chg hC fun _ _ _ h => h) (fun j h _ => h) (fun j h h2 => absurd h (by omega)) (fun j _ => ⟨rfl, rfl⟩) (fun h _ => absurd h (Nat.lt_irrefl _)) (fun h => absurd h (Nat.lt_irrefl _)) (.inr rfl)
 have U3 : TuX (fun g => ext κ2 w2.heap.size 2 g = 2) B lo lco sl (min (max most 0) 1048576) 0 0 none 0 [] false w3 := U.mono fun g hg => ext_ge hg
 have hA := ahead_start (A := absO (onLa kb0 (cellsN sz)) n (min (max most 0) 1048576) ops) (sl := sl) (by show 0 ≤ min (max most 0) 1048576; omega) (bornsA (absO (onLa kb0 (cellsN sz)) n (min (max most 0) 1048576) ops) n 0 (x0O (onLa kb0 (cellsN sz)) oz0))
 exact rq_run (most := min (max most 0) 1048576) (by omega) (by omega) (by omega) hN hol hsl _ c cs B lo lco 1048576 _ _ [] 0 0 none 0 u3 w3 (by simp; omega) H3 U3 hA (by omega)
end
end
section
def seOps : Nat → List OpV := fun i => ([[⟨2, 0, 7, 0⟩], [⟨2, 0, 9, 0⟩]] : List (List OpV)).getD i []
def seSl : List Int := [0, 1, 1, 0, 0]
def sePlay (cb : Nat) : OX (onLa cb 1) × List Nat := playO (onLa cb 1) oz0 seOps 2 100 seSl
theorem se_run (cb : Nat) : (ozState (sePlay cb).1.s 1, stuckO 2 (sePlay cb).1, ((sePlay cb).1.th 0).ans, ((sePlay cb).1.th 1).ans, (sePlay cb).2.length) = ([2, 7, 0], false, [(true, 7)], [(false, 0)], 5) := by kernel_rfl
theorem cellsN1 : cellsN 1 = 1 := by decide
def seA : Array Value := #[.int .i64 2, .int .i64 0, .int .i64 7, .int .i64 0]
def seB : Array Value := #[.int .i64 2, .int .i64 0, .int .i64 9, .int .i64 0]
def seH (T : Nat) : Array Value := #[.slice (some ⟨T, 0, none⟩) 1 1, .slice (some ⟨T + 1, 0, none⟩) 1 1]
def seS : Array Value := #[.int .i64 0, .int .i64 1, .int .i64 1, .int .i64 0, .int .i64 0]
def seOa (T : Nat) (i : Nat) : Option Addr := some ⟨T + i, 0, none⟩
theorem se_ops {T : Nat} {w : World} (h1 : w.heap[T]? = some (.cells seA 34)) (h2 : w.heap[T + 1]? = some (.cells seB 34)) (h4 : w.heap[T + 2]? = some (.cells (seH T) 32)) : OpsIn (T + 2) 0 2 (seOa T) (fun _ => 1) (fun _ => 1) seOps w := by
 refine ⟨fun i hi => ?_, fun i hi => Nat.le_refl _, fun i hi => .inr ⟨_, rfl⟩, fun i hi => ?_, fun i hi j o ho => ?_⟩
 ·rw [Nat.zero_add]
  refine (cell_of h4 i).trans ?_
  match i, hi with
  | 0, _ => rfl
  | 1, _ => rfl
 ·match i, hi with
  | 0, _ => rfl
  | 1, _ => rfl
 ·refine ⟨T + i, 0, rfl, ?_⟩
  simp only [Nat.zero_add]
  match i, hi, ho with
  | 0, _, ho =>
   match j, ho with
   | 0, ho => cases ho; exact ⟨(cell_of h1 _).trans rfl, (cell_of h1 _).trans rfl, (cell_of h1 _).trans rfl, (cell_of h1 _).trans rfl⟩
   | j + 1, ho => exact absurd ho (by simp [seOps])
  | 1, _, ho =>
   match j, ho with
   | 0, ho => cases ho; exact ⟨(cell_of h2 _).trans rfl, (cell_of h2 _).trans rfl, (cell_of h2 _).trans rfl, (cell_of h2 _).trans rfl⟩
   | j + 1, ho => exact absurd ho (by simp [seOps])
noncomputable def reg13_0 := rg Try.f13.body [0]
noncomputable def reg13_1 := rg Try.f13.body [1, 0]
theorem z13 : List.range reg13_0.size = [0] ∧ List.range reg13_1.size = [0, 1, 2] := by refine ⟨?_, ?_⟩ <;> kernel_rfl
theorem code13_is : Try.f13.body = some (.seq (.region 0 reg13_0 false) (.seq (.region 1 reg13_1 false) (.ret))) := by kernel_rfl
noncomputable def reg25_0 := rg Try.f25.body [0]
noncomputable def reg25_1 := rg Try.f25.body [1, 0]
theorem z25 : List.range reg25_0.size = [0] ∧ List.range reg25_1.size = [0, 1, 2] := by refine ⟨?_, ?_⟩ <;> kernel_rfl
theorem code25_is : Try.f25.body = some (.seq (.region 0 reg25_0 false) (.seq (.region 1 reg25_1 false) (.ret))) := by kernel_rfl
noncomputable def reg26_0 := rg Try.f26.body [0]
noncomputable def reg26_1 := rg Try.f26.body [1, 0]
theorem z26 : List.range reg26_0.size = [0] ∧ List.range reg26_1.size = [0, 1, 2, 3] := by refine ⟨?_, ?_⟩ <;> kernel_rfl
theorem code26_is : Try.f26.body = some (.seq (.region 0 reg26_0 false) (.seq (.region 1 reg26_1 false) (.ret))) := by kernel_rfl
section
variable {main : Bool} {V : Nat → Option Wait}
def NewOut (w : World) (v : Value) (w' : World) : Prop := v = .pointer (some ⟨w.heap.size, 0, none⟩) ∧ (∀ b, b < w.heap.size → w'.heap[b]? = w.heap[b]?) ∧ w.heap.size ≤ w'.heap.size
theorem once_new (w : World) : CallW Try.prog main V 13 #[] w (NewOut w) := by
 intro c cs
 rw [enter_at _ Try.func13 code13_is]
 simp only [Try.ntmps13, ez, Nat.reduceAdd, Nat.reduceSub]
 repeat (first | refine Walk.cx ?_ | (refine Walk.cReg ?_; simp only [z13]) | (refine Walk.oq ?_; try walk_nrm) | (refine Walk.un ?_; walk_nrm))
 (refine Walk.oa ?_; try walk_nrm)
 repeat (first | refine Walk.cx ?_ | (refine Walk.cReg ?_; simp only [z13]) | (refine Walk.oq ?_; try walk_nrm) | (refine Walk.un ?_; walk_nrm))
 refine Walk.on1 rfl rfl Try.func13 rfl (.stop fun d => ⟨_, ⟨rfl, fun b hb => heap_new_lt _ _ hb, ?_⟩, rfl⟩)
 simp [World.at]
theorem once_box (w : World) : CallW Try.prog main V 25 #[] w (NewOut w) := by
 intro c cs
 rw [enter_at _ Try.func25 code25_is]
 simp only [Try.ntmps25, ez, Nat.reduceAdd, Nat.reduceSub]
 repeat (first | refine Walk.cx ?_ | (refine Walk.cReg ?_; simp only [z25]) | (refine Walk.oq ?_; try walk_nrm) | (refine Walk.un ?_; walk_nrm))
 (refine Walk.oa ?_; try walk_nrm)
 repeat (first | refine Walk.cx ?_ | (refine Walk.cReg ?_; simp only [z25]) | (refine Walk.oq ?_; try walk_nrm) | (refine Walk.un ?_; walk_nrm))
 refine Walk.on1 rfl rfl Try.func25 rfl (.stop fun d => ⟨_, ⟨rfl, fun b hb => heap_new_lt _ _ hb, ?_⟩, rfl⟩)
 simp [World.at]
theorem once_lazy (w : World) : CallW Try.prog main V 26 #[.nilFunc] w (NewOut w) := by
 intro c cs
 rw [enter_at _ Try.func26 code26_is]
 simp only [Try.ntmps26, ez, Nat.reduceAdd, Nat.reduceSub]
 repeat (first | refine Walk.cx ?_ | (refine Walk.cReg ?_; simp only [z26]) | (refine Walk.oq ?_; try walk_nrm) | (refine Walk.un ?_; walk_nrm))
 (refine Walk.oa ?_; try walk_nrm)
 repeat (first | refine Walk.cx ?_ | (refine Walk.cReg ?_; simp only [z26]) | (refine Walk.oq ?_; try walk_nrm) | (refine Walk.un ?_; walk_nrm))
 refine Walk.on1 rfl rfl Try.func26 rfl (.stop fun d => ⟨_, ⟨rfl, fun b hb => heap_new_lt _ _ hb, ?_⟩, rfl⟩)
 simp [World.at]
end
end
theorem undBoxI : Try.prog.underlying 85 = some (.pointer 138) := by kernel_rfl
theorem undLazyI : Try.prog.underlying 87 = some (.pointer 151) := by kernel_rfl
structure SeCells (X : Nat) (aa oa sa : Option Addr) (ac oc sc : Nat) (b o b0 o0 b1 o1 sb so : Nat) (tc0 tc1 : Nat) (w : World) : Prop where
 x : w.heap[X]? = some (.cells (trC (.slice (some ⟨b, o, none⟩) 2 ac) (.slice oa 5 oc) (.slice (some ⟨sb, so, none⟩) 3 sc) false) 29)
 a0 : w.cell? ⟨b, o, none⟩ = some (.slice (some ⟨b0, o0, none⟩) 1 tc0)
 a1 : w.cell? ⟨b, o + 1, none⟩ = some (.slice (some ⟨b1, o1, none⟩) 1 tc1)
 k0 : w.cell? ⟨b0, o0, none⟩ = some (.bool true)
 v0 : w.cell? ⟨b0, o0 + 1, none⟩ = some (.int .i64 7)
 k1 : w.cell? ⟨b1, o1, none⟩ = some (.bool false)
 v1 : w.cell? ⟨b1, o1 + 1, none⟩ = some (.int .i64 0)
 s0 : w.cell? ⟨sb, so, none⟩ = some (.int .i64 2)
 s1 : w.cell? ⟨sb, so + 1, none⟩ = some (.int .i64 7)
theorem SeCells.old {X : Nat} {aa oa sa : Option Addr} {ac oc sc : Nat} {b o b0 o0 b1 o1 sb so : Nat} {tc0 tc1 : Nat} {w w' : World} (H : SeCells X aa oa sa ac oc sc b o b0 o0 b1 o1 sb so tc0 tc1 w) (h : ∀ b, b < w.heap.size → w'.heap[b]? = w.heap[b]?) : SeCells X aa oa sa ac oc sc b o b0 o0 b1 o1 sb so tc0 tc1 w' := by
 have hc : ∀ {b j : Nat} {v : Value}, w.cell? ⟨b, j, none⟩ = some v → w'.cell? ⟨b, j, none⟩ = some v := fun {b j v} e => (World.cell?_of_block (a := ⟨b, j, none⟩) (h b (cell_lt' e))).trans e
 exact ⟨(h X (Array.getElem?_eq_some_iff.1 H.x).1).trans H.x, hc H.a0, hc H.a1, hc H.k0, hc H.v0, hc H.k1, hc H.v1, hc H.s0, hc H.s1⟩
noncomputable def reg9_0 := rg Try.f9.body [0]
noncomputable def reg9_1 := rg Try.f9.body [1, 0]
noncomputable def reg9_2 := rg Try.f9.body [1, 1, 0, 0]
noncomputable def reg9_3 := rg Try.f9.body [1, 1, 0, 1, 0, 0]
noncomputable def reg9_4 := rg Try.f9.body [1, 1, 1, 0]
theorem z9 : List.range reg9_0.size = [0] ∧ List.range reg9_1.size = [0, 1, 2, 3, 4, 5, 6, 7, 8] ∧ List.range reg9_2.size = [0, 1, 2, 3, 4, 5, 6, 7, 8, 9, 10, 11, 12, 13, 14, 15, 16, 17, 18, 19, 20, 21, 22, 23, 24, 25, 26, 27, 28, 29, 30, 31, 32, 33, 34, 35, 36, 37, 38, 39, 40, 41, 42, 43] ∧ List.range reg9_3.size = [0] ∧ List.range reg9_4.size = [0, 1, 2, 3, 4, 5, 6, 7, 8, 9, 10, 11, 12, 13, 14, 15, 16, 17, 18, 19, 20, 21, 22, 23, 24, 25, 26, 27, 28, 29, 30, 31, 32, 33, 34, 35, 36, 37, 38, 39, 40, 41, 42, 43, 44, 45, 46, 47, 48, 49, 50, 51, 52, 53, 54, 55, 56] := by refine ⟨?_, ?_, ?_, ?_, ?_⟩ <;> kernel_rfl
theorem code9_is : Try.f9.body = some (.seq (.region 0 reg9_0 false) (.seq (.region 1 reg9_1 false) (.seq (.seq (.region 2 reg9_2 false) (.cond (.tmp 52 ) (.seq (.region 3 reg9_3 false) (.ret)) (.skip))) (.seq (.region 4 reg9_4 false) (.ret))))) := by kernel_rfl
def SeBack (fr c : Frame) (cs : List Frame) : Prop := ∀ (cells : Array Value) (F : Nat → List Ans) (ord : List Nat) (w : World), TrA cells 2 F ord [2, 7, 0] false w → F 0 = [(true, 7)] → F 1 = [(false, 0)] → ord.length = 5 →
 Walk Try.prog true (DR (fun _ => none)) (fun g w' => g = G (c.finish (.bool true)) cs ∧ (∀ b, b < w.heap.size → w'.heap[b]? = w.heap[b]?) ∧ w.heap.size ≤ w'.heap.size) (G (fr.finish (.agg cells)) (c :: cs)) w
theorem sets_in (c : Frame) (cs : List Frame) (w : World) :
  Walk Try.prog true (DR (fun _ => none)) (fun g w' => ∃ fr, g = G (Frame.enter Try.prog 11 #[.int .i64 1, .slice (some ⟨w.heap.size + 2, 0, none⟩) 2 2, .slice (some ⟨w.heap.size + 3, 0, none⟩) seSl.length 5, .int .i64 100] .normal) (fr :: c :: cs) ∧ (∀ b, b < w.heap.size → w'.heap[b]? = w.heap[b]?) ∧ w.heap.size ≤ w'.heap.size ∧
    OpsIn (w.heap.size + 2) 0 2 (seOa w.heap.size) (fun _ => 1) (fun _ => 1) seOps w' ∧ (∀ (j : Nat) (z : Int), seSl[j]? = some z → w'.cell? ⟨w.heap.size + 3, 0 + j, none⟩ = some (.int .i64 z)) ∧ SeBack fr c cs)
   (G (Frame.enter Try.prog 9 #[] .normal) (c :: cs)) w := by
 have hA : ∀ b, Apart (fun _ => none) b := fun b => ⟨fun _ _ _ _ h => (by cases h), fun _ _ h => (by cases h)⟩
 rw [enter_at _ Try.func9 code9_is]
 simp only [Try.ntmps9, ez, Nat.reduceAdd, Nat.reduceSub]
 repeat (first | refine Walk.cx ?_ | (refine Walk.cReg ?_; simp only [z9]) | (refine Walk.oq ?_; try walk_nrm) | (refine Walk.un ?_; walk_nrm))
 (refine Walk.oa ?_; try walk_nrm)
 have s1 : (w.alloc (.cells seA 34)).heap.size = w.heap.size + 1 := by simp
 have o1 : ∀ b, b < w.heap.size → (w.alloc (.cells seA 34)).heap[b]? = w.heap[b]? := fun b hb => heap_new_lt _ _ hb
 have d1 := heap_alloc_new w (.cells seA 34)
 generalize hT : w.heap.size = T at *
 change Walk Try.prog true _ _ _ (w.alloc (.cells seA 34))
 generalize w.alloc (.cells seA 34) = x1 at *
 repeat (first | refine Walk.cx ?_ | (refine Walk.cReg ?_; simp only [z9]) | (refine Walk.oq ?_; try walk_nrm) | (refine Walk.un ?_; walk_nrm))
 (refine Walk.oa ?_; try walk_nrm)
 have s2 : (x1.alloc (.cells seB 34)).heap.size = T + 2 := by simp [s1]
 have o2 : ∀ b, b < T + 1 → (x1.alloc (.cells seB 34)).heap[b]? = x1.heap[b]? := fun b hb => heap_new_lt _ _ (by omega)
 have d2 : (x1.alloc (.cells seB 34)).heap[T + 1]? = some (.cells seB 34) := s1 ▸ heap_alloc_new x1 (.cells seB 34)
 try simp only [s1]
 change Walk Try.prog true _ _ _ (x1.alloc (.cells seB 34))
 generalize x1.alloc (.cells seB 34) = x2 at *
 repeat (first | refine Walk.cx ?_ | (refine Walk.cReg ?_; simp only [z9]) | (refine Walk.oq ?_; try walk_nrm) | (refine Walk.un ?_; walk_nrm))
 (refine Walk.oa ?_; try walk_nrm)
 have s3 : (x2.alloc (.cells (seH T) 32)).heap.size = T + 3 := by simp [s2]
 have o3 : ∀ b, b < T + 2 → (x2.alloc (.cells (seH T) 32)).heap[b]? = x2.heap[b]? := fun b hb => heap_new_lt _ _ (by omega)
 have d3 : (x2.alloc (.cells (seH T) 32)).heap[T + 2]? = some (.cells (seH T) 32) := s2 ▸ heap_alloc_new x2 (.cells (seH T) 32)
 try simp only [s2]
 change Walk Try.prog true _ _ _ (x2.alloc (.cells (seH T) 32))
 generalize x2.alloc (.cells (seH T) 32) = x3 at *
 repeat (first | refine Walk.cx ?_ | (refine Walk.cReg ?_; simp only [z9]) | (refine Walk.oq ?_; try walk_nrm) | (refine Walk.un ?_; walk_nrm))
 (refine Walk.oa ?_; try walk_nrm)
 have s4 : (x3.alloc (.cells seS 3)).heap.size = T + 4 := by simp [s3]
 have o4 : ∀ b, b < T + 3 → (x3.alloc (.cells seS 3)).heap[b]? = x3.heap[b]? := fun b hb => heap_new_lt _ _ (by omega)
 have d4 : (x3.alloc (.cells seS 3)).heap[T + 3]? = some (.cells seS 3) := s3 ▸ heap_alloc_new x3 (.cells seS 3)
 try simp only [s3]
 change Walk Try.prog true _ _ _ (x3.alloc (.cells seS 3))
 generalize x3.alloc (.cells seS 3) = x4 at *
 repeat (first | refine Walk.cx ?_ | (refine Walk.cReg ?_; simp only [z9]) | (refine Walk.oq ?_; try walk_nrm) | (refine Walk.un ?_; walk_nrm))
 refine Walk.callE (ho_of (by conv => lhs; whnf) (by kernel_rfl)) (by rfl) (by decide) rfl Try.func11 (by kernel_rfl) (by rfl) ?_
 walk_nrm
 refine .stop fun d => ⟨_, rfl, fun b hb => ?_, ?_, se_ops ?_ ?_ ?_, fun j z hz => ?_, ?_⟩
 ·exact (o4 b (by omega)).trans ((o3 b (by omega)).trans ((o2 b (by omega)).trans (o1 b (by omega))))
 ·show T ≤ x4.heap.size
  omega
 ·exact (o4 _ (by omega)).trans ((o3 _ (by omega)).trans ((o2 _ (by omega)).trans d1))
 ·exact (o4 _ (by omega)).trans ((o3 _ (by omega)).trans d2)
 ·exact (o4 _ (by omega)).trans d3
 ·rw [Nat.zero_add]
  refine (cell_of (w := x4) d4 j).trans ?_
  have h : (seSl.map (Value.int .i64))[j]? = some (.int .i64 z) := by rw [List.getElem?_map, hz]; rfl
  simpa [seS, seSl] using h
 ·intro cells F ord w6 hTr hF0 hF1 hord
  obtain ⟨aa, ac, oa, oc, sa, sc, rfl, n1, n2, n3⟩ := hTr.all
  obtain ⟨b, o, ta0, tc0, rfl, a0, A0⟩ := n3 0 (by decide)
  obtain ⟨b', o', ta1, tc1, e, a1, A1⟩ := n3 1 (by decide)
  cases e
  rw [hF0] at a0 A0
  rw [hF1] at a1 A1
  rw [hord]
  obtain ⟨b0, o0, rfl, k0, v0, _⟩ := A0 0 _ rfl
  obtain ⟨b1, o1', rfl, k1, v1, _⟩ := A1 0 _ rfl
  obtain ⟨sb, so, rfl, t0⟩ := n2 0 _ rfl
  obtain ⟨sb', so', e, t1⟩ := n2 1 _ rfl
  cases e
  simp only [Nat.zero_mul, Nat.add_zero, List.length_cons, List.length_nil, Nat.zero_add] at a0 a1 k0 v0 k1 v1 t0 t1
  simp only [List.length_cons, List.length_nil, Nat.zero_add, Nat.reduceAdd, trC]
  refine Walk.finish (ho_of (by conv => lhs; whnf) (by kernel_rfl)) ?_
  walk_nrm
  (refine Walk.oa ?_; try walk_nrm)
  have s7 : (w6.alloc (.cells #[.slice none 0 0, .slice none 0 0, .slice none 0 0, .bool false] 29)).heap.size = w6.heap.size + 1 := by simp
  have o7 : ∀ b, b < w6.heap.size → (w6.alloc (.cells #[.slice none 0 0, .slice none 0 0, .slice none 0 0, .bool false] 29)).heap[b]? = w6.heap[b]? := fun b hb => heap_new_lt _ _ hb
  have d7 := heap_alloc_new w6 (.cells #[.slice none 0 0, .slice none 0 0, .slice none 0 0, .bool false] 29)
  have hc6 : ∀ {b j : Nat} {v : Value}, w6.cell? ⟨b, j, none⟩ = some v → b < w6.heap.size := fun h => cell_lt' h
  have l1 := hc6 a0
  have l2 := hc6 k0
  have l3 := hc6 k1
  have l4 := hc6 t0
  clear hc6
  generalize hT1 : w6.heap.size = T1 at *
  generalize w6.alloc (.cells #[.slice none 0 0, .slice none 0 0, .slice none 0 0, .bool false] 29) = w7 at *
  refine Walk.storeS 29 (.tmp 1) (.tmp 8) (ho_of (by conv => lhs; whnf) (by kernel_rfl)) (by rfl) (by decide) rfl T1 #[.slice (some ⟨b, o, none⟩) 2 ac, .slice oa 5 oc, .slice (some ⟨sb, so, none⟩) 3 sc, .bool false] _ 29 rfl rfl d7 (by kernel_rfl) (by rfl) (by simp [Value.oneCell']) (hA _) ?_
  have d8 := setRow_self (cells := #[.slice (some ⟨b, o, none⟩) 2 ac, .slice oa 5 oc, .slice (some ⟨sb, so, none⟩) 3 sc, .bool false]) d7
  have o8 : ∀ x, x < T1 → (w7.setRow T1 #[.slice (some ⟨b, o, none⟩) 2 ac, .slice oa 5 oc, .slice (some ⟨sb, so, none⟩) 3 sc, .bool false]).heap[x]? = w6.heap[x]? := fun x hx => (setRow_other _ _ (by omega)).trans (o7 x hx)
  have s8 := setRow_size w7 T1 #[.slice (some ⟨b, o, none⟩) 2 ac, .slice oa 5 oc, .slice (some ⟨sb, so, none⟩) 3 sc, .bool false]
  rw [s7] at s8
  replace s8 := Nat.le_of_eq s8.symm
  generalize w7.setRow T1 #[.slice (some ⟨b, o, none⟩) 2 ac, .slice oa 5 oc, .slice (some ⟨sb, so, none⟩) 3 sc, .bool false] = w8 at *
  have hc8 : ∀ {x j : Nat} {v : Value}, x < T1 → w6.cell? ⟨x, j, none⟩ = some v → w8.cell? ⟨x, j, none⟩ = some v := fun {x j v} hx h => (World.cell?_of_block (a := ⟨x, j, none⟩) (o8 x hx)).trans h
  have C8 : SeCells T1 none oa none ac oc sc b o b0 o0 b1 o1' sb so tc0 tc1 w8 := ⟨d8, hc8 l1 a0, hc8 l1 a1, hc8 l2 k0, hc8 l2 v0, hc8 l3 k1, hc8 l3 v1, hc8 l4 t0, hc8 l4 t1⟩
  clear n1 n2 n3 A0 A1 a0 a1 k0 v0 k1 v1 t0 t1 d1 d2 d3 d4 d7 d8 hTr s1 s2 s3 s4 s7 hT hA hc8
  have x0 : w8.cell? ⟨T1, 0, none⟩ = some (.slice (some ⟨b, o, none⟩) 2 ac) := (cell_of C8.x 0).trans rfl
  have x1' : w8.cell? ⟨T1, 1, none⟩ = some (.slice oa 5 oc) := (cell_of C8.x 1).trans rfl
  have x2' : w8.cell? ⟨T1, 2, none⟩ = some (.slice (some ⟨sb, so, none⟩) 3 sc) := (cell_of C8.x 2).trans rfl
  have a0 := C8.a0
  have a1 := C8.a1
  walk_nrm
  repeat (first | refine Walk.cx ?_ | (refine Walk.cReg ?_; simp only [z9]) | (refine Walk.oq ?_; try walk_nrm) | (refine Walk.un ?_; walk_nrm))
  refine Walk.callW (Post := NewOut w8) ?_ (ho_of (by conv => lhs; whnf) (by kernel_rfl)) (by rfl) (by decide) rfl Try.func13 (by kernel_rfl) (by rfl) ?_
  ·walk_nrm
   exact once_new w8
  rintro v w9 ⟨rfl, O9, Z9⟩
  clear x0 x1' x2' a0 a1
  have hp1 := fun w => run_eql_ptr (P := Try.prog) 35 undOnce (some ⟨w8.heap.size, 0, none⟩) w
  have hp2 := fun w es => ev_eql_ptr (P := Try.prog) 35 undOnce (some ⟨w8.heap.size, 0, none⟩) w es
  simp only [Option.isNone_some] at hp1
  walk_nrm
  repeat (first | refine Walk.cx ?_ | (refine Walk.cReg ?_; simp only [z9]) | (refine Walk.oq ?_; try walk_nrm) | (refine Walk.un ?_; walk_nrm))
  refine Walk.callW (Post := NewOut w9) ?_ (ho_of (by conv => lhs; whnf) (by kernel_rfl)) (by rfl) (by decide) rfl Try.func25 (by kernel_rfl) (by rfl) ?_
  ·walk_nrm
   exact once_box w9
  rintro v w10 ⟨rfl, O10, Z10⟩
  clear hp1 hp2
  have hp1 := fun w => run_eql_ptr (P := Try.prog) 85 undBoxI (some ⟨w9.heap.size, 0, none⟩) w
  have hp2 := fun w es => ev_eql_ptr (P := Try.prog) 85 undBoxI (some ⟨w9.heap.size, 0, none⟩) w es
  simp only [Option.isNone_some] at hp1
  walk_nrm
  repeat (first | refine Walk.cx ?_ | (refine Walk.cReg ?_; simp only [z9]) | (refine Walk.oq ?_; try walk_nrm) | (refine Walk.un ?_; walk_nrm))
  refine Walk.callW (Post := NewOut w10) ?_ (ho_of (by conv => lhs; whnf) (by kernel_rfl)) (by rfl) (by decide) rfl Try.func26 (by kernel_rfl) (by rfl) ?_
  ·walk_nrm
   exact once_lazy w10
  rintro v w11 ⟨rfl, O11, Z11⟩
  clear hp1 hp2
  have hp1 := fun w => run_eql_ptr (P := Try.prog) 87 undLazyI (some ⟨w10.heap.size, 0, none⟩) w
  have hp2 := fun w es => ev_eql_ptr (P := Try.prog) 87 undLazyI (some ⟨w10.heap.size, 0, none⟩) w es
  simp only [Option.isNone_some] at hp1
  have O : ∀ x, x < w8.heap.size → w11.heap[x]? = w8.heap[x]? := fun x hx => (O11 x (by omega)).trans ((O10 x (by omega)).trans (O9 x hx))
  have C := C8.old O
  have O' : ∀ x, x < T1 → w11.heap[x]? = w6.heap[x]? := fun x hx => (O x (by omega)).trans (o8 x hx)
  have Z : T1 ≤ w11.heap.size := by omega
  clear C8 O9 O10 O11 o8 O
  have x0 : w11.cell? ⟨T1, 0, none⟩ = some (.slice (some ⟨b, o, none⟩) 2 ac) := (cell_of C.x 0).trans rfl
  have x2' : w11.cell? ⟨T1, 2, none⟩ = some (.slice (some ⟨sb, so, none⟩) 3 sc) := (cell_of C.x 2).trans rfl
  have x3' : w11.cell? ⟨T1, 3, none⟩ = some (.bool false) := (cell_of C.x 3).trans rfl
  obtain ⟨_, a0, a1, k0, v0, k1, v1, t0, t1⟩ := C
  walk_nrm
  repeat (first | refine Walk.cx ?_ | (refine Walk.cReg ?_; simp only [z9]) | (refine Walk.oq ?_; try walk_nrm) | (refine Walk.un ?_; walk_nrm))
  refine Walk.on1 rfl rfl Try.func9 rfl (.stop fun d => ⟨rfl, O', Z⟩)
end Go.Proofs.Ytdcjgmlgmjjogaa
