/- Part 26. -/
import Derived.Test.YtdmpmoggacjgcaaJ4
import Derived.Test.YtdmpmoggacjgcaaJ22
import Derived.Test.YtdmpmoggacjgcaaJ23
import Derived.Test.YtdmpmoggacjgcaaJ24
import Derived.Test.YtdmpmoggacjgcaaJ25
set_option linter.unusedSimpArgs false
set_option linter.unusedVariables false
set_option maxHeartbeats 8000000
set_option maxRecDepth 100000
namespace Go.Proofs.Ytdmpmoggacjgcaa
open Go.Conc Go.RowKit Go.Relay
open Go.ConcN (upd upd_ne upd_same)
section
theorem ThX.mono' {S S' : Nat → Prop} {b : Nat} {ops : List OpV} {oa : Option Addr} {oc : Nat} {I PC : Int} {N : Nat → Int} {ans : List Ans} {aa : Option Addr} {ac : Nat} {e : Bool} {w : World} (X : ThX S b ops oa oc I PC N ans aa ac e w) (h : ∀ g, g < w.heap.size → S g → S' g) : ThX S' b ops oa oc I PC N ans aa ac e w :=
 ⟨X.blk, X.rO, X.rA, h _ X.lt X.sb, fun g hg => ⟨h _ (X.rO.lt g hg).2 (X.so g hg).1, (X.so g hg).2⟩, fun g hg => ⟨h _ (X.rA.lt g hg).2 (X.sa g hg).1, (X.sa g hg).2⟩⟩
structure ThMk (ops : Nat → List OpV) (w0 : World) (i : Nat) (pr : Nat → Option Nat) (ts : Nat → Nat) (oas : Nat → Option Addr) (ocs : Nat → Nat) (la : Option Addr) (pc : Nat) (w : World) : Prop where
 size : w0.heap.size ≤ w.heap.size
 old : ∀ b, b < w0.heap.size → w.heap[b]? = w0.heap[b]?
 row : w.ownsRow w0.heap.size 89 1 (.slice la i pc) i (ptrRow ts i)
 rowp : ∀ g, (Value.slice la i pc).ownBlock = some g → pr g = none
 prl : ∀ b j, pr b = some j → w0.heap.size ≤ b ∧ b < w.heap.size ∧ j < i
 th : ∀ j, j < i → ThX (fun b => pr b = some j) (ts j) (ops j) (oas j) (ocs j) 0 0 (fun _ => 0) [] none 0 false w
section
variable {main : Bool}
theorem thr_ops (tb toff n0 tc i b ln lc : Nat) (ia : Option Addr) (ov : Value) (opl : List OpV) (cs : List Frame) (a : Nat) (h0 : i < n0) (hlen : opl.length = min ln 65536) (htb : tb < a) :
  ∀ (r k : Nat) (oa : Option Addr) (oc : Nat) (u : Nat → Value) (w : World), k + r = opl.length → ThX (fun g => a ≤ g) b (opl.take k) oa oc 0 0 (fun _ => 0) [] none 0 false w → a ≤ w.heap.size → w.cell? ⟨tb, toff + i, none⟩ = some (.slice ia ln lc) →
   (∀ (j : Nat) (o : OpV), opl[j]? = some o → ∃ ob off, ia = some ⟨ob, off, none⟩ ∧ ob < a ∧ ∀ (q : Nat) (v : Value), ([.int .i64 o.k, .int .i64 o.a, .int .i64 o.b, .int .i64 o.c] : List Value)[q]? = some v → w.cell? ⟨ob, off + j * 4 + q, none⟩ = some v) →
   Walk Try.prog main (DR (fun _ => none)) (fun g w' => (∃ u, g = G (hdT1 (.slice (some ⟨tb, toff, none⟩) n0 tc) ov i b opl.length u) cs) ∧ ∃ oa' oc', ThX (fun g => a ≤ g) b opl oa' oc' 0 0 (fun _ => 0) [] none 0 false w' ∧ Chg (fun g => a ≤ g) w w') (G (hdT1 (.slice (some ⟨tb, toff, none⟩) n0 tc) ov i b k u) cs) w := by
 intro r
 induction r with
 | zero =>
  intro k oa oc u w hk X ha h1 h2
  obtain rfl : k = opl.length := hk
  rw [List.take_length] at X
  exact .stop fun d => ⟨⟨u, rfl⟩, oa, oc, X.at d, Chg.refl.at d⟩
 | succ r ih =>
  intro k oa oc u w hk X ha h1 h2
  have hkl : k < opl.length := by omega
  have ho : opl[k]? = some opl[k] := List.getElem?_eq_getElem hkl
  generalize opl[k] = o at ho
  refine (thr_op tb toff n0 tc i b k ln lc ia ov o (opl.take k) oa oc u cs a w h0 (by omega) (by omega) (by simp; omega) X ha h1 htb (h2 k o ho)).then ?_
  rintro g w' ⟨⟨u', rfl⟩, oa', oc', X', hC⟩
  have et : opl.take k ++ [o] = opl.take (k + 1) := by rw [List.take_add_one, ho]; rfl
  rw [et] at X'
  have hc : ∀ {x j : Nat} {v : Value}, x < a → w.cell? ⟨x, j, none⟩ = some v → w'.cell? ⟨x, j, none⟩ = some v := fun {x j v} hx h => (World.cell?_of_block (a := ⟨x, j, none⟩) (hC.same x (cell_lt' h) (by omega))).trans h
  refine (ih (k + 1) oa' oc' u' w' (by omega) X' (Nat.le_trans ha hC.size) (hc htb h1) (fun j o hj => ?_)).mono ?_
  ·obtain ⟨ob, off, e, hob, hq⟩ := h2 j o hj
   exact ⟨ob, off, e, hob, fun q v hv => hc hob (hq q v hv)⟩
  ·rintro g w2 ⟨hg, oa2, oc2, X2, hC2⟩
   exact ⟨hg, oa2, oc2, X2, hC.trans hC2 fun _ _ h => h⟩
def ThrOut (ops : Nat → List OpV) (n : Nat) (w0 : World) (v : Value) (w' : World) : Prop := ∃ pr ts oas ocs la pc, v = .slice la n pc ∧ ThMk ops w0 n pr ts oas ocs la pc w'
theorem thr_one (tb toff n0 tc n i : Nat) (oa : Nat → Option Addr) (ln oc : Nat → Nat) (ops : Nat → List OpV) (W : World) (I : OpsIn tb toff n oa ln oc ops W) (hn : n = min n0 64) (hi : i < n) (pr : Nat → Option Nat) (ts : Nat → Nat) (oas : Nat → Option Addr) (ocs : Nat → Nat) (la : Option Addr) (pc : Nat) (u : Nat → Value) (cs : List Frame) (w : World) (M : ThMk ops W i pr ts oas ocs la pc w) :
  Walk Try.prog main (DR (fun _ => none)) (fun g w' => ∃ pr ts oas ocs la pc, (∃ u, g = G (hdT0 (.slice (some ⟨tb, toff, none⟩) n0 tc) (.slice la (i + 1) pc) (i + 1) u) cs) ∧ ThMk ops W (i + 1) pr ts oas ocs la pc w') (G (hdT0 (.slice (some ⟨tb, toff, none⟩) n0 tc) (.slice la i pc) i u) cs) w := by
 have hWs := M.size
 have hcW : ∀ {x j : Nat} {v : Value} {w' : World}, (∀ b, b < W.heap.size → w'.heap[b]? = W.heap[b]?) → W.cell? ⟨x, j, none⟩ = some v → w'.cell? ⟨x, j, none⟩ = some v := fun {x j v w'} h hc => (World.cell?_of_block (a := ⟨x, j, none⟩) (h x (cell_lt' hc))).trans hc
 refine (thr_make (some ⟨tb, toff, none⟩) n0 tc i (.slice la i pc) u cs w (by omega) (by omega)).then ?_
 rintro g w1' ⟨⟨u1, rfl⟩, d1, rfl⟩
 refine Walk.back ?_ d1
 have d0 := heap_alloc_new w (.cells thZ 120)
 have s0 : (w.alloc (.cells thZ 120)).heap.size = w.heap.size + 1 := by simp
 have o0 : ∀ b, b < w.heap.size → (w.alloc (.cells thZ 120)).heap[b]? = w.heap[b]? := fun b hb => heap_new_lt _ _ hb
 generalize w.alloc (.cells thZ 120) = w1 at *
 have X1 : ThX (fun g => w.heap.size ≤ g) w.heap.size ((ops i).take 0) none 0 0 0 (fun _ => 0) [] none 0 false w1 := ⟨d0, rowNil _ _ _ _, rowNil _ _ _ _, Nat.le_refl _, fun g hg => by simp [Value.ownBlock] at hg, fun g hg => by simp [Value.ownBlock] at hg⟩
 have old1 : ∀ b, b < W.heap.size → w1.heap[b]? = W.heap[b]? := fun b hb => (o0 b (by omega)).trans (M.old b hb)
 have htbW := cell_lt' (I.hd i hi)
 refine (thr_ops tb toff n0 tc i w.heap.size (ln i) (oc i) (oa i) (.slice la i pc) (ops i) cs w.heap.size (by omega) (I.len i hi) (by omega) (ops i).length 0 none 0 u1 w1 (by omega) X1 (by omega) (hcW old1 (I.hd i hi)) (fun j o hj => ?_)).then ?_
 ·obtain ⟨ob, off, e, c0, c1, c2, c3⟩ := I.ops i hi j o hj
  refine ⟨ob, off, e, by have := cell_lt' c0; omega, fun q v hv => ?_⟩
  match q, hv with
  | 0, hv => cases hv; exact hcW old1 c0
  | 1, hv => cases hv; exact hcW old1 c1
  | 2, hv => cases hv; exact hcW old1 c2
  | 3, hv => cases hv; exact hcW old1 c3
 rintro g w2 ⟨⟨u2, rfl⟩, oa2, oc2, X2, hC2⟩
 have s2 := hC2.size
 have old2 : ∀ b, b < w.heap.size → w2.heap[b]? = w.heap[b]? := fun b hb => (hC2.same b (by omega) (by omega)).trans (o0 b hb)
 have hrow2 : w2.ownsRow W.heap.size 89 1 (.slice la i pc) i (ptrRow ts i) := row_same M.row fun g hg => old2 g (M.row.lt g hg).2
 refine (thr_next tb toff n0 tc i w.heap.size (ops i).length (ln i) (oc i) (oa i) la pc ts u2 cs W.heap.size w2 (by omega) (by omega) (I.len i hi) (hcW (fun b hb => (old2 b (by omega)).trans (M.old b hb)) (I.hd i hi)) hrow2 (by omega)).mono ?_
 rintro g' w3 ⟨g, cap, ⟨u3, rfl⟩, hown, hC3, hat⟩
 have s3 := hC3.size
 have hlap : ∀ x, (Value.slice la i pc).ownBlock = some x → W.heap.size ≤ x ∧ x < w.heap.size := fun x hx => M.row.lt x hx
 refine ⟨fun x => if w.heap.size ≤ x ∧ x < w2.heap.size then some i else pr x, upd ts i w.heap.size, upd oas i oa2, upd ocs i oc2, some ⟨g, 0, none⟩, cap, ⟨u3, rfl⟩, ⟨by omega, fun b hb => ?_, ?_, fun x hx => ?_, fun x j hx => ?_, fun j hj => ?_⟩⟩
 ·rw [hC3.same b (by omega) (fun e => by have := (hlap b e).1; omega), old2 b (by omega)]
  exact M.old b hb
 ·rw [ptrRow_snoc, upd_same, ptrRow_congr (ts := ts) (fun j hj => upd_ne _ _ (by omega))]
  exact hown
 ·simp only [Value.ownBlock, Option.some.injEq] at hx
  subst hx
  rcases hat with h | h
  ·rw [if_neg (by have := hlap g h; omega)]
   exact M.rowp g h
  ·rw [if_neg (by omega)]
   cases e : pr g with
   | none => rfl
   | some j => have := (M.prl g j e).2.1; omega
 ·by_cases h : w.heap.size ≤ x ∧ x < w2.heap.size
  ·rw [if_pos h] at hx
   cases hx
   exact ⟨by omega, by omega, by omega⟩
  ·rw [if_neg h] at hx
   have := M.prl x j hx
   exact ⟨this.1, by omega, by omega⟩
 ·by_cases e : j = i
  ·subst e
   simp only [upd_same]
   refine (X2.mono' (S' := fun x => (if w.heap.size ≤ x ∧ x < w2.heap.size then some j else pr x) = some j) fun x hx hS => if_pos ⟨hS, hx⟩).same fun x hx hS => hC3.same x hx fun e => ?_
   have h1 := hlap x e
   have hS : (if w.heap.size ≤ x ∧ x < w2.heap.size then some j else pr x) = some j := hS
   rw [if_neg (by omega), M.rowp x e] at hS
   cases hS
  ·simp only [upd_ne _ _ e]
   have hX := M.th j (by omega)
   refine (hX.same fun x hx hS => ?_).mono' fun x hx hS => ?_
   ·have hS : pr x = some j := hS
    have hx := (M.prl x j hS).2.1
    refine (hC3.same x (by omega) fun e => ?_).trans (old2 x hx)
    rw [M.rowp x e] at hS
    cases hS
   ·have hS : pr x = some j := hS
    have hx := (M.prl x j hS).2.1
    show (if w.heap.size ≤ x ∧ x < w2.heap.size then some i else pr x) = some j
    rw [if_neg (by omega)]
    exact hS
theorem thr_w (tb toff n0 tc n : Nat) (ta : Option Addr) (oa : Nat → Option Addr) (ln oc : Nat → Nat) (ops : Nat → List OpV) (W : World) (I : OpsIn tb toff n oa ln oc ops W) (hn : n = min n0 64) (ht : 0 < n → ta = some ⟨tb, toff, none⟩) :
  CallW Try.prog main (fun _ => none) 36 #[.slice ta n0 tc] W (ThrOut ops n W) := by
 intro c cs
 refine (thr_in (.slice ta n0 tc) (c :: cs) W).then ?_
 rintro g w1 ⟨⟨u, rfl⟩, d, rfl⟩
 have M0 : ThMk ops W 0 (fun _ => none) (fun _ => 0) (fun _ => none) (fun _ => 0) none 0 (W.at d) := ⟨Nat.le_refl _, (fun _ _ => rfl), rowNil _ _ _ _, (fun _ _ => rfl), (fun _ _ h => by cases h), fun j hj => absurd hj (Nat.not_lt_zero _)⟩
 have fin : ∀ (i : Nat) (pr : Nat → Option Nat) (ts : Nat → Nat) (oas : Nat → Option Addr) (ocs : Nat → Nat) (la : Option Addr) (pc : Nat) (u : Nat → Value) (w : World), i = n → ThMk ops W i pr ts oas ocs la pc w →
   Walk Try.prog main (DR (fun _ => none)) (fun g w' => ∃ v, ThrOut ops n W v w' ∧ g = G (c.finish v) cs) (G (hdT0 (.slice ta n0 tc) (.slice la i pc) i u) (c :: cs)) w := by
  intro i pr ts oas ocs la pc u w hi M
  subst hi
  refine (thr_end ta n0 tc i (.slice la i pc) u c cs w hn).mono ?_
  rintro g w' ⟨rfl, d, rfl⟩
  exact ⟨_, ⟨pr, ts, oas, ocs, la, pc, rfl, ⟨M.size, M.old, M.row, M.rowp, M.prl, fun j hj => (M.th j hj).at d⟩⟩, rfl⟩
 rcases Nat.eq_zero_or_pos n with h0 | h0
 ·exact fin 0 _ _ _ _ none 0 u _ h0.symm M0
 obtain rfl := ht h0
 have loop : ∀ (r i : Nat) (pr : Nat → Option Nat) (ts : Nat → Nat) (oas : Nat → Option Addr) (ocs : Nat → Nat) (la : Option Addr) (pc : Nat) (u : Nat → Value) (w : World), i + r = n → ThMk ops W i pr ts oas ocs la pc w →
   Walk Try.prog main (DR (fun _ => none)) (fun g w' => ∃ v, ThrOut ops n W v w' ∧ g = G (c.finish v) cs) (G (hdT0 (.slice (some ⟨tb, toff, none⟩) n0 tc) (.slice la i pc) i u) (c :: cs)) w := by
  intro r
  induction r with
  | zero => intro i pr ts oas ocs la pc u w hi M; exact fin i pr ts oas ocs la pc u w hi M
  | succ r ih =>
   intro i pr ts oas ocs la pc u w hi M
   refine (thr_one tb toff n0 tc n i oa ln oc ops W I hn (by omega) pr ts oas ocs la pc u (c :: cs) w M).then ?_
   rintro g w' ⟨pr', ts', oas', ocs', la', pc', ⟨u', rfl⟩, M'⟩
   exact ih (i + 1) pr' ts' oas' ocs' la' pc' u' w' (by omega) M'
 exact loop n 0 _ _ _ _ none 0 u _ (by omega) M0
end
end
section
noncomputable def reg41_0 := rg Try.f41.body [0]
noncomputable def reg41_1 := rg Try.f41.body [1, 0]
theorem size41_1 : reg41_1.size = 12 := by kernel_rfl
noncomputable def reg41_2 := rg Try.f41.body [1, 1, 0, 0]
noncomputable def reg41_3 := rg Try.f41.body [1, 1, 0, 1, 0, 0, 0, 0]
noncomputable def reg41_5 := rg Try.f41.body [1, 1, 0, 1, 0, 0, 1, 0, 0]
theorem size41_5 : reg41_5.size = 13 := by kernel_rfl
noncomputable def reg41_4 := rg Try.f41.body [1, 1, 0, 1, 0, 0, 1, 1]
noncomputable def reg41_6 := rg Try.f41.body [1, 1, 1, 0]
theorem z41 : List.range reg41_0.size = [0] ∧ List.range reg41_1.size = [0, 1, 2, 3, 4, 5, 6, 7, 8, 9, 10, 11] ∧ List.range reg41_2.size = [0] ∧ List.range reg41_3.size = [0, 1, 2, 3] ∧ List.range reg41_4.size = [0, 1, 2] ∧ List.range reg41_5.size = [0, 1, 2, 3, 4, 5, 6, 7, 8, 9, 10, 11, 12] ∧ List.range reg41_6.size = [0, 1] := by refine ⟨?_, ?_, ?_, ?_, ?_, ?_, ?_⟩ <;> kernel_rfl
theorem code41_is : Try.f41.body = some (.seq (.region 0 reg41_0 false) (.seq (.region 1 reg41_1 true) (.seq (.seq (.region 2 reg41_2 false) (.block 0 (.loop (.seq (.seq (.region 3 reg41_3 false) (.cond (.tmp 22 ) (.skip) (.exit 0))) (.seq (.block 1 (.region 5 reg41_5 true)) (.region 4 reg41_4 false)))))) (.seq (.region 6 reg41_6 false) (.ret))))) := by kernel_rfl
noncomputable def hdTc (tv : Value) (r o i : Nat) (u : Nat → Value) : Frame :=
 (base 41).at { tmps := #[u 0, tv, u 2, u 3, u 4, u 5, .pointer (some ⟨r, 0, none⟩), .pointer (some ⟨o, 0, none⟩), .int .i64 i, u 9, u 10, u 11, u 12, u 13, u 14, u 15, u 16, u 17, u 18, u 19, u 20, u 21, u 22, u 23, u 24, u 25, u 26, u 27, u 28, u 29, u 30, u 31, u 32, u 33, u 34, u 35, u 36, u 37], defers := [] } [.code (.seq (.seq (.region 3 reg41_3 false) (.cond (.tmp 22 ) (.skip) (.exit 0))) (.seq (.block 1 (.region 5 reg41_5 true)) (.region 4 reg41_4 false))), .inLoop (.seq (.seq (.region 3 reg41_3 false) (.cond (.tmp 22 ) (.skip) (.exit 0))) (.seq (.block 1 (.region 5 reg41_5 true)) (.region 4 reg41_4 false))), .inBlock 0, .code (.seq (.region 6 reg41_6 false) (.ret))]
def zTr : Obj := .cells #[.slice none 0 0, .slice none 0 0, .slice none 0 0, .bool false] 27
def trC (a b c : Value) (k : Bool) : Array Value := #[a, b, c, .bool k]
theorem setRow_alloc' (w : World) (cs old : Array Value) (t : TypeId) : (w.alloc (.cells old t)).setRow w.heap.size cs = w.alloc (.cells cs t) := by
 simp only [World.setRow, World.alloc]
 congr 1
 apply Array.ext
 ·simp
 ·intro i h1 h2
  rw [Array.getElem_modify]
  by_cases e : w.heap.size = i
  ·subst e; simp
  ·rw [if_neg e, Array.getElem_push, Array.getElem_push]
   simp only [Array.size_push] at h2
   have : i < w.heap.size := by omega
   simp [this]
section
variable {main : Bool} {S : Nat → Prop} {B : Nat} {la : Option Addr} {lc : Nat} {sl : List Int} {most : Int} {p rd : Nat} {oa : Option Addr} {oc : Nat} {ord : List Nat} {st : Bool}
theorem trc_in (tv : Value) (sa : Option Addr) (sn sc : Nat) (cs : List Frame) (w : World) (X : TuX S B la lc sl most p rd oa oc ord st w) :
  Walk Try.prog main (DR (fun _ => none)) (fun g w' => (∃ u, g = G (hdTc tv w.heap.size (w.heap.size + 1) 0 u) cs) ∧ w'.heap[w.heap.size]? = some zTr ∧ w'.heap[w.heap.size + 1]? = some (.cells (trC (.slice none 0 0) (.slice oa ord.length oc) (.slice sa sn sc) st) 27) ∧ Chg (fun _ => False) w w' ∧ w'.heap.size = w.heap.size + 2)
   (G (Frame.enter Try.prog 41 #[.pointer (some ⟨B, 0, none⟩), tv, .slice sa sn sc] .normal) cs) w := by
 rw [enter_at _ Try.func41 code41_is]
 simp only [Try.ntmps41, ez, Nat.reduceAdd, Nat.reduceSub]
 refine Walk.gz z41 ?_
 (refine Walk.oa ?_; try walk_nrm)
 have X1 : TuX S B la lc sl most p rd oa oc ord st (w.alloc zTr) := X.same fun g hg _ => heap_new_lt _ _ hg
 have d1 := heap_alloc_new w zTr
 have hC1 : Chg (fun _ => False) w (w.alloc zTr) := Chg.alloc
 have s1 : (w.alloc zTr).heap.size = w.heap.size + 1 := by simp
 generalize hR : w.heap.size = R at *
 generalize hw1 : w.alloc zTr = wr at *
 have hz : (Obj.cells #[.slice none 0 0, .slice none 0 0, .slice none 0 0, .bool false] 27) = zTr := rfl
 try simp only [hz, hw1]
 refine Walk.gz z41 ?_
 have c4 : wr.cell? ⟨B, 4, none⟩ = some (.slice oa ord.length oc) := (cell_of X1.blk 4).trans rfl
 have c5 : wr.cell? ⟨B, 5, none⟩ = some (.bool st) := (cell_of X1.blk 5).trans rfl
 have k4 := cell_alloc wr zTr c4
 have k5 := cell_alloc wr zTr c5
 refine Walk.drawnB (w1 := wr.alloc zTr) (vm := .pointer (some ⟨wr.heap.size, 0, none⟩)) (by kernel_rfl) size41_1 (by kernel_rfl) (by kernel_rfl) (by kernel_rfl) (by decide) hoA ?_ ?_
 ·intro x rest hr
  clear s1
  (refine Walk.oa ?_; try walk_nrm)
  exact hr _ _ ⟨rfl, _, rfl⟩
 simp only [List.range, List.range.loop]
 repeat (first | (refine Cm.opqB hoA (by rfl) (fun dd e he => ?_) (fun dd e he => ?_) ?_; (· (simp [go_sem, *] at he; try (subst he; exact evR_read _ _))); (· (simp [go_sem, *] at he; try (subst he; exact evR_read _ _))); apply Exists.intro; apply And.intro; (· (intro dd K hK; go_simp; exact hK)); apply And.intro; (· (intro dd K hK; go_simp; exact hK))) | (refine Cm.unw hoA (by rfl) ?_; walk_nrm))
 refine Cm.done ?_
 intro rest hr
 have e1 : wr.heap.size = R + 1 := s1
 clear s1
 refine Walk.storeS 27 (.tmp 7) (.tmp 18) hoA (by rfl) (by decide) rfl wr.heap.size (trC (.slice none 0 0) (.slice oa ord.length oc) (.slice sa sn sc) st) #[.slice none 0 0, .slice none 0 0, .slice none 0 0, .bool false] 27 rfl rfl (heap_alloc_new _ _) (by kernel_rfl) rfl (by simp [trC, Value.oneCell']) (ap0 _) ?_
 refine hr _ _ ?_
 have hst : (wr.alloc zTr).setRow wr.heap.size (trC (.slice none 0 0) (.slice oa ord.length oc) (.slice sa sn sc) st) = wr.alloc (.cells (trC (.slice none 0 0) (.slice oa ord.length oc) (.slice sa sn sc) st) 27) := setRow_alloc' _ _ _ _
 rw [hst]
 have d2 := heap_alloc_new wr (.cells (trC (.slice none 0 0) (.slice oa ord.length oc) (.slice sa sn sc) st) 27)
 have o2 : ∀ x, x < wr.heap.size → (wr.alloc (.cells (trC (.slice none 0 0) (.slice oa ord.length oc) (.slice sa sn sc) st) 27)).heap[x]? = wr.heap[x]? := fun x hx => heap_new_lt _ _ hx
 have s2 : (wr.alloc (.cells (trC (.slice none 0 0) (.slice oa ord.length oc) (.slice sa sn sc) st) 27)).heap.size = wr.heap.size + 1 := by simp
 clear k4 k5 hst hz
 generalize wr.alloc (.cells (trC (.slice none 0 0) (.slice oa ord.length oc) (.slice sa sn sc) st) 27) = w2 at *
 rw [e1] at d2 o2 s2 ⊢
 try walk_nrm
 refine Walk.gz z41 ?_
 refine Walk.ctl rfl (fun w => stepG_loop) ?_
 refine .stop fun d => ⟨at_slots ?_, (o2 R (by omega)).trans d1, d2, ⟨by show w.heap.size ≤ w2.heap.size; omega, fun x hx hn => (o2 x (by omega)).trans (hC1.same x hx hn)⟩, s2⟩
 simp only [hdTc]
 rfl
def hdRow (hv : Nat → Value) (n : Nat) : List Value := (List.range n).map hv
theorem hdRow_snoc (hv : Nat → Value) (n : Nat) : hdRow hv (n + 1) = hdRow hv n ++ [hv n] := by simp [hdRow, List.range_succ]
theorem trc_go (r o tl n tc i q : Nat) (b c : Value) (k : Bool) (ha : Option Addr) (hc : Nat) (aa : Option Addr) (al ac : Nat) (hv : Nat → Value) (u : Nat → Value) (cs : List Frame) (a0 : Nat) (w : World) (ho : w.heap[o]? = some (.cells (trC (.slice ha i hc) b c k) 27)) (hrow : w.ownsRow a0 29 1 (.slice ha i hc) i (hdRow hv i)) (hi : i < n) (hn : n ≤ 64) (hvi : hv i = .slice aa al ac)
  (hoa : o < a0) (ha0 : a0 ≤ w.heap.size) (hl : w.cell? ⟨tl, 0 + i, none⟩ = some (.pointer (some ⟨q, 0, none⟩))) (hq : w.cell? ⟨q, 12, none⟩ = some (.slice aa al ac)) (htl : tl < a0) (hqa : q < a0) :
  Walk Try.prog main (DR (fun _ => none)) (fun g' w' => ∃ g cap, (∃ u', g' = G (hdTc (.slice (some ⟨tl, 0, none⟩) n tc) r o (i + 1) u') cs) ∧ w'.heap[o]? = some (.cells (trC (.slice (some ⟨g, 0, none⟩) (i + 1) cap) b c k) 27) ∧ w'.ownsRow a0 29 1 (.slice (some ⟨g, 0, none⟩) (i + 1) cap) (i + 1) (hdRow hv (i + 1)) ∧ Chg (fun x => x = o ∨ a0 ≤ x) w w')
   (G (hdTc (.slice (some ⟨tl, 0, none⟩) n tc) r o i u) cs) w := by
 have hw1 : IntKind.wrap .i64 ((i : Int) + 1) = (i : Int) + 1 := by rw [IntKind.wrap_i64]; omega
 have h0 : w.cell? ⟨o, 0, none⟩ = some (.slice ha i hc) := (cell_of ho 0).trans rfl
 have hlo : o < w.heap.size := by omega
 rw [Nat.zero_add] at hl
 have hsz1 : w.heap.size + 1 ≤ (w.alloc (.cells #[.slice aa al ac] 29)).heap.size ∧ (w.alloc (.cells #[.slice aa al ac] 29)).heap.size ≤ w.heap.size + 1 := by simp
 have hrow' : (w.alloc (.cells #[.slice aa al ac] 29)).ownsRow a0 29 1 (.slice ha i hc) i (hdRow hv i) := row_same hrow fun g hg => heap_new_lt _ _ (hrow.lt g hg).2
 have hnews : ∀ (j : Nat) (x : Value), ([.slice aa al ac] : List Value)[j]? = some x → (w.alloc (.cells #[.slice aa al ac] 29)).cell? ((⟨w.heap.size, 0, none⟩ : Addr).add j) = some x := fun j x hx => by
  rw [add_none, Nat.zero_add]
  refine (cell_of (heap_alloc_new _ _) j).trans ?_
  simpa using hx
 have hne : ∀ x, x < a0 → (Value.slice ha i hc).ownBlock ≠ some x := fun x hx e => by have := (hrow.lt x e).1; omega
 have hfar : ∀ (x : Nat) (w2 : World), x < w.heap.size → (Value.slice ha i hc).ownBlock ≠ some x → (w.alloc (.cells #[.slice aa al ac] 29)).grownBy w2 (Value.slice ha i hc).ownBlock → w2.heap[x]? = w.heap[x]? := fun x w2 hx hn hg => (hg.block x (by omega) (fun e => hn e.symm)).trans (heap_new_lt _ _ hx)
 conv => arg 5; unfold hdTc
 refine Walk.gz z41 ?_
 refine Walk.drawnT (iA := 9) (iB := 10) (w1 := w.alloc (.cells #[.slice aa al ac] 29)) (vA := .slice (some ⟨w.heap.size, 0, none⟩) 1 1) (Z := fun x => x.cell? ⟨o, 0, none⟩ = some (.slice ha i hc) ∧ x.cell? ⟨tl, i, none⟩ = some (.pointer (some ⟨q, 0, none⟩)) ∧ x.cell? ⟨q, 12, none⟩ = some (.slice aa al ac))
  (fun v w2 => ∃ g cap, v = .slice (some ⟨g, 0, none⟩) (i + 1) cap ∧ w2.ownsRow a0 29 1 (.slice (some ⟨g, 0, none⟩) (i + 1) cap) (i + 1) (hdRow hv i ++ [.slice aa al ac]) ∧ (w.alloc (.cells #[.slice aa al ac] 29)).grownBy w2 (Value.slice ha i hc).ownBlock ∧ ((Value.slice ha i hc).ownBlock = some g ∨ g = (w.alloc (.cells #[.slice aa al ac] 29)).heap.size)) (by kernel_rfl) size41_5 (by kernel_rfl) (by kernel_rfl) (by kernel_rfl) (by kernel_rfl) (by decide) hoA hoA ⟨h0, hl, hq⟩ ⟨cell_alloc _ _ h0, cell_alloc _ _ hl, cell_alloc _ _ hq⟩ ?_ ?_
 ·rintro v w2 ⟨g, cap, _, _, hg, _⟩
  exact ⟨(World.cell?_of_block (a := ⟨o, 0, none⟩) (hfar o w2 hlo (hne o hoa) hg)).trans h0, (World.cell?_of_block (a := ⟨tl, i, none⟩) (hfar tl w2 (by omega) (hne tl htl) hg)).trans hl, (World.cell?_of_block (a := ⟨q, 12, none⟩) (hfar q w2 (by omega) (hne q hqa) hg)).trans hq⟩
 rw [show List.filter (quietQ 9 10) (List.range 12) = [0, 1, 2, 3, 4, 5, 6, 7, 8, 11] from by decide]
 repeat (first | (refine Cm.opqZ hoA (by rfl) (fun wz hz dd e he => ?_) ?_; (· (obtain ⟨z1, z2, z3⟩ := hz; simp [go_sem, *] at he; try (subst he; exact evR_read _ _))); apply Exists.intro; apply And.intro; (· (intro wz hz dd K hK; obtain ⟨z1, z2, z3⟩ := hz; go_simp; exact hK))) | (refine Cm.unw hoA (by rfl) ?_; walk_nrm))
 refine Cm.done ⟨?_, ?_, ?_⟩
 ·intro x hev rest hr'
  have e0 : x.eval (.tmp 33) = .slice aa al ac := (hev (.tmp 33) (by simp [Op.operands])).trans rfl
  have e1 : x.tmps[33]?.getD undef = .slice aa al ac := by
   rw [← Array.getD_eq_getD_getElem?]
   exact e0
  clear e0 hev
  (refine Walk.oa ?_; try walk_nrm)
  exact hr' _ _ ⟨rfl, _, rfl⟩
 ·intro x hev rest hr'
  have e1 : x.eval (.tmp 26) = .slice ha i hc := (hev (.tmp 26) (by simp [Op.operands, Call.operands])).trans rfl
  have e2 : x.eval (.tmp 34) = .slice (some ⟨w.heap.size, 0, none⟩) 1 1 := (hev (.tmp 34) (by simp [Op.operands, Call.operands])).trans rfl
  have hiA := Option.some_get (show (Try.prog.info? 29).isSome = true by kernel_rfl)
  refine Walk.append (.tmp 26) (.tmp 34) 23 hoA (by rfl) (by decide) rfl a0 29 _ (.slice none 0 0) 1 24 (by kernel_rfl) hiA.symm (by rfl) (by rfl) (by rfl) (by rfl) (by decide) (.slice ha i hc) i (hdRow hv i) e1 hrow' ⟨w.heap.size, 0, none⟩ 1 1 [.slice aa al ac] e2 (by rfl) hnews (by simp [Value.oneCell']) (by decide) (by simp [maxLen]; omega) (by omega) (by omega) (fun g _ => ap0 g) (fun g cap w3 hown hg hat hlt => ?_)
  exact hr' _ _ ⟨_, w3, ⟨g, cap, rfl, hown, hg, hat⟩, rfl, w3.drawn, rfl⟩
 rintro v w2 ⟨g, cap, rfl, hown, hg, hat⟩ rest hr'
 have hb := hfar o w2 hlo (hne o hoa) hg
 have h0' : w2.cell? ⟨o, 0, none⟩ = some (.slice ha i hc) := (World.cell?_of_block (a := ⟨o, 0, none⟩) hb).trans h0
 have hz0 : w2.frozen? ⟨o, 0, none⟩ = false := frozen_of (hb.trans ho) 0
 have hgs := hg.size
 have hga : a0 ≤ g := (hown.lt g rfl).1
 (have hfr := fr0 o 0; refine Walk.os hfr h0' ?_; clear hfr; try walk_nrm)
 refine hr' _ _ ?_
 have hbo : (w2.setCell ⟨o, 0, none⟩ (.slice (some ⟨g, 0, none⟩) (i + 1) cap)).heap[o]? = some (.cells (trC (.slice (some ⟨g, 0, none⟩) (i + 1) cap) b c k) 27) := by
  rw [heap_set_self _ _ (hb.trans ho)]
  simp [trC]
 have hown2 : (w2.setCell ⟨o, 0, none⟩ (.slice (some ⟨g, 0, none⟩) (i + 1) cap)).ownsRow a0 29 1 (.slice (some ⟨g, 0, none⟩) (i + 1) cap) (i + 1) (hdRow hv (i + 1)) := by
  rw [hdRow_snoc, hvi]
  exact row_same hown fun x hx => heap_set_other _ _ _ _ (by
   simp only [Value.ownBlock, Option.some.injEq] at hx
   show x ≠ o
   omega)
 have hC : Chg (fun x => x = o ∨ a0 ≤ x) w (w2.setCell ⟨o, 0, none⟩ (.slice (some ⟨g, 0, none⟩) (i + 1) cap)) := by
  refine ⟨by rw [size_set]; omega, fun x hx hn => ?_⟩
  rw [heap_set_other _ _ _ _ (fun e => hn (.inl e))]
  exact hfar x w2 hx (hne x (by omega)) hg
 clear h0' hz0 hb hown hg hat hfar hnews hrow' hrow hl hq h0 ho
 generalize w2.setCell ⟨o, 0, none⟩ (.slice (some ⟨g, 0, none⟩) (i + 1) cap) = w3 at *
 try walk_nrm
 refine Walk.gz z41 ?_
 refine Walk.ctl rfl (fun w => stepG_inLoop) ?_
 refine .stop fun d => ⟨g, cap, at_slots ?_, hbo, hown2, hC.at d⟩
 have hc : ((i + 1 : Nat) : Int) = (i : Int) + 1 := by simp
 simp only [hdTc, hc]
 rfl
theorem trc_out (ta : Option Addr) (tc r o n : Nat) (x0 x1 x2 x3 : Value) (u : Nat → Value) (c : Frame) (cs : List Frame) (w : World) (ho : w.heap[o]? = some (.cells #[x0, x1, x2, x3] 27)) (hr : w.heap[r]? = some zTr) (h1 : (#[x0, x1, x2, x3] : Array Value).all (·.oneCell') = true) :
  Walk Try.prog main (DR (fun _ => none)) (fun g w' => g = G (c.finish (.agg #[x0, x1, x2, x3])) cs ∧ Chg (fun x => x = r) w w') (G (hdTc (.slice ta n tc) r o n u) (c :: cs)) w := by
 obtain ⟨fsT, huT⟩ := structT 27 (by kernel_rfl)
 have hc : ∀ (j : Nat) (v : Value), [x0, x1, x2, x3][j]? = some v → w.cell? ⟨o, 0 + j, none⟩ = some v := fun j v hv => by
  rw [Nat.zero_add]
  refine (cell_of ho j).trans ?_
  simpa using hv
 have hT := setRow_self (cells := #[x0, x1, x2, x3]) hr
 have hC : Chg (fun x => x = r) w (w.setRow r #[x0, x1, x2, x3]) := ⟨by rw [setRow_size]; exact Nat.le_refl _, fun x hx hn => setRow_other _ _ hn⟩
 unfold hdTc
 refine Walk.gz z41 ?_
 refine Walk.loadS 27 (.tmp 7) hoA (by rfl) (by decide) rfl o 0 [x0, x1, x2, x3] (.struct fsT) rfl hc huT rfl (by kernel_rfl) ?_
 walk_nrm
 refine Walk.storeS 27 (.tmp 6) (.tmp 37) hoA (by rfl) (by decide) rfl r #[x0, x1, x2, x3] #[.slice none 0 0, .slice none 0 0, .slice none 0 0, .bool false] 27 rfl rfl hr (by kernel_rfl) rfl h1 (ap0 _) ?_
 clear hc ho hr
 generalize w.setRow r #[x0, x1, x2, x3] = w2 at *
 try walk_nrm
 refine Walk.gz z41 ?_
 exact Walk.onCell (T := r) rfl rfl rfl Try.func41 rfl (by rfl) hT (by kernel_rfl) (by kernel_rfl) (.stop fun d => ⟨rfl, hC.at d⟩)
def TraceR (n : Nat) (hv : Nat → Value) (ov sv : Value) (st : Bool) (w : World) (v : Value) (w' : World) : Prop := ∃ ha hc, v = .agg #[.slice ha n hc, ov, sv, .bool st] ∧ w'.ownsRow w.heap.size 29 1 (.slice ha n hc) n (hdRow hv n) ∧ Chg (fun _ => False) w w'
theorem trc_w (ta : Option Addr) (n tc : Nat) (sa : Option Addr) (sn sc : Nat) (hv : Nat → Value) (w : World) (hn : n ≤ 64) (X : TuX S B la lc sl most p rd oa oc ord st w)
  (ht : ∀ i, i < n → ∃ tl q aa al ac, ta = some ⟨tl, 0, none⟩ ∧ w.cell? ⟨tl, 0 + i, none⟩ = some (.pointer (some ⟨q, 0, none⟩)) ∧ w.cell? ⟨q, 12, none⟩ = some (.slice aa al ac) ∧ hv i = .slice aa al ac) :
  CallW Try.prog main (fun _ => none) 41 #[.pointer (some ⟨B, 0, none⟩), .slice ta n tc, .slice sa sn sc] w (TraceR n hv (.slice oa ord.length oc) (.slice sa sn sc) st w) := by
 intro c cs
 refine (trc_in (.slice ta n tc) sa sn sc (c :: cs) w X).then ?_
 rintro g w1 ⟨⟨u, rfl⟩, hR, hO, hC1, hs1⟩
 have loop : ∀ (r i : Nat) (ha : Option Addr) (hc : Nat) (u : Nat → Value) (w1 : World), i + r = n → w1.heap[w.heap.size]? = some zTr → w1.heap[w.heap.size + 1]? = some (.cells (trC (.slice ha i hc) (.slice oa ord.length oc) (.slice sa sn sc) st) 27) → w1.ownsRow (w.heap.size + 2) 29 1 (.slice ha i hc) i (hdRow hv i) → Chg (fun _ => False) w w1 → w.heap.size + 2 ≤ w1.heap.size →
   Walk Try.prog main (DR (fun _ => none)) (fun g w' => ∃ v, TraceR n hv (.slice oa ord.length oc) (.slice sa sn sc) st w v w' ∧ g = G (c.finish v) cs) (G (hdTc (.slice ta n tc) w.heap.size (w.heap.size + 1) i u) (c :: cs)) w1 := by
  intro r
  induction r with
  | zero =>
   intro i ha hc u w1 hi h1 h2 h3 h4 h5
   obtain rfl : i = n := hi
   refine (trc_out ta tc w.heap.size (w.heap.size + 1) i _ _ _ _ u c cs w1 h2 h1 (by simp [Value.oneCell'])).mono ?_
   rintro g w' ⟨rfl, hC⟩
   refine ⟨_, ⟨ha, hc, rfl, row_raise (row_same h3 fun g hg => hC.same g (h3.lt g hg).2 (by have := (h3.lt g hg).1; omega)) (fun g hg => by have := (h3.lt g hg).1; omega), h4.trans hC fun x hx h => by omega⟩, rfl⟩
  | succ r ih =>
   intro i ha hc u w1 hi h1 h2 h3 h4 h5
   obtain ⟨tl, q, aa, al, ac, e, k1, k2, k3⟩ := ht i (by omega)
   subst e
   have hcell : ∀ {x j : Nat} {v : Value}, w.cell? ⟨x, j, none⟩ = some v → w1.cell? ⟨x, j, none⟩ = some v := fun {x j v} h => (World.cell?_of_block (a := ⟨x, j, none⟩) (h4.same x (cell_lt' h) id)).trans h
   refine (trc_go w.heap.size (w.heap.size + 1) tl n tc i q _ _ st ha hc aa al ac hv u (c :: cs) (w.heap.size + 2) w1 h2 h3 (by omega) hn k3 (by omega) h5 (hcell k1) (hcell k2) (by have := cell_lt' k1; omega) (by have := cell_lt' k2; omega)).then ?_
   rintro g w2 ⟨g', cap, ⟨u', rfl⟩, m1, m2, m3⟩
   refine ih (i + 1) _ cap u' w2 (by omega) ((m3.same _ (by omega) (by omega)).trans h1) m1 m2 (h4.trans m3 fun x hx h => by omega) (Nat.le_trans h5 m3.size)
 exact loop n 0 none 0 u w1 (by omega) hR hO (rowNil _ _ _ _) hC1 (by omega)
end
end
end Go.Proofs.Ytdmpmoggacjgcaa
namespace Go.Relay
section
open Go.Conc Go.RowKit
open Go.ConcN (upd upd_ne upd_same)
section
variable {P : Program} {main : Bool} {V : Nat → Option Wait} {Stop : Goroutine → World → Prop} {w : World} {b : Frame} {a : Act} {k : List Item} {cs : List Frame} {ops : Array Oper}
theorem Walk.drawnM {id m : Nat} (hm : P.follows .mixedOrders = true) (hsz : ops.size = m + 2) (hlow : lowB ops = true) (hc : calmB ops m = true) (hl : lastB ops m = true) (hl2 : waitsB ops (m + 1) m = true) (hk : b.kind ≠ .early)
  (h : Cm P main V ops (· = w) (fun a => OpW P main V Stop b k cs ops m (fun a1 w1 => OpW P main V Stop b k cs ops (m + 1) (fun a' w' => Walk P main (DR V) Stop (G (b.at a' (.inRegion ops [] :: k)) cs) w') a1 w1) a w) (List.range m) a) : Walk P main (DR V) Stop (G (b.at a (.code (.region id ops true) :: k)) cs) w := by
 rw [List.range_eq_range'] at h
 have h0 : Cm P main V ops (· = w) (fun a => OpW P main V Stop b k cs ops m (fun a1 w1 => OpW P main V Stop b k cs ops (m + 1) (fun a' w' => Walk P main (DR V) Stop (G (b.at a' (.inRegion ops [] :: k)) cs) w') a1 w1) a w) (List.range' 0 m) (puts ops (fun _ => undef) (fun j => decide (j < 0)) a) := by
  have : puts ops (fun _ => undef) (fun j => decide (j < 0)) a = a := putsL_none _ a fun j _ => decide_eq_false (Nat.not_lt_zero j)
  rw [this]; exact h
 obtain ⟨vals, _, hcond, hend⟩ := cm_vals (Z := (· = w)) (ops := ops) (m := m) (w := w) rfl (by omega) m 0 (fun _ => undef) a (by omega) h0
 refine Walk.drawnJ (Inv := fun f x w' => (f m = true ∧ f (m + 1) = true ∧ (∀ j, j < m → f j = true) ∧ Walk P main (DR V) Stop (G (b.at x (.inRegion ops [] :: k)) cs) w') ∨
  (f m = true ∧ f (m + 1) = false ∧ (∀ j, j < m → f j = true) ∧ OpW P main V Stop b k cs ops (m + 1) (fun a' w' => Walk P main (DR V) Stop (G (b.at a' (.inRegion ops [] :: k)) cs) w') x w') ∨
  (f m = false ∧ f (m + 1) = false ∧ x = puts ops vals f a ∧ ∃ d, w' = w.at d)) hm hlow (fun d => .inr (.inr ⟨rfl, rfl, (puts_zero vals a).symm, d, rfl⟩)) ?_ ?_
 ·rintro f i o x w' hI hC hf ho hd rest hr
  have hi : i < m + 2 := by have := (Array.getElem?_eq_some_iff.1 ho).1; omega
  rcases hI with ⟨h1, h2, h3, _⟩ | ⟨h1, h2, h3, h4⟩ | ⟨h1, h2, rfl, d, rfl⟩
  ·exfalso
   have : i = m ∨ i = m + 1 ∨ i < m := by omega
   rcases this with e | e | e
   ·rw [e, h1] at hf; cases hf
   ·rw [e, h2] at hf; cases hf
   ·rw [h3 i e] at hf; cases hf
  ·have hi1 : i = m + 1 := by
    have : i = m ∨ i = m + 1 ∨ i < m := by omega
    rcases this with e | e | e
    ·rw [e, h1] at hf; cases hf
    ·exact e
    ·rw [h3 i e] at hf; cases hf
   subst hi1
   exact h4 rest fun a' w'' hw => hr a' w'' (.inl ⟨by rw [upd_ne _ _ (by omega)]; exact h1, upd_same _ _ _, fun j hj => by rw [upd_ne _ _ (by omega)]; exact h3 j hj, hw⟩)
  ·refine Walk.back ?_ d
   by_cases e : i = m
   ·subst e
    have hall := last_all hl hC ho hd
    have : puts ops vals f a = puts ops vals (fun j => decide (j < i)) a := puts_congr (fun j hj => ⟨by
     by_cases hji : j < i
     ·rw [hall (i - j) j (by omega) (by omega)]; exact (decide_eq_true hji).symm
     ·have : j = i ∨ j = i + 1 := by omega
      rcases this with rfl | rfl
      ·rw [hf]; simp
      ·rw [h2]; simp, fun _ => rfl⟩) a
    rw [this]
    refine hend rest fun a' w' hw' => hr a' w' (.inr (.inl ⟨upd_same _ _ _, by rw [upd_ne _ _ (by omega)]; exact h2, fun j hj => ?_, hw'⟩))
    rw [upd_ne _ _ (by omega)]
    exact hall (i - j) j (by omega) (by omega)
   ·by_cases e2 : i = m + 1
    ·exfalso
     subst e2
     have := waits_at hl2 ho hd
     rw [h1] at this
     cases this
    ·have him : i < m := by omega
     refine Walk.calmOp (Z := (· = w)) rfl hc hk him ho hd (hcond i o (Nat.zero_le _) him ho) ?_
     rw [← puts_upd hc him vals hf ho a]
     exact hr _ (w.at w.drawn) (.inr (.inr ⟨by rw [upd_ne _ _ (Ne.symm e)]; exact h1, by rw [upd_ne _ _ (Ne.symm e2)]; exact h2, rfl, w.drawn, rfl⟩))
 ·rintro f x w' hI hall
  rcases hI with ⟨_, _, _, h3⟩ | ⟨_, h1, _⟩ | ⟨h1, _⟩
  ·exact h3
  ·rw [hall (m + 1) (by omega)] at h1; cases h1
  ·rw [hall m (by omega)] at h1; cases h1
end
end
end Go.Relay
namespace Go.Proofs.Ytdmpmoggacjgcaa
open Go.Conc Go.RowKit Go.Relay
open Go.ConcN (upd upd_ne upd_same)
section
noncomputable def reg16_0 := rg Try.f16.body [0]
noncomputable def reg16_1 := rg Try.f16.body [1, 0]
noncomputable def reg16_2 := rg Try.f16.body [1, 1, 0]
noncomputable def reg16_3 := rg Try.f16.body [1, 1, 1, 0, 0]
noncomputable def reg16_4 := rg Try.f16.body [1, 1, 1, 0, 1, 0, 0, 0, 0]
noncomputable def reg16_6 := rg Try.f16.body [1, 1, 1, 0, 1, 0, 0, 1, 0, 0]
noncomputable def reg16_5 := rg Try.f16.body [1, 1, 1, 0, 1, 0, 0, 1, 1]
noncomputable def reg16_7 := rg Try.f16.body [1, 1, 1, 1, 0]
noncomputable def reg16_8 := rg Try.f16.body [1, 1, 1, 1, 1, 0, 0, 0, 0]
noncomputable def reg16_9 := rg Try.f16.body [1, 1, 1, 1, 1, 0, 0, 0, 1, 0, 0]
noncomputable def reg16_10 := rg Try.f16.body [1, 1, 1, 1, 1, 0, 0, 0, 1, 0, 1, 0, 0]
theorem size16_10 : reg16_10.size = 22 := by kernel_rfl
noncomputable def reg16_11 := rg Try.f16.body [1, 1, 1, 1, 1, 0, 0, 0, 1, 0, 1, 0, 1, 0]
noncomputable def reg16_12 := rg Try.f16.body [1, 1, 1, 1, 1, 0, 0, 0, 1, 0, 1, 0, 1, 1, 0]
noncomputable def reg16_13 := rg Try.f16.body [1, 1, 1, 1, 1, 0, 0, 0, 1, 0, 1, 0, 1, 1, 1, 0]
noncomputable def reg16_14 := rg Try.f16.body [1, 1, 1, 1, 1, 0, 0, 0, 1, 1]
theorem z16 : List.range reg16_0.size = [0] ∧ List.range reg16_1.size = [0, 1, 2, 3] ∧ List.range reg16_2.size = [0, 1, 2, 3, 4, 5] ∧ List.range reg16_3.size = [0] ∧ List.range reg16_4.size = [0, 1, 2, 3, 4, 5, 6] ∧ List.range reg16_5.size = [0, 1, 2] ∧ List.range reg16_6.size = [0, 1, 2, 3, 4, 5, 6, 7, 8] ∧ List.range reg16_7.size = [0, 1, 2, 3] ∧ List.range reg16_8.size = [0, 1, 2, 3, 4, 5, 6] ∧ List.range reg16_9.size = [0, 1] ∧ List.range reg16_10.size = [0, 1, 2, 3, 4, 5, 6, 7, 8, 9, 10, 11, 12, 13, 14, 15, 16, 17, 18, 19, 20, 21] ∧ List.range reg16_11.size = [0, 1, 2] ∧ List.range reg16_12.size = [0, 1, 2, 3] ∧ List.range reg16_13.size = [0, 1, 2, 3, 4, 5, 6, 7] ∧ List.range reg16_14.size = [0, 1, 2, 3, 4, 5, 6, 7, 8] := by refine ⟨?_, ?_, ?_, ?_, ?_, ?_, ?_, ?_, ?_, ?_, ?_, ?_, ?_, ?_, ?_⟩ <;> kernel_rfl
theorem code16_is : Try.f16.body = some (.seq (.region 0 reg16_0 false) (.seq (.region 1 reg16_1 false) (.seq (.region 2 reg16_2 false) (.seq (.seq (.region 3 reg16_3 false) (.block 0 (.loop (.seq (.seq (.region 4 reg16_4 false) (.cond (.tmp 31 ) (.skip) (.exit 0))) (.seq (.block 1 (.region 6 reg16_6 false)) (.region 5 reg16_5 false)))))) (.seq (.region 7 reg16_7 false) (.block 2 (.loop (.block 3 (.seq (.region 8 reg16_8 false) (.seq (.seq (.region 9 reg16_9 false) (.cond (.tmp 53 ) (.seq (.region 10 reg16_10 true) (.seq (.region 11 reg16_11 false) (.seq (.region 12 reg16_12 false) (.seq (.region 13 reg16_13 false) (.ret))))) (.skip))) (.region 14 reg16_14 false))))))))))) := by kernel_rfl
noncomputable def hdQ0 (sv : Value) (most : Int) (r m i : Nat) (u : Nat → Value) : Frame :=
 (base 16).at { tmps := #[u 0, u 1, u 2, sv, .int .i64 most, u 5, u 6, u 7, u 8, u 9, .pointer (some ⟨r, 0, none⟩), .pointer (some ⟨m, 0, none⟩), .int .i64 i, u 13, u 14, u 15, u 16, u 17, u 18, u 19, u 20, u 21, u 22, u 23, u 24, u 25, u 26, u 27, u 28, u 29, u 30, u 31, u 32, u 33, u 34, u 35, u 36, u 37, u 38, u 39, u 40, u 41, u 42, u 43, u 44, u 45, u 46, u 47, u 48, u 49, u 50, u 51, u 52, u 53, u 54, u 55, u 56, u 57, u 58, u 59, u 60, u 61, u 62, u 63, u 64, u 65, u 66, u 67, u 68, u 69, u 70, u 71, u 72, u 73, u 74, u 75, u 76, u 77, u 78, u 79, u 80, u 81, u 82, u 83, u 84, u 85, u 86, u 87, u 88, u 89, u 90, u 91, u 92, u 93, u 94, u 95], defers := [] } [.code (.seq (.seq (.region 4 reg16_4 false) (.cond (.tmp 31 ) (.skip) (.exit 0))) (.seq (.block 1 (.region 6 reg16_6 false)) (.region 5 reg16_5 false))), .inLoop (.seq (.seq (.region 4 reg16_4 false) (.cond (.tmp 31 ) (.skip) (.exit 0))) (.seq (.block 1 (.region 6 reg16_6 false)) (.region 5 reg16_5 false))), .inBlock 0, .code (.seq (.region 7 reg16_7 false) (.block 2 (.loop (.block 3 (.seq (.region 8 reg16_8 false) (.seq (.seq (.region 9 reg16_9 false) (.cond (.tmp 53 ) (.seq (.region 10 reg16_10 true) (.seq (.region 11 reg16_11 false) (.seq (.region 12 reg16_12 false) (.seq (.region 13 reg16_13 false) (.ret))))) (.skip))) (.region 14 reg16_14 false)))))))]
noncomputable def hdQ1 (r m B : Nat) (u : Nat → Value) : Frame :=
 (base 16).at { tmps := #[u 0, u 1, u 2, u 3, u 4, u 5, u 6, u 7, u 8, u 9, .pointer (some ⟨r, 0, none⟩), .pointer (some ⟨m, 0, none⟩), u 12, .pointer (some ⟨B, 0, none⟩), u 14, u 15, u 16, u 17, u 18, u 19, u 20, u 21, u 22, u 23, u 24, u 25, u 26, u 27, u 28, u 29, u 30, u 31, u 32, u 33, u 34, u 35, u 36, u 37, u 38, u 39, u 40, u 41, u 42, u 43, u 44, u 45, u 46, u 47, u 48, u 49, u 50, u 51, u 52, u 53, u 54, u 55, u 56, u 57, u 58, u 59, u 60, u 61, u 62, u 63, u 64, u 65, u 66, u 67, u 68, u 69, u 70, u 71, u 72, u 73, u 74, u 75, u 76, u 77, u 78, u 79, u 80, u 81, u 82, u 83, u 84, u 85, u 86, u 87, u 88, u 89, u 90, u 91, u 92, u 93, u 94, u 95], defers := [] } [.code (.block 3 (.seq (.region 8 reg16_8 false) (.seq (.seq (.region 9 reg16_9 false) (.cond (.tmp 53 ) (.seq (.region 10 reg16_10 true) (.seq (.region 11 reg16_11 false) (.seq (.region 12 reg16_12 false) (.seq (.region 13 reg16_13 false) (.ret))))) (.skip))) (.region 14 reg16_14 false)))), .inLoop (.block 3 (.seq (.region 8 reg16_8 false) (.seq (.seq (.region 9 reg16_9 false) (.cond (.tmp 53 ) (.seq (.region 10 reg16_10 true) (.seq (.region 11 reg16_11 false) (.seq (.region 12 reg16_12 false) (.seq (.region 13 reg16_13 false) (.ret))))) (.skip))) (.region 14 reg16_14 false)))), .inBlock 2]
section
variable {main : Bool}
structure PlyIn (sz : Int) (tg : Bool) (ops : Nat → List OpV) (n : Nat) (W : World) (a2 nb vb cn cv : Nat) (pr : Nat → Option Nat) (ts : Nat → Nat) (oas : Nat → Option Addr) (ocs : Nat → Nat) (la : Option Addr) (lc : Nat) (w : World) : Prop where
 lo : W.heap.size + 1 ≤ a2 ∧ a2 ≤ w.heap.size
 old : ∀ b, b < W.heap.size → w.heap[b]? = W.heap[b]?
 res : w.heap[W.heap.size]? = some zTr
 M : MaX (fun g => W.heap.size + 1 ≤ g ∧ g < a2) (W.heap.size + 1) nb vb (sizeN sz) cn cv tg (.slice la n lc) (sk0 (sizeN sz)) w
 row : w.ownsRow a2 89 1 (.slice la n lc) n (ptrRow ts n)
 rowp : ∀ g, (Value.slice la n lc).ownBlock = some g → pr g = none
 prl : ∀ b j, pr b = some j → a2 ≤ b ∧ b < w.heap.size ∧ j < n
 th : ∀ j, j < n → ThX (fun b => pr b = some j) (ts j) (ops j) (oas j) (ocs j) 0 0 (fun _ => 0) [] none 0 false w
theorem ply_in (sz : Int) (tg : Bool) (tb toff n0 tc n : Nat) (ta : Option Addr) (oa : Nat → Option Addr) (ln oc : Nat → Nat) (ops : Nat → List OpV) (sv : Value) (most : Int) (cs : List Frame) (W : World) (I : OpsIn tb toff n oa ln oc ops W) (hn : n = min n0 64) (ht : 0 < n → ta = some ⟨tb, toff, none⟩) (hI : ∀ w, (∀ b, b < W.heap.size → w.heap[b]? = W.heap[b]?) → OpsIn tb toff n oa ln oc ops w) :
  Walk Try.prog main (DR (fun _ => none)) (fun g w' => (∃ u, g = G (hdQ0 sv most W.heap.size (W.heap.size + 1) 0 u) cs) ∧ ∃ a2 nb vb cn cv pr ts oas ocs la lc, PlyIn sz tg ops n W a2 nb vb cn cv pr ts oas ocs la lc w')
   (G (Frame.enter Try.prog 16 #[.int .i64 sz, .bool tg, .slice ta n0 tc, sv, .int .i64 most] .normal) cs) W := by
 have hthr : ∀ w2 : World, OpsIn tb toff n oa ln oc ops w2 → CallW Try.prog main (fun _ => none) 36 #[.slice ta n0 tc] w2 (ThrOut ops n w2) := fun w2 I2 => thr_w tb toff n0 tc n ta oa ln oc ops w2 I2 hn ht
 clear hn ht
 rw [enter_at _ Try.func16 code16_is]
 simp only [Try.ntmps16, ez, Nat.reduceAdd, Nat.reduceSub]
 refine Walk.gz z16 ?_
 (refine Walk.oa ?_; try walk_nrm)
 have d1 := heap_alloc_new W zTr
 have o1 : ∀ b, b < W.heap.size → (W.alloc zTr).heap[b]? = W.heap[b]? := fun b hb => heap_new_lt _ _ hb
 have s1 : (W.alloc zTr).heap.size = W.heap.size + 1 := by simp
 generalize hR : W.heap.size = R at *
 have hz : (Obj.cells #[.slice none 0 0, .slice none 0 0, .slice none 0 0, .bool false] 27) = zTr := rfl
 try simp only [hz]
 generalize W.alloc zTr = w1 at *
 replace s1 : R + 1 ≤ w1.heap.size ∧ w1.heap.size ≤ R + 1 := by omega
 have hs1 : w1.heap.size = R + 1 := by omega
 have hnew := rnew_w (main := main) sz tg w1
 rw [hs1] at hnew
 clear hs1
 refine Walk.gz z16 ?_
 refine Walk.callW (Post := fun v w' => v = .pointer (some ⟨R + 1, 0, none⟩) ∧ ∃ nb vb cn cv, MaX (fun g => R + 1 ≤ g) (R + 1) nb vb (sizeN sz) cn cv tg (.slice none 0 0) (sk0 (sizeN sz)) w' ∧ Chg (fun _ => False) w1 w') ?_ hoA (by rfl) (by decide) rfl Try.func35 (by kernel_rfl) (by rfl) ?_
 ·walk_nrm
  exact hnew
 rintro v w2 ⟨rfl, nb, vb, cn, cv, M2, hC2⟩
 have hs2 := hC2.size
 have old2 : ∀ b, b < R + 1 → w2.heap[b]? = w1.heap[b]? := fun b hb => hC2.same b (by omega) id
 have I2 : OpsIn tb toff n oa ln oc ops w2 := hI w2 fun b hb => (old2 b (by omega)).trans (o1 b hb)
 walk_nrm
 refine Walk.gz z16 ?_
 refine Walk.callW (Post := ThrOut ops n w2) ?_ hoA (by rfl) (by decide) rfl Try.func36 (by kernel_rfl) (by rfl) ?_
 ·walk_nrm
  exact hthr w2 I2
 rintro v w3 ⟨pr, ts, oas, ocs, la, lc, rfl, H⟩
 have hs3 := H.size
 obtain ⟨l1, l2, l3⟩ := M2.lt
 have M3 : MaX (fun g => R + 1 ≤ g ∧ g < w2.heap.size) (R + 1) nb vb (sizeN sz) cn cv tg (.slice none 0 0) (sk0 (sizeN sz)) w3 :=
  MaX.same (w := w2) ⟨M2.blk, M2.nx, M2.vl, M2.hd, M2.fr, M2.nxb, M2.tag, ⟨M2.sm, l1⟩, ⟨M2.sn, l2⟩, ⟨M2.sv, l3⟩, M2.ne⟩ fun g hg _ => H.old g hg
 have c7 := mc7 M3.blk
 have z7 := frozen_of M3.blk 7
 walk_nrm
 refine Walk.gz z16 ?_
 (have hfr := fr0 (R + 1) 7; refine Walk.os hfr c7 ?_; clear hfr; try walk_nrm)
 have hb4 : (w3.setCell ⟨R + 1, 7, none⟩ (.slice la n lc)).heap[R + 1]? = some (.cells (maA (.slice (some ⟨nb, 0, none⟩) (sizeN sz) cn) (.slice (some ⟨vb, 0, none⟩) (sizeN sz) cv) (nodeX (sk0 (sizeN sz)).hd) (tagX (sk0 (sizeN sz)).hd) (nodeX (sk0 (sizeN sz)).fr) (tagX (sk0 (sizeN sz)).fr) tg (.slice la n lc)) 87) := by
  rw [heap_set_self _ _ M3.blk]
  simp [maA]
 have o4 : ∀ b, b ≠ R + 1 → (w3.setCell ⟨R + 1, 7, none⟩ (.slice la n lc)).heap[b]? = w3.heap[b]? := fun b hb => heap_set_other _ _ _ _ hb
 have s4 := size_set w3 ⟨R + 1, 7, none⟩ (.slice la n lc)
 have fin : PlyIn sz tg ops n W w2.heap.size nb vb cn cv pr ts oas ocs la lc (w3.setCell ⟨R + 1, 7, none⟩ (.slice la n lc)) := by
  obtain ⟨a1, e1, e1'⟩ := M3.nx
  obtain ⟨a2', e2, e2'⟩ := M3.vl
  obtain ⟨n1, n2, n3⟩ := M3.ne
  refine ⟨by omega, fun b hb => ?_, ?_, ?_, row_same H.row fun g hg => o4 g (by have := (H.row.lt g hg).1; omega), H.rowp, fun b j hj => ?_, fun j hj => (H.th j hj).same fun g hg hp => o4 g (by have := (H.prl g j hp).1; omega)⟩
  ·exact (o4 b (by omega)).trans ((H.old b (by omega)).trans ((old2 b (by omega)).trans (o1 b (by omega))))
  ·rw [hR]
   exact (o4 R (by omega)).trans ((H.old R (by omega)).trans ((old2 R (by omega)).trans d1))
  ·rw [hR]
   exact ⟨hb4, ⟨a1, (o4 nb (Ne.symm n1)).trans e1, e1'⟩, ⟨a2', (o4 vb (Ne.symm n2)).trans e2, e2'⟩, M3.hd, M3.fr, M3.nxb, M3.tag, M3.sm, M3.sn, M3.sv, M3.ne⟩
  ·have := H.prl b j hj
   exact ⟨this.1, by omega, this.2.2⟩
 clear c7 z7 hb4
 generalize w3.setCell ⟨R + 1, 7, none⟩ (.slice la n lc) = w4 at *
 refine Walk.gz z16 ?_
 refine Walk.ctl rfl (fun w => stepG_loop) ?_
 refine .stop fun d => ⟨at_slots ?_, _, _, _, _, _, _, _, _, _, _, _, ⟨fin.lo, fin.old, fin.res, fin.M.at d, fin.row, fin.rowp, fin.prl, fun j hj => (fin.th j hj).at d⟩⟩
 simp only [hdQ0]
 rfl
theorem ply_one (sv : Value) (most : Int) (r m i tl n lc q : Nat) (Z : World → Prop) (u : Nat → Value) (cs : List Frame) (w : World) (hi : i < n) (hn : n ≤ 64) (c7 : w.cell? ⟨m, 7, none⟩ = some (.slice (some ⟨tl, 0, none⟩) n lc)) (hl : w.cell? ⟨tl, i, none⟩ = some (.pointer (some ⟨q, 0, none⟩)))
  (hb : CallW Try.prog main (fun _ => none) 37 #[.pointer (some ⟨m, 0, none⟩), .pointer (some ⟨q, 0, none⟩)] w (fun v w' => v = .tuple #[] ∧ Z w')) :
  Walk Try.prog main (DR (fun _ => none)) (fun g w' => (∃ u, g = G (hdQ0 sv most r m (i + 1) u) cs) ∧ ∃ w1 d, Z w1 ∧ w' = w1.at d) (G (hdQ0 sv most r m i u) cs) w := by
 have hw1 : IntKind.wrap .i64 ((i : Int) + 1) = (i : Int) + 1 := by rw [IntKind.wrap_i64]; omega
 conv => arg 5; unfold hdQ0
 refine Walk.gz z16 ?_
 refine Walk.callW (Post := fun v w' => v = .tuple #[] ∧ Z w') ?_ hoA (by rfl) (by decide) rfl Try.func37 (by kernel_rfl) (by rfl) ?_
 ·walk_nrm
  exact hb
 rintro v w1 ⟨rfl, hZ⟩
 clear c7 hl hb
 walk_nrm
 refine Walk.gz z16 ?_
 refine Walk.ctl rfl (fun w => stepG_inLoop) ?_
 refine .stop fun d => ⟨at_slots ?_, w1, d, hZ, rfl⟩
 have hc : ((i + 1 : Nat) : Int) = (i : Int) + 1 := by simp
 simp only [hdQ0, hc]
 rfl
theorem ply_turn (sa : Option Addr) (sn sc : Nat) (most : Int) (r m n lc : Nat) (la : Option Addr) (B : World → Nat → World → Prop) (u : Nat → Value) (cs : List Frame) (w : World) (c7 : w.cell? ⟨m, 7, none⟩ = some (.slice la n lc))
  (hb : CallW Try.prog main (fun _ => none) 38 #[.slice sa sn sc, .int .i64 most] w (fun v w' => ∃ b, v = .pointer (some ⟨b, 0, none⟩) ∧ B w b w')) :
  Walk Try.prog main (DR (fun _ => none)) (fun g w' => ∃ b w1 d, (∃ u, g = G (hdQ1 r m b u) cs) ∧ B w b w1 ∧ w' = w1.at d) (G (hdQ0 (.slice sa sn sc) most r m n u) cs) w := by
 conv => arg 5; unfold hdQ0
 refine Walk.gz z16 ?_
 refine Walk.callW (Post := fun v w' => ∃ b, v = .pointer (some ⟨b, 0, none⟩) ∧ B w b w') ?_ hoA (by rfl) (by decide) rfl Try.func38 (by kernel_rfl) (by rfl) ?_
 ·walk_nrm
  exact hb
 rintro v w1 ⟨b, rfl, hB⟩
 clear c7 hb
 walk_nrm
 refine Walk.gz z16 ?_
 refine Walk.ctl rfl (fun w => stepG_loop) ?_
 refine .stop fun d => ⟨b, w1, d, at_slots ?_, hB, rfl⟩
 simp only [hdQ1]
 rfl
theorem ply_go (r m B n lc : Nat) (la : Option Addr) (Y : Nat → World → Prop) (Z : Nat → World → World → Prop) (u : Nat → Value) (cs : List Frame) (w : World) (hn : n ≤ 64) (c7 : w.cell? ⟨m, 7, none⟩ = some (.slice la n lc))
  (hp : CallW Try.prog main (fun _ => none) 39 #[.pointer (some ⟨B, 0, none⟩), .slice la n lc] w (fun v w' => ∃ x : Nat, v = .int .i64 (x : Nat) ∧ Y x w'))
  (hy : ∀ x w1, Y x w1 → x < n ∧ w1.cell? ⟨m, 7, none⟩ = some (.slice la n lc) ∧ ∃ tl q, la = some ⟨tl, 0, none⟩ ∧ w1.cell? ⟨tl, x, none⟩ = some (.pointer (some ⟨q, 0, none⟩)) ∧ CallW Try.prog main (fun _ => none) 42 #[.pointer (some ⟨m, 0, none⟩), .pointer (some ⟨q, 0, none⟩)] w1 (fun v w' => v = .tuple #[] ∧ Z x w1 w')) :
  Walk Try.prog main (DR (fun _ => none)) (fun g w' => (∃ u, g = G (hdQ1 r m B u) cs) ∧ ∃ x w1 w2 d, Y x w1 ∧ Z x w1 w2 ∧ w' = w2.at d) (G (hdQ1 r m B u) cs) w := by
 conv => arg 5; unfold hdQ1
 refine Walk.gz z16 ?_
 refine Walk.callW (Post := fun v w' => ∃ x : Nat, v = .int .i64 (x : Nat) ∧ Y x w') ?_ hoA (by rfl) (by decide) rfl Try.func39 (by kernel_rfl) (by rfl) ?_
 ·walk_nrm
  exact hp
 rintro v w1 ⟨x, rfl, hY⟩
 obtain ⟨hx, k7, tl, q, rfl, hl, hs⟩ := hy x w1 hY
 clear c7 hp hy
 have hd0 : decide ((x : Int) < 0) = false := by simp
 have hx1 : (x : Int) < n := by omega
 walk_nrm
 refine Walk.gz z16 ?_
 refine Walk.callW (Post := fun v w' => v = .tuple #[] ∧ Z x w1 w') ?_ hoA (by rfl) (by decide) rfl Try.func42 (by kernel_rfl) (by rfl) ?_
 ·walk_nrm
  exact hs
 rintro v w2 ⟨rfl, hZ⟩
 clear k7 hl hs
 walk_nrm
 refine Walk.gz z16 ?_
 refine Walk.ctl rfl (fun w => stepG_inLoop) ?_
 refine .stop fun d => ⟨at_slots ?_, x, w1, w2, d, hY, hZ, rfl⟩
 simp only [hdQ1]
 rfl
end
end
end Go.Proofs.Ytdmpmoggacjgcaa
