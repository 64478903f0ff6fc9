/- Part 30. -/
import Derived.Test.YtdcjgmlgmjjogaaJ25
import Derived.Test.YtdcjgmlgmjjogaaJ29
set_option linter.unusedSimpArgs false
set_option linter.unusedVariables false
set_option maxHeartbeats 8000000
set_option maxRecDepth 100000
namespace Go.Proofs.Ytdcjgmlgmjjogaa
open Go.Conc Go.RowKit Go.Relay
open Go.ConcN (upd upd_ne upd_same)
section
theorem ThX.mono' {S S' : Nat → Prop} {b : Nat} {ops : List OpV} {oa : Option Addr} {oc : Nat} {I PC : Int} {N : Nat → Int} {ans : List Ans} {aa : Option Addr} {ac : Nat} {e : Bool} {w : World} (X : ThX S b ops oa oc I PC N ans aa ac e w) (h : ∀ g, g < w.heap.size → S g → S' g) : ThX S' b ops oa oc I PC N ans aa ac e w :=
 ⟨X.blk, X.rO, X.rA, h _ X.lt X.sb, fun g hg => ⟨h _ (X.rO.lt g hg).2 (X.so g hg).1, (X.so g hg).2⟩, fun g hg => ⟨h _ (X.rA.lt g hg).2 (X.sa g hg).1, (X.sa g hg).2⟩⟩
structure ThMk (ops : Nat → List OpV) (w0 : World) (i : Nat) (pr : Nat → Option Nat) (ts : Nat → Nat) (oas : Nat → Option Addr) (ocs : Nat → Nat) (la : Option Addr) (pc : Nat) (w : World) : Prop where
 size : w0.heap.size ≤ w.heap.size
 old : ∀ b, b < w0.heap.size → w.heap[b]? = w0.heap[b]?
 row : w.ownsRow w0.heap.size 106 1 (.slice la i pc) i (ptrRow ts i)
 rowp : ∀ g, (Value.slice la i pc).ownBlock = some g → pr g = none
 prl : ∀ b j, pr b = some j → w0.heap.size ≤ b ∧ b < w.heap.size ∧ j < i
 th : ∀ j, j < i → ThX (fun b => pr b = some j) (ts j) (ops j) (oas j) (ocs j) 0 0 (fun _ => 0) [] none 0 false w
section
variable {main : Bool}
theorem thr_ops (tb toff n0 tc i b ln lc : Nat) (ia : Option Addr) (ov : Value) (opl : List OpV) (cs : List Frame) (a : Nat) (h0 : i < n0) (hlen : opl.length = min ln 65536) (htb : tb < a) :
  ∀ (r k : Nat) (oa : Option Addr) (oc : Nat) (u : Nat → Value) (w : World), k + r = opl.length → ThX (fun g => a ≤ g) b (opl.take k) oa oc 0 0 (fun _ => 0) [] none 0 false w → a ≤ w.heap.size → w.cell? ⟨tb, toff + i, none⟩ = some (.slice ia ln lc) →
   (∀ (j : Nat) (o : OpV), opl[j]? = some o → ∃ ob off, ia = some ⟨ob, off, none⟩ ∧ ob < a ∧ ∀ (q : Nat) (v : Value), ([.int .i64 o.k, .int .i64 o.a, .int .i64 o.b, .int .i64 o.c] : List Value)[q]? = some v → w.cell? ⟨ob, off + j * 4 + q, none⟩ = some v) →
   Walk Try.prog main (DR (fun _ => none)) (fun g w' => (∃ u, g = G (hdT1 (.slice (some ⟨tb, toff, none⟩) n0 tc) ov i b opl.length u) cs) ∧ ∃ oa' oc', ThX (fun g => a ≤ g) b opl oa' oc' 0 0 (fun _ => 0) [] none 0 false w' ∧ Chg (fun g => a ≤ g) w w') (G (hdT1 (.slice (some ⟨tb, toff, none⟩) n0 tc) ov i b k u) cs) w := by
 intro r
 induction r with
 | zero =>
  intro k oa oc u w hk X ha h1 h2
  obtain rfl : k = opl.length := hk
  rw [List.take_length] at X
  exact .stop fun d => ⟨⟨u, rfl⟩, oa, oc, X.at d, Chg.refl.at d⟩
 | succ r ih =>
  intro k oa oc u w hk X ha h1 h2
  have hkl : k < opl.length := by omega
  have ho : opl[k]? = some opl[k] := List.getElem?_eq_getElem hkl
  generalize opl[k] = o at ho
  refine (thr_op tb toff n0 tc i b k ln lc ia ov o (opl.take k) oa oc u cs a w h0 (by omega) (by omega) (by simp; omega) X ha h1 htb (h2 k o ho)).then ?_
  rintro g w' ⟨⟨u', rfl⟩, oa', oc', X', hC⟩
  have et : opl.take k ++ [o] = opl.take (k + 1) := by rw [List.take_add_one, ho]; rfl
  rw [et] at X'
  have hc : ∀ {x j : Nat} {v : Value}, x < a → w.cell? ⟨x, j, none⟩ = some v → w'.cell? ⟨x, j, none⟩ = some v := fun {x j v} hx h => (World.cell?_of_block (a := ⟨x, j, none⟩) (hC.same x (cell_lt' h) (by omega))).trans h
  refine (ih (k + 1) oa' oc' u' w' (by omega) X' (Nat.le_trans ha hC.size) (hc htb h1) (fun j o hj => ?_)).mono ?_
  ·obtain ⟨ob, off, e, hob, hq⟩ := h2 j o hj
   exact ⟨ob, off, e, hob, fun q v hv => hc hob (hq q v hv)⟩
  ·rintro g w2 ⟨hg, oa2, oc2, X2, hC2⟩
   exact ⟨hg, oa2, oc2, X2, hC.trans hC2 fun _ _ h => h⟩
def ThrOut (ops : Nat → List OpV) (n : Nat) (w0 : World) (v : Value) (w' : World) : Prop := ∃ pr ts oas ocs la pc, v = .slice la n pc ∧ ThMk ops w0 n pr ts oas ocs la pc w'
theorem thr_one (tb toff n0 tc n i : Nat) (oa : Nat → Option Addr) (ln oc : Nat → Nat) (ops : Nat → List OpV) (W : World) (I : OpsIn tb toff n oa ln oc ops W) (hn : n = min n0 64) (hi : i < n) (pr : Nat → Option Nat) (ts : Nat → Nat) (oas : Nat → Option Addr) (ocs : Nat → Nat) (la : Option Addr) (pc : Nat) (u : Nat → Value) (cs : List Frame) (w : World) (M : ThMk ops W i pr ts oas ocs la pc w) :
  Walk Try.prog main (DR (fun _ => none)) (fun g w' => ∃ pr ts oas ocs la pc, (∃ u, g = G (hdT0 (.slice (some ⟨tb, toff, none⟩) n0 tc) (.slice la (i + 1) pc) (i + 1) u) cs) ∧ ThMk ops W (i + 1) pr ts oas ocs la pc w') (G (hdT0 (.slice (some ⟨tb, toff, none⟩) n0 tc) (.slice la i pc) i u) cs) w := by
 have hWs := M.size
 have hcW : ∀ {x j : Nat} {v : Value} {w' : World}, (∀ b, b < W.heap.size → w'.heap[b]? = W.heap[b]?) → W.cell? ⟨x, j, none⟩ = some v → w'.cell? ⟨x, j, none⟩ = some v := fun {x j v w'} h hc => (World.cell?_of_block (a := ⟨x, j, none⟩) (h x (cell_lt' hc))).trans hc
 refine (thr_make (some ⟨tb, toff, none⟩) n0 tc i (.slice la i pc) u cs w (by omega) (by omega)).then ?_
 rintro g w1' ⟨⟨u1, rfl⟩, d1, rfl⟩
 refine Walk.back ?_ d1
 have d0 := heap_alloc_new w (.cells thZ 158)
 have s0 : (w.alloc (.cells thZ 158)).heap.size = w.heap.size + 1 := by simp
 have o0 : ∀ b, b < w.heap.size → (w.alloc (.cells thZ 158)).heap[b]? = w.heap[b]? := fun b hb => heap_new_lt _ _ hb
 generalize w.alloc (.cells thZ 158) = w1 at *
 have X1 : ThX (fun g => w.heap.size ≤ g) w.heap.size ((ops i).take 0) none 0 0 0 (fun _ => 0) [] none 0 false w1 := ⟨d0, rowNil _ _ _ _, rowNil _ _ _ _, Nat.le_refl _, fun g hg => by simp [Value.ownBlock] at hg, fun g hg => by simp [Value.ownBlock] at hg⟩
 have old1 : ∀ b, b < W.heap.size → w1.heap[b]? = W.heap[b]? := fun b hb => (o0 b (by omega)).trans (M.old b hb)
 have htbW := cell_lt' (I.hd i hi)
 refine (thr_ops tb toff n0 tc i w.heap.size (ln i) (oc i) (oa i) (.slice la i pc) (ops i) cs w.heap.size (by omega) (I.len i hi) (by omega) (ops i).length 0 none 0 u1 w1 (by omega) X1 (by omega) (hcW old1 (I.hd i hi)) (fun j o hj => ?_)).then ?_
 ·obtain ⟨ob, off, e, c0, c1, c2, c3⟩ := I.ops i hi j o hj
  refine ⟨ob, off, e, by have := cell_lt' c0; omega, fun q v hv => ?_⟩
  match q, hv with
  | 0, hv => cases hv; exact hcW old1 c0
  | 1, hv => cases hv; exact hcW old1 c1
  | 2, hv => cases hv; exact hcW old1 c2
  | 3, hv => cases hv; exact hcW old1 c3
 rintro g w2 ⟨⟨u2, rfl⟩, oa2, oc2, X2, hC2⟩
 have s2 := hC2.size
 have old2 : ∀ b, b < w.heap.size → w2.heap[b]? = w.heap[b]? := fun b hb => (hC2.same b (by omega) (by omega)).trans (o0 b hb)
 have hrow2 : w2.ownsRow W.heap.size 106 1 (.slice la i pc) i (ptrRow ts i) := row_same M.row fun g hg => old2 g (M.row.lt g hg).2
 refine (thr_next tb toff n0 tc i w.heap.size (ops i).length (ln i) (oc i) (oa i) la pc ts u2 cs W.heap.size w2 (by omega) (by omega) (I.len i hi) (hcW (fun b hb => (old2 b (by omega)).trans (M.old b hb)) (I.hd i hi)) hrow2 (by omega)).mono ?_
 rintro g' w3 ⟨g, cap, ⟨u3, rfl⟩, hown, hC3, hat⟩
 have s3 := hC3.size
 have hlap : ∀ x, (Value.slice la i pc).ownBlock = some x → W.heap.size ≤ x ∧ x < w.heap.size := fun x hx => M.row.lt x hx
 refine ⟨fun x => if w.heap.size ≤ x ∧ x < w2.heap.size then some i else pr x, upd ts i w.heap.size, upd oas i oa2, upd ocs i oc2, some ⟨g, 0, none⟩, cap, ⟨u3, rfl⟩, ⟨by omega, fun b hb => ?_, ?_, fun x hx => ?_, fun x j hx => ?_, fun j hj => ?_⟩⟩
 ·rw [hC3.same b (by omega) (fun e => by have := (hlap b e).1; omega), old2 b (by omega)]
  exact M.old b hb
 ·rw [ptrRow_snoc, upd_same, ptrRow_congr (ts := ts) (fun j hj => upd_ne _ _ (by omega))]
  exact hown
 ·simp only [Value.ownBlock, Option.some.injEq] at hx
  subst hx
  rcases hat with h | h
  ·rw [if_neg (by have := hlap g h; omega)]
   exact M.rowp g h
  ·rw [if_neg (by omega)]
   cases e : pr g with
   | none => rfl
   | some j => have := (M.prl g j e).2.1; omega
 ·by_cases h : w.heap.size ≤ x ∧ x < w2.heap.size
  ·rw [if_pos h] at hx
   cases hx
   exact ⟨by omega, by omega, by omega⟩
  ·rw [if_neg h] at hx
   have := M.prl x j hx
   exact ⟨this.1, by omega, by omega⟩
 ·by_cases e : j = i
  ·subst e
   simp only [upd_same]
   refine (X2.mono' (S' := fun x => (if w.heap.size ≤ x ∧ x < w2.heap.size then some j else pr x) = some j) fun x hx hS => if_pos ⟨hS, hx⟩).same fun x hx hS => hC3.same x hx fun e => ?_
   have h1 := hlap x e
   have hS : (if w.heap.size ≤ x ∧ x < w2.heap.size then some j else pr x) = some j := hS
   rw [if_neg (by omega), M.rowp x e] at hS
   cases hS
  ·simp only [upd_ne _ _ e]
   have hX := M.th j (by omega)
   refine (hX.same fun x hx hS => ?_).mono' fun x hx hS => ?_
   ·have hS : pr x = some j := hS
    have hx := (M.prl x j hS).2.1
    refine (hC3.same x (by omega) fun e => ?_).trans (old2 x hx)
    rw [M.rowp x e] at hS
    cases hS
   ·have hS : pr x = some j := hS
    have hx := (M.prl x j hS).2.1
    show (if w.heap.size ≤ x ∧ x < w2.heap.size then some i else pr x) = some j
    rw [if_neg (by omega)]
    exact hS
theorem thr_w (tb toff n0 tc n : Nat) (ta : Option Addr) (oa : Nat → Option Addr) (ln oc : Nat → Nat) (ops : Nat → List OpV) (W : World) (I : OpsIn tb toff n oa ln oc ops W) (hn : n = min n0 64) (ht : 0 < n → ta = some ⟨tb, toff, none⟩) :
  CallW Try.prog main (fun _ => none) 32 #[.slice ta n0 tc] W (ThrOut ops n W) := by
 intro c cs
 refine (thr_in (.slice ta n0 tc) (c :: cs) W).then ?_
 rintro g w1 ⟨⟨u, rfl⟩, d, rfl⟩
 have M0 : ThMk ops W 0 (fun _ => none) (fun _ => 0) (fun _ => none) (fun _ => 0) none 0 (W.at d) := ⟨Nat.le_refl _, (fun _ _ => rfl), rowNil _ _ _ _, (fun _ _ => rfl), (fun _ _ h => by cases h), fun j hj => absurd hj (Nat.not_lt_zero _)⟩
 have fin : ∀ (i : Nat) (pr : Nat → Option Nat) (ts : Nat → Nat) (oas : Nat → Option Addr) (ocs : Nat → Nat) (la : Option Addr) (pc : Nat) (u : Nat → Value) (w : World), i = n → ThMk ops W i pr ts oas ocs la pc w →
   Walk Try.prog main (DR (fun _ => none)) (fun g w' => ∃ v, ThrOut ops n W v w' ∧ g = G (c.finish v) cs) (G (hdT0 (.slice ta n0 tc) (.slice la i pc) i u) (c :: cs)) w := by
  intro i pr ts oas ocs la pc u w hi M
  subst hi
  refine (thr_end ta n0 tc i (.slice la i pc) u c cs w hn).mono ?_
  rintro g w' ⟨rfl, d, rfl⟩
  exact ⟨_, ⟨pr, ts, oas, ocs, la, pc, rfl, ⟨M.size, M.old, M.row, M.rowp, M.prl, fun j hj => (M.th j hj).at d⟩⟩, rfl⟩
 rcases Nat.eq_zero_or_pos n with h0 | h0
 ·exact fin 0 _ _ _ _ none 0 u _ h0.symm M0
 obtain rfl := ht h0
 have loop : ∀ (r i : Nat) (pr : Nat → Option Nat) (ts : Nat → Nat) (oas : Nat → Option Addr) (ocs : Nat → Nat) (la : Option Addr) (pc : Nat) (u : Nat → Value) (w : World), i + r = n → ThMk ops W i pr ts oas ocs la pc w →
   Walk Try.prog main (DR (fun _ => none)) (fun g w' => ∃ v, ThrOut ops n W v w' ∧ g = G (c.finish v) cs) (G (hdT0 (.slice (some ⟨tb, toff, none⟩) n0 tc) (.slice la i pc) i u) (c :: cs)) w := by
  intro r
  induction r with
  | zero => intro i pr ts oas ocs la pc u w hi M; exact fin i pr ts oas ocs la pc u w hi M
  | succ r ih =>
   intro i pr ts oas ocs la pc u w hi M
   refine (thr_one tb toff n0 tc n i oa ln oc ops W I hn (by omega) pr ts oas ocs la pc u (c :: cs) w M).then ?_
   rintro g w' ⟨pr', ts', oas', ocs', la', pc', ⟨u', rfl⟩, M'⟩
   exact ih (i + 1) pr' ts' oas' ocs' la' pc' u' w' (by omega) M'
 exact loop n 0 _ _ _ _ none 0 u _ (by omega) M0
end
end
section
noncomputable def hdOwn (ta : Option Addr) (n0 tc : Nat) (ov : Value) (j : Nat) (u : Nat → Value) : Frame :=
 (base 4).at { tmps := #[u 0, u 1, .bool false, ov, u 4, u 5, u 6, u 7, u 8, u 9, u 10, u 11, u 12, u 13, u 14, u 15, u 16, u 17, u 18, u 19, u 20, u 21, .slice ta n0 tc, .int .i64 n0, .int .i64 j, u 25, u 26, u 27, u 28, u 29, u 30, u 31, u 32, u 33, u 34, u 35, u 36, u 37, u 38, u 39, u 40, u 41, u 42, u 43, u 44, u 45, u 46, u 47, u 48, u 49, u 50, u 51, u 52, u 53, u 54, u 55, u 56, u 57, u 58, u 59, u 60, u 61, u 62, u 63, u 64, u 65, u 66, u 67, u 68, u 69, u 70, u 71, u 72, u 73, u 74, u 75, u 76, u 77, u 78, u 79, u 80, u 81, u 82, u 83, u 84, u 85, u 86, u 87, u 88, u 89, u 90, u 91, u 92, u 93, u 94, u 95, u 96, u 97, u 98, u 99, u 100, u 101, u 102, u 103, u 104, u 105, u 106, u 107, u 108, u 109, u 110, u 111, u 112, u 113, u 114, u 115, u 116, u 117, u 118, u 119, u 120, u 121, u 122, u 123, u 124, u 125, u 126, u 127, u 128, u 129, u 130, u 131, u 132], defers := [] } [.code (.seq (.region 5 reg4_5 false) (.seq (.cond (.tmp 25 ) (.skip) (.exit 0)) (.seq (.block 1 (.seq (.region 6 reg4_6 false) (.seq (.region 7 reg4_7 false) (.region 8 reg4_8 false)))) (.region 9 reg4_9 false)))), .inLoop (.seq (.region 5 reg4_5 false) (.seq (.cond (.tmp 25 ) (.skip) (.exit 0)) (.seq (.block 1 (.seq (.region 6 reg4_6 false) (.seq (.region 7 reg4_7 false) (.region 8 reg4_8 false)))) (.region 9 reg4_9 false)))), .inBlock 0, .code (.seq (.region 10 reg4_10 false) (.seq (.seq (.region 11 reg4_11 false) (.cond (.tmp 38 ) (.seq (.region 12 reg4_12 false) (.ret)) (.skip))) (.seq (.region 13 reg4_13 false) (.seq (.seq (.region 14 reg4_14 false) (.block 2 (.loop (.seq (.region 15 reg4_15 false) (.seq (.cond (.tmp 50 ) (.skip) (.exit 2)) (.seq (.block 3 (.seq (.region 16 reg4_16 false) (.seq (.region 17 reg4_17 true) (.seq (.region 18 reg4_18 false) (.cond (.tmp 93 ) (.seq (.region 19 reg4_19 false) (.ret)) (.skip)))))) (.region 20 reg4_20 false))))))) (.seq (.region 21 reg4_21 false) (.seq (.region 22 reg4_22 false) (.seq (.region 23 reg4_23 true) (.ret))))))))]
def ownO (o : OpV) : OpV := ⟨o.k, 0, o.b, o.c⟩
structure OwI (W w : World) (l : List OpV) (oa : Option Addr) (oc : Nat) : Prop where
 row : w.ownsRow W.heap.size 34 4 (.slice oa l.length oc) l.length (opRow l)
 old : ∀ b, b < W.heap.size → w.heap[b]? = W.heap[b]?
 size : W.heap.size ≤ w.heap.size
section
variable {main : Bool}
theorem own_round (ta : Option Addr) (tb toff n0 tc j : Nat) (pre : List OpV) (o : OpV) (oa : Option Addr) (oc : Nat) (hpj : pre.length = j) (hj : j < n0) (hn0 : n0 ≤ 4398046511104) (hta : ta = some ⟨tb, toff, none⟩) (u : Nat → Value) (cs : List Frame) (W w : World) (H : OwI W w pre oa oc)
  (o0 : W.cell? ⟨tb, toff + j * 4, none⟩ = some (.int .i64 o.k)) (o1 : W.cell? ⟨tb, toff + j * 4 + 1, none⟩ = some (.int .i64 o.a)) (o2 : W.cell? ⟨tb, toff + j * 4 + 2, none⟩ = some (.int .i64 o.b)) (o3 : W.cell? ⟨tb, toff + j * 4 + 3, none⟩ = some (.int .i64 o.c)) :
  Walk Try.prog main (DR (fun _ => none)) (fun g w' => ∃ oa oc, (∃ u, g = G (hdOwn ta n0 tc (.slice oa (j + 1) oc) (j + 1) u) cs) ∧ OwI W w' (pre ++ [ownO o]) oa oc) (G (hdOwn ta n0 tc (.slice oa j oc) j u) cs) w := by
 subst hta
 obtain ⟨fsO, huO⟩ := structT 34 (by kernel_rfl)
 have hiO := Option.some_get (show (Try.prog.info? 34).isSome = true by kernel_rfl)
 have hi0 : (0 : Int) ≤ j := by omega
 have hi1 : decide ((j : Int) < n0) = true := by simp; omega
 have hi3 : decide (j < n0) = true := by simp; omega
 have hi4 : (j : Int) < n0 := by omega
 have hw1 : IntKind.wrap .i64 ((j : Int) + 1) = (j : Int) + 1 := by rw [IntKind.wrap_i64]; omega
 have hcell : ∀ {y : Nat} {v : Value}, W.cell? ⟨tb, y, none⟩ = some v → w.cell? ⟨tb, y, none⟩ = some v := fun {y v} h => (World.cell?_of_block (a := ⟨tb, y, none⟩) (H.old tb (cell_lt' h))).trans h
 have hcs : ∀ (y : Nat) (v : Value), ([.int .i64 o.k, .int .i64 o.a, .int .i64 o.b, .int .i64 o.c] : List Value)[y]? = some v → w.cell? ⟨tb, toff + j * 4 + y, none⟩ = some v := fun y v hv => by
  match y, hv with
  | 0, hv => cases hv; exact hcell o0
  | 1, hv => cases hv; exact hcell o1
  | 2, hv => cases hv; exact hcell o2
  | 3, hv => cases hv; exact hcell o3
 clear o0 o1 o2 o3 hcell
 have hHs := H.size
 have hrow0 := H.row
 have hold0 := H.old
 rw [hpj] at hrow0
 unfold hdOwn
 repeat (first | refine Walk.cx ?_ | (refine Walk.cReg ?_; simp only [z4]) | (refine Walk.oq ?_; try walk_nrm) | (refine Walk.un ?_; walk_nrm))
 refine Walk.loadS 34 (.tmp 26) (ho_of (by conv => lhs; whnf) (by kernel_rfl)) (by rfl) (by decide) rfl tb (toff + j * 4) [.int .i64 o.k, .int .i64 o.a, .int .i64 o.b, .int .i64 o.c] (.struct fsO) rfl hcs huO rfl (by kernel_rfl) ?_
 walk_nrm
 clear hcs
 (refine Walk.oa ?_; try walk_nrm)
 have d1 := heap_alloc_new w (.cells #[.int .i64 0, .int .i64 0, .int .i64 0, .int .i64 0] 34)
 have p1 : ∀ b, b < w.heap.size → (w.alloc (.cells #[.int .i64 0, .int .i64 0, .int .i64 0, .int .i64 0] 34)).heap[b]? = w.heap[b]? := fun b hb => heap_new_lt _ _ hb
 have s1 : (w.alloc (.cells #[.int .i64 0, .int .i64 0, .int .i64 0, .int .i64 0] 34)).heap.size = w.heap.size + 1 := by simp
 generalize hQ : w.heap.size = Q at *
 generalize w.alloc (.cells #[.int .i64 0, .int .i64 0, .int .i64 0, .int .i64 0] 34) = w1 at *
 repeat (first | (refine Walk.oq ?_; try walk_nrm) | (refine Walk.un ?_; walk_nrm))
 refine Walk.storeS 34 (.tmp 5) (.tmp 27) (ho_of (by conv => lhs; whnf) (by kernel_rfl)) (by rfl) (by decide) rfl Q #[.int .i64 o.k, .int .i64 o.a, .int .i64 o.b, .int .i64 o.c] _ 34 rfl rfl d1 (by kernel_rfl) (by rfl) (by simp [Value.oneCell']) (ap0 _) ?_
 have d2 := setRow_self (cells := #[.int .i64 o.k, .int .i64 o.a, .int .i64 o.b, .int .i64 o.c]) d1
 have p2 : ∀ b, b < Q → (w1.setRow Q #[.int .i64 o.k, .int .i64 o.a, .int .i64 o.b, .int .i64 o.c]).heap[b]? = w.heap[b]? := fun b hb => (setRow_other _ _ (by omega)).trans (p1 b hb)
 have s2 := (setRow_size w1 Q #[.int .i64 o.k, .int .i64 o.a, .int .i64 o.b, .int .i64 o.c]).trans s1
 clear d1 p1 s1
 generalize w1.setRow Q #[.int .i64 o.k, .int .i64 o.a, .int .i64 o.b, .int .i64 o.c] = w2 at *
 have n1 : w2.cell? ⟨Q, 1, none⟩ = some (.int .i64 o.a) := (cell_of d2 1).trans rfl
 have y1 := frozen_of d2 1
 walk_nrm
 repeat (first | refine Walk.cx ?_ | (refine Walk.cReg ?_; simp only [z4]) | (refine Walk.oq ?_; try walk_nrm) | (refine Walk.un ?_; walk_nrm))
 (have hfr := fr0 Q 1; refine Walk.os hfr n1 ?_; clear hfr; try walk_nrm)
 have d3 : (w2.setCell ⟨Q, 1, none⟩ (.int .i64 0)).heap[Q]? = some (.cells #[.int .i64 o.k, .int .i64 0, .int .i64 o.b, .int .i64 o.c] 34) := by
  rw [heap_set_self _ _ d2]
  simp
 have p3 : ∀ b, b < Q → (w2.setCell ⟨Q, 1, none⟩ (.int .i64 0)).heap[b]? = w.heap[b]? := fun b hb => (heap_set_other _ _ _ _ (by show b ≠ Q; omega)).trans (p2 b hb)
 have s3 : (w2.setCell ⟨Q, 1, none⟩ (.int .i64 0)).heap.size = Q + 1 := (size_set _ _ _).trans s2
 clear d2 p2 s2 n1 y1
 generalize w2.setCell ⟨Q, 1, none⟩ (.int .i64 0) = w3 at *
 repeat (first | refine Walk.cx ?_ | (refine Walk.cReg ?_; simp only [z4]) | (refine Walk.oq ?_; try walk_nrm) | (refine Walk.un ?_; walk_nrm))
 refine Walk.loadS 34 (.tmp 5) (ho_of (by conv => lhs; whnf) (by kernel_rfl)) (by rfl) (by decide) rfl Q 0 [.int .i64 o.k, .int .i64 0, .int .i64 o.b, .int .i64 o.c] (.struct fsO) rfl (fun y v hv => ?_) huO rfl (by kernel_rfl) ?_
 ·rw [Nat.zero_add, cell_of d3]
  simpa using hv
 walk_nrm
 (refine Walk.oa ?_; try walk_nrm)
 have d4 := heap_alloc_new w3 (.cells #[.int .i64 o.k, .int .i64 0, .int .i64 o.b, .int .i64 o.c] 34)
 have p4 : ∀ b, b < Q → (w3.alloc (.cells #[.int .i64 o.k, .int .i64 0, .int .i64 o.b, .int .i64 o.c] 34)).heap[b]? = w.heap[b]? := fun b hb => (heap_new_lt _ _ (by omega)).trans (p3 b hb)
 have s4 : (w3.alloc (.cells #[.int .i64 o.k, .int .i64 0, .int .i64 o.b, .int .i64 o.c] 34)).heap.size = Q + 2 := by simp [s3]
 have hrow4 : (w3.alloc (.cells #[.int .i64 o.k, .int .i64 0, .int .i64 o.b, .int .i64 o.c] 34)).ownsRow W.heap.size 34 4 (.slice oa j oc) j (opRow pre) := row_same hrow0 fun b hb => p4 b (by have := (hrow0.lt b hb).2; omega)
 rw [s3] at d4
 try simp only [s3]
 generalize w3.alloc (.cells #[.int .i64 o.k, .int .i64 0, .int .i64 o.b, .int .i64 o.c] 34) = w4 at *
 clear d3 p3 s3
 repeat (first | (refine Walk.oq ?_; try walk_nrm) | (refine Walk.un ?_; walk_nrm))
 refine Walk.append (.tmp 29) (.tmp 31) 32 (ho_of (by conv => lhs; whnf) (by kernel_rfl)) (by rfl) (by decide) rfl W.heap.size 34 _ (.agg #[.int .i64 0, .int .i64 0, .int .i64 0, .int .i64 0]) 4 32 (by kernel_rfl) hiO.symm (by rfl) (by rfl) (by rfl) (by rfl) (by decide) (.slice oa j oc) j (opRow pre) rfl hrow4 ⟨Q + 1, 0, none⟩ 1 1 [.int .i64 o.k, .int .i64 0, .int .i64 o.b, .int .i64 o.c] rfl (by rfl) (fun y v hv => ?_) (by intro v hv; simp only [List.mem_cons, List.not_mem_nil, or_false] at hv; rcases hv with rfl | rfl | rfl | rfl <;> rfl) (by decide) (by simp [maxLen]; omega) (by omega) (by omega) (fun b _ => ap0 b) (fun g gcap w5 hown hgr hat hlt => ?_)
 ·rw [add_none, Nat.zero_add]
  refine (cell_of d4 y).trans ?_
  simpa using hv
 have s5 := hgr.size
 have hne : ∀ b, b < W.heap.size → w5.heap[b]? = w4.heap[b]? := fun b hb => hgr.block b (by omega) fun he => by have := (hrow4.lt b he.symm).1; omega
 have hro : opRow pre ++ [.int .i64 o.k, .int .i64 0, .int .i64 o.b, .int .i64 o.c] = opRow (pre ++ [ownO o]) := by simp [opRow, ownO]
 have hlen : (pre ++ [ownO o]).length = j + 1 := by simp [hpj]
 rw [hro] at hown
 walk_nrm
 repeat (first | refine Walk.cx ?_ | (refine Walk.cReg ?_; simp only [z4]) | (refine Walk.oq ?_; try walk_nrm) | (refine Walk.un ?_; walk_nrm))
 refine Walk.ctl rfl (fun w => stepG_inLoop) ?_
 refine .stop fun d => ⟨some ⟨g, 0, none⟩, gcap, at_slots ?_, ⟨by rw [hlen]; exact hown, fun b hb => (hne b hb).trans ((p4 b (by omega)).trans (hold0 b hb)), ?_⟩⟩
 ·have hc : ((j + 1 : Nat) : Int) = (j : Int) + 1 := by simp
  simp only [hdOwn, hc]
  rfl
 ·show W.heap.size ≤ w5.heap.size
  omega
theorem own_loop (ta : Option Addr) (tb toff n0 tc : Nat) (ops : List OpV) (hlen : ops.length = n0) (hn0 : n0 ≤ 4398046511104) (hta : 0 < n0 → ta = some ⟨tb, toff, none⟩) (cs : List Frame) (W : World)
  (hop : ∀ (j : Nat) (o : OpV), ops[j]? = some o → W.cell? ⟨tb, toff + j * 4, none⟩ = some (.int .i64 o.k) ∧ W.cell? ⟨tb, toff + j * 4 + 1, none⟩ = some (.int .i64 o.a) ∧ W.cell? ⟨tb, toff + j * 4 + 2, none⟩ = some (.int .i64 o.b) ∧ W.cell? ⟨tb, toff + j * 4 + 3, none⟩ = some (.int .i64 o.c)) :
  ∀ (r j : Nat) (oa : Option Addr) (oc : Nat) (u : Nat → Value) (w : World), j + r = n0 → OwI W w ((ops.take j).map ownO) oa oc →
  Walk Try.prog main (DR (fun _ => none)) (fun g w' => ∃ oa oc, (∃ u, g = G (hdOwn ta n0 tc (.slice oa n0 oc) n0 u) cs) ∧ OwI W w' (ops.map ownO) oa oc) (G (hdOwn ta n0 tc (.slice oa j oc) j u) cs) w := by
 intro r
 induction r with
 | zero =>
  intro j oa oc u w hj H
  obtain rfl : j = n0 := hj
  rw [List.take_of_length_le (by omega)] at H
  exact .stop fun d => ⟨oa, oc, ⟨u, rfl⟩, H.row, H.old, H.size⟩
 | succ r ih =>
  intro j oa oc u w hj H
  have hjo : j < ops.length := by omega
  have hget : ops[j]? = some ops[j] := List.getElem?_eq_getElem hjo
  obtain ⟨k0, k1, k2, k3⟩ := hop j _ hget
  refine (own_round ta tb toff n0 tc j _ (ops[j]) oa oc (by simp; omega) (by omega) hn0 (hta (by omega)) u cs W w H k0 k1 k2 k3).then ?_
  rintro _ w1 ⟨oa1, oc1, ⟨u1, rfl⟩, H1⟩
  have ht : (ops.take j).map ownO ++ [ownO ops[j]] = (ops.take (j + 1)).map ownO := by
   rw [List.take_succ_eq_append_getElem hjo, List.map_append]
   rfl
  rw [ht] at H1
  exact ih (j + 1) oa1 oc1 u1 w1 (by omega) H1
end
end
section
section
variable {main : Bool} {S Sm : Nat → Prop} {m cb n cc b : Nat} {tl : Value} {s : Oz} {ops : List OpV} {oa : Option Addr} {oc k : Nat} {PC : Int} {N : Nat → Int} {ans : List Ans} {aa : Option Addr} {ac : Nat} {e : Bool}
theorem mbg_good (o : OpV) (u : Nat → Value) (cs : List Frame) (w : World) (M : OmX Sm m cb n cc tl s w) (X : ThX S b ops oa oc (k : Nat) 0 N ans aa ac e w) (hl : ops.length ≤ 65536) (ho : ops[k]? = some o) (h1 : 1 ≤ o.k) (h4 : o.k ≤ 4) (ha0 : 0 ≤ o.a) (ha1 : o.a < n) :
  Walk Try.prog main (DR (fun _ => none)) (fun g w' => (∃ u, g = G (hdBg m b u) cs) ∧ ThX S b ops oa oc (k : Nat) (if o.k = 4 then 30 else 10 * o.k) (upd N 1 (triesX o.c : Nat)) ans aa ac e w' ∧ Chg S w w') (G (hdBg m b u) cs) w := by
 have hkl := (List.getElem?_eq_some_iff.1 ho).1
 have c0 := tcO X.blk
 have c1 := tcI X.blk
 have c2 := tcP X.blk
 have hk1 : ((k : Int) < (ops.length : Int)) := by omega
 have hk2 : decide (k < ops.length) = true := by simpa using hkl
 have hia1 := fun (a : Addr) (w : World) (es : Array Event) => events_indexAt_array (P := Try.prog) (w := w) (es := es) 156 2 8 a .i64 (1 : Int) (by kernel_rfl) ⟨by decide, by decide⟩
 conv => arg 5; unfold hdBg
 repeat (first | refine Walk.cx ?_ | (refine Walk.cReg ?_; simp only [z34]) | (refine Walk.oq ?_; try walk_nrm) | (refine Walk.un ?_; walk_nrm))
 (refine Walk.drawnC (by kernel_rfl) size34_0 (by kernel_rfl) (by kernel_rfl) (by decide) ?_; simp only [List.range, List.range.loop]; repeat (first | (refine Cm.oq ?_) | (refine Cm.unw (ho_of (by conv => lhs; whnf) (by kernel_rfl)) (by rfl) ?_; walk_nrm)))
 refine Cm.done ?_
 repeat (first | refine Walk.cx ?_ | (refine Walk.cReg ?_; simp only [z34]) | (refine Walk.oq ?_; try walk_nrm) | (refine Walk.un ?_; walk_nrm))
 refine Walk.callW (Post := fun v w' => v = opVal o ∧ Chg (fun _ => False) w w') ?_ (ho_of (by conv => lhs; whnf) (by kernel_rfl)) (by rfl) (by decide) rfl Try.func60 (by kernel_rfl) (by rfl) ?_
 ·walk_nrm
  exact op_w o w X ho hl
 rintro v w1 ⟨rfl, hC1⟩
 obtain ⟨ok, o1, o2, o3⟩ := o
 have hB := boxW_chg w1 ⟨ok, o1, o2, o3⟩
 have hBat := boxW_at w1 ⟨ok, o1, o2, o3⟩
 have hd0 := heap_alloc_new w1 (.cells #[.int .i64 0, .int .i64 0, .int .i64 0, .int .i64 0] 34)
 simp only [opVal] at *
 clear c0 c1 c2 hk1 hk2
 walk_nrm
 (refine Walk.oa ?_; try walk_nrm)
 repeat (first | (refine Walk.oq ?_; try walk_nrm) | (refine Walk.un ?_; walk_nrm))
 refine Walk.storeS 34 (.tmp 4) (.tmp 23) (ho_of (by conv => lhs; whnf) (by kernel_rfl)) (by rfl) (by decide) rfl w1.heap.size #[.int .i64 ok, .int .i64 o1, .int .i64 o2, .int .i64 o3] _ 34 rfl rfl hd0 (by kernel_rfl) (by rfl) (by simp [Value.oneCell']) (ap0 _) ?_
 have hC2 : Chg (fun _ => False) w (boxW w1 ⟨ok, o1, o2, o3⟩) := hC1.trans hB fun _ _ h => h
 have hP : w.heap.size ≤ w1.heap.size := hC1.size
 generalize hw2 : boxW w1 ⟨ok, o1, o2, o3⟩ = w2 at *
 unfold boxW at hw2
 dsimp only at hw2
 rw [hw2]
 generalize w1.heap.size = P at *
 clear hd0 hw2
 have X2 : ThX S b ops oa oc (k : Nat) 0 N ans aa ac e w2 := X.same fun g hg _ => hC2.same g hg (fun h => h)
 have M2 := M.chg hC2 fun _ _ _ h => h
 have hbP : b ≠ P := by have := X.lt; omega
 have m0 := M2.c0
 have p0 := (cell_of hBat 0).trans rfl
 have p1 := (cell_of hBat 1).trans rfl
 have q1 : decide (o1 < 0) = false := by simp only [decide_eq_false_iff_not]; omega
 have q2 : decide ((n : Int) ≤ o1) = false := by simp only [decide_eq_false_iff_not]; omega
 have q3 : decide (ok < 1) = false := by simp only [decide_eq_false_iff_not]; omega
 have q4 : decide (4 < ok) = false := by simp only [decide_eq_false_iff_not]; omega
 have hw1 : IntKind.i64.wrap (10 * ok) = 10 * ok := by rw [IntKind.wrap_i64]; omega
 walk_nrm
 repeat (first | refine Walk.cx ?_ | (refine Walk.cReg ?_; simp only [z34]) | (refine Walk.oq ?_; try walk_nrm) | (refine Walk.un ?_; walk_nrm))
 (refine Walk.drawnC (by kernel_rfl) size34_2 (by kernel_rfl) (by kernel_rfl) (by decide) ?_; simp only [List.range, List.range.loop]; repeat (first | (refine Cm.oq ?_) | (refine Cm.unw (ho_of (by conv => lhs; whnf) (by kernel_rfl)) (by rfl) ?_; walk_nrm)))
 refine Cm.done ?_
 have k2 := tcP X2.blk
 have z2 := frozen_of X2.blk 2
 repeat (first | refine Walk.cx ?_ | (refine Walk.cReg ?_; simp only [z34]) | (refine Walk.oq ?_; try walk_nrm) | (refine Walk.un ?_; walk_nrm))
 (have hfr := fr0 b 2; refine Walk.os hfr k2 ?_; clear hfr; try walk_nrm)
 have X3 : ThX S b ops oa oc (k : Nat) (10 * ok) N ans aa ac e (w2.setCell ⟨b, 2, none⟩ (.int .i64 (10 * ok))) := X2.put (by rw [heap_set_self _ _ X2.blk, thA_PC]) fun g hg _ _ => heap_set_other _ _ _ _ hg
 have hC3 : Chg S w (w2.setCell ⟨b, 2, none⟩ (.int .i64 (10 * ok))) := Chg.trans (hC2.mono fun _ _ h => h.elim) (Chg.set X.sb) fun _ _ h => h
 have hB3 : (w2.setCell ⟨b, 2, none⟩ (.int .i64 (10 * ok))).heap[P]? = _ := (heap_set_other _ _ _ _ (Ne.symm hbP)).trans hBat
 clear p0 p1 m0 q1 q2 q3 q4 k2 z2 hw1
 generalize w2.setCell ⟨b, 2, none⟩ (.int .i64 (10 * ok)) = w3 at *
 have p3 := (cell_of hB3 3).trans rfl
 have k1 := tc1 X3.blk
 have z1 := frozen_of X3.blk 4
 have hT := tries_w (main := main) (V := fun _ => none) o3 w3
 generalize triesX o3 = tr at *
 repeat (first | refine Walk.cx ?_ | (refine Walk.cReg ?_; simp only [z34]) | (refine Walk.oq ?_; try walk_nrm) | (refine Walk.un ?_; walk_nrm))
 (refine Walk.drawnL (by kernel_rfl) size34_5 (by kernel_rfl) (by kernel_rfl) (by kernel_rfl) (by decide) ?_; simp only [List.range, List.range.loop]; repeat (first | (refine Cm.oq ?_) | (refine Cm.unw (ho_of (by conv => lhs; whnf) (by kernel_rfl)) (by rfl) ?_; walk_nrm)))
 refine Cm.callV (x := .int .i64 (tr : Nat)) ?_ (ho_of (by conv => lhs; whnf) (by kernel_rfl)) (by rfl) rfl Try.func62 (by kernel_rfl) (by rfl) ?_
 ·intro w' he
  subst he
  walk_nrm
  exact hT
 walk_nrm
 repeat (first | (refine Cm.oq ?_) | (refine Cm.unw (ho_of (by conv => lhs; whnf) (by kernel_rfl)) (by rfl) ?_; walk_nrm))
 refine Cm.done ?_
 intro rest hr
 (have hfr := fr0 b 4; refine Walk.os hfr k1 ?_; clear hfr; try walk_nrm)
 refine hr _ _ ?_
 have X4 : ThX S b ops oa oc (k : Nat) (10 * ok) (upd N 1 (tr : Nat)) ans aa ac e (w3.setCell ⟨b, 4, none⟩ (.int .i64 (tr : Nat))) := X3.put (by rw [heap_set_self _ _ X3.blk, thA_1]) fun g hg _ _ => heap_set_other _ _ _ _ hg
 have hC4 : Chg S w (w3.setCell ⟨b, 4, none⟩ (.int .i64 (tr : Nat))) := Chg.trans hC3 (Chg.set X.sb) fun _ _ h => h
 have hB4 : (w3.setCell ⟨b, 4, none⟩ (.int .i64 (tr : Nat))).heap[P]? = _ := (heap_set_other _ _ _ _ (Ne.symm hbP)).trans hB3
 clear p3 k1 z1 hT
 generalize w3.setCell ⟨b, 4, none⟩ (.int .i64 (tr : Nat)) = w4 at *
 have p0 := (cell_of hB4 0).trans rfl
 have k2 := tcP X4.blk
 have z2 := frozen_of X4.blk 2
 try walk_nrm
 by_cases hk4 : ok = 4
 ·subst hk4
  repeat (first | refine Walk.cx ?_ | (refine Walk.cReg ?_; simp only [z34]) | (refine Walk.oq ?_; try walk_nrm) | (refine Walk.un ?_; walk_nrm))
  (have hfr := fr0 b 2; refine Walk.os hfr k2 ?_; clear hfr; try walk_nrm)
  have X5 : ThX S b ops oa oc (k : Nat) 30 (upd N 1 (tr : Nat)) ans aa ac e (w4.setCell ⟨b, 2, none⟩ (.int .i64 30)) := X4.put (by rw [heap_set_self _ _ X4.blk, thA_PC]) fun g hg _ _ => heap_set_other _ _ _ _ hg
  have hC5 : Chg S w (w4.setCell ⟨b, 2, none⟩ (.int .i64 30)) := Chg.trans hC4 (Chg.set X.sb) fun _ _ h => h
  generalize w4.setCell ⟨b, 2, none⟩ (.int .i64 30) = w5 at *
  repeat (first | refine Walk.cx ?_ | (refine Walk.cReg ?_; simp only [z34]) | (refine Walk.oq ?_; try walk_nrm) | (refine Walk.un ?_; walk_nrm))
  refine Walk.ctl rfl (fun w => stepG_inLoop) ?_
  refine .stop fun d => ⟨at_slots ?_, X5.at d, hC5.at d⟩
  simp only [hdBg]
  rfl
 ·have hb4 : (ok == 4) = false := by simp [hk4]
  simp only [if_neg hk4]
  repeat (first | refine Walk.cx ?_ | (refine Walk.cReg ?_; simp only [z34]) | (refine Walk.oq ?_; try walk_nrm) | (refine Walk.un ?_; walk_nrm))
  refine Walk.ctl rfl (fun w => stepG_inLoop) ?_
  refine .stop fun d => ⟨at_slots ?_, X4.at d, hC4.at d⟩
  simp only [hdBg]
  rfl
theorem mbg_out (m : Nat) (u : Nat → Value) (c : Frame) (cs : List Frame) (w : World) (X : ThX S b ops oa oc (k : Nat) PC N ans aa ac e w) (h : PC ≠ 0 ∨ k = ops.length) (hk : k ≤ ops.length) :
  Walk Try.prog main (DR (fun _ => none)) (fun g w' => g = G (c.finish (.tuple #[])) cs ∧ ThX S b ops oa oc (k : Nat) PC N ans aa ac (decide (k = ops.length)) w' ∧ Chg S w w') (G (hdBg m b u) (c :: cs)) w := by
 have c0 := tcO X.blk
 have c1 := tcI X.blk
 have c2 := tcP X.blk
 have c13 := tcE X.blk
 have z13 := frozen_of X.blk 13
 have hdec : decide ((ops.length : Int) ≤ (k : Int)) = decide (k = ops.length) := decide_eq_decide.2 (by omega)
 have hdec2 : decide (ops.length ≤ k) = decide (k = ops.length) := decide_eq_decide.2 (by omega)
 have fin : ∀ d, ThX S b ops oa oc (k : Nat) PC N ans aa ac (decide (k = ops.length)) ((w.setCell ⟨b, 13, none⟩ (.bool (decide (k = ops.length)))).at d) ∧ Chg S w ((w.setCell ⟨b, 13, none⟩ (.bool (decide (k = ops.length)))).at d) := fun d => ⟨ThX.at (X.put (by rw [heap_set_self _ _ X.blk, thA_E]) fun g hg _ _ => heap_set_other _ _ _ _ hg) d, Chg.at (Chg.set X.sb) d⟩
 clear X
 unfold hdBg
 by_cases hp : PC = 0
 ·have hkn : k = ops.length := h.resolve_left fun h => h hp
  subst hp
  have hd1 : decide (k < ops.length) = false := by simp; omega
  have hd2 : decide ((k : Int) < (ops.length : Int)) = false := by simp; omega
  clear h
  have hee : decide (k = ops.length) = true := decide_eq_true hkn
  rw [hee] at fin hdec hdec2
  simp only [hee]
  clear hee
  repeat (first | refine Walk.cx ?_ | (refine Walk.cReg ?_; simp only [z34]) | (refine Walk.oq ?_; try walk_nrm) | (refine Walk.un ?_; walk_nrm))
  (refine Walk.drawnC (by kernel_rfl) size34_0 (by kernel_rfl) (by kernel_rfl) (by decide) ?_; simp only [List.range, List.range.loop]; repeat (first | (refine Cm.oq ?_) | (refine Cm.unw (ho_of (by conv => lhs; whnf) (by kernel_rfl)) (by rfl) ?_; walk_nrm)))
  refine Cm.done ?_
  repeat (first | refine Walk.cx ?_ | (refine Walk.cReg ?_; simp only [z34]) | (refine Walk.oq ?_; try walk_nrm) | (refine Walk.un ?_; walk_nrm))
  clear hd1 hd2
  (refine Walk.drawnL (by kernel_rfl) size34_8 (by kernel_rfl) (by kernel_rfl) (by kernel_rfl) (by decide) ?_; simp only [List.range, List.range.loop]; repeat (first | (refine Cm.oq ?_) | (refine Cm.unw (ho_of (by conv => lhs; whnf) (by kernel_rfl)) (by rfl) ?_; walk_nrm)))
  try simp only [hdec, hdec2]
  refine Cm.done ?_
  intro rest hr
  (have hfr := fr0 b 13; refine Walk.os hfr c13 ?_; clear hfr; try walk_nrm)
  refine hr _ _ ?_
  clear c0 c1 c2 c13 z13
  generalize w.setCell ⟨b, 13, none⟩ (.bool true) = w1 at *
  try walk_nrm
  repeat (first | refine Walk.cx ?_ | (refine Walk.cReg ?_; simp only [z34]) | (refine Walk.oq ?_; try walk_nrm) | (refine Walk.un ?_; walk_nrm))
  exact Walk.ctl rfl (fun w => stepG_leave rfl rfl Try.func34 (results_none rfl _ _ w) (events_results_none rfl _ _)) (.stop fun d => ⟨rfl, fin d⟩)
 ·have hpb : (PC == 0) = false := by simpa using hp
  have hpd : decide (PC = 0) = false := by simpa using hp
  clear h
  generalize decide (k = ops.length) = ee at *
  repeat (first | refine Walk.cx ?_ | (refine Walk.cReg ?_; simp only [z34]) | (refine Walk.oq ?_; try walk_nrm) | (refine Walk.un ?_; walk_nrm))
  (refine Walk.drawnC (by kernel_rfl) size34_0 (by kernel_rfl) (by kernel_rfl) (by decide) ?_; simp only [List.range, List.range.loop]; repeat (first | (refine Cm.oq ?_) | (refine Cm.unw (ho_of (by conv => lhs; whnf) (by kernel_rfl)) (by rfl) ?_; walk_nrm)))
  refine Cm.done ?_
  repeat (first | refine Walk.cx ?_ | (refine Walk.cReg ?_; simp only [z34]) | (refine Walk.oq ?_; try walk_nrm) | (refine Walk.un ?_; walk_nrm))
  (refine Walk.drawnL (by kernel_rfl) size34_8 (by kernel_rfl) (by kernel_rfl) (by kernel_rfl) (by decide) ?_; simp only [List.range, List.range.loop]; repeat (first | (refine Cm.oq ?_) | (refine Cm.unw (ho_of (by conv => lhs; whnf) (by kernel_rfl)) (by rfl) ?_; walk_nrm)))
  try simp only [hdec, hdec2]
  refine Cm.done ?_
  intro rest hr
  (have hfr := fr0 b 13; refine Walk.os hfr c13 ?_; clear hfr; try walk_nrm)
  refine hr _ _ ?_
  clear c0 c1 c2 c13 z13
  generalize w.setCell ⟨b, 13, none⟩ (.bool ee) = w1 at *
  try walk_nrm
  repeat (first | refine Walk.cx ?_ | (refine Walk.cReg ?_; simp only [z34]) | (refine Walk.oq ?_; try walk_nrm) | (refine Walk.un ?_; walk_nrm))
  exact Walk.ctl rfl (fun w => stepG_leave rfl rfl Try.func34 (results_none rfl _ _ w) (events_results_none rfl _ _)) (.stop fun d => ⟨rfl, fin d⟩)
end
theorem enter_of (n : Nat) (s : Oz) (o : OpV) : ((o.a < 0 ∨ (n : Int) ≤ o.a ∨ o.k < 1 ∨ 4 < o.k) ∧ onEnter n s o = (s, .inl (false, 0))) ∨ (1 ≤ o.k ∧ o.k ≤ 4 ∧ 0 ≤ o.a ∧ o.a < n ∧ ∃ d, onEnter n s o = (s, .inr d) ∧ ∀ N, oR n o (if o.k = 4 then 30 else 10 * o.k) (upd N 1 (triesX o.c : Nat)) d) := by
 by_cases h0 : o.a < 0 ∨ (n : Int) ≤ o.a
 ·exact .inl ⟨h0.imp id .inl, onEnter_out h0⟩
 have h1 : 0 ≤ o.a ∧ o.a < n := by omega
 have ht : ((o.a.toNat : Nat) : Int) = o.a := by omega
 have hc : o.a.toNat < n := by omega
 obtain ⟨t1, t2⟩ := triesX_lo o.c
 rw [onEnter_in h0]
 by_cases k1 : o.k = 1
 ·exact .inr ⟨by omega, by omega, h1.1, h1.2, _, if_pos k1, fun N => ⟨by rw [if_neg (by omega)]; omega, ht.symm, hc⟩⟩
 rw [if_neg k1]
 by_cases k2 : o.k = 2
 ·exact .inr ⟨by omega, by omega, h1.1, h1.2, _, if_pos k2, fun N => ⟨by rw [if_neg (by omega)]; omega, ht.symm, hc, rfl⟩⟩
 rw [if_neg k2]
 by_cases k3 : o.k = 3
 ·exact .inr ⟨by omega, by omega, h1.1, h1.2, _, if_pos k3, fun N => ⟨by rw [if_neg (by omega)]; omega, ht.symm, hc, .inr ⟨rfl, by omega, rfl⟩, upd_same _ _ _, t1, t2⟩⟩
 rw [if_neg k3]
 by_cases k4 : o.k = 4
 ·exact .inr ⟨by omega, by omega, h1.1, h1.2, _, if_pos k4, fun N => ⟨by rw [if_pos k4], ht.symm, hc, .inl ⟨rfl, k4⟩, upd_same _ _ _, t1, t2⟩⟩
 rw [if_neg k4]
 exact .inl ⟨by omega, rfl⟩
section
variable {main : Bool} {S Sm : Nat → Prop} {b : Nat} {ops : List OpV} {oa : Option Addr} {oc : Nat} {e : Bool} {kb m cb n cc : Nat} {tl : Value} {s0 : Oz}
def TisR (L : La) (f : L.D → OD) (S : Nat → Prop) (n b : Nat) (ops : List OpV) (oa : Option Addr) (oc : Nat) (t : Tst L) (w : World) : Prop := TIs S n b ops oa oc t.left (t.d.map f) t.ans (t.d.isNone) w
theorem settle_same (s : Oz) : ∀ (l : List OpV) (az : List Ans), (settleO (onLa kb n) s l az).1 = s
 | [], _ => rfl
 | o :: l, az => by
  show (landO (onLa kb n) (onEnter n s o) l az).1 = s
  rcases enter_of n s o with ⟨_, h⟩ | ⟨_, _, _, _, d, h, _⟩
  ·rw [h]; exact settle_same s l _
  ·rw [h]; rfl
theorem mbg_loop (hl : ops.length ≤ 65536) (s : Oz) (c : Frame) (cs : List Frame) : ∀ (r k : Nat) (S' : Nat → Prop) (N : Nat → Int) (ans : List Ans) (aa : Option Addr) (ac : Nat) (u : Nat → Value) (w : World), (∀ g, g = m ∨ g = cb → ¬ S' g) → OmX (fun g => g = m ∨ g = cb) m cb n cc tl s0 w → k + r = ops.length → ans.length = k → ThX S' b ops oa oc (k : Nat) 0 N ans aa ac e w →
  Walk Try.prog main (DR (fun _ => none)) (fun g w' => g = G (c.finish (.tuple #[])) cs ∧ TisR (onLa kb n) id (fun g => S' g ∨ w.heap.size ≤ g) n b ops oa oc (settleO (onLa kb n) s (ops.drop k) ans).2 w' ∧ Chg S' w w') (G (hdBg m b u) (c :: cs)) w := by
 intro r
 induction r with
 | zero =>
  intro k S' N ans aa ac u w hd M hk ha X
  obtain rfl : k = ops.length := hk
  refine (mbg_out m u c cs w X (.inr rfl) (Nat.le_refl _)).mono ?_
  rintro g w' ⟨rfl, X', hC⟩
  refine ⟨rfl, ?_, hC⟩
  rw [List.drop_length]
  exact ⟨ops.length, 0, N, aa, ac, (by rw [decide_eq_true rfl] at X'; exact X'.mono fun _ h => .inl h), ha, .inl ⟨rfl, rfl, rfl⟩⟩
 | succ r ih =>
  intro k S' N ans aa ac u w hd M hk ha X
  have hkl : k < ops.length := by omega
  have ho : ops[k]? = some ops[k] := List.getElem?_eq_getElem hkl
  have hdrop : ops.drop k = ops[k] :: ops.drop (k + 1) := List.drop_eq_getElem_cons hkl
  rw [hdrop]
  show Walk Try.prog main (DR (fun _ => none)) (fun g w' => g = G (c.finish (.tuple #[])) cs ∧ TisR (onLa kb n) id (fun g => S' g ∨ w.heap.size ≤ g) n b ops oa oc (landO (onLa kb n) (onEnter n s ops[k]) (ops.drop (k + 1)) ans).2 w' ∧ Chg S' w w') _ _
  generalize ops[k] = o at *
  rcases enter_of n s o with ⟨hb, h⟩ | ⟨h1, h4, h5, h6, d, h, hdd⟩
  ·rw [h]
   refine (mbg_bad o u (c :: cs) w M X hl (by omega) ho hb).then ?_
   rintro g w1 ⟨⟨u', rfl⟩, ⟨aa', ac', X'⟩, hC⟩
   have hlt := M.lt
   refine (ih (k + 1) _ N _ aa' ac' u' w1 (fun g h h2 => ?_) (M.chg hC fun g _ h => hd g h) (by omega) (by simp; omega) X').mono ?_
   ·rcases h2 with h2 | h2
    ·exact hd g h h2
    ·rcases h with rfl | rfl <;> omega
   rintro g w' ⟨rfl, hT, hC'⟩
   have hs := hC.size
   refine ⟨rfl, TIs.mono hT fun g hg => ?_, hC.trans hC' fun b hb h => h.resolve_right (by omega)⟩
   rcases hg with (h | h) | h
   ·exact .inl h
   ·exact .inr h
   ·exact .inr (by omega)
  ·rw [h]
   refine (mbg_good o u (c :: cs) w M X hl ho h1 h4 h5 h6).then ?_
   rintro g w1 ⟨⟨u', rfl⟩, X', hC⟩
   refine (mbg_out m u' c cs w1 X' (.inl (by split <;> omega)) (by omega)).mono ?_
   rintro g w' ⟨rfl, X2, hC'⟩
   have hf : decide (k = ops.length) = false := by simp; omega
   rw [hf] at X2
   exact ⟨rfl, ⟨k, _, _, aa, ac, X2.mono fun _ h => .inl h, ha, .inr ⟨d, o, rfl, ho, rfl, hdd N, rfl⟩⟩, hC.trans hC' fun _ _ h => h⟩
theorem OmX.only {Sm : Nat → Prop} {w : World} (M : OmX Sm m cb n cc tl s0 w) : OmX (fun g => g = m ∨ g = cb) m cb n cc tl s0 w := ⟨M.blk, M.row, .inl rfl, .inr rfl, M.ne⟩
theorem mbg_w (k : Nat) (N : Nat → Int) (ans : List Ans) (aa : Option Addr) (ac : Nat) (s : Oz) (w : World) (M : OmX Sm m cb n cc tl s0 w) (hdis : ∀ g, Sm g → ¬ S g) (hl : ops.length ≤ 65536) (hk : k ≤ ops.length) (ha : ans.length = k) (X : ThX S b ops oa oc (k : Nat) 0 N ans aa ac e w) :
  CallW Try.prog main (fun _ => none) 34 #[.pointer (some ⟨m, 0, none⟩), .pointer (some ⟨b, 0, none⟩)] w (fun v w' => v = .tuple #[] ∧ TisR (onLa kb n) id (fun g => S g ∨ w.heap.size ≤ g) n b ops oa oc (settleO (onLa kb n) s (ops.drop k) ans).2 w' ∧ Chg S w w') := by
 intro c cs
 refine (mbg_in m b (c :: cs) w).then ?_
 rintro g w1 ⟨⟨u, rfl⟩, d, rfl⟩
 refine Walk.back ?_ d
 refine (mbg_loop (kb := kb) hl s c cs (ops.length - k) k S N ans aa ac u w (fun g h => by rcases h with rfl | rfl; exact hdis _ M.sm; exact hdis _ M.sc) M.only (by omega) ha X).mono ?_
 rintro g w' ⟨rfl, h⟩
 exact ⟨_, ⟨rfl, h⟩, rfl⟩
theorem mbg_on (m k : Nat) (PC : Int) (N : Nat → Int) (ans : List Ans) (aa : Option Addr) (ac : Nat) (o : OpV) (d : OD) (w : World) (ho : ops[k]? = some o) (ha : ans.length = k) (X : ThX S b ops oa oc (k : Nat) PC N ans aa ac e w) (hd : oR n o PC N d) :
  CallW Try.prog main (fun _ => none) 34 #[.pointer (some ⟨m, 0, none⟩), .pointer (some ⟨b, 0, none⟩)] w (fun v w' => v = .tuple #[] ∧ TisR (onLa kb n) id (fun g => S g ∨ w.heap.size ≤ g) n b ops oa oc ⟨ops.drop (k + 1), some d, ans⟩ w' ∧ Chg S w w') := by
 intro c cs
 have hkl := (List.getElem?_eq_some_iff.1 ho).1
 have hp := oR_pos hd
 refine (mbg_in m b (c :: cs) w).then ?_
 rintro g w1 ⟨⟨u, rfl⟩, d1, rfl⟩
 refine Walk.back ?_ d1
 refine (mbg_out m u c cs w X (.inl (by omega)) (by omega)).mono ?_
 rintro g w' ⟨rfl, X2, hC'⟩
 have hf : decide (k = ops.length) = false := by simp; omega
 rw [hf] at X2
 exact ⟨_, ⟨rfl, ⟨k, PC, N, aa, ac, X2.mono fun _ h => .inl h, ha, .inr ⟨d, o, rfl, ho, rfl, hd, rfl⟩⟩, hC'⟩, rfl⟩
end
end
end Go.Proofs.Ytdcjgmlgmjjogaa
