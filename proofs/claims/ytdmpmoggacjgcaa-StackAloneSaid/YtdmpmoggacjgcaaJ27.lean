/- Part 27. -/
import Derived.Test.YtdmpmoggacjgcaaJ14
import Derived.Test.YtdmpmoggacjgcaaJ19
import Derived.Test.YtdmpmoggacjgcaaJ24
import Derived.Test.YtdmpmoggacjgcaaJ26
set_option linter.unusedSimpArgs false
set_option linter.unusedVariables false
set_option maxHeartbeats 8000000
set_option maxRecDepth 100000
namespace Go.Proofs.Ytdmpmoggacjgcaa
open Go.Conc Go.RowKit Go.Relay
open Go.ConcN (upd upd_ne upd_same)
section
noncomputable def reg34_0 := rg Try.f34.body [0]
noncomputable def reg34_1 := rg Try.f34.body [1, 0]
noncomputable def reg34_2 := rg Try.f34.body [1, 1, 0]
theorem z34 : List.range reg34_0.size = [0] ∧ List.range reg34_1.size = [0, 1, 2, 3, 4, 5, 6, 7, 8, 9, 10] ∧ List.range reg34_2.size = [0, 1, 2, 3, 4, 5, 6, 7, 8] := by refine ⟨?_, ?_, ?_⟩ <;> kernel_rfl
theorem code34_is : Try.f34.body = some (.seq (.region 0 reg34_0 false) (.seq (.region 1 reg34_1 false) (.seq (.region 2 reg34_2 false) (.ret)))) := by kernel_rfl
theorem VI.cells {w0 w : World} {l : List Int} {ta : Option Addr} {tc : Nat} (H : VI w0 w l ta tc) (hl : l ≠ []) : ∃ g, ta = some ⟨g, 0, none⟩ ∧ w0.heap.size ≤ g ∧ ∀ (j : Nat) (x : Value), (intRow l)[j]? = some x → w.cell? ⟨g, j, none⟩ = some x := by
 rcases H.row.2 with ⟨_, e⟩ | ⟨g, cap, cur, e, hb, hh, hc, _, hs, ht⟩
 ·exact absurd (List.length_eq_zero_iff.1 e) hl
 ·injection e with e1 _ _
  refine ⟨g, e1, hb, fun j x hx => ?_⟩
  refine (cell_of hh j).trans ?_
  rw [← ht, List.getElem?_take] at hx
  split at hx
  ·simpa using hx
  ·cases hx
section
variable {main : Bool} {V : Nat → Option Wait} {kb nb n : Nat} {tg : Bool}
def stateX (n : Nat) (s : Sk) : List Int := [nodeX s.hd, tagX s.hd, nodeX s.fr, tagX s.fr] ++ valsX s n (nodeX s.hd)
theorem state_w (hne : kb ≠ nb) (s : Sk) (w : World) (I : SkI kb nb n tg s w) (hn : n ≤ 65536) (hA : ∀ b, Apart V b) (hl : valsX s n (nodeX s.hd) ≠ []) (hlen : (valsX s n (nodeX s.hd)).length ≤ 65536) : CallW Try.prog main V 34 #[.pointer (some ⟨kb, 0, none⟩)] w (ValOut w (stateX n s)) := by
 intro c cs
 have hi2 := Option.some_get (show (Try.prog.info? 2).isSome = true by kernel_rfl)
 rw [enter_at _ Try.func34 code34_is]
 simp only [Try.ntmps34, ez, Nat.reduceAdd, Nat.reduceSub]
 refine Walk.gz z34 ?_
 refine Walk.callV (x := headsV s) (W := w) ?_ hoA (by rfl) (by decide) rfl Try.func19 (by kernel_rfl) (by rfl) ?_
 ·walk_nrm
  exact heads_w s w I
 walk_nrm
 simp only [headsV]
 refine Walk.gz z34 ?_
 (refine Walk.oa ?_; try walk_nrm)
 generalize hl4 : ([nodeX s.hd, tagX s.hd, nodeX s.fr, tagX s.fr] : List Int) = l4
 have hs1 : (w.alloc (.cells #[.int .i64 (nodeX s.hd), .int .i64 (tagX s.hd), .int .i64 (nodeX s.fr), .int .i64 (tagX s.fr)] 2)).heap.size = w.heap.size + 1 := by simp
 have o1 : ∀ b, b < w.heap.size → (w.alloc (.cells #[.int .i64 (nodeX s.hd), .int .i64 (tagX s.hd), .int .i64 (nodeX s.fr), .int .i64 (tagX s.fr)] 2)).heap[b]? = w.heap[b]? := fun b hb => heap_new_lt _ _ hb
 have d1 := heap_alloc_new w (.cells #[.int .i64 (nodeX s.hd), .int .i64 (tagX s.hd), .int .i64 (nodeX s.fr), .int .i64 (tagX s.fr)] 2)
 generalize w.alloc (.cells #[.int .i64 (nodeX s.hd), .int .i64 (tagX s.hd), .int .i64 (nodeX s.fr), .int .i64 (tagX s.fr)] 2) = w1 at *
 have I1 : SkI kb nb n tg s w1 := I.old o1
 repeat (first | (refine Walk.oq ?_; try walk_nrm) | (refine Walk.un ?_; walk_nrm))
 refine Walk.callW (Post := ValOut w1 (valsX s n (nodeX s.hd))) ?_ hoA (by rfl) (by decide) rfl Try.func20 (by kernel_rfl) (by rfl) ?_
 ·walk_nrm
  exact values_w hne s w1 I1 hn hA
 rintro v w2 ⟨ta, tc, rfl, H⟩
 obtain ⟨g, rfl, hg, hcells⟩ := H.cells hl
 generalize hvl : valsX s n (nodeX s.hd) = vl at *
 have d2 : w2.heap[w.heap.size]? = some (.cells #[.int .i64 (nodeX s.hd), .int .i64 (tagX s.hd), .int .i64 (nodeX s.fr), .int .i64 (tagX s.fr)] 2) := (H.old _ (by omega)).trans d1
 have hsz2 := H.size
 have hrow : w2.ownsRow w.heap.size 2 1 (.slice (some ⟨w.heap.size, 0, none⟩) 4 4) 4 (intRow [nodeX s.hd, tagX s.hd, nodeX s.fr, tagX s.fr]) := ⟨rfl, .inr ⟨w.heap.size, 4, _, rfl, Nat.le_refl _, d2, Nat.le_refl _, by simp [maxLen], rfl, rfl⟩⟩
 have hnews : ∀ (j : Nat) (x : Value), (intRow vl)[j]? = some x → w2.cell? ((⟨g, 0, none⟩ : Addr).add j) = some x := fun j x hx => by
  rw [add_none, Nat.zero_add]
  exact hcells j x hx
 have hvp : 0 < vl.length := List.length_pos_iff.2 hl
 walk_nrm
 refine Walk.append (.tmp 18) (.tmp 20) 25 hoA (by rfl) (by decide) rfl w.heap.size 2 _ (.int .i64 0) 1 8 (by kernel_rfl) hi2.symm (by rfl) (by rfl) (by rfl) (by rfl) (by decide) (.slice (some ⟨w.heap.size, 0, none⟩) 4 4) 4 (intRow [nodeX s.hd, tagX s.hd, nodeX s.fr, tagX s.fr]) rfl hrow ⟨g, 0, none⟩ vl.length tc (intRow vl) rfl (by simp [intRow]) hnews (by intro u hu; simp only [intRow, List.mem_map] at hu; obtain ⟨x, _, rfl⟩ := hu; rfl) hvp (by simp [maxLen]; omega) (by omega) (by omega) (fun b _ => hA b) (fun g' gcap w3 hown3 hgr hat hlt => ?_)
 have hold : ∀ b, b < w.heap.size → w3.heap[b]? = w.heap[b]? := fun b hb => (hgr.block b (by omega) (fun he => by simp only [Value.ownBlock, Option.some.injEq] at he; omega)).trans ((H.old b (by omega)).trans (o1 b hb))
 have hs3 := hgr.size
 walk_nrm
 refine Walk.gz z34 ?_
 refine Walk.on1 rfl rfl Try.func34 rfl (.stop fun d => ⟨_, ⟨some ⟨g', 0, none⟩, gcap, ?_, ⟨?_, hold, ?_⟩⟩, rfl⟩)
 ·simp only [stateX, hvl, List.length_append, List.length_cons, List.length_nil]
  rfl
 ·have he : intRow (stateX n s) = intRow [nodeX s.hd, tagX s.hd, nodeX s.fr, tagX s.fr] ++ intRow vl := by simp [intRow, stateX, hvl]
  have hle : (stateX n s).length = 4 + vl.length := by simp [stateX, hvl]; omega
  rw [he, hle]
  exact hown3
 ·show w.heap.size ≤ w3.heap.size
  omega
end
end
section
section
variable {main : Bool}
structure PlyEnd (m nb vb N cn cv : Nat) (tg : Bool) (s : Sk) (n lc : Nat) (la : Option Addr) (hv : Nat → Value) (B : Nat) (lo : Option Addr) (lco : Nat) (sl : List Int) (most : Int) (p rd : Nat) (oa : Option Addr) (oc : Nat) (ord : List Nat) (st : Bool) (r : Nat) (w : World) : Prop where
 M : MaX (fun g => g < w.heap.size) m nb vb N cn cv tg (.slice la n lc) s w
 U : TuX (fun g => g < w.heap.size) B lo lco sl most p rd oa oc ord st w
 th : ∀ i, i < n → ∃ tl q aa al ac, la = some ⟨tl, 0, none⟩ ∧ w.cell? ⟨tl, 0 + i, none⟩ = some (.pointer (some ⟨q, 0, none⟩)) ∧ w.cell? ⟨q, 12, none⟩ = some (.slice aa al ac) ∧ hv i = .slice aa al ac
 res : w.heap[r]? = some zTr
 rlt : r < w.heap.size
def PlyOut (n : Nat) (hv : Nat → Value) (oa : Option Addr) (oc : Nat) (ord : List Nat) (sts : List Int) (st : Bool) (r : Nat) (w1 : World) (v : Value) (w' : World) : Prop := ∃ ha hc sa sc, v = .agg (trC (.slice ha n hc) (.slice oa ord.length oc) (.slice sa sts.length sc) st) ∧ w'.ownsRow w1.heap.size 29 1 (.slice ha n hc) n (hdRow hv n) ∧ w'.ownsRow w1.heap.size 2 1 (.slice sa sts.length sc) sts.length (intRow sts) ∧ Chg (fun b => b = r) w1 w'
theorem ply_last (m nb vb N cn cv : Nat) (tg : Bool) (s : Sk) (n lc : Nat) (la : Option Addr) (hv : Nat → Value) (B : Nat) (Y : World → Prop) (r : Nat) (u : Nat → Value) (c : Frame) (cs : List Frame) (w : World) (hn : n ≤ 64) (hN : N ≤ 65536) (c7 : w.cell? ⟨m, 7, none⟩ = some (.slice la n lc))
  (hp : CallW Try.prog main (fun _ => none) 39 #[.pointer (some ⟨B, 0, none⟩), .slice la n lc] w (fun v w' => v = .int .i64 (-1) ∧ Y w'))
  (hy : ∀ w1, Y w1 → ∃ lo lco sl most p rd oa oc ord st, PlyEnd m nb vb N cn cv tg s n lc la hv B lo lco sl most p rd oa oc ord st r w1) :
  Walk Try.prog main (DR (fun _ => none)) (fun g w' => ∃ v w1 lo lco sl most p rd oa oc ord st, Y w1 ∧ PlyEnd m nb vb N cn cv tg s n lc la hv B lo lco sl most p rd oa oc ord st r w1 ∧ PlyOut n hv oa oc ord (stateX N s) st r w1 v w' ∧ g = G (c.finish v) cs) (G (hdQ1 r m B u) (c :: cs)) w := by
 have hi2 := Option.some_get (show (Try.prog.info? 2).isSome = true by kernel_rfl)
 unfold hdQ1
 refine Walk.gz z16 ?_
 refine Walk.callW (Post := fun v w' => v = .int .i64 (-1) ∧ Y w') ?_ hoA (by rfl) (by decide) rfl Try.func39 (by kernel_rfl) (by rfl) ?_
 ·walk_nrm
  exact hp
 rintro v w1 ⟨rfl, hY⟩
 obtain ⟨lo, lco, sl, most, p, rd, oa, oc, ord, st, E⟩ := hy w1 hY
 clear c7 hp hy
 have hM := E.M
 have a2 := mc2 hM.blk
 have a3 := mc3 hM.blk
 have a4 := mc4 hM.blk
 have a5 := mc5 hM.blk
 walk_nrm
 refine Walk.gz z16 ?_
 (refine Walk.drawnM (by kernel_rfl) size16_10 (by kernel_rfl) (by kernel_rfl) (by kernel_rfl) (by kernel_rfl) (by decide) ?_; simp only [List.range, List.range.loop]; repeat (first | (refine Cm.oq ?_) | (refine Cm.unw hoA (by rfl) ?_; walk_nrm)))
 refine Cm.done ?_
 intro rest hr1
 (refine Walk.oa ?_; try walk_nrm)
 refine hr1 _ _ ?_
 intro rest2 hr2
 (refine Walk.oq ?_; try walk_nrm)
 refine hr2 _ _ ?_
 clear a2 a3 a4 a5
 have hs1 : (w1.alloc (.cells #[.int .i64 (nodeX s.hd), .int .i64 (tagX s.hd), .int .i64 (nodeX s.fr), .int .i64 (tagX s.fr)] 2)).heap.size = w1.heap.size + 1 := by simp
 have o1 : ∀ b, b < w1.heap.size → (w1.alloc (.cells #[.int .i64 (nodeX s.hd), .int .i64 (tagX s.hd), .int .i64 (nodeX s.fr), .int .i64 (tagX s.fr)] 2)).heap[b]? = w1.heap[b]? := fun b hb => heap_new_lt _ _ hb
 have d1 := heap_alloc_new w1 (.cells #[.int .i64 (nodeX s.hd), .int .i64 (tagX s.hd), .int .i64 (nodeX s.fr), .int .i64 (tagX s.fr)] 2)
 generalize hQ : w1.heap.size = Q at *
 generalize w1.alloc (.cells #[.int .i64 (nodeX s.hd), .int .i64 (tagX s.hd), .int .i64 (nodeX s.fr), .int .i64 (tagX s.fr)] 2) = w2 at *
 replace hs1 : Q + 1 ≤ w2.heap.size ∧ w2.heap.size ≤ Q + 1 := by omega
 have M2 : MaX (fun g => g < Q) m nb vb N cn cv tg (.slice la n lc) s w2 := by
  have h := E.M.same (w' := w2) fun g hg _ => o1 g (by omega)
  rw [hQ] at h
  exact h
 have hval := rval_w (main := main) w2 hN M2
 try walk_nrm
 refine Walk.gz z16 ?_
 refine Walk.callW (Post := ValOut w2 (valsX s N (nodeX s.hd))) ?_ hoA (by rfl) (by decide) rfl Try.func40 (by kernel_rfl) (by rfl) ?_
 ·walk_nrm
  exact hval
 rintro v w3 ⟨ta, tc, rfl, H⟩
 clear hval
 have hvl : (valsX s N (nodeX s.hd)).length ≤ 65536 := by
  have : ∀ (f : Nat) (i : Int), (valsX s f i).length ≤ f := by
   intro f
   induction f with
   | zero => intro i; simp [valsX]
   | succ f ih =>
    intro i
    simp only [valsX]
    split
    ·simp
    ·have := ih (s.nx i.toNat); simp; omega
  exact Nat.le_trans (this N _) hN
 generalize hvals : valsX s N (nodeX s.hd) = vl at *
 have hs3 := H.size
 have d3 : w3.heap[Q]? = some (.cells #[.int .i64 (nodeX s.hd), .int .i64 (tagX s.hd), .int .i64 (nodeX s.fr), .int .i64 (tagX s.fr)] 2) := (H.old Q (by omega)).trans d1
 have hrow3 : w3.ownsRow Q 2 1 (.slice (some ⟨Q, 0, none⟩) 4 4) 4 (intRow [nodeX s.hd, tagX s.hd, nodeX s.fr, tagX s.fr]) := ⟨rfl, .inr ⟨Q, 4, _, rfl, Nat.le_refl _, d3, Nat.le_refl _, by simp [maxLen], rfl, rfl⟩⟩
 walk_nrm
 refine Walk.gz z16 ?_
 refine Walk.appendSl (.tmp 77) (.tmp 78) 25 hoA (by rfl) (by decide) rfl Q 2 _ (.int .i64 0) 1 8 (by kernel_rfl) hi2.symm (by rfl) (by rfl) (by rfl) (by rfl) (by decide) (.slice (some ⟨Q, 0, none⟩) 4 4) 4 (intRow [nodeX s.hd, tagX s.hd, nodeX s.fr, tagX s.fr]) rfl hrow3 ta vl.length tc (intRow vl) rfl (fun e => ?_) (by simp [intRow]) (fun ad e j x hx => ?_) (by simp [intRow, Value.oneCell']) (by simp [maxLen]; omega) (by omega) (by omega) (fun g _ => ap0 g) fun v w4 hown hg hat => ?_
 ·rcases H.row.2 with ⟨h, h0⟩ | ⟨g, cap, cur, h, _⟩
  ·injection h with _ _ h3
   exact ⟨by simp [intRow, List.length_eq_zero_iff.1 h0], h3⟩
  ·injection h with h1 _ _
   rw [e] at h1; cases h1
 ·obtain ⟨g, e2, _, _, hc⟩ := row_at H.row hx
  rw [e] at e2
  cases e2
  rw [add_none, Nat.zero_add]
  exact hc
 obtain ⟨sa, sc, rfl⟩ := row_shape hown
 have hg4 := hg.size
 have old4 : ∀ b, b < Q → w4.heap[b]? = w1.heap[b]? := fun b hb => (hg.block b (by omega) (by simp [Value.ownBlock]; omega)).trans ((H.old b (by omega)).trans (o1 b hb))
 have hst : intRow (stateX N s) = intRow [nodeX s.hd, tagX s.hd, nodeX s.fr, tagX s.fr] ++ intRow vl := by simp [intRow, stateX, hvals]
 have hsl : (stateX N s).length = 4 + vl.length := by simp [stateX, hvals]; omega
 rw [← hst, ← hsl] at hown
 try rw [← hsl]
 generalize stateX N s = sts at *
 replace hsl : sts.length ≤ 4 + vl.length ∧ 4 + vl.length ≤ sts.length := by omega
 clear hst hrow3 hat d3
 have U4 : TuX (fun g => g < Q) B lo lco sl most p rd oa oc ord st w4 := by
  have h := E.U.same (w' := w4) fun g hg _ => old4 g (by omega)
  rw [hQ] at h
  exact h
 have M4 : MaX (fun g => g < Q) m nb vb N cn cv tg (.slice la n lc) s w4 := by
  have h := E.M.same (w' := w4) fun g hg _ => old4 g (by omega)
  rw [hQ] at h
  exact h
 have hcell : ∀ {x j : Nat} {v : Value}, w1.cell? ⟨x, j, none⟩ = some v → w4.cell? ⟨x, j, none⟩ = some v := fun {x j v} h => (World.cell?_of_block (a := ⟨x, j, none⟩) (old4 x (by have := cell_lt' h; omega))).trans h
 have htr := trc_w (main := main) la n lc sa sts.length sc hv w4 hn U4 fun i hi => by
  obtain ⟨tl, q, aa, al, ac, e, h1, h2, h3⟩ := E.th i hi
  exact ⟨tl, q, aa, al, ac, e, hcell h1, hcell h2, h3⟩
 have hC4 : Chg (fun g => Q ≤ g) w1 w4 := ⟨by omega, fun x hx _ => old4 x (by omega)⟩
 have hr4 : w4.heap[r]? = some zTr := (old4 r (by have := E.rlt; omega)).trans E.res
 have hrl := E.rlt
 have hq0 : w1.heap.size ≤ Q ∧ Q ≤ w1.heap.size := by omega
 clear hcell old4 hg
 have k7 := mc7 M4.blk
 walk_nrm
 refine Walk.gz z16 ?_
 refine Walk.callW (Post := TraceR n hv (.slice oa ord.length oc) (.slice sa sts.length sc) st w4) ?_ hoA (by rfl) (by decide) rfl Try.func41 (by kernel_rfl) (by rfl) ?_
 ·walk_nrm
  exact htr
 rintro v w5 ⟨ha, hc, rfl, hrow5, hC5⟩
 have hs5 := hC5.size
 have hr5 : w5.heap[r]? = some zTr := (hC5.same r (by omega) id).trans hr4
 have hT := setRow_self (cells := trC (.slice ha n hc) (.slice oa ord.length oc) (.slice sa sts.length sc) st) hr5
 have hfin : PlyOut n hv oa oc ord sts st r w1 (.agg (trC (.slice ha n hc) (.slice oa ord.length oc) (.slice sa sts.length sc) st)) (w5.setRow r (trC (.slice ha n hc) (.slice oa ord.length oc) (.slice sa sts.length sc) st)) := by
  refine ⟨ha, hc, sa, sc, rfl, ?_, ?_, ⟨by rw [setRow_size]; omega, fun x hx hn => ?_⟩⟩
  ·exact row_raise (row_same hrow5 fun g hg => setRow_other _ _ (by have := (hrow5.lt g hg).1; omega)) fun g hg => by have := (hrow5.lt g hg).1; omega
  ·rw [hQ]
   exact row_same hown fun g hg => (setRow_other _ _ (by have := (hown.lt g hg).1; omega)).trans (hC5.same g (hown.lt g hg).2 id)
  ·rw [setRow_other _ _ hn, hC5.same x (by omega) id]
   exact hC4.same x hx (by omega)
 clear htr k7 hr4
 simp only [trC] at hT hfin
 walk_nrm
 repeat (first | (refine Walk.oq ?_; try walk_nrm) | (refine Walk.un ?_; walk_nrm))
 refine Walk.storeS 27 (.tmp 10) (.tmp 86) hoA (by rfl) (by decide) rfl r #[.slice ha n hc, .slice oa ord.length oc, .slice sa sts.length sc, .bool st] #[.slice none 0 0, .slice none 0 0, .slice none 0 0, .bool false] 27 rfl rfl hr5 (by kernel_rfl) rfl (by simp [Value.oneCell']) (ap0 _) ?_
 clear hr5
 generalize w5.setRow r #[.slice ha n hc, .slice oa ord.length oc, .slice sa sts.length sc, .bool st] = w6 at *
 try walk_nrm
 refine Walk.gz z16 ?_
 refine Walk.onCell (T := r) rfl rfl rfl Try.func16 rfl (by rfl) hT (by kernel_rfl) (by kernel_rfl) (.stop fun d => ⟨_, w1, lo, lco, sl, most, p, rd, oa, oc, ord, st, hY, E, ?_, rfl⟩)
 obtain ⟨ha', hc', sa', sc', e, h1, h2, h3⟩ := hfin
 exact ⟨ha', hc', sa', sc', e, h1, h2, h3.at d⟩
end
end
noncomputable def reg15_0 := rg Try.f15.body [0]
noncomputable def reg15_1 := rg Try.f15.body [1, 0]
noncomputable def reg15_2 := rg Try.f15.body [1, 1, 0]
noncomputable def reg15_3 := rg Try.f15.body [1, 1, 1, 0]
noncomputable def reg15_4 := rg Try.f15.body [1, 1, 1, 1, 0]
theorem z15 : List.range reg15_0.size = [0] ∧ List.range reg15_1.size = [0, 1, 2, 3] ∧ List.range reg15_2.size = [0, 1, 2, 3, 4, 5, 6, 7] ∧ List.range reg15_3.size = [0, 1, 2, 3] ∧ List.range reg15_4.size = [0, 1] := by refine ⟨?_, ?_, ?_, ?_, ?_⟩ <;> kernel_rfl
theorem code15_is : Try.f15.body = some (.seq (.region 0 reg15_0 false) (.seq (.region 1 reg15_1 false) (.seq (.region 2 reg15_2 false) (.seq (.region 3 reg15_3 false) (.seq (.region 4 reg15_4 false) (.ret)))))) := by kernel_rfl
def SPBack (T0 kb nb n : Nat) (tg : Bool) (fr c : Frame) (cs : List Frame) : Prop := ∀ (A na : Nat) (oo : Option Addr) (ol ok : Nat) (stuck : Bool) (s : Sk) (w : World), kb ≠ nb → n ≤ 65536 → SkI kb nb n tg s w → w.heap[T0]? = some (.cells #[.slice none 0 0, .slice none 0 0, .slice none 0 0, .bool false] 27) → valsX s n (nodeX s.hd) ≠ [] → (valsX s n (nodeX s.hd)).length ≤ 65536 →
 Walk Try.prog true (DR (fun _ => none)) (fun g w' => ∃ ta tc, g = G (c.finish (.agg #[.slice (some ⟨A, 0, none⟩) na na, .slice oo ol ok, .slice ta (stateX n s).length tc, .bool stuck])) cs ∧ w'.ownsRow w.heap.size 2 1 (.slice ta (stateX n s).length tc) (stateX n s).length (intRow (stateX n s)) ∧ (∀ b, b < w.heap.size → b ≠ T0 → w'.heap[b]? = w.heap[b]?) ∧ w.heap.size ≤ w'.heap.size)
  (G (fr.finish (.agg #[.slice (some ⟨A, 0, none⟩) na na, .slice oo ol ok, .slice none 0 0, .bool stuck])) (c :: cs)) w
theorem splay_in (sz : Int) (tg : Bool) (tv sv : Value) (most : Int) (c : Frame) (cs : List Frame) (w : World) :
  Walk Try.prog true (DR (fun _ => none)) (fun g w' => ∃ fr, g = G (Frame.enter Try.prog 32 #[tv, .func (.func 33) #[.pointer (some ⟨w.heap.size + 2, 0, none⟩)] #[], sv, .int .i64 most] .normal) (fr :: c :: cs) ∧ SkI (w.heap.size + 2) (w.heap.size + 1) (sizeN sz) tg (sk0 (sizeN sz)) w' ∧ (∀ b, b < w.heap.size → w'.heap[b]? = w.heap[b]?) ∧ w'.heap.size = w.heap.size + 3 ∧
    w'.heap[w.heap.size]? = some (.cells #[.slice none 0 0, .slice none 0 0, .slice none 0 0, .bool false] 27) ∧ SPBack w.heap.size (w.heap.size + 2) (w.heap.size + 1) (sizeN sz) tg fr c cs)
   (G (Frame.enter Try.prog 15 #[.int .i64 sz, .bool tg, tv, sv, .int .i64 most] .normal) (c :: cs)) w := by
 have hA : ∀ b, Apart (fun _ => none) b := fun b => ⟨fun _ _ _ _ h => (by cases h), fun _ _ h => (by cases h)⟩
 obtain ⟨fsT, huT⟩ := structT 27 (by kernel_rfl)
 rw [enter_at _ Try.func15 code15_is]
 simp only [Try.ntmps15, ez, Nat.reduceAdd, Nat.reduceSub]
 refine Walk.gz z15 ?_
 (refine Walk.oa ?_; try walk_nrm)
 have s1 : (w.alloc (.cells #[.slice none 0 0, .slice none 0 0, .slice none 0 0, .bool false] 27)).heap.size = w.heap.size + 1 := by simp
 have o1 : ∀ b, b < w.heap.size → (w.alloc (.cells #[.slice none 0 0, .slice none 0 0, .slice none 0 0, .bool false] 27)).heap[b]? = w.heap[b]? := fun b hb => heap_new_lt _ _ hb
 have d1 := heap_alloc_new w (.cells #[.slice none 0 0, .slice none 0 0, .slice none 0 0, .bool false] 27)
 generalize hN : w.heap.size = T0 at *
 generalize w.alloc (.cells #[.slice none 0 0, .slice none 0 0, .slice none 0 0, .bool false] 27) = w1 at *
 refine Walk.gz z15 ?_
 refine Walk.callW (Post := fun v w' => v = .pointer (some ⟨w1.heap.size + 1, 0, none⟩) ∧ SkI (w1.heap.size + 1) w1.heap.size (sizeN sz) tg (sk0 (sizeN sz)) w' ∧ (∀ b, b < w1.heap.size → w'.heap[b]? = w1.heap[b]?) ∧ w'.heap.size = w1.heap.size + 2) ?_ hoA (by rfl) (by decide) rfl Try.func17 (by kernel_rfl) (by rfl) ?_
 ·walk_nrm
  exact new_w sz tg w1 hA
 rintro v w2 ⟨rfl, hI, hO, hS⟩
 rw [s1] at hI hO hS ⊢
 generalize hn : sizeN sz = n at *
 walk_nrm
 refine Walk.gz z15 ?_
 refine Walk.callE hoA (by rfl) (by decide) rfl Try.func32 (by kernel_rfl) (by rfl) ?_
 walk_nrm
 refine .stop fun d => ⟨_, rfl, hI.old fun _ _ => rfl, fun b hb => (hO b (by omega)).trans (o1 b (by omega)), hS, (hO T0 (by omega)).trans d1, ?_⟩
 intro A na oo ol ok stuck s w4 hne hn6 I4 hT hl hlen
 refine Walk.finish hoA ?_
 walk_nrm
 (refine Walk.oa ?_; try walk_nrm)
 have d5 := heap_alloc_new w4 (.cells #[.slice none 0 0, .slice none 0 0, .slice none 0 0, .bool false] 27)
 have s5 : (w4.alloc (.cells #[.slice none 0 0, .slice none 0 0, .slice none 0 0, .bool false] 27)).heap.size = w4.heap.size + 1 := by simp
 have o5 : ∀ b, b < w4.heap.size → (w4.alloc (.cells #[.slice none 0 0, .slice none 0 0, .slice none 0 0, .bool false] 27)).heap[b]? = w4.heap[b]? := fun b hb => heap_new_lt _ _ hb
 have hT0 : T0 < w4.heap.size := (Array.getElem?_eq_some_iff.1 hT).1
 generalize hT1 : w4.heap.size = T1 at *
 generalize w4.alloc (.cells #[.slice none 0 0, .slice none 0 0, .slice none 0 0, .bool false] 27) = w5 at *
 refine Walk.storeS 27 (.tmp 12) (.tmp 21) hoA (by rfl) (by decide) rfl T1 #[.slice (some ⟨A, 0, none⟩) na na, .slice oo ol ok, .slice none 0 0, .bool stuck] _ 27 rfl rfl d5 (by kernel_rfl) (by rfl) (by simp [Value.oneCell']) (hA _) ?_
 have d6 := setRow_self (cells := #[.slice (some ⟨A, 0, none⟩) na na, .slice oo ol ok, .slice none 0 0, .bool stuck]) d5
 have o6 : ∀ b, b < T1 → (w5.setRow T1 #[.slice (some ⟨A, 0, none⟩) na na, .slice oo ol ok, .slice none 0 0, .bool stuck]).heap[b]? = w4.heap[b]? := fun b hb => (setRow_other _ _ (by omega)).trans (o5 b (by omega))
 have s6 := setRow_size w5 T1 #[.slice (some ⟨A, 0, none⟩) na na, .slice oo ol ok, .slice none 0 0, .bool stuck]
 rw [s5] at s6
 generalize w5.setRow T1 #[.slice (some ⟨A, 0, none⟩) na na, .slice oo ol ok, .slice none 0 0, .bool stuck] = w6 at *
 have I6 : SkI (T0 + 1 + 1) (T0 + 1) n tg s w6 := I4.old fun b hb => o6 b (by omega)
 walk_nrm
 refine Walk.gz z15 ?_
 refine Walk.callW (Post := ValOut w6 (stateX n s)) ?_ hoA (by rfl) (by decide) rfl Try.func34 (by kernel_rfl) (by rfl) ?_
 ·walk_nrm
  exact state_w hne s w6 I6 hn6 hA hl hlen
 rintro v w7 ⟨ta, tc, rfl, H⟩
 generalize hst : stateX n s = st at *
 have d7 := (H.old T1 (by omega)).trans d6
 have c7 := (cell_of d7 2).trans rfl
 have z7 := frozen_of d7 2
 have hs7 := H.size
 walk_nrm
 repeat (first | (refine Walk.oq ?_; try walk_nrm) | (refine Walk.un ?_; walk_nrm))
 (have hfr := (hA T1).1 ⟨T1, 2, none⟩ rfl; refine Walk.os hfr c7 ?_; clear hfr; try walk_nrm)
 have d8 : (w7.setCell ⟨T1, 2, none⟩ (.slice ta st.length tc)).heap[T1]? = some (.cells #[.slice (some ⟨A, 0, none⟩) na na, .slice oo ol ok, .slice ta st.length tc, .bool stuck] 27) := by
  rw [heap_set_self _ _ d7]
  simp
 have o8 : ∀ b, b ≠ T1 → (w7.setCell ⟨T1, 2, none⟩ (.slice ta st.length tc)).heap[b]? = w7.heap[b]? := fun b hb => heap_set_other _ _ _ _ hb
 have s8 := size_set w7 ⟨T1, 2, none⟩ (.slice ta st.length tc)
 clear c7 z7
 generalize w7.setCell ⟨T1, 2, none⟩ (.slice ta st.length tc) = w8 at *
 refine Walk.gz z15 ?_
 refine Walk.loadS 27 (.tmp 12) hoA (by rfl) (by decide) rfl T1 0 [.slice (some ⟨A, 0, none⟩) na na, .slice oo ol ok, .slice ta st.length tc, .bool stuck] (.struct fsT) rfl (fun j v hj => ?_) huT rfl (by kernel_rfl) ?_
 ·rw [Nat.zero_add, cell_of d8]
  simpa using hj
 have dT : w8.heap[T0]? = some (.cells #[.slice none 0 0, .slice none 0 0, .slice none 0 0, .bool false] 27) := (o8 T0 (by omega)).trans ((H.old T0 (by omega)).trans ((o6 T0 (by omega)).trans hT))
 walk_nrm
 refine Walk.storeS 27 (.tmp 10) (.tmp 25) hoA (by rfl) (by decide) rfl T0 #[.slice (some ⟨A, 0, none⟩) na na, .slice oo ol ok, .slice ta st.length tc, .bool stuck] _ 27 rfl rfl dT (by kernel_rfl) (by rfl) (by simp [Value.oneCell']) (hA _) ?_
 have d9 := setRow_self (cells := #[.slice (some ⟨A, 0, none⟩) na na, .slice oo ol ok, .slice ta st.length tc, .bool stuck]) dT
 walk_nrm
 refine Walk.gz z15 ?_
 refine Walk.onCell (T := T0) rfl rfl rfl Try.func15 rfl (by rfl) d9 (by kernel_rfl) (by kernel_rfl) (.stop fun d => ⟨ta, tc, rfl, ?_, fun b hb hbT => ?_, ?_⟩)
 ·have hr := row_raise (base' := T1) H.row fun b hb => by have := (H.row.lt b hb).1; omega
  refine row_same hr fun b hb => ?_
  have := (H.row.lt b hb).1
  exact (setRow_other _ _ (by omega)).trans (o8 b (by omega))
 ·exact (setRow_other _ _ hbT).trans ((o8 b (by omega)).trans ((H.old b (by omega)).trans (o6 b hb)))
 ·show T1 ≤ (w8.setRow _ _).heap.size
  rw [setRow_size]
  omega
structure SPOut (sz : Int) (tg : Bool) (ops : Nat → List OpV) (n : Nat) (most : Int) (sl : List Int) (w w' : World) (cells : Array Value) : Prop where
 all : ∃ (kb nb A : Nat) (oo : Option Addr) (ok : Nat) (hd : Nat → Value) (arr : Array Value) (ta : Option Addr) (tc : Nat),
  cells = #[.slice (some ⟨A, 0, none⟩) n n, .slice oo (playO (skLa kb nb (sizeN sz) tg) (sk0 (sizeN sz)) ops n most sl).2.length ok, .slice ta (stateX (sizeN sz) (playO (skLa kb nb (sizeN sz) tg) (sk0 (sizeN sz)) ops n most sl).1.s).length tc, .bool (stuckO n (playO (skLa kb nb (sizeN sz) tg) (sk0 (sizeN sz)) ops n most sl).1)] ∧
  w'.ownsRow w.heap.size 3 1 (.slice oo (playO (skLa kb nb (sizeN sz) tg) (sk0 (sizeN sz)) ops n most sl).2.length ok) (playO (skLa kb nb (sizeN sz) tg) (sk0 (sizeN sz)) ops n most sl).2.length ((playO (skLa kb nb (sizeN sz) tg) (sk0 (sizeN sz)) ops n most sl).2.map fun i => .int .i64 (i : Nat)) ∧
  w'.ownsRow w.heap.size 2 1 (.slice ta (stateX (sizeN sz) (playO (skLa kb nb (sizeN sz) tg) (sk0 (sizeN sz)) ops n most sl).1.s).length tc) (stateX (sizeN sz) (playO (skLa kb nb (sizeN sz) tg) (sk0 (sizeN sz)) ops n most sl).1.s).length (intRow (stateX (sizeN sz) (playO (skLa kb nb (sizeN sz) tg) (sk0 (sizeN sz)) ops n most sl).1.s)) ∧
  w.heap.size ≤ A ∧ w'.heap[A]? = some (.cells arr 29) ∧ (∀ i, i < n → arr[i]? = some (hd i)) ∧
  (∀ i, i < n → ∃ ta tc, hd i = .slice ta (((playO (skLa kb nb (sizeN sz) tg) (sk0 (sizeN sz)) ops n most sl).1.th i).ans).length tc ∧ w'.ownsRow w.heap.size 32 3 (hd i) (((playO (skLa kb nb (sizeN sz) tg) (sk0 (sizeN sz)) ops n most sl).1.th i).ans).length (ansRow (((playO (skLa kb nb (sizeN sz) tg) (sk0 (sizeN sz)) ops n most sl).1.th i).ans)))
 old : ∀ b, b < w.heap.size → w'.heap[b]? = w.heap[b]?
 size : w.heap.size ≤ w'.heap.size
theorem OpsIn.old {tb toff n : Nat} {oa : Nat → Option Addr} {ln oc : Nat → Nat} {ops : Nat → List OpV} {w w' : World} (I : OpsIn tb toff n oa ln oc ops w) (h : ∀ b, b < w.heap.size → w'.heap[b]? = w.heap[b]?) : OpsIn tb toff n oa ln oc ops w' := by
 have hc : ∀ {b j : Nat} {v : Value}, w.cell? ⟨b, j, none⟩ = some v → w'.cell? ⟨b, j, none⟩ = some v := fun {b j v} e => (World.cell?_of_block (a := ⟨b, j, none⟩) (h b (cell_lt' e))).trans e
 exact ⟨fun i hi => hc (I.hd i hi), I.cap, I.ad, I.len, fun i hi j o ho => by
  obtain ⟨b, off, e, c0, c1, c2, c3⟩ := I.ops i hi j o ho
  exact ⟨b, off, e, hc c0, hc c1, hc c2, hc c3⟩⟩
theorem splay_run (sz : Int) (tg : Bool) (tv : Value) (most : Int) (tb toff tc n : Nat) (hn1 : 1 ≤ n) (hn : n ≤ 64) (oa : Nat → Option Addr) (ln oc : Nat → Nat) (ops : Nat → List OpV) (sa : Option Addr) (sc : Nat) (sl : List Int) (hsl : sl.length ≤ 17592186044416) (c : Frame) (cs : List Frame) (w : World)
  (I : OpsIn tb toff n oa ln oc ops w)
  (hsc : ∀ (j : Nat) (z : Int), sl[j]? = some z → ∃ s so, sa = some ⟨s, so, none⟩ ∧ w.cell? ⟨s, so + j, none⟩ = some (.int .i64 z))
  (hp : ∀ w' : World, (∀ b, b < w.heap.size → w'.heap[b]? = w.heap[b]?) → CallV Try.prog true (fun _ => none) 67 #[tv] w' (.slice (some ⟨tb, toff, none⟩) n tc) w')
  (hv : ∀ kb nb, valsX (playO (skLa kb nb (sizeN sz) tg) (sk0 (sizeN sz)) ops n most sl).1.s (sizeN sz) (nodeX (Sk.hd (playO (skLa kb nb (sizeN sz) tg) (sk0 (sizeN sz)) ops n most sl).1.s)) ≠ [] ∧ (valsX (playO (skLa kb nb (sizeN sz) tg) (sk0 (sizeN sz)) ops n most sl).1.s (sizeN sz) (nodeX (Sk.hd (playO (skLa kb nb (sizeN sz) tg) (sk0 (sizeN sz)) ops n most sl).1.s))).length ≤ 65536) :
  Runs (fun g w' => ∃ cells, SPOut sz tg ops n most sl w w' cells ∧ g = G (c.finish (.agg cells)) cs) (G (Frame.enter Try.prog 15 #[.int .i64 sz, .bool tg, tv, .slice sa sl.length sc, .int .i64 most] .normal) (c :: cs)) w := by
 obtain ⟨q1, q2, q3⟩ := sizeN_le sz
 refine Runs.walk (splay_in sz tg tv (.slice sa sl.length sc) most c cs w) ?_
 rintro _ w1 ⟨fr, rfl, hI, hO, hS, hT, hB⟩
 have hc1 : ∀ {b j : Nat} {v : Value}, w.cell? ⟨b, j, none⟩ = some v → w1.cell? ⟨b, j, none⟩ = some v := fun {b j v} e => (World.cell?_of_block (a := ⟨b, j, none⟩) (hO b (cell_lt' e))).trans e
 have hsh : ∀ b, b < w.heap.size → ¬ (b = w.heap.size + 2 ∨ b = w.heap.size + 1) := fun b hb h => by omega
 have I1 : OpsIn tb toff n oa ln oc ops w1 := I.old hO
 refine Runs.then (ops_run (L := skLa (w.heap.size + 2) (w.heap.size + 1) (sizeN sz) tg) (do_ok (by omega) q2) (sk0 (sizeN sz)) tv most tb toff tc n hn1 hn oa ln oc ops sa sc sl hsl fr (c :: cs) w1 I1 hI (fun i hi j o ho b off e => ?_) (fun j z hz => ?_) (fun w' hw' => hp w' fun b hb => (hw' b (by omega)).trans (hO b hb))) ?_
 ·obtain ⟨b', off', e', c0, _⟩ := I.ops i hi j o ho
  rw [e] at e'
  injection e' with e'
  injection e' with e' _
  subst e'
  exact hsh b (cell_lt' c0)
 ·obtain ⟨s, so, e, hc⟩ := hsc j z hz
  exact ⟨s, so, e, hc1 hc, hsh s (cell_lt' hc)⟩
 ·rintro _ w4 ⟨cells, H, rfl⟩
  obtain ⟨A, oo, ok, hd, arr, rfl, hrow, hAl, hAr, hAi, hans⟩ := H.all
  obtain ⟨hv1, hv2⟩ := hv (w.heap.size + 2) (w.heap.size + 1)
  have hIf := H.I
  have hold := H.old
  have hsz := H.size
  have hT4 : w4.heap[w.heap.size]? = some (.cells #[.slice none 0 0, .slice none 0 0, .slice none 0 0, .bool false] 27) := (hold _ (by omega) (fun h => by rcases h with h | h <;> omega)).trans hT
  refine Runs.walk (hB A n oo _ ok _ _ w4 (by omega) q2 hIf hT4 hv1 hv2) ?_
  rintro _ w5 ⟨ta, tc', rfl, hst, hold5, hsz5⟩
  refine .now ⟨_, ⟨⟨w.heap.size + 2, w.heap.size + 1, A, oo, ok, hd, arr, ta, tc', rfl, ?_, ?_, by omega, (hold5 A (Array.getElem?_eq_some_iff.1 hAr).1 (by omega)).trans hAr, hAi, fun i hi => ?_⟩, fun b hb => ?_, by omega⟩, rfl⟩
  ·refine row_same (row_raise hrow fun b hb => ?_) fun b hb => hold5 b (hrow.lt b hb).2 ?_
   ·have := (hrow.lt b hb).1; omega
   ·have := (hrow.lt b hb).1; omega
  ·refine row_raise hst fun b hb => ?_
   have := (hst.lt b hb).1; omega
  ·obtain ⟨ta', tc'', e, hr⟩ := hans i hi
   refine ⟨ta', tc'', e, row_same (row_raise hr fun b hb => ?_) fun b hb => hold5 b (hr.lt b hb).2 ?_⟩
   ·have := (hr.lt b hb).1; omega
   ·have := (hr.lt b hb).1; omega
  ·exact (hold5 b (by omega) (by omega)).trans ((hold b (by omega) (hsh b hb)).trans (hO b hb))
def clOps : Nat → List OpV := fun i => ([[⟨2, 0, 0, 0⟩], [⟨1, 8, 0, 0⟩, ⟨1, 7, 0, 0⟩, ⟨2, 0, 0, 0⟩, ⟨2, 0, 0, 0⟩, ⟨1, 4, 0, 0⟩], [⟨1, 9, 0, 0⟩]] : List (List OpV)).getD i []
def clSl : List Int := List.replicate 14 1 ++ List.replicate 2 0 ++ List.replicate 14 1 ++ List.replicate 3 2 ++ List.replicate 7 1 ++ List.replicate 5 0 ++ List.replicate 4 2
def clPlay (kb nb : Nat) (tg : Bool) : OX (skLa kb nb 2 tg) × List Nat := playO (skLa kb nb 2 tg) (sk0 2) clOps 3 200 clSl
theorem cl_true (kb nb : Nat) : (stateX 2 (clPlay kb nb true).1.s, valsX (clPlay kb nb true).1.s 2 (nodeX (Sk.hd (clPlay kb nb true).1.s)), stuckO 3 (clPlay kb nb true).1, ((clPlay kb nb true).1.th 0).ans) = ([0, 7, 1, 7, 9], [9], false, [(true, 4)]) := by kernel_rfl
theorem cl_false (kb nb : Nat) : (stateX 2 (clPlay kb nb false).1.s, valsX (clPlay kb nb false).1.s 2 (nodeX (Sk.hd (clPlay kb nb false).1.s)), stuckO 3 (clPlay kb nb false).1, ((clPlay kb nb false).1.th 0).ans) = ([0, 0, 1, 0, 9, 9], [9, 9], false, [(true, 4)]) := by kernel_rfl
theorem clSl_len : clSl.length = 49 := by decide
theorem sizeN2 : sizeN 2 = 2 := by decide
section
structure MI (w0 w : World) (pre : List Int) (ta : Option Addr) (tc : Nat) : Prop where
 row : w.ownsRow w0.heap.size 3 1 (.slice ta pre.length tc) pre.length (intRow pre)
 old : ∀ b, b < w0.heap.size → w.heap[b]? = w0.heap[b]?
 size : w0.heap.size ≤ w.heap.size
theorem row_cells {w : World} {base : Nat} {e : TypeId} {l : List Int} {ta : Option Addr} {tc : Nat} (h : w.ownsRow base e 1 (.slice ta l.length tc) l.length (intRow l)) (hl : l ≠ []) : ∃ g, ta = some ⟨g, 0, none⟩ ∧ base ≤ g ∧ ∀ (j : Nat) (x : Value), (intRow l)[j]? = some x → w.cell? ⟨g, j, none⟩ = some x := by
 rcases h.2 with ⟨_, e⟩ | ⟨g, cap, cur, e, hb, hh, hc, _, hs, ht⟩
 ·exact absurd (List.length_eq_zero_iff.1 e) hl
 ·injection e with e1 _ _
  refine ⟨g, e1, hb, fun j x hx => ?_⟩
  refine (cell_of hh j).trans ?_
  rw [← ht, List.getElem?_take] at hx
  split at hx
  ·simpa using hx
  ·cases hx
noncomputable def reg30_0 := rg Try.f30.body [0]
noncomputable def reg30_1 := rg Try.f30.body [1, 0, 0]
noncomputable def reg30_2 := rg Try.f30.body [1, 0, 1, 0, 0, 0]
noncomputable def reg30_3 := rg Try.f30.body [1, 0, 1, 0, 0, 1, 1, 0, 0]
noncomputable def reg30_4 := rg Try.f30.body [1, 0, 1, 0, 0, 1, 1, 1]
noncomputable def reg30_5 := rg Try.f30.body [1, 1, 0]
theorem z30 : List.range reg30_0.size = [0] ∧ List.range reg30_1.size = [0, 1] ∧ List.range reg30_2.size = [0] ∧ List.range reg30_3.size = [0, 1, 2, 3, 4] ∧ List.range reg30_4.size = [0, 1] ∧ List.range reg30_5.size = [0, 1] := by refine ⟨?_, ?_, ?_, ?_, ?_, ?_⟩ <;> kernel_rfl
theorem code30_is : Try.f30.body = some (.seq (.region 0 reg30_0 false) (.seq (.seq (.region 1 reg30_1 false) (.block 0 (.loop (.seq (.region 2 reg30_2 false) (.seq (.cond (.tmp 9 ) (.skip) (.exit 0)) (.seq (.block 1 (.region 3 reg30_3 false)) (.region 4 reg30_4 false))))))) (.seq (.region 5 reg30_5 false) (.ret)))) := by kernel_rfl
noncomputable def hdMany (lv : Value) (t : Int) (n i : Nat) (u : Nat → Value) : Frame :=
 (base 30).at { tmps := #[lv, .int .i64 t, u 2, u 3, u 4, u 5, u 6, .int .i64 n, .int .i64 i, u 9, u 10, u 11, u 12, u 13, u 14, u 15], defers := [] } [.code (.seq (.region 2 reg30_2 false) (.seq (.cond (.tmp 9 ) (.skip) (.exit 0)) (.seq (.block 1 (.region 3 reg30_3 false)) (.region 4 reg30_4 false)))), .inLoop (.seq (.region 2 reg30_2 false) (.seq (.cond (.tmp 9 ) (.skip) (.exit 0)) (.seq (.block 1 (.region 3 reg30_3 false)) (.region 4 reg30_4 false)))), .inBlock 0, .code (.seq (.region 5 reg30_5 false) (.ret))]
noncomputable def reg13_0 := rg Try.f13.body [0]
noncomputable def reg13_1 := rg Try.f13.body [1, 0, 0]
noncomputable def reg13_2 := rg Try.f13.body [1, 0, 1, 0, 0]
noncomputable def reg13_3 := rg Try.f13.body [1, 1, 0, 0]
noncomputable def reg13_4 := rg Try.f13.body [1, 1, 0, 1, 0, 0, 0, 0]
noncomputable def reg13_6 := rg Try.f13.body [1, 1, 0, 1, 0, 0, 1, 0, 0, 0]
theorem size13_6 : reg13_6.size = 9 := by kernel_rfl
noncomputable def reg13_7 := rg Try.f13.body [1, 1, 0, 1, 0, 0, 1, 0, 0, 1, 0, 0]
noncomputable def reg13_5 := rg Try.f13.body [1, 1, 0, 1, 0, 0, 1, 1]
noncomputable def reg13_8 := rg Try.f13.body [1, 1, 1, 0]
theorem z13 : List.range reg13_0.size = [0] ∧ List.range reg13_1.size = [0, 1, 2, 3, 4] ∧ List.range reg13_2.size = [0] ∧ List.range reg13_3.size = [0] ∧ List.range reg13_4.size = [0, 1, 2, 3] ∧ List.range reg13_5.size = [0, 1, 2] ∧ List.range reg13_6.size = [0, 1, 2, 3, 4, 5, 6, 7, 8] ∧ List.range reg13_7.size = [0] ∧ List.range reg13_8.size = [0] := by refine ⟨?_, ?_, ?_, ?_, ?_, ?_, ?_, ?_, ?_⟩ <;> kernel_rfl
theorem code13_is : Try.f13.body = some (.seq (.region 0 reg13_0 false) (.seq (.seq (.region 1 reg13_1 false) (.cond (.tmp 10 ) (.seq (.region 2 reg13_2 false) (.ret)) (.skip))) (.seq (.seq (.region 3 reg13_3 false) (.block 0 (.loop (.seq (.seq (.region 4 reg13_4 false) (.cond (.tmp 14 ) (.skip) (.exit 0))) (.seq (.block 1 (.seq (.region 6 reg13_6 true) (.cond (.tmp 25 ) (.seq (.region 7 reg13_7 false) (.ret)) (.skip)))) (.region 5 reg13_5 false)))))) (.seq (.region 8 reg13_8 false) (.ret))))) := by kernel_rfl
noncomputable def hdSame (av bv : Value) (i : Nat) (u : Nat → Value) : Frame :=
 (base 13).at { tmps := #[av, bv, u 2, u 3, u 4, .int .i64 i, u 6, u 7, u 8, u 9, u 10, u 11, u 12, u 13, u 14, u 15, u 16, u 17, u 18, u 19, u 20, u 21, u 22, u 23, u 24, u 25], defers := [] } [.code (.seq (.seq (.region 4 reg13_4 false) (.cond (.tmp 14 ) (.skip) (.exit 0))) (.seq (.block 1 (.seq (.region 6 reg13_6 true) (.cond (.tmp 25 ) (.seq (.region 7 reg13_7 false) (.ret)) (.skip)))) (.region 5 reg13_5 false))), .inLoop (.seq (.seq (.region 4 reg13_4 false) (.cond (.tmp 14 ) (.skip) (.exit 0))) (.seq (.block 1 (.seq (.region 6 reg13_6 true) (.cond (.tmp 25 ) (.seq (.region 7 reg13_7 false) (.ret)) (.skip)))) (.region 5 reg13_5 false))), .inBlock 0, .code (.seq (.region 8 reg13_8 false) (.ret))]
noncomputable def reg21_0 := rg Try.f21.body [0]
noncomputable def reg21_1 := rg Try.f21.body [1, 0, 0]
noncomputable def reg21_2 := rg Try.f21.body [1, 0, 1, 0, 0]
noncomputable def reg21_3 := rg Try.f21.body [1, 1, 0]
theorem z21 : List.range reg21_0.size = [0] ∧ List.range reg21_1.size = [0, 1] ∧ List.range reg21_2.size = [0] ∧ List.range reg21_3.size = [0, 1, 2, 3, 4, 5] := by refine ⟨?_, ?_, ?_, ?_⟩ <;> kernel_rfl
theorem code21_is : Try.f21.body = some (.seq (.region 0 reg21_0 false) (.seq (.seq (.region 1 reg21_1 false) (.cond (.tmp 4 ) (.seq (.region 2 reg21_2 false) (.ret)) (.skip))) (.seq (.region 3 reg21_3 false) (.ret)))) := by kernel_rfl
section
variable {main : Bool} {V : Nat → Option Wait}
theorem many_round (t : Int) (n i : Nat) (pre : List Int) (ta : Option Addr) (tc : Nat) (w0 w : World) (hi : i < n) (hn : n ≤ 65536) (hp : pre.length ≤ 65536) (H : MI w0 w pre ta tc) (hA : ∀ b, Apart V b) (u : Nat → Value) (cs : List Frame) :
  Walk Try.prog main (DR V) (fun g w' => ∃ ta' tc', (∃ u, g = G (hdMany (.slice ta' (pre ++ [t]).length tc') t n (i + 1) u) cs) ∧ MI w0 w' (pre ++ [t]) ta' tc') (G (hdMany (.slice ta pre.length tc) t n i u) cs) w := by
 have hi2 := Option.some_get (show (Try.prog.info? 3).isSome = true by kernel_rfl)
 have hi0 : (0 : Int) ≤ i := by omega
 have hi1 : decide ((i : Int) < n) = true := by simp; omega
 have hi3 : decide (i < n) = true := by simp; omega
 have hw1 : IntKind.wrap .i64 ((i : Int) + 1) = (i : Int) + 1 := by rw [IntKind.wrap_i64]; omega
 unfold hdMany
 refine Walk.gz z30 ?_
 (refine Walk.oa ?_; try walk_nrm)
 have hs1 : (w.alloc (.cells #[.int .i64 t] 3)).heap.size = w.heap.size + 1 := by simp
 have o1 : ∀ b, b < w.heap.size → (w.alloc (.cells #[.int .i64 t] 3)).heap[b]? = w.heap[b]? := fun b hb => heap_new_lt _ _ hb
 have d1 := heap_alloc_new w (.cells #[.int .i64 t] 3)
 have hrow : (w.alloc (.cells #[.int .i64 t] 3)).ownsRow w0.heap.size 3 1 (.slice ta pre.length tc) pre.length (intRow pre) := row_same H.row fun b hb => o1 b (H.row.lt b hb).2
 have hnews : ∀ (q : Nat) (x : Value), ([.int .i64 t] : List Value)[q]? = some x → (w.alloc (.cells #[.int .i64 t] 3)).cell? ((⟨w.heap.size, 0, none⟩ : Addr).add q) = some x := fun q x hx => by
  rw [add_none, Nat.zero_add]
  refine (cell_of d1 q).trans ?_
  simpa using hx
 have hHs := H.size
 refine Walk.append (.tmp 10) (.tmp 12) 24 hoA (by rfl) (by decide) rfl w0.heap.size 3 _ (.int .i64 0) 1 8 (by kernel_rfl) hi2.symm (by rfl) (by rfl) (by rfl) (by rfl) (by decide) (.slice ta pre.length tc) pre.length (intRow pre) rfl hrow ⟨w.heap.size, 0, none⟩ 1 1 [.int .i64 t] rfl (by rfl) hnews (by simp [Value.oneCell']) (by decide) (by simp [maxLen]; omega) (by omega) (by omega) (fun b _ => hA b) (fun g gcap w3 hown3 hgr hat hlt => ?_)
 have hold : ∀ b, b < w0.heap.size → w3.heap[b]? = w0.heap[b]? := fun b hb => (hgr.block b (by omega) (fun he => by have := (H.row.lt b he.symm).1; omega)).trans ((o1 b (by omega)).trans (H.old b hb))
 have hs3 := hgr.size
 have hsz : w0.heap.size ≤ w3.heap.size := by omega
 clear hrow hnews o1 d1
 walk_nrm
 refine Walk.gz z30 ?_
 refine Walk.ctl rfl (fun w => stepG_inLoop) ?_
 refine .stop fun d => ⟨some ⟨g, 0, none⟩, gcap, at_slots ?_, ?_, hold, hsz⟩
 ·have hc : ((i + 1 : Nat) : Int) = (i : Int) + 1 := by simp
  rw [List.length_append, List.length_singleton]
  simp only [hdMany, hc]
  rfl
 ·have : intRow (pre ++ [t]) = intRow pre ++ [.int .i64 t] := by simp [intRow]
  rw [this, List.length_append, List.length_singleton]
  exact hown3
theorem many_end (lv : Value) (t : Int) (n : Nat) (u : Nat → Value) (c : Frame) (cs : List Frame) (w : World) :
  Walk Try.prog main (DR V) (fun g w' => g = G (c.finish lv) cs ∧ ∃ d, w' = w.at d) (G (hdMany lv t n n u) (c :: cs)) w := by
 unfold hdMany
 refine Walk.gz z30 ?_
 exact Walk.on1 rfl rfl Try.func30 rfl (.stop fun d => ⟨rfl, d, rfl⟩)
theorem many_w (t : Int) (n : Nat) (pre : List Int) (ta : Option Addr) (tc : Nat) (w0 w : World) (hn : n ≤ 1000) (hp : pre.length ≤ 10000) (H : MI w0 w pre ta tc) (hA : ∀ b, Apart V b) :
  CallW Try.prog main V 30 #[.slice ta pre.length tc, .int .i64 t, .int .i64 (n : Nat)] w (fun v w' => ∃ ta' tc', v = .slice ta' (pre ++ List.replicate n t).length tc' ∧ MI w0 w' (pre ++ List.replicate n t) ta' tc') := by
 intro c cs
 have loop : ∀ (r i : Nat) (pre' : List Int) (ta : Option Addr) (tc : Nat) (u : Nat → Value) (w : World), i + r = n → pre' = pre ++ List.replicate i t → MI w0 w pre' ta tc →
   Walk Try.prog main (DR V) (fun g w' => ∃ v, (∃ ta' tc', v = .slice ta' (pre ++ List.replicate n t).length tc' ∧ MI w0 w' (pre ++ List.replicate n t) ta' tc') ∧ g = G (c.finish v) cs) (G (hdMany (.slice ta pre'.length tc) t n i u) (c :: cs)) w := by
  intro r
  induction r with
  | zero =>
   intro i pre' ta tc u w hi he H
   obtain rfl : i = n := hi
   subst he
   refine (many_end _ t i u c cs w).mono ?_
   rintro g w' ⟨rfl, d, rfl⟩
   exact ⟨_, ⟨ta, tc, rfl, H.row, H.old, H.size⟩, rfl⟩
  | succ r ih =>
   intro i pre' ta tc u w hi he H
   refine (many_round t n i pre' ta tc w0 w (by omega) (by omega) (by rw [he]; simp; omega) H hA u (c :: cs)).then ?_
   rintro g w' ⟨ta', tc', ⟨u', rfl⟩, H'⟩
   exact ih (i + 1) (pre' ++ [t]) ta' tc' u' w' (by omega) (by rw [he, List.replicate_succ', List.append_assoc]) H'
 have key := fun u => loop n 0 pre ta tc u w (by omega) (by simp) H
 rw [enter_at _ Try.func30 code30_is]
 simp only [Try.ntmps30, ez, Nat.reduceAdd, Nat.reduceSub]
 refine Walk.gz z30 ?_
 refine Walk.ctl rfl (fun w => stepG_loop) ?_
 refine slots_walk (F := fun u => G (hdMany (.slice ta pre.length tc) t n 0 u) (c :: cs)) key ?_
 simp only [hdMany]
 rfl
theorem same_round (ga gb n ca cb i : Nat) (x : Int) (w : World) (hi : i < n) (hn : n ≤ 65536) (h1 : w.cell? ⟨ga, i, none⟩ = some (.int .i64 x)) (h2 : w.cell? ⟨gb, i, none⟩ = some (.int .i64 x)) (u : Nat → Value) (cs : List Frame) :
  Walk Try.prog main (DR V) (fun g w' => (∃ u, g = G (hdSame (.slice (some ⟨ga, 0, none⟩) n ca) (.slice (some ⟨gb, 0, none⟩) n cb) (i + 1) u) cs) ∧ ∃ d, w' = w.at d) (G (hdSame (.slice (some ⟨ga, 0, none⟩) n ca) (.slice (some ⟨gb, 0, none⟩) n cb) i u) cs) w := by
 have hi0 : (0 : Int) ≤ i := by omega
 have hi1 : decide ((i : Int) < n) = true := by simp; omega
 have hi3 : decide (i < n) = true := by simp; omega
 have hw1 : IntKind.wrap .i64 ((i : Int) + 1) = (i : Int) + 1 := by rw [IntKind.wrap_i64]; omega
 have hx : (x != x) = false := by simp
 unfold hdSame
 refine Walk.gz z13 ?_
 (refine Walk.drawnCW (by kernel_rfl) size13_6 (by kernel_rfl) (by kernel_rfl) (by decide) ?_; simp only [List.range, List.range.loop]; repeat (first | (refine Cm.oq ?_) | (refine Cm.unw hoA (by rfl) ?_; walk_nrm)))
 refine Cm.done ?_
 try simp only [hx]
 refine Walk.gz z13 ?_
 refine Walk.ctl rfl (fun w => stepG_inLoop) ?_
 refine .stop fun d => ⟨at_slots ?_, d, rfl⟩
 have hc : ((i + 1 : Nat) : Int) = (i : Int) + 1 := by simp
 simp only [hdSame, hc]
 rfl
theorem same_end (av bv : Value) (ga gb n ca cb : Nat) (w : World) (u : Nat → Value) (c : Frame) (cs : List Frame) :
  Walk Try.prog main (DR V) (fun g w' => g = G (c.finish (.bool true)) cs ∧ ∃ d, w' = w.at d) (G (hdSame (.slice (some ⟨ga, 0, none⟩) n ca) (.slice (some ⟨gb, 0, none⟩) n cb) n u) (c :: cs)) w := by
 unfold hdSame
 refine Walk.gz z13 ?_
 exact Walk.on1 rfl rfl Try.func13 rfl (.stop fun d => ⟨rfl, d, rfl⟩)
theorem same_w (l : List Int) (ga gb ca cb : Nat) (w : World) (hl : l.length ≤ 65536) (h1 : ∀ (j : Nat) (x : Value), (intRow l)[j]? = some x → w.cell? ⟨ga, j, none⟩ = some x) (h2 : ∀ (j : Nat) (x : Value), (intRow l)[j]? = some x → w.cell? ⟨gb, j, none⟩ = some x) :
  CallV Try.prog main V 13 #[.slice (some ⟨ga, 0, none⟩) l.length ca, .slice (some ⟨gb, 0, none⟩) l.length cb] w (.bool true) w := by
 intro c cs
 have loop : ∀ (r i : Nat) (u : Nat → Value) (d : Nat), i + r = l.length →
   Walk Try.prog main (DR V) (fun g w' => ∃ v, (v = .bool true ∧ ∃ d, w' = w.at d) ∧ g = G (c.finish v) cs) (G (hdSame (.slice (some ⟨ga, 0, none⟩) l.length ca) (.slice (some ⟨gb, 0, none⟩) l.length cb) i u) (c :: cs)) (w.at d) := by
  intro r
  induction r with
  | zero =>
   intro i u d hi
   obtain rfl : i = l.length := hi
   refine (same_end undef undef ga gb _ ca cb (w.at d) u c cs).mono ?_
   rintro g w' ⟨rfl, d', rfl⟩
   exact ⟨_, ⟨rfl, d', rfl⟩, rfl⟩
  | succ r ih =>
   intro i u d hi
   have hil : i < l.length := by omega
   have hget : (intRow l)[i]? = some (.int .i64 l[i]) := by simp [intRow, List.getElem?_eq_getElem hil]
   refine (same_round ga gb l.length ca cb i l[i] (w.at d) hil hl (h1 i _ hget) (h2 i _ hget) u (c :: cs)).then ?_
   rintro g w' ⟨⟨u', rfl⟩, d', rfl⟩
   exact ih (i + 1) u' d' (by omega)
 have key := fun u => loop l.length 0 u w.drawn (by omega)
 have hbn : ((l.length : Int) != l.length) = false := by simp
 rw [enter_at _ Try.func13 code13_is]
 simp only [Try.ntmps13, ez, Nat.reduceAdd, Nat.reduceSub]
 refine Walk.gz z13 ?_
 refine Walk.ctl rfl (fun w => stepG_loop) ?_
 refine slots_walk (F := fun u => G (hdSame (.slice (some ⟨ga, 0, none⟩) l.length ca) (.slice (some ⟨gb, 0, none⟩) l.length cb) 0 u) (c :: cs)) key ?_
 simp only [hdSame]
 rfl
theorem size_w (kb nb n : Nat) (tg : Bool) (s : Sk) (w : World) (I : SkI kb nb n tg s w) : CallV Try.prog main V 21 #[.pointer (some ⟨kb, 0, none⟩)] w (.int .i64 n) w := by
 have hp1 := fun w => run_eql_ptr (P := Try.prog) 38 (by kernel_rfl : Try.prog.underlying 38 = some (.pointer 70)) (some ⟨kb, 0, none⟩) w
 have hp2 := fun w es => ev_eql_ptr (P := Try.prog) 38 (by kernel_rfl : Try.prog.underlying 38 = some (.pointer 70)) (some ⟨kb, 0, none⟩) w es
 simp only [Option.isNone_some] at hp1
 have hsl := sk_nodes I
 refine callW_in Try.func21 code21_is fun fr cs => ?_
 simp only [Try.ntmps21, ez, Nat.reduceAdd, Nat.reduceSub]
 refine Walk.gz z21 ?_
 exact Walk.ret1 rfl rfl Try.func21 rfl fun d => ⟨rfl, d, rfl⟩
end
end
end Go.Proofs.Ytdmpmoggacjgcaa
