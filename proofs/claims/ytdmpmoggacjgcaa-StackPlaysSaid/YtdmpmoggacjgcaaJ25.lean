/- Part 25. -/
import Derived.Test.YtdmpmoggacjgcaaJ11
import Derived.Test.YtdmpmoggacjgcaaJ12
import Derived.Test.YtdmpmoggacjgcaaJ14
import Derived.Test.YtdmpmoggacjgcaaJ22
import Derived.Test.YtdmpmoggacjgcaaJ24
set_option linter.unusedSimpArgs false
set_option linter.unusedVariables false
set_option maxHeartbeats 8000000
set_option maxRecDepth 100000
namespace Go.Proofs.Ytdmpmoggacjgcaa
open Go.Conc Go.RowKit Go.Relay
open Go.ConcN (upd upd_ne upd_same)
section
noncomputable def reg34_0 := rg Try.f34.body [0]
noncomputable def reg34_1 := rg Try.f34.body [1, 0]
noncomputable def reg34_2 := rg Try.f34.body [1, 1, 0]
theorem z34 : List.range reg34_0.size = [0] ∧ List.range reg34_1.size = [0, 1, 2, 3, 4, 5, 6, 7, 8, 9, 10] ∧ List.range reg34_2.size = [0, 1, 2, 3, 4, 5, 6, 7, 8] := by refine ⟨?_, ?_, ?_⟩ <;> kernel_rfl
theorem code34_is : Try.f34.body = some (.seq (.region 0 reg34_0 false) (.seq (.region 1 reg34_1 false) (.seq (.region 2 reg34_2 false) (.ret)))) := by kernel_rfl
theorem VI.cells {w0 w : World} {l : List Int} {ta : Option Addr} {tc : Nat} (H : VI w0 w l ta tc) (hl : l ≠ []) : ∃ g, ta = some ⟨g, 0, none⟩ ∧ w0.heap.size ≤ g ∧ ∀ (j : Nat) (x : Value), (intRow l)[j]? = some x → w.cell? ⟨g, j, none⟩ = some x := by
  rcases H.row.2 with ⟨_, e⟩ | ⟨g, cap, cur, e, hb, hh, hc, _, hs, ht⟩
  · exact absurd (List.length_eq_zero_iff.1 e) hl
  · injection e with e1 _ _
    refine ⟨g, e1, hb, fun j x hx => ?_⟩
    refine (cell_of hh j).trans ?_
    rw [← ht, List.getElem?_take] at hx
    split at hx
    · simpa using hx
    · cases hx
section
variable {main : Bool} {V : Nat → Option Wait} {kb nb n : Nat} {tg : Bool}
def stateX (n : Nat) (s : Sk) : List Int := [nodeX s.hd, tagX s.hd, nodeX s.fr, tagX s.fr] ++ valsX s n (nodeX s.hd)
theorem state_w (hne : kb ≠ nb) (s : Sk) (w : World) (I : SkI kb nb n tg s w) (hn : n ≤ 65536) (hA : ∀ b, Apart V b) (hl : valsX s n (nodeX s.hd) ≠ []) (hlen : (valsX s n (nodeX s.hd)).length ≤ 65536) : CallW Try.prog main V 34 #[.pointer (some ⟨kb, 0, none⟩)] w (ValOut w (stateX n s)) := by
  intro c cs
  have hi2 := Option.some_get (show (Try.prog.info? 2).isSome = true by kernel_rfl)
  rw [enter_at _ Try.func34 code34_is]
  simp only [Try.ntmps34, ez, Nat.reduceAdd, Nat.reduceSub]
  repeat (first | refine Walk.cx ?_ | (refine Walk.cReg ?_; simp only [z34]) | (refine Walk.oq ?_; try walk_nrm) | (refine Walk.un ?_; walk_nrm))
  refine Walk.callV (x := headsV s) (W := w) ?_ (ho_of (by conv => lhs; whnf) (by kernel_rfl)) (by rfl) (by decide) rfl Try.func19 (by kernel_rfl) (by rfl) ?_
  · walk_nrm
    exact heads_w s w I
  walk_nrm
  simp only [headsV]
  repeat (first | refine Walk.cx ?_ | (refine Walk.cReg ?_; simp only [z34]) | (refine Walk.oq ?_; try walk_nrm) | (refine Walk.un ?_; walk_nrm))
  (refine Walk.oa ?_; try walk_nrm)
  generalize hl4 : ([nodeX s.hd, tagX s.hd, nodeX s.fr, tagX s.fr] : List Int) = l4
  have hs1 : (w.alloc (.cells #[.int .i64 (nodeX s.hd), .int .i64 (tagX s.hd), .int .i64 (nodeX s.fr), .int .i64 (tagX s.fr)] 2)).heap.size = w.heap.size + 1 := by simp
  have o1 : ∀ b, b < w.heap.size → (w.alloc (.cells #[.int .i64 (nodeX s.hd), .int .i64 (tagX s.hd), .int .i64 (nodeX s.fr), .int .i64 (tagX s.fr)] 2)).heap[b]? = w.heap[b]? := fun b hb => heap_new_lt _ _ hb
  have d1 := heap_alloc_new w (.cells #[.int .i64 (nodeX s.hd), .int .i64 (tagX s.hd), .int .i64 (nodeX s.fr), .int .i64 (tagX s.fr)] 2)
  generalize w.alloc (.cells #[.int .i64 (nodeX s.hd), .int .i64 (tagX s.hd), .int .i64 (nodeX s.fr), .int .i64 (tagX s.fr)] 2) = w1 at *
  have I1 : SkI kb nb n tg s w1 := I.old o1
  repeat (first | (refine Walk.oq ?_; try walk_nrm) | (refine Walk.un ?_; walk_nrm))
  refine Walk.callW (Post := ValOut w1 (valsX s n (nodeX s.hd))) ?_ (ho_of (by conv => lhs; whnf) (by kernel_rfl)) (by rfl) (by decide) rfl Try.func20 (by kernel_rfl) (by rfl) ?_
  · walk_nrm
    exact values_w hne s w1 I1 hn hA
  rintro v w2 ⟨ta, tc, rfl, H⟩
  obtain ⟨g, rfl, hg, hcells⟩ := H.cells hl
  generalize hvl : valsX s n (nodeX s.hd) = vl at *
  have d2 : w2.heap[w.heap.size]? = some (.cells #[.int .i64 (nodeX s.hd), .int .i64 (tagX s.hd), .int .i64 (nodeX s.fr), .int .i64 (tagX s.fr)] 2) := (H.old _ (by omega)).trans d1
  have hsz2 := H.size
  have hrow : w2.ownsRow w.heap.size 2 1 (.slice (some ⟨w.heap.size, 0, none⟩) 4 4) 4 (intRow [nodeX s.hd, tagX s.hd, nodeX s.fr, tagX s.fr]) := ⟨rfl, .inr ⟨w.heap.size, 4, _, rfl, Nat.le_refl _, d2, Nat.le_refl _, by simp [maxLen], rfl, rfl⟩⟩
  have hnews : ∀ (j : Nat) (x : Value), (intRow vl)[j]? = some x → w2.cell? ((⟨g, 0, none⟩ : Addr).add j) = some x := fun j x hx => by
    rw [add_none, Nat.zero_add]
    exact hcells j x hx
  have hvp : 0 < vl.length := List.length_pos_iff.2 hl
  walk_nrm
  refine Walk.append (.tmp 18) (.tmp 20) 25 (ho_of (by conv => lhs; whnf) (by kernel_rfl)) (by rfl) (by decide) rfl w.heap.size 2 _ (.int .i64 0) 1 8 (by kernel_rfl) hi2.symm (by rfl) (by rfl) (by rfl) (by rfl) (by decide) (.slice (some ⟨w.heap.size, 0, none⟩) 4 4) 4 (intRow [nodeX s.hd, tagX s.hd, nodeX s.fr, tagX s.fr]) rfl hrow ⟨g, 0, none⟩ vl.length tc (intRow vl) rfl (by simp [intRow]) hnews (by intro u hu; simp only [intRow, List.mem_map] at hu; obtain ⟨x, _, rfl⟩ := hu; rfl) hvp (by simp [maxLen]; omega) (by omega) (by omega) (fun b _ => hA b) (fun g' gcap w3 hown3 hgr hat hlt => ?_)
  have hold : ∀ b, b < w.heap.size → w3.heap[b]? = w.heap[b]? := fun b hb => (hgr.block b (by omega) (fun he => by simp only [Value.ownBlock, Option.some.injEq] at he; omega)).trans ((H.old b (by omega)).trans (o1 b hb))
  have hs3 := hgr.size
  walk_nrm
  repeat (first | refine Walk.cx ?_ | (refine Walk.cReg ?_; simp only [z34]) | (refine Walk.oq ?_; try walk_nrm) | (refine Walk.un ?_; walk_nrm))
  refine Walk.on1 rfl rfl Try.func34 rfl (.stop fun d => ⟨_, ⟨some ⟨g', 0, none⟩, gcap, ?_, ⟨?_, hold, ?_⟩⟩, rfl⟩)
  · simp only [stateX, hvl, List.length_append, List.length_cons, List.length_nil]
    rfl
  · have he : intRow (stateX n s) = intRow [nodeX s.hd, tagX s.hd, nodeX s.fr, tagX s.fr] ++ intRow vl := by simp [intRow, stateX, hvl]
    have hle : (stateX n s).length = 4 + vl.length := by simp [stateX, hvl]; omega
    rw [he, hle]
    exact hown3
  · show w.heap.size ≤ w3.heap.size
    omega
end
end
section
section
variable {main : Bool}
structure PlyEnd (m nb vb N cn cv : Nat) (tg : Bool) (s : Sk) (n lc : Nat) (la : Option Addr) (hv : Nat → Value) (B : Nat) (lo : Option Addr) (lco : Nat) (sl : List Int) (most : Int) (p rd : Nat) (oa : Option Addr) (oc : Nat) (ord : List Nat) (st : Bool) (r : Nat) (w : World) : Prop where
  M : MaX (fun g => g < w.heap.size) m nb vb N cn cv tg (.slice la n lc) s w
  U : TuX (fun g => g < w.heap.size) B lo lco sl most p rd oa oc ord st w
  th : ∀ i, i < n → ∃ tl q aa al ac, la = some ⟨tl, 0, none⟩ ∧ w.cell? ⟨tl, 0 + i, none⟩ = some (.pointer (some ⟨q, 0, none⟩)) ∧ w.cell? ⟨q, 12, none⟩ = some (.slice aa al ac) ∧ hv i = .slice aa al ac
  res : w.heap[r]? = some zTr
  rlt : r < w.heap.size
def PlyOut (n : Nat) (hv : Nat → Value) (oa : Option Addr) (oc : Nat) (ord : List Nat) (sts : List Int) (st : Bool) (r : Nat) (w1 : World) (v : Value) (w' : World) : Prop := ∃ ha hc sa sc, v = .agg (trC (.slice ha n hc) (.slice oa ord.length oc) (.slice sa sts.length sc) st) ∧ w'.ownsRow w1.heap.size 29 1 (.slice ha n hc) n (hdRow hv n) ∧ w'.ownsRow w1.heap.size 2 1 (.slice sa sts.length sc) sts.length (intRow sts) ∧ Chg (fun b => b = r) w1 w'
theorem ply_last (m nb vb N cn cv : Nat) (tg : Bool) (s : Sk) (n lc : Nat) (la : Option Addr) (hv : Nat → Value) (B : Nat) (Y : World → Prop) (r : Nat) (u : Nat → Value) (c : Frame) (cs : List Frame) (w : World) (hn : n ≤ 64) (hN : N ≤ 65536) (c7 : w.cell? ⟨m, 7, none⟩ = some (.slice la n lc))
    (hp : CallW Try.prog main (fun _ => none) 39 #[.pointer (some ⟨B, 0, none⟩), .slice la n lc] w (fun v w' => v = .int .i64 (-1) ∧ Y w'))
    (hy : ∀ w1, Y w1 → ∃ lo lco sl most p rd oa oc ord st, PlyEnd m nb vb N cn cv tg s n lc la hv B lo lco sl most p rd oa oc ord st r w1) :
    Walk Try.prog main (DR (fun _ => none)) (fun g w' => ∃ v w1 lo lco sl most p rd oa oc ord st, Y w1 ∧ PlyEnd m nb vb N cn cv tg s n lc la hv B lo lco sl most p rd oa oc ord st r w1 ∧ PlyOut n hv oa oc ord (stateX N s) st r w1 v w' ∧ g = G (c.finish v) cs) (G (hdQ1 r m B u) (c :: cs)) w := by
  have hi2 := Option.some_get (show (Try.prog.info? 2).isSome = true by kernel_rfl)
  unfold hdQ1
  repeat (first | refine Walk.cx ?_ | (refine Walk.cReg ?_; simp only [z16]) | (refine Walk.oq ?_; try walk_nrm) | (refine Walk.un ?_; walk_nrm))
  refine Walk.callW (Post := fun v w' => v = .int .i64 (-1) ∧ Y w') ?_ (ho_of (by conv => lhs; whnf) (by kernel_rfl)) (by rfl) (by decide) rfl Try.func39 (by kernel_rfl) (by rfl) ?_
  · walk_nrm
    exact hp
  rintro v w1 ⟨rfl, hY⟩
  obtain ⟨lo, lco, sl, most, p, rd, oa, oc, ord, st, E⟩ := hy w1 hY
  clear c7 hp hy
  have hM := E.M
  have a2 := mc2 hM.blk
  have a3 := mc3 hM.blk
  have a4 := mc4 hM.blk
  have a5 := mc5 hM.blk
  walk_nrm
  repeat (first | refine Walk.cx ?_ | (refine Walk.cReg ?_; simp only [z16]) | (refine Walk.oq ?_; try walk_nrm) | (refine Walk.un ?_; walk_nrm))
  (refine Walk.drawnM (by kernel_rfl) size16_10 (by kernel_rfl) (by kernel_rfl) (by kernel_rfl) (by kernel_rfl) (by decide) ?_; simp only [List.range, List.range.loop]; repeat (first | (refine Cm.oq ?_) | (refine Cm.unw (ho_of (by conv => lhs; whnf) (by kernel_rfl)) (by rfl) ?_; walk_nrm)))
  refine Cm.done ?_
  intro rest hr1
  (refine Walk.oa ?_; try walk_nrm)
  refine hr1 _ _ ?_
  intro rest2 hr2
  (refine Walk.oq ?_; try walk_nrm)
  refine hr2 _ _ ?_
  clear a2 a3 a4 a5
  have hs1 : (w1.alloc (.cells #[.int .i64 (nodeX s.hd), .int .i64 (tagX s.hd), .int .i64 (nodeX s.fr), .int .i64 (tagX s.fr)] 2)).heap.size = w1.heap.size + 1 := by simp
  have o1 : ∀ b, b < w1.heap.size → (w1.alloc (.cells #[.int .i64 (nodeX s.hd), .int .i64 (tagX s.hd), .int .i64 (nodeX s.fr), .int .i64 (tagX s.fr)] 2)).heap[b]? = w1.heap[b]? := fun b hb => heap_new_lt _ _ hb
  have d1 := heap_alloc_new w1 (.cells #[.int .i64 (nodeX s.hd), .int .i64 (tagX s.hd), .int .i64 (nodeX s.fr), .int .i64 (tagX s.fr)] 2)
  generalize hQ : w1.heap.size = Q at *
  generalize w1.alloc (.cells #[.int .i64 (nodeX s.hd), .int .i64 (tagX s.hd), .int .i64 (nodeX s.fr), .int .i64 (tagX s.fr)] 2) = w2 at *
  replace hs1 : Q + 1 ≤ w2.heap.size ∧ w2.heap.size ≤ Q + 1 := by omega
  have M2 : MaX (fun g => g < Q) m nb vb N cn cv tg (.slice la n lc) s w2 := by
    have h := E.M.same (w' := w2) fun g hg _ => o1 g (by omega)
    rw [hQ] at h
    exact h
  have hval := rval_w (main := main) w2 hN M2
  try walk_nrm
  repeat (first | refine Walk.cx ?_ | (refine Walk.cReg ?_; simp only [z16]) | (refine Walk.oq ?_; try walk_nrm) | (refine Walk.un ?_; walk_nrm))
  refine Walk.callW (Post := ValOut w2 (valsX s N (nodeX s.hd))) ?_ (ho_of (by conv => lhs; whnf) (by kernel_rfl)) (by rfl) (by decide) rfl Try.func40 (by kernel_rfl) (by rfl) ?_
  · walk_nrm
    exact hval
  rintro v w3 ⟨ta, tc, rfl, H⟩
  clear hval
  have hvl : (valsX s N (nodeX s.hd)).length ≤ 65536 := by
    have : ∀ (f : Nat) (i : Int), (valsX s f i).length ≤ f := by
      intro f
      induction f with
      | zero => intro i; simp [valsX]
      | succ f ih =>
        intro i
        simp only [valsX]
        split
        · simp
        · have := ih (s.nx i.toNat); simp; omega
    exact Nat.le_trans (this N _) hN
  generalize hvals : valsX s N (nodeX s.hd) = vl at *
  have hs3 := H.size
  have d3 : w3.heap[Q]? = some (.cells #[.int .i64 (nodeX s.hd), .int .i64 (tagX s.hd), .int .i64 (nodeX s.fr), .int .i64 (tagX s.fr)] 2) := (H.old Q (by omega)).trans d1
  have hrow3 : w3.ownsRow Q 2 1 (.slice (some ⟨Q, 0, none⟩) 4 4) 4 (intRow [nodeX s.hd, tagX s.hd, nodeX s.fr, tagX s.fr]) := ⟨rfl, .inr ⟨Q, 4, _, rfl, Nat.le_refl _, d3, Nat.le_refl _, by simp [maxLen], rfl, rfl⟩⟩
  walk_nrm
  repeat (first | refine Walk.cx ?_ | (refine Walk.cReg ?_; simp only [z16]) | (refine Walk.oq ?_; try walk_nrm) | (refine Walk.un ?_; walk_nrm))
  refine Walk.appendSl (.tmp 77) (.tmp 78) 25 (ho_of (by conv => lhs; whnf) (by kernel_rfl)) (by rfl) (by decide) rfl Q 2 _ (.int .i64 0) 1 8 (by kernel_rfl) hi2.symm (by rfl) (by rfl) (by rfl) (by rfl) (by decide) (.slice (some ⟨Q, 0, none⟩) 4 4) 4 (intRow [nodeX s.hd, tagX s.hd, nodeX s.fr, tagX s.fr]) rfl hrow3 ta vl.length tc (intRow vl) rfl (fun e => ?_) (by simp [intRow]) (fun ad e j x hx => ?_) (by simp [intRow, Value.oneCell']) (by simp [maxLen]; omega) (by omega) (by omega) (fun g _ => ap0 g) fun v w4 hown hg hat => ?_
  · rcases H.row.2 with ⟨h, h0⟩ | ⟨g, cap, cur, h, _⟩
    · injection h with _ _ h3
      exact ⟨by simp [intRow, List.length_eq_zero_iff.1 h0], h3⟩
    · injection h with h1 _ _
      rw [e] at h1; cases h1
  · obtain ⟨g, e2, _, _, hc⟩ := row_at H.row hx
    rw [e] at e2
    cases e2
    rw [add_none, Nat.zero_add]
    exact hc
  obtain ⟨sa, sc, rfl⟩ := row_shape hown
  have hg4 := hg.size
  have old4 : ∀ b, b < Q → w4.heap[b]? = w1.heap[b]? := fun b hb => (hg.block b (by omega) (by simp [Value.ownBlock]; omega)).trans ((H.old b (by omega)).trans (o1 b hb))
  have hst : intRow (stateX N s) = intRow [nodeX s.hd, tagX s.hd, nodeX s.fr, tagX s.fr] ++ intRow vl := by simp [intRow, stateX, hvals]
  have hsl : (stateX N s).length = 4 + vl.length := by simp [stateX, hvals]; omega
  rw [← hst, ← hsl] at hown
  try rw [← hsl]
  generalize stateX N s = sts at *
  replace hsl : sts.length ≤ 4 + vl.length ∧ 4 + vl.length ≤ sts.length := by omega
  clear hst hrow3 hat d3
  have U4 : TuX (fun g => g < Q) B lo lco sl most p rd oa oc ord st w4 := by
    have h := E.U.same (w' := w4) fun g hg _ => old4 g (by omega)
    rw [hQ] at h
    exact h
  have M4 : MaX (fun g => g < Q) m nb vb N cn cv tg (.slice la n lc) s w4 := by
    have h := E.M.same (w' := w4) fun g hg _ => old4 g (by omega)
    rw [hQ] at h
    exact h
  have hcell : ∀ {x j : Nat} {v : Value}, w1.cell? ⟨x, j, none⟩ = some v → w4.cell? ⟨x, j, none⟩ = some v := fun {x j v} h => (World.cell?_of_block (a := ⟨x, j, none⟩) (old4 x (by have := cell_lt' h; omega))).trans h
  have htr := trc_w (main := main) la n lc sa sts.length sc hv w4 hn U4 fun i hi => by
    obtain ⟨tl, q, aa, al, ac, e, h1, h2, h3⟩ := E.th i hi
    exact ⟨tl, q, aa, al, ac, e, hcell h1, hcell h2, h3⟩
  have hC4 : Chg (fun g => Q ≤ g) w1 w4 := ⟨by omega, fun x hx _ => old4 x (by omega)⟩
  have hr4 : w4.heap[r]? = some zTr := (old4 r (by have := E.rlt; omega)).trans E.res
  have hrl := E.rlt
  have hq0 : w1.heap.size ≤ Q ∧ Q ≤ w1.heap.size := by omega
  clear hcell old4 hg
  have k7 := mc7 M4.blk
  walk_nrm
  repeat (first | refine Walk.cx ?_ | (refine Walk.cReg ?_; simp only [z16]) | (refine Walk.oq ?_; try walk_nrm) | (refine Walk.un ?_; walk_nrm))
  refine Walk.callW (Post := TraceR n hv (.slice oa ord.length oc) (.slice sa sts.length sc) st w4) ?_ (ho_of (by conv => lhs; whnf) (by kernel_rfl)) (by rfl) (by decide) rfl Try.func41 (by kernel_rfl) (by rfl) ?_
  · walk_nrm
    exact htr
  rintro v w5 ⟨ha, hc, rfl, hrow5, hC5⟩
  have hs5 := hC5.size
  have hr5 : w5.heap[r]? = some zTr := (hC5.same r (by omega) id).trans hr4
  have hT := setRow_self (cells := trC (.slice ha n hc) (.slice oa ord.length oc) (.slice sa sts.length sc) st) hr5
  have hfin : PlyOut n hv oa oc ord sts st r w1 (.agg (trC (.slice ha n hc) (.slice oa ord.length oc) (.slice sa sts.length sc) st)) (w5.setRow r (trC (.slice ha n hc) (.slice oa ord.length oc) (.slice sa sts.length sc) st)) := by
    refine ⟨ha, hc, sa, sc, rfl, ?_, ?_, ⟨by rw [setRow_size]; omega, fun x hx hn => ?_⟩⟩
    · exact row_raise (row_same hrow5 fun g hg => setRow_other _ _ (by have := (hrow5.lt g hg).1; omega)) fun g hg => by have := (hrow5.lt g hg).1; omega
    · rw [hQ]
      exact row_same hown fun g hg => (setRow_other _ _ (by have := (hown.lt g hg).1; omega)).trans (hC5.same g (hown.lt g hg).2 id)
    · rw [setRow_other _ _ hn, hC5.same x (by omega) id]
      exact hC4.same x hx (by omega)
  clear htr k7 hr4
  simp only [trC] at hT hfin
  walk_nrm
  repeat (first | (refine Walk.oq ?_; try walk_nrm) | (refine Walk.un ?_; walk_nrm))
  refine Walk.storeS 27 (.tmp 10) (.tmp 86) (ho_of (by conv => lhs; whnf) (by kernel_rfl)) (by rfl) (by decide) rfl r #[.slice ha n hc, .slice oa ord.length oc, .slice sa sts.length sc, .bool st] #[.slice none 0 0, .slice none 0 0, .slice none 0 0, .bool false] 27 rfl rfl hr5 (by kernel_rfl) rfl (by simp [Value.oneCell']) (ap0 _) ?_
  clear hr5
  generalize w5.setRow r #[.slice ha n hc, .slice oa ord.length oc, .slice sa sts.length sc, .bool st] = w6 at *
  try walk_nrm
  repeat (first | refine Walk.cx ?_ | (refine Walk.cReg ?_; simp only [z16]) | (refine Walk.oq ?_; try walk_nrm) | (refine Walk.un ?_; walk_nrm))
  refine Walk.onCell (T := r) rfl rfl rfl Try.func16 rfl (by rfl) hT (by kernel_rfl) (by kernel_rfl) (.stop fun d => ⟨_, w1, lo, lco, sl, most, p, rd, oa, oc, ord, st, hY, E, ?_, rfl⟩)
  obtain ⟨ha', hc', sa', sc', e, h1, h2, h3⟩ := hfin
  exact ⟨ha', hc', sa', sc', e, h1, h2, h3.at d⟩
end
end
section
section
variable {L : La} {K : Lb L} {e : K.E} {b : Frame} {k : List Item} {l : List Frame} {ops : Array Oper} {a : Act}
theorem LW.drawnS {id m : Nat} {o : Oper} {f : FuncId} {fn : Func} {args : Array Operand} {ats : Array TypeId} {Q : Value → K.E → Prop} (hm : Try.prog.follows .mixedOrders = true) (hsz : ops.size = m + 2) (hlow : lowW ops = true) (hc : calmB ops m = true) (hl : lastB ops m = true) (hw1 : waitsB ops (m + 1) m = true) (hk : b.kind ≠ .early)
    (ho : ops[m]? = some o) (hop : o.op = .call { callee := .value (.func f), args, argTypes := ats }) (hg : o.guard = none) (hf : Try.prog.funcs[f]? = some fn) (hname : (fn.name == "runtime.NumGoroutine") = false) (hb : fn.body.isNone = false) (hpl : ∀ f ∈ l, Plain f)
    (h : Cm Try.prog K.main (K.V e) ops (· = K.w e) (fun a => (∀ rest, Plain (b.at a (.inRegion ops (m :: rest) :: k))) ∧ SCall K f (args.map a.eval) e Q ∧ ∃ fin : Value → Act,
      (∀ v e' rest, Q v e' → LW K e' (G (b.at (fin v) (.inRegion ops rest :: k)) (l ++ K.bot e')) → LW K e' (G (b.at (a.put o.dst v) (.inRegion ops ((m + 1) :: rest) :: k)) (l ++ K.bot e'))) ∧
      ∀ v e', Q v e' → LW K e' (G (b.at (fin v) (.inRegion ops [] :: k)) (l ++ K.bot e'))) (List.range m) a) :
    LW K e (G (b.at a (.code (.region id ops true) :: k)) (l ++ K.bot e)) := by
  rw [List.range_eq_range'] at h
  obtain ⟨P, hP⟩ : ∃ P : Act → Prop, P = fun a => (∀ rest, Plain (b.at a (.inRegion ops (m :: rest) :: k))) ∧ SCall K f (args.map a.eval) e Q ∧ ∃ fin : Value → Act,
      (∀ v e' rest, Q v e' → LW K e' (G (b.at (fin v) (.inRegion ops rest :: k)) (l ++ K.bot e')) → LW K e' (G (b.at (a.put o.dst v) (.inRegion ops ((m + 1) :: rest) :: k)) (l ++ K.bot e'))) ∧
      ∀ v e', Q v e' → LW K e' (G (b.at (fin v) (.inRegion ops [] :: k)) (l ++ K.bot e')) := ⟨_, rfl⟩
  rw [← hP] at h
  have h0 : Cm Try.prog K.main (K.V e) ops (· = K.w e) P (List.range' 0 m) (puts ops (fun _ => undef) (fun j => decide (j < 0)) a) := by
    have : puts ops (fun _ => undef) (fun j => decide (j < 0)) a = a := putsL_none _ a fun j _ => decide_eq_false (Nat.not_lt_zero j)
    rw [this]; exact h
  obtain ⟨vals, _, hcond, hend⟩ := cm_vals (Z := (· = K.w e)) (ops := ops) (m := m) (w := K.w e) rfl (by omega) m 0 (fun _ => undef) a (by omega) h0
  rw [hP] at hend
  obtain ⟨hpa, hcall, fin, h1, h2⟩ := hend
  have hm1 : ∀ f : Nat → Bool, Closed ops f → f (m + 1) = true → f m = true := fun f hC hf1 => by
    have hlt : m + 1 < ops.size := by omega
    unfold waitsB at hw1
    rw [Array.getElem?_eq_getElem hlt] at hw1
    simp only [Option.any_some] at hw1
    obtain ⟨x, hx, hb'⟩ := Array.any_eq_true.1 hw1
    simp only [Bool.and_eq_true, decide_eq_true_eq] at hb'
    exact hb'.1 ▸ hC _ _ (Array.getElem?_eq_getElem hlt) hf1 _ (Array.getElem_mem hx) hb'.2
  refine Walk.drawnE (E := K.E × World) (V := fun x => K.V x.1) (Stop := fun x => K.Stop x.1) (cs := fun x => l ++ K.bot x.1) (w := fun x => x.2)
    (Inv := fun f x y => (f m = false ∧ f (m + 1) = false ∧ x = puts ops vals f a ∧ y.1 = e ∧ ∃ d, y.2 = (K.w e).at d) ∨
      (f m = true ∧ f (m + 1) = false ∧ (∀ j, j < m → f j = true) ∧ ∃ v, Q v y.1 ∧ x = (puts ops vals (fun j => decide (j < m)) a).put o.dst v ∧ ∃ d, y.2 = (K.w y.1).at d) ∨
      (f m = true ∧ f (m + 1) = true ∧ (∀ j, j < m → f j = true) ∧ ∃ v, Q v y.1 ∧ x = fin v ∧ ∃ d, y.2 = (K.w y.1).at d)) (e, K.w e) hm hlow (.inl ⟨rfl, rfl, (puts_zero vals a).symm, rfl, (K.w e).drawn, rfl⟩) ?_ ?_
  · rintro f' i oi x ⟨e', w'⟩ hI hC hfi hoi hd rest hr
    dsimp only at hI hr ⊢
    have hi : i < m + 2 := by have := (Array.getElem?_eq_some_iff.1 hoi).1; omega
    rcases hI with ⟨f1, f2, rfl, rfl, d, rfl⟩ | ⟨f1, f2, f3, v, hq, rfl, d, rfl⟩ | ⟨f1, f2, f3, _⟩
    · refine Walk.back ?_ d
      by_cases e1 : i = m
      · subst e1
        rw [ho] at hoi
        cases hoi
        have hall := last_all hl hC ho hd
        have hpe : puts ops vals f' a = puts ops vals (fun j => decide (j < i)) a := puts_congr (fun j hj => ⟨by
          by_cases hji : j < i
          · rw [hall (i - j) j (by omega) (by omega)]; exact (decide_eq_true hji).symm
          · by_cases hji2 : j = i
            · rw [hji2, hfi]; simp
            · have : j = i + 1 := by omega
              rw [this, f2]; simp, fun _ => rfl⟩) a
        rw [hpe]
        refine LW.callS (Q := Q) hcall ho ?_ hk hop hf hname hb (hpa _) hpl fun v e1 hq => ?_
        · unfold Region.wanted; rw [hg]
        · exact hr _ (e1, K.w e1) (.inr (.inl ⟨upd_same _ _ _, by rw [upd_ne _ _ (by omega)]; exact f2, fun j hj => by rw [upd_ne _ _ (by omega)]; exact hall (i - j) j (by omega) (by omega), v, hq, rfl, (K.w e1).drawn, rfl⟩))
      · have hi1 : i ≠ m + 1 := fun h => by
          subst h
          have : f' m = true := waits_at hw1 hoi hd
          rw [f1] at this; cases this
        have him : i < m := by omega
        refine Walk.calmOp (Z := (· = K.w _)) rfl hc hk him hoi hd (hcond i oi (Nat.zero_le _) him hoi) ?_
        rw [← puts_upd hc him vals hfi hoi a]
        exact hr _ (_, (K.w _).at (K.w _).drawn) (.inl ⟨by rw [upd_ne _ _ (by omega)]; exact f1, by rw [upd_ne _ _ (by omega)]; exact f2, rfl, rfl, (K.w _).drawn, rfl⟩)
    · refine Walk.back ?_ d
      have hi1 : i = m + 1 := by
        refine Classical.byContradiction fun hne => ?_
        by_cases e1 : i = m
        · rw [e1, f1] at hfi; cases hfi
        · rw [f3 i (by omega)] at hfi; cases hfi
      subst hi1
      refine h1 v e' rest hq ?_
      exact hr _ (e', K.w e') (.inr (.inr ⟨by rw [upd_ne _ _ (by omega)]; exact f1, upd_same _ _ _, fun j hj => by rw [upd_ne _ _ (by omega)]; exact f3 j hj, v, hq, rfl, (K.w e').drawn, rfl⟩))
    · exfalso
      by_cases e1 : i = m
      · rw [e1, f1] at hfi; cases hfi
      · by_cases e2 : i = m + 1
        · rw [e2, f2] at hfi; cases hfi
        · rw [f3 i (by omega)] at hfi; cases hfi
  · rintro f' x ⟨e', w'⟩ hI hall
    dsimp only at hI ⊢
    rcases hI with ⟨f1, _⟩ | ⟨_, f2, _⟩ | ⟨_, _, _, v, hq, rfl, d, rfl⟩
    · rw [hall m (by omega)] at f1; cases f1
    · rw [hall (m + 1) (by omega)] at f2; cases f2
    · exact Walk.back (h2 v e' hq) d
end
end
section
section
variable {kb nb n : Nat} {tg : Bool} {sv : Value}
def Turned (K : Lg (skLa kb nb n tg) sv) (W : Wd (skLa kb nb n tg)) (e : K.E) (d : SD) (top x : Int) (v : Value) (e' : K.E) : Prop :=
  ∃ s, (W.get s = top ∧ v = .bool true ∧ Wrote K e d s (W.put s x) e') ∨ (W.get s ≠ top ∧ v = .bool false ∧ Wrote K e d s s e')
theorem hturn_s (K : Lg (skLa kb nb n tg) sv) (H : Hd kb nb n tg) (e : K.E) (d : SD) (top nx : Int) (hok : OkH n top) (hn1 : -1 ≤ nx) (hn2 : nx < n) (hn : n ≤ 65536) (ht : K.tgt e = (K.s e, .inr d)) :
    SCall K.toLb 65 #[H.p, sv, .int .i64 top, .int .i64 nx] e (Turned K H.W e d top (heldX nx (turnTag tg top))) := by
  intro fr l hp hl hk
  have htag := H.tag _ _ (K.inv e)
  have hh := word_cas K H.W e d top (heldX nx (turnTag tg top)) (H.okw _ (hok.turn tg hn1 hn2 hn).1) ht
  unfold Wd.p at hh
  rw [H.hb, H.hq] at hh
  unfold Hd.p
  unfold LW
  rw [enter_at _ Try.func65 code65_is]
  simp only [Try.ntmps65, ez, Nat.reduceAdd, Nat.reduceSub]
  repeat (first | refine Walk.cx ?_ | (refine Walk.cReg ?_; simp only [z65]) | (refine Walk.oq ?_; try walk_nrm) | (refine Walk.un ?_; walk_nrm))
  cases tg with
  | true =>
    simp only [turnTag, if_true] at hh hk
    repeat (first | refine Walk.cx ?_ | (refine Walk.cReg ?_; simp only [z65]) | (refine Walk.oq ?_; try walk_nrm) | (refine Walk.un ?_; walk_nrm))
    refine Walk.callV (x := .int .i64 (tagX top)) (W := K.w e) ?_ (ho_of (by conv => lhs; whnf) (by kernel_rfl)) (by rfl) (by decide) rfl Try.func47 (by kernel_rfl) (by rfl) ?_
    · walk_nrm
      exact tag_w top _
    walk_nrm
    repeat (first | refine Walk.cx ?_ | (refine Walk.cReg ?_; simp only [z65]) | (refine Walk.oq ?_; try walk_nrm) | (refine Walk.un ?_; walk_nrm))
    generalize hgT : bits BinOp.and IntKind.i64 (IntKind.i64.wrap (tagX top + 1)) 2147483647 = T at *
    (refine LW.drawnS (K := K.toLb) (l := fr :: l) (m := 8) (f := 81) (Q := Turned K H.W e d top (heldX nx T)) (by kernel_rfl) size65_4 (by kernel_rfl) (by kernel_rfl) (by kernel_rfl) (by kernel_rfl) (by decide) (ho_of (by conv => lhs; whnf) (by kernel_rfl)) rfl rfl Try.func81 (by kernel_rfl) (by rfl) (plain_cons hp hl) ?_; simp only [List.range, List.range.loop]; repeat (first | (refine Cm.oq ?_) | (refine Cm.unw (ho_of (by conv => lhs; whnf) (by kernel_rfl)) (by rfl) ?_; walk_nrm)))
    refine Cm.callV (x := .int .i64 (heldX nx T)) ?_ (ho_of (by conv => lhs; whnf) (by kernel_rfl)) (by rfl) rfl Try.func44 (by kernel_rfl) (by rfl) ?_
    · intro w' he
      subst he
      walk_nrm
      exact newHeld_w nx T _
    walk_nrm
    refine Cm.done ⟨fun rest => ⟨rfl, rfl, _, Try.func65⟩, ?_, ?finA, ?hA1, ?hA2⟩
    · walk_nrm
      exact hh
    case hA1 =>
      intro v e' rest hq hr
      unfold LW at hr ⊢
      walk_nrm
      (refine Walk.oq ?_; try walk_nrm)
      exact hr
    case hA2 =>
      intro v e' hq
      unfold LW
      repeat (first | refine Walk.cx ?_ | (refine Walk.cReg ?_; simp only [z65]) | (refine Walk.oq ?_; try walk_nrm) | (refine Walk.un ?_; walk_nrm))
      exact Walk.on1 rfl rfl Try.func65 rfl (hk _ e' hq)
  | false =>
    simp only [turnTag, Bool.false_eq_true, if_false] at hh hk
    repeat (first | refine Walk.cx ?_ | (refine Walk.cReg ?_; simp only [z65]) | (refine Walk.oq ?_; try walk_nrm) | (refine Walk.un ?_; walk_nrm))
    (refine LW.drawnS (K := K.toLb) (l := fr :: l) (m := 8) (f := 81) (Q := Turned K H.W e d top (heldX nx 0)) (by kernel_rfl) size65_4 (by kernel_rfl) (by kernel_rfl) (by kernel_rfl) (by kernel_rfl) (by decide) (ho_of (by conv => lhs; whnf) (by kernel_rfl)) rfl rfl Try.func81 (by kernel_rfl) (by rfl) (plain_cons hp hl) ?_; simp only [List.range, List.range.loop]; repeat (first | (refine Cm.oq ?_) | (refine Cm.unw (ho_of (by conv => lhs; whnf) (by kernel_rfl)) (by rfl) ?_; walk_nrm)))
    refine Cm.callV (x := .int .i64 (heldX nx 0)) ?_ (ho_of (by conv => lhs; whnf) (by kernel_rfl)) (by rfl) rfl Try.func44 (by kernel_rfl) (by rfl) ?_
    · intro w' he
      subst he
      walk_nrm
      exact newHeld_w nx 0 _
    walk_nrm
    refine Cm.done ⟨fun rest => ⟨rfl, rfl, _, Try.func65⟩, ?_, ?finB, ?hB1, ?hB2⟩
    · walk_nrm
      exact hh
    case hB1 =>
      intro v e' rest hq hr
      unfold LW at hr ⊢
      walk_nrm
      (refine Walk.oq ?_; try walk_nrm)
      exact hr
    case hB2 =>
      intro v e' hq
      unfold LW
      repeat (first | refine Walk.cx ?_ | (refine Walk.cReg ?_; simp only [z65]) | (refine Walk.oq ?_; try walk_nrm) | (refine Walk.un ?_; walk_nrm))
      exact Walk.on1 rfl rfl Try.func65 rfl (hk _ e' hq)
end
end
section
section
variable {kb nb n : Nat} {tg : Bool} {sv : Value}
structure TakeD (tg : Bool) (get : Sk → Int) (put : Sk → Int → Sk) (D1 : SD) (D2 : Int → SD) (D3 : Int → Int → SD) (fail : Ans ⊕ SD) (don : Int → Ans ⊕ SD) : Prop where
  a1 : ∀ s, skAct tg s D1 = if nodeX (get s) = -1 then (s, fail) else (s, .inr (D2 (get s)))
  a2 : ∀ s top, skAct tg s (D2 top) = (s, .inr (D3 top (s.nx (nodeX top).toNat)))
  a3 : ∀ s top nx, skAct tg s (D3 top nx) = if get s = top then (put s (heldX nx (turnTag tg top)), don (nodeX top)) else (s, .inr D1)
def TakeOut (K : Lg (skLa kb nb n tg) sv) (fail : Ans ⊕ SD) (don : Int → Ans ⊕ SD) (v : Value) (e' : K.E) : Prop :=
  (v = .tuple #[.int .i64 0, .bool false] ∧ K.tgt e' = (K.s e', fail)) ∨ ∃ i : Nat, i < n ∧ v = .tuple #[.int .i64 (i : Nat), .bool true] ∧ K.tgt e' = (K.s e', don i)
noncomputable def reg51_0 := rg Try.f51.body [0]
noncomputable def reg51_1 := rg Try.f51.body [1, 0, 0, 0, 0]
noncomputable def reg51_2 := rg Try.f51.body [1, 0, 0, 0, 1, 0, 0]
noncomputable def reg51_3 := rg Try.f51.body [1, 0, 0, 0, 1, 0, 1, 0, 0]
noncomputable def reg51_4 := rg Try.f51.body [1, 0, 0, 0, 1, 1, 0]
theorem size51_4 : reg51_4.size = 11 := by kernel_rfl
noncomputable def reg51_5 := rg Try.f51.body [1, 0, 0, 0, 1, 1, 1, 0]
noncomputable def reg51_6 := rg Try.f51.body [1, 0, 0, 0, 1, 1, 1, 1, 0, 0]
theorem z51 : List.range reg51_0.size = [0, 1] ∧ List.range reg51_1.size = [0, 1, 2, 3] ∧ List.range reg51_2.size = [0, 1] ∧ List.range reg51_3.size = [0, 1] ∧ List.range reg51_4.size = [0, 1, 2, 3, 4, 5, 6, 7, 8, 9, 10] ∧ List.range reg51_5.size = [0, 1, 2, 3, 4] ∧ List.range reg51_6.size = [0, 1, 2, 3] := by refine ⟨?_, ?_, ?_, ?_, ?_, ?_, ?_⟩ <;> kernel_rfl
theorem code51_is : Try.f51.body = some (.seq (.region 0 reg51_0 false) (.block 0 (.loop (.block 1 (.seq (.region 1 reg51_1 false) (.seq (.seq (.region 2 reg51_2 false) (.cond (.tmp 14 ) (.seq (.region 3 reg51_3 false) (.ret)) (.skip))) (.seq (.region 4 reg51_4 true) (.seq (.region 5 reg51_5 false) (.cond (.tmp 29 ) (.seq (.region 6 reg51_6 false) (.ret)) (.skip)))))))))) := by kernel_rfl
noncomputable def hdTake (k sv hp : Value) (u : Nat → Value) : Frame :=
  (base 51).at { tmps := #[k, sv, hp, u 3, u 4, u 5, .int .i64 0, .bool false, u 8, u 9, u 10, u 11, u 12, u 13, u 14, u 15, u 16, u 17, u 18, u 19, u 20, u 21, u 22, u 23, u 24, u 25, u 26, u 27, u 28, u 29, u 30, u 31], defers := [] } [.code (.block 1 (.seq (.region 1 reg51_1 false) (.seq (.seq (.region 2 reg51_2 false) (.cond (.tmp 14 ) (.seq (.region 3 reg51_3 false) (.ret)) (.skip))) (.seq (.region 4 reg51_4 true) (.seq (.region 5 reg51_5 false) (.cond (.tmp 29 ) (.seq (.region 6 reg51_6 false) (.ret)) (.skip))))))), .inLoop (.block 1 (.seq (.region 1 reg51_1 false) (.seq (.seq (.region 2 reg51_2 false) (.cond (.tmp 14 ) (.seq (.region 3 reg51_3 false) (.ret)) (.skip))) (.seq (.region 4 reg51_4 true) (.seq (.region 5 reg51_5 false) (.cond (.tmp 29 ) (.seq (.region 6 reg51_6 false) (.ret)) (.skip))))))), .inBlock 0]
theorem take_round (K : Lg (skLa kb nb n tg) sv) (hne : kb ≠ nb) (H : Hd kb nb n tg) (hn : n ≤ 65536) {D1 : SD} {D2 : Int → SD} {D3 : Int → Int → SD} {fail : Ans ⊕ SD} {don : Int → Ans ⊕ SD} (T : TakeD tg H.W.get H.W.put D1 D2 D3 fail don)
    (e : K.E) (ht : K.tgt e = (K.s e, .inr D1)) (fr : Frame) (l : List Frame) (hp : Plain fr) (hl : ∀ f ∈ l, Plain f) (hk : ∀ v e', TakeOut K fail don v e' → LW K.toLb e' (G (fr.finish v) (l ++ K.bot e')))
    (ih : ∀ e' u, K.fuel e' < K.fuel e → K.tgt e' = (K.s e', .inr D1) → LW K.toLb e' (G (hdTake (.pointer (some ⟨kb, 0, none⟩)) sv H.p u) (fr :: (l ++ K.bot e')))) (u : Nat → Value) :
    LW K.toLb e (G (hdTake (.pointer (some ⟨kb, 0, none⟩)) sv H.p u) (fr :: (l ++ K.bot e))) := by
  unfold LW hdTake
  repeat (first | refine Walk.cx ?_ | (refine Walk.cReg ?_; simp only [z51]) | (refine Walk.oq ?_; try walk_nrm) | (refine Walk.un ?_; walk_nrm))
  refine LW.callS (K := K.toLb) (e := e) (l := fr :: l) (f := 45) (Q := fun v e' => Aft K.toLb e D1 e' ∧ v = .int .i64 (H.W.get (K.s e'))) ?_ (ho_of (by conv => lhs; whnf) (by kernel_rfl)) (by rfl) (by decide) rfl Try.func45 (by kernel_rfl) (by rfl) ⟨rfl, rfl, _, Try.func51⟩ (plain_cons hp hl) ?_
  · walk_nrm
    exact hload_s K H e D1 ht
  rintro v e1 ⟨ha1, rfl⟩
  have ht1 : K.tgt e1 = if nodeX (H.W.get (K.s e1)) = -1 then (K.s e1, fail) else (K.s e1, .inr (D2 (H.W.get (K.s e1)))) := ha1.tgt.trans (T.a1 _)
  have hok := H.okg _ _ (K.inv e1)
  generalize htop : H.W.get (K.s e1) = top at *
  unfold LW
  walk_nrm
  repeat (first | refine Walk.cx ?_ | (refine Walk.cReg ?_; simp only [z51]) | (refine Walk.oq ?_; try walk_nrm) | (refine Walk.un ?_; walk_nrm))
  refine Walk.callV (x := .bool (nodeX top == -1)) (W := K.w e1) ?_ (ho_of (by conv => lhs; whnf) (by kernel_rfl)) (by rfl) (by decide) rfl Try.func54 (by kernel_rfl) (by rfl) ?_
  · walk_nrm
    exact empty_w top _
  walk_nrm
  by_cases hem : nodeX top = -1
  · rw [if_pos hem] at ht1
    have hb : (nodeX top == -1) = true := by simp [hem]
    rw [hb]
    repeat (first | refine Walk.cx ?_ | (refine Walk.cReg ?_; simp only [z51]) | (refine Walk.oq ?_; try walk_nrm) | (refine Walk.un ?_; walk_nrm))
    exact Walk.on2 rfl rfl Try.func51 rfl (hk _ e1 (.inl ⟨rfl, ht1⟩))
  · rw [if_neg hem] at ht1
    have hb : (nodeX top == -1) = false := by simp [hem]
    rw [hb]
    obtain ⟨i, hi⟩ : ∃ i : Nat, nodeX top = i := ⟨(nodeX top).toNat, by have := hok.nlo; omega⟩
    have hin : i < n := by have := hok.nhi; omega
    have hsl := sk_nodes (K.inv e1)
    have hi0 : (0 : Int) ≤ i := by omega
    have hi1 : decide ((i : Int) < n) = true := by simp; omega
    have hi3 : decide (i < n) = true := by simp; omega
    repeat (first | refine Walk.cx ?_ | (refine Walk.cReg ?_; simp only [z51]) | (refine Walk.oq ?_; try walk_nrm) | (refine Walk.un ?_; walk_nrm))
    (refine LW.drawnS (K := K.toLb) (l := fr :: l) (m := 9) (f := 52) (Q := fun v e' => Aft K.toLb e1 (D2 top) e' ∧ v = .int .i64 (Sk.nx (K.s e') i)) (by kernel_rfl) size51_4 (by kernel_rfl) (by kernel_rfl) (by kernel_rfl) (by kernel_rfl) (by decide) (ho_of (by conv => lhs; whnf) (by kernel_rfl)) rfl rfl Try.func52 (by kernel_rfl) (by rfl) (plain_cons hp hl) ?_; simp only [List.range, List.range.loop]; repeat (first | (refine Cm.oq ?_) | (refine Cm.unw (ho_of (by conv => lhs; whnf) (by kernel_rfl)) (by rfl) ?_; walk_nrm)))
    refine Cm.callV (x := .int .i64 (i : Nat)) ?_ (ho_of (by conv => lhs; whnf) (by kernel_rfl)) (by rfl) rfl Try.func46 (by kernel_rfl) (by rfl) ?_
    · intro w' he
      subst he
      walk_nrm
      rw [← hi]
      exact node_w top _
    walk_nrm
    repeat (first | (refine Cm.oq ?_) | (refine Cm.unw (ho_of (by conv => lhs; whnf) (by kernel_rfl)) (by rfl) ?_; walk_nrm))
    refine Cm.done ⟨fun rest => ⟨rfl, rfl, _, Try.func51⟩, ?_, ?finA, ?hA1, ?hA2⟩
    · walk_nrm
      exact word_load K (nxW hne i hin) e1 (D2 top) ht1
    case hA1 =>
      intro v e' rest hq hr
      clear hq
      unfold LW at hr ⊢
      walk_nrm
      (refine Walk.oq ?_; try walk_nrm)
      exact hr
    case hA2 =>
      rintro v e2 ⟨ha2, rfl⟩
      have ht2 : K.tgt e2 = (K.s e2, .inr (D3 top (Sk.nx (K.s e2) i))) := by
        have h := ha2.tgt.trans (T.a2 (K.s e2) top)
        rw [hi] at h
        exact h
      obtain ⟨hx1, hx2⟩ := (K.inv e2).nx i hin
      generalize hnx : Sk.nx (K.s e2) i = nx at *
      unfold LW
      repeat (first | refine Walk.cx ?_ | (refine Walk.cReg ?_; simp only [z51]) | (refine Walk.oq ?_; try walk_nrm) | (refine Walk.un ?_; walk_nrm))
      refine LW.callS (K := K.toLb) (e := e2) (l := fr :: l) (f := 65) (Q := Turned K H.W e2 (D3 top nx) top (heldX nx (turnTag tg top))) ?_ (ho_of (by conv => lhs; whnf) (by kernel_rfl)) (by rfl) (by decide) rfl Try.func65 (by kernel_rfl) (by rfl) ⟨rfl, rfl, _, Try.func51⟩ (plain_cons hp hl) ?_
      · walk_nrm
        exact hturn_s K H e2 (D3 top nx) top nx hok hx1 hx2 hn ht2
      rintro v e3 ⟨s, ⟨h1, rfl, hW⟩ | ⟨h1, rfl, hW⟩⟩
      · have ht3 : K.tgt e3 = (K.s e3, don i) := by
          rw [hW.s, ← hi]
          exact hW.tgt.trans ((T.a3 s top nx).trans (if_pos h1))
        unfold LW
        walk_nrm
        repeat (first | refine Walk.cx ?_ | (refine Walk.cReg ?_; simp only [z51]) | (refine Walk.oq ?_; try walk_nrm) | (refine Walk.un ?_; walk_nrm))
        refine Walk.callV (x := .int .i64 (i : Nat)) (W := K.w e3) ?_ (ho_of (by conv => lhs; whnf) (by kernel_rfl)) (by rfl) (by decide) rfl Try.func46 (by kernel_rfl) (by rfl) ?_
        · walk_nrm
          rw [← hi]
          exact node_w top _
        walk_nrm
        repeat (first | refine Walk.cx ?_ | (refine Walk.cReg ?_; simp only [z51]) | (refine Walk.oq ?_; try walk_nrm) | (refine Walk.un ?_; walk_nrm))
        exact Walk.on2 rfl rfl Try.func51 rfl (hk _ e3 (.inr ⟨i, hin, rfl, ht3⟩))
      · have ht3 : K.tgt e3 = (K.s e3, .inr D1) := by
          rw [hW.s]
          exact hW.tgt.trans ((T.a3 s top nx).trans (if_neg h1))
        have hfu : K.fuel e3 < K.fuel e := Nat.lt_trans hW.fuel (Nat.lt_trans ha2.fuel ha1.fuel)
        unfold LW
        walk_nrm
        repeat (first | refine Walk.cx ?_ | (refine Walk.cReg ?_; simp only [z51]) | (refine Walk.oq ?_; try walk_nrm) | (refine Walk.un ?_; walk_nrm))
        refine Walk.ctl rfl (fun w => stepG_inLoop) ?_
        refine slots_walk (F := fun u => G (hdTake (.pointer (some ⟨kb, 0, none⟩)) sv H.p u) (fr :: (l ++ K.bot e3))) (fun u => ih e3 u hfu ht3) ?_
        simp only [hdTake]
        rfl
theorem take_loop (K : Lg (skLa kb nb n tg) sv) (hne : kb ≠ nb) (H : Hd kb nb n tg) (hn : n ≤ 65536) {D1 : SD} {D2 : Int → SD} {D3 : Int → Int → SD} {fail : Ans ⊕ SD} {don : Int → Ans ⊕ SD} (T : TakeD tg H.W.get H.W.put D1 D2 D3 fail don)
    (fr : Frame) (l : List Frame) (hp : Plain fr) (hl : ∀ f ∈ l, Plain f) (hk : ∀ v e', TakeOut K fail don v e' → LW K.toLb e' (G (fr.finish v) (l ++ K.bot e'))) :
    ∀ (N : Nat) (e : K.E) (u : Nat → Value), K.fuel e < N → K.tgt e = (K.s e, .inr D1) → LW K.toLb e (G (hdTake (.pointer (some ⟨kb, 0, none⟩)) sv H.p u) (fr :: (l ++ K.bot e))) := by
  intro N
  induction N with
  | zero => intro e u h; omega
  | succ N ih => exact fun e u hf ht => take_round K hne H hn T e ht fr l hp hl hk (fun e' u' hf' ht' => ih e' u' (by omega) ht') u
theorem take_s (K : Lg (skLa kb nb n tg) sv) (hne : kb ≠ nb) (H : Hd kb nb n tg) (hn : n ≤ 65536) {D1 : SD} {D2 : Int → SD} {D3 : Int → Int → SD} {fail : Ans ⊕ SD} {don : Int → Ans ⊕ SD} (T : TakeD tg H.W.get H.W.put D1 D2 D3 fail don)
    (e : K.E) (ht : K.tgt e = (K.s e, .inr D1)) : SCall K.toLb 51 #[.pointer (some ⟨kb, 0, none⟩), sv, H.p] e (TakeOut K fail don) := by
  intro fr l hp hl hk
  have hh := fun u => take_loop K hne H hn T fr l hp hl hk (K.fuel e + 1) e u (Nat.lt_succ_self _) ht
  unfold LW at hh ⊢
  rw [enter_at _ Try.func51 code51_is]
  simp only [Try.ntmps51, ez, Nat.reduceAdd, Nat.reduceSub]
  repeat (first | refine Walk.cx ?_ | (refine Walk.cReg ?_; simp only [z51]) | (refine Walk.oq ?_; try walk_nrm) | (refine Walk.un ?_; walk_nrm))
  refine Walk.ctl rfl (fun w => stepG_loop) ?_
  refine slots_walk (F := fun u => G (hdTake (.pointer (some ⟨kb, 0, none⟩)) sv H.p u) (fr :: (l ++ K.bot e))) hh ?_
  simp only [hdTake]
  rfl
end
end
end Go.Proofs.Ytdmpmoggacjgcaa
