/- Part 14. -/
import Derived.Test.YtdcjgmlgmjjogaaM13
set_option linter.unusedSimpArgs false
set_option linter.unusedVariables false
set_option maxHeartbeats 8000000
set_option maxRecDepth 100000
namespace Go.Proofs.Ytdcjgmlgmjjogaa
open Go.Conc Go.RowKit Go.Relay
open Go.ConcN (upd upd_ne upd_same)
section
structure FewI (n : Nat) (ops : Nat → List OpV) (W w : World) (i : Nat) (oa : Option Addr) (oc : Nat) (ra : Nat → Option Addr) (rc : Nat → Nat) : Prop where
  row : w.ownsRow W.heap.size 32 1 (.slice oa i oc) i ((List.range i).map fun k => .slice (ra k) (ops k).length (rc k))
  rows : ∀ k, k < i → w.ownsRow W.heap.size 34 4 (.slice (ra k) (ops k).length (rc k)) (ops k).length (opRow ((ops k).map (fewO n)))
  apart : ∀ k, k < i → ∀ g, (Value.slice oa i oc).ownBlock = some g → (Value.slice (ra k) (ops k).length (rc k)).ownBlock ≠ some g
  old : ∀ b, b < W.heap.size → w.heap[b]? = W.heap[b]?
  size : W.heap.size ≤ w.heap.size
section
variable {main : Bool}
theorem few_in (ta : Option Addr) (n n0 tc : Nat) (had : ta = none ∧ tc = 0 ∨ ∃ p, ta = some p) (hcap : n0 ≤ tc) (cs : List Frame) (w : World) :
    Walk Try.prog main (DR (fun _ => none)) (fun g w' => (∃ u, g = G (hdFo (.slice ta n0 tc) n (.slice none 0 0) (.slice ta (min n0 4) tc) (min n0 4) 0 u) cs) ∧ ∃ d, w' = w.at d)
      (G (Frame.enter Try.prog 17 #[.int .i64 n, .slice ta n0 tc] .normal) cs) w := by
  have hi2 := Option.some_get (show (Try.prog.info? 32).isSome = true by kernel_rfl)
  have huT : Try.prog.underlying 22 = some (.slice 32) := by kernel_rfl
  have hmn := @events_min_ints Try.prog
  have hmin : min (n0 : Int) 4 = ((min n0 4 : Nat) : Int) := by omega
  have hle : min n0 4 ≤ tc := by omega
  generalize hx : min n0 4 = x at *
  have hsl := fun w => (run_slx huT hi2.symm ta n0 tc x hle had w #[]).1
  have hse := fun w es => (run_slx huT hi2.symm ta n0 tc x hle had w es).2
  rw [enter_at _ Try.func17 code17_is]
  simp only [Try.ntmps17, List.size_toArray, List.length_cons, List.length_nil, Nat.reduceAdd, Nat.reduceSub, Array.replicate_succ, Array.replicate_zero, List.push_toArray, List.append_toArray, List.nil_append, List.cons_append]
  repeat (first | refine Walk.c rfl ?_ | refine Walk.cRet ?_ | refine Walk.cEnd ?_ | (refine Walk.cReg ?_; simp only [size17_0, size17_1, size17_2, size17_3, size17_4, size17_5, size17_6, size17_7, size17_8, size17_9, size17_10, size17_11, size17_12, size17_13, size17_14, size17_15, size17_16, List.range, List.range.loop]) | (refine Walk.oq ?_; try walk_nrm) | (refine Walk.un ?_; walk_nrm))
  try rw [hmin]
  repeat (first | refine Walk.c rfl ?_ | refine Walk.cRet ?_ | refine Walk.cEnd ?_ | (refine Walk.cReg ?_; simp only [size17_0, size17_1, size17_2, size17_3, size17_4, size17_5, size17_6, size17_7, size17_8, size17_9, size17_10, size17_11, size17_12, size17_13, size17_14, size17_15, size17_16, List.range, List.range.loop]) | (refine Walk.oq ?_; try walk_nrm) | (refine Walk.un ?_; walk_nrm))
  refine Walk.ctl rfl (fun w => stepG_loop) ?_
  refine .stop fun d => ⟨at_slots ?_, d, rfl⟩
  simp only [hdFo]
  rfl
theorem few_go (tv : Value) (n : Nat) (ov : Value) (tb toff n4 i : Nat) (xc : Nat) (ya : Option Addr) (yl yc : Nat) (hi : i < n4) (hn4 : n4 ≤ 4) (had : ya = none ∧ yc = 0 ∨ ∃ p, ya = some p) (hcap : yl ≤ yc) (u : Nat → Value) (cs : List Frame) (w : World)
    (hc : w.cell? ⟨tb, toff + i, none⟩ = some (.slice ya yl yc)) :
    Walk Try.prog main (DR (fun _ => none)) (fun g w' => (∃ u, g = G (hdFi tv n ov (.slice (some ⟨tb, toff, none⟩) n4 xc) n4 i (.slice none 0 0) (.slice ya (min yl 6) yc) (min yl 6) 0 u) cs) ∧ ∃ d, w' = w.at d)
      (G (hdFo tv n ov (.slice (some ⟨tb, toff, none⟩) n4 xc) n4 i u) cs) w := by
  have hi2 := Option.some_get (show (Try.prog.info? 34).isSome = true by kernel_rfl)
  have hi0 : (0 : Int) ≤ i := by omega
  have hi1 : decide ((i : Int) < n4) = true := by simp; omega
  have hi3 : decide (i < n4) = true := by simp; omega
  have hi4 : (i : Int) < n4 := by omega
  have hmn := @events_min_ints Try.prog
  have hmin : min (yl : Int) 6 = ((min yl 6 : Nat) : Int) := by omega
  have hle : min yl 6 ≤ yc := by omega
  generalize hx : min yl 6 = x at *
  have hsl := fun w => (run_slx huOps hi2.symm ya yl yc x hle had w #[]).1
  have hse := fun w es => (run_slx huOps hi2.symm ya yl yc x hle had w es).2
  conv => arg 5; unfold hdFo
  repeat (first | refine Walk.c rfl ?_ | refine Walk.cRet ?_ | refine Walk.cEnd ?_ | (refine Walk.cReg ?_; simp only [size17_0, size17_1, size17_2, size17_3, size17_4, size17_5, size17_6, size17_7, size17_8, size17_9, size17_10, size17_11, size17_12, size17_13, size17_14, size17_15, size17_16, List.range, List.range.loop]) | (refine Walk.oq ?_; try walk_nrm) | (refine Walk.un ?_; walk_nrm))
  try rw [hmin]
  repeat (first | refine Walk.c rfl ?_ | refine Walk.cRet ?_ | refine Walk.cEnd ?_ | (refine Walk.cReg ?_; simp only [size17_0, size17_1, size17_2, size17_3, size17_4, size17_5, size17_6, size17_7, size17_8, size17_9, size17_10, size17_11, size17_12, size17_13, size17_14, size17_15, size17_16, List.range, List.range.loop]) | (refine Walk.oq ?_; try walk_nrm) | (refine Walk.un ?_; walk_nrm))
  refine Walk.ctl rfl (fun w => stepG_loop) ?_
  refine .stop fun d => ⟨at_slots ?_, d, rfl⟩
  simp only [hdFi]
  rfl
theorem few_put (tv : Value) (n : Nat) (ops : Nat → List OpV) (oa : Option Addr) (oc : Nat) (xv : Value) (n4 i : Nat) (ra : Nat → Option Addr) (rc : Nat → Nat) (xa : Option Addr) (xc n6 : Nat) (yv : Value) (hn6 : (ops i).length = n6) (hi : i < n4) (hn4 : n4 ≤ 4) (u : Nat → Value) (cs : List Frame) (W w0 w : World)
    (H : FewI n ops W w0 i oa oc ra rc) (R : OwI w0 w ((ops i).map (fewO n)) xa xc) :
    Walk Try.prog main (DR (fun _ => none)) (fun g w' => ∃ oa' oc', (∃ u, g = G (hdFo tv n (.slice oa' (i + 1) oc') xv n4 (i + 1) u) cs) ∧ FewI n ops W w' (i + 1) oa' oc' (upd ra i xa) (upd rc i xc))
      (G (hdFi tv n (.slice oa i oc) xv n4 i (.slice xa n6 xc) yv n6 n6 u) cs) w := by
  have hi1 : decide ((n6 : Int) < n6) = false := by simp
  have hi3 : decide (n6 < n6) = false := by simp
  have hw1 : IntKind.wrap .i64 ((i : Int) + 1) = (i : Int) + 1 := by rw [IntKind.wrap_i64]; omega
  have hcc : ((i + 1 : Nat) : Int) = (i : Int) + 1 := by simp
  have hiO := Option.some_get (show (Try.prog.info? 32).isSome = true by kernel_rfl)
  have z0 := H.size
  have z1 := R.size
  have hrow := H.row
  have hlt := fun b (h : (Value.slice oa i oc).ownBlock = some b) => hrow.lt b h
  have hrow1 : w.ownsRow W.heap.size 32 1 (.slice oa i oc) i ((List.range i).map fun k => .slice (ra k) (ops k).length (rc k)) := row_same hrow fun b hb => R.old b (hlt b hb).2
  have hR := R.row
  have hol := R.old
  simp only [List.length_map] at hR
  rw [hn6] at hR
  conv => arg 5; unfold hdFi
  repeat (first | refine Walk.c rfl ?_ | refine Walk.cRet ?_ | refine Walk.cEnd ?_ | (refine Walk.cReg ?_; simp only [size17_0, size17_1, size17_2, size17_3, size17_4, size17_5, size17_6, size17_7, size17_8, size17_9, size17_10, size17_11, size17_12, size17_13, size17_14, size17_15, size17_16, List.range, List.range.loop]) | (refine Walk.oq ?_; try walk_nrm) | (refine Walk.un ?_; walk_nrm))
  (refine Walk.oa ?_; try walk_nrm)
  have d1 := heap_alloc_new w (.cells #[.slice xa n6 xc] 32)
  have p1 : ∀ b, b < w.heap.size → (w.alloc (.cells #[.slice xa n6 xc] 32)).heap[b]? = w.heap[b]? := fun b hb => heap_new_lt _ _ hb
  have s1 : (w.alloc (.cells #[.slice xa n6 xc] 32)).heap.size = w.heap.size + 1 := by simp
  have hrow2 : (w.alloc (.cells #[.slice xa n6 xc] 32)).ownsRow W.heap.size 32 1 (.slice oa i oc) i ((List.range i).map fun k => .slice (ra k) (ops k).length (rc k)) := row_same hrow1 fun b hb => p1 b (by have := (hlt b hb).2; omega)
  generalize hQ : w.heap.size = Q at *
  generalize w.alloc (.cells #[.slice xa n6 xc] 32) = w1 at *
  repeat (first | (refine Walk.oq ?_; try walk_nrm) | (refine Walk.un ?_; walk_nrm))
  refine Walk.append (.tmp 57) (.tmp 59) 22 (ho_of (by conv => lhs; whnf) (by kernel_rfl)) (by rfl) (by decide) rfl W.heap.size 32 _ (.slice none 0 0) 1 24 (by kernel_rfl) hiO.symm (by rfl) (by rfl) (by rfl) (by rfl) (by decide) (.slice oa i oc) i ((List.range i).map fun k => .slice (ra k) (ops k).length (rc k)) rfl hrow2 ⟨Q, 0, none⟩ 1 1 [.slice xa n6 xc] rfl (by rfl) (fun y v hv => ?_) (by intro v hv; simp only [List.mem_cons, List.not_mem_nil, or_false] at hv; subst hv; rfl) (by decide) (by simp [maxLen]; omega) (by omega) (by omega) (fun b _ => ap0 b) (fun g gcap w2 hown hgr hat hltg => ?_)
  · rw [add_none, Nat.zero_add]
    refine (cell_of d1 y).trans ?_
    simpa using hv
  have s2 := hgr.size
  have hXlt := fun b (h : (Value.slice xa n6 xc).ownBlock = some b) => hR.lt b h
  have keep : ∀ b, b < Q → (∀ g, (Value.slice oa i oc).ownBlock = some g → b ≠ g) → w2.heap[b]? = w.heap[b]? := fun b hb hne => (hgr.block b (by omega) fun he => hne b he.symm rfl).trans (p1 b hb)
  have hf : FewI n ops W w2 (i + 1) (some ⟨g, 0, none⟩) gcap (upd ra i xa) (upd rc i xc) := by
    refine ⟨?_, fun k hk => ?_, fun k hk g' hg' => ?_, fun b hb => ?_, by omega⟩
    · have e : ((List.range (i + 1)).map fun k => (Value.slice (upd ra i xa k) (ops k).length (upd rc i xc k))) = ((List.range i).map fun k => .slice (ra k) (ops k).length (rc k)) ++ [.slice xa n6 xc] := by
        rw [List.range_succ, List.map_append]
        congr 1
        · refine List.map_congr_left fun k hk => ?_
          have hk : k < i := List.mem_range.1 hk
          rw [upd_ne _ _ (by omega), upd_ne _ _ (by omega)]
        · simp only [List.map_cons, List.map_nil, upd_same, hn6]
      rw [e]
      exact hown
    · by_cases e : k = i
      · subst e
        simp only [upd_same, hn6]
        refine row_raise (row_same hR fun b hb => keep b (by have := (hXlt b hb).2; omega) fun g hg he => ?_) fun b hb => Nat.le_trans z0 (hXlt b hb).1
        have h1 := (hXlt b hb).1
        have h2 := (hlt g hg).2
        omega
      · rw [upd_ne _ _ e, upd_ne _ _ e]
        have hk' : k < i := by omega
        have hr := H.rows k hk'
        refine row_same hr fun b hb => (keep b (by have := (hr.lt b hb).2; omega) fun g hg he => H.apart k hk' g hg (he ▸ hb)).trans (hol b (hr.lt b hb).2)
    · have hg' : g = g' := by simpa [Value.ownBlock] using hg'
      subst hg'
      by_cases e : k = i
      · subst e
        simp only [upd_same, hn6]
        intro hb
        have h1 := hXlt g hb
        rcases hat with h | h
        · have h2 := (hlt g h).2
          omega
        · omega
      · rw [upd_ne _ _ e, upd_ne _ _ e]
        have hk' : k < i := by omega
        intro hb
        rcases hat with h | h
        · exact H.apart k hk' g h hb
        · have := ((H.rows k hk').lt g hb).2
          omega
    · exact (keep b (by omega) fun g hg he => by have := (hlt g hg).1; omega).trans ((hol b (by omega)).trans (H.old b hb))
  walk_nrm
  repeat (first | refine Walk.c rfl ?_ | refine Walk.cRet ?_ | refine Walk.cEnd ?_ | (refine Walk.cReg ?_; simp only [size17_0, size17_1, size17_2, size17_3, size17_4, size17_5, size17_6, size17_7, size17_8, size17_9, size17_10, size17_11, size17_12, size17_13, size17_14, size17_15, size17_16, List.range, List.range.loop]) | (refine Walk.oq ?_; try walk_nrm) | (refine Walk.un ?_; walk_nrm))
  refine Walk.ctl rfl (fun w => stepG_inLoop) ?_
  refine .stop fun d => ⟨some ⟨g, 0, none⟩, gcap, at_slots ?_, ⟨hf.row, hf.rows, hf.apart, hf.old, hf.size⟩⟩
  simp only [hdFo, hcc]
  rfl
theorem few_out (tv : Value) (n : Nat) (ov xv : Value) (n4 : Nat) (u : Nat → Value) (fr : Frame) (cs : List Frame) (w : World) :
    Walk Try.prog main (DR (fun _ => none)) (fun g w' => g = G (fr.finish ov) cs ∧ ∃ d, w' = w.at d) (G (hdFo tv n ov xv n4 n4 u) (fr :: cs)) w := by
  have hi1 : decide ((n4 : Int) < n4) = false := by simp
  have hi3 : decide (n4 < n4) = false := by simp
  conv => arg 5; unfold hdFo
  repeat (first | refine Walk.c rfl ?_ | refine Walk.cRet ?_ | refine Walk.cEnd ?_ | (refine Walk.cReg ?_; simp only [size17_0, size17_1, size17_2, size17_3, size17_4, size17_5, size17_6, size17_7, size17_8, size17_9, size17_10, size17_11, size17_12, size17_13, size17_14, size17_15, size17_16, List.range, List.range.loop]) | (refine Walk.oq ?_; try walk_nrm) | (refine Walk.un ?_; walk_nrm))
  exact Walk.on1 rfl rfl Try.func17 rfl (.stop fun d => ⟨rfl, d, rfl⟩)
theorem few_threads (tv : Value) (n : Nat) (hn : 0 < n) (hnn : n ≤ 64) (tb toff n4 xc : Nat) (xa : Option Addr) (hxa : 0 < n4 → xa = some ⟨tb, toff, none⟩) (hn4 : n4 ≤ 4) (ya : Nat → Option Addr) (ln yc : Nat → Nat) (ops0 : Nat → List OpV) (cs : List Frame) (W : World) (I : OpsIn tb toff n4 ya ln yc ops0 W) :
    ∀ (r i : Nat) (oa : Option Addr) (oc : Nat) (ra : Nat → Option Addr) (rc : Nat → Nat) (u : Nat → Value) (w : World), i + r = n4 → FewI n (fun k => (ops0 k).take 6) W w i oa oc ra rc →
    Walk Try.prog main (DR (fun _ => none)) (fun g w' => ∃ oa oc ra rc, (∃ u, g = G (hdFo tv n (.slice oa n4 oc) (.slice xa n4 xc) n4 n4 u) cs) ∧ FewI n (fun k => (ops0 k).take 6) W w' n4 oa oc ra rc) (G (hdFo tv n (.slice oa i oc) (.slice xa n4 xc) n4 i u) cs) w := by
  intro r
  induction r with
  | zero =>
    intro i oa oc ra rc u w hi H
    obtain rfl : i = n4 := by omega
    exact .stop fun d => ⟨oa, oc, ra, rc, ⟨u, rfl⟩, H.row, H.rows, H.apart, H.old, H.size⟩
  | succ r ih =>
    intro i oa oc ra rc u w hi H
    have hin : i < n4 := by omega
    obtain rfl := hxa (by omega)
    have hcell : ∀ {x y : Nat} {v : Value}, W.cell? ⟨x, y, none⟩ = some v → w.cell? ⟨x, y, none⟩ = some v := fun {x y v} h => (World.cell?_of_block (a := ⟨x, y, none⟩) (H.old x (cell_lt' h))).trans h
    have hlen : ((ops0 i).take 6).length = min (ln i) 6 := by
      rw [List.length_take, I.len i hin]
      omega
    refine (few_go tv n (.slice oa i oc) tb toff n4 i xc (ya i) (ln i) (yc i) hin hn4 (I.ad i hin) (I.cap i hin) u cs w (hcell (I.hd i hin))).then ?_
    rintro _ _ ⟨⟨u1, rfl⟩, d1, rfl⟩
    refine Walk.back ?_ d1
    have hops : ∀ (j : Nat) (o : OpV), ((ops0 i).take 6)[j]? = some o → ∃ b off, ya i = some ⟨b, off, none⟩ ∧ W.cell? ⟨b, off + j * 4, none⟩ = some (.int .i64 o.k) ∧ W.cell? ⟨b, off + j * 4 + 1, none⟩ = some (.int .i64 o.a) ∧ W.cell? ⟨b, off + j * 4 + 2, none⟩ = some (.int .i64 o.b) ∧ W.cell? ⟨b, off + j * 4 + 3, none⟩ = some (.int .i64 o.c) := fun j o ho => by
      rw [List.getElem?_take] at ho
      split at ho
      · exact I.ops i hin j o ho
      · cases ho
    obtain ⟨ob, oo, hya⟩ : ∃ ob oo, 0 < min (ln i) 6 → ya i = some ⟨ob, oo, none⟩ := by
      by_cases h0 : 0 < min (ln i) 6
      · obtain ⟨o, ho⟩ : ∃ o, ((ops0 i).take 6)[0]? = some o := ⟨_, List.getElem?_eq_getElem (by omega)⟩
        obtain ⟨b, off, e, _⟩ := hops 0 o ho
        exact ⟨b, off, fun _ => e⟩
      · exact ⟨0, 0, fun h => absurd h h0⟩
    refine (few_ops tv n (.slice oa i oc) (.slice (some ⟨tb, toff, none⟩) n4 xc) n4 i (ya i) ob oo (min (ln i) 6) (yc i) ((ops0 i).take 6) hlen (by omega) hya hn hnn cs w (fun j o ho => ?_) (min (ln i) 6) 0 none 0 u1 w (by omega) ⟨⟨rfl, .inl ⟨rfl, rfl⟩⟩, fun _ _ => rfl, Nat.le_refl _⟩).then ?_
    · obtain ⟨b, off, e, c0, c1, c2, c3⟩ := hops j o ho
      have hj : j < min (ln i) 6 := hlen ▸ (List.getElem?_eq_some_iff.1 ho).1
      have e' := hya (by omega)
      rw [e] at e'
      cases e'
      exact ⟨hcell c0, hcell c1, hcell c2, hcell c3⟩
    rintro _ w2 ⟨oa2, oc2, ⟨u2, rfl⟩, R⟩
    refine (few_put tv n (fun k => (ops0 k).take 6) oa oc (.slice (some ⟨tb, toff, none⟩) n4 xc) n4 i ra rc oa2 oc2 (min (ln i) 6) (.slice (ya i) (min (ln i) 6) (yc i)) hlen hin hn4 u2 cs W w w2 H R).then ?_
    rintro _ w3 ⟨oa3, oc3, ⟨u3, rfl⟩, H3⟩
    exact ih (i + 1) oa3 oc3 _ _ u3 w3 (by omega) H3
theorem few_w (n : Nat) (hn : 0 < n) (hnn : n ≤ 64) (ta : Option Addr) (tb toff n0 tc : Nat) (hta : 0 < n0 → ta = some ⟨tb, toff, none⟩) (had : ta = none ∧ tc = 0 ∨ ∃ p, ta = some p) (hcap : n0 ≤ tc) (ya : Nat → Option Addr) (ln yc : Nat → Nat) (ops0 : Nat → List OpV) (w : World) (I : OpsIn tb toff (min n0 64) ya ln yc ops0 w) :
    CallW Try.prog main (fun _ => none) 17 #[.int .i64 n, .slice ta n0 tc] w (fun v w' => ∃ oa oc ra rc, v = .slice oa (min n0 4) oc ∧ FewI n (fun k => (ops0 k).take 6) w w' (min n0 4) oa oc ra rc) := by
  intro fr cs
  have I4 : OpsIn tb toff (min n0 4) ya ln yc ops0 w := ⟨fun i hi => I.hd i (by omega), fun i hi => I.cap i (by omega), fun i hi => I.ad i (by omega), fun i hi => I.len i (by omega), fun i hi => I.ops i (by omega)⟩
  refine (few_in ta n n0 tc had hcap (fr :: cs) w).then ?_
  rintro _ _ ⟨⟨u1, rfl⟩, d1, rfl⟩
  refine Walk.back ?_ d1
  refine (few_threads (.slice ta n0 tc) n hn hnn tb toff (min n0 4) tc ta (fun h => hta (by omega)) (by omega) ya ln yc ops0 (fr :: cs) w I4 (min n0 4) 0 none 0 (fun _ => none) (fun _ => 0) u1 w (by omega) ⟨⟨rfl, .inl ⟨rfl, rfl⟩⟩, fun k hk => absurd hk (Nat.not_lt_zero _), fun k hk => absurd hk (Nat.not_lt_zero _), fun _ _ => rfl, Nat.le_refl _⟩).then ?_
  rintro _ w2 ⟨oa, oc, ra, rc, ⟨u2, rfl⟩, H⟩
  refine (few_out (.slice ta n0 tc) n (.slice oa (min n0 4) oc) (.slice ta (min n0 4) tc) (min n0 4) u2 fr cs w2).mono ?_
  rintro g w3 ⟨rfl, d, rfl⟩
  exact ⟨_, ⟨oa, oc, ra, rc, rfl, H.row, H.rows, H.apart, H.old, H.size⟩, rfl⟩
theorem FewI.ops {n n4 : Nat} {ops : Nat → List OpV} {W w : World} {oa : Option Addr} {oc : Nat} {ra : Nat → Option Addr} {rc : Nat → Nat} (H : FewI n ops W w n4 oa oc ra rc) (hl : ∀ k, k < n4 → (ops k).length ≤ 6) :
    ∃ tb, (0 < n4 → oa = some ⟨tb, 0, none⟩) ∧ OpsIn tb 0 n4 ra (fun k => (ops k).length) rc (fun k => (ops k).map (fewO n)) w := by
  have hx : ∀ i, i < n4 → ((List.range n4).map fun k => Value.slice (ra k) (ops k).length (rc k))[i]? = some (.slice (ra i) (ops i).length (rc i)) := fun i hi => by simp [hi]
  by_cases h0 : n4 = 0
  · subst h0
    exact ⟨0, fun h => absurd h (Nat.lt_irrefl _), fun i h => absurd h (Nat.not_lt_zero _), fun i h => absurd h (Nat.not_lt_zero _), fun i h => absurd h (Nat.not_lt_zero _), fun i h => absurd h (Nat.not_lt_zero _), fun i h => absurd h (Nat.not_lt_zero _)⟩
  · obtain ⟨tb, rfl, _, _, _⟩ := row_at H.row (hx 0 (by omega))
    refine ⟨tb, fun _ => rfl, fun i hi => ?_, fun i hi => ?_, fun i hi => ?_, fun i hi => ?_, fun i hi j o ho => ?_⟩
    · obtain ⟨g, e, _, _, hc⟩ := row_at H.row (hx i hi)
      cases e
      rw [Nat.zero_add]
      exact hc
    · rcases (H.rows i hi).2 with ⟨e, h⟩ | ⟨g, cap, cur, e, h1, h2, h3, _⟩
      · omega
      · injection e with _ _ e3
        omega
    · rcases (H.rows i hi).2 with ⟨e, h⟩ | ⟨g, cap, cur, e, h1, h2, h3, _⟩
      · injection e with e1 _ e3
        exact .inl ⟨e1, e3⟩
      · injection e with e1 _ _
        exact .inr ⟨_, e1⟩
    · rw [List.length_map]
      have := hl i hi
      omega
    · obtain ⟨g, e, _, _, c0⟩ := row_at (H.rows i hi) (opRow_get ((ops i).map (fewO n)) j 0 o _ ho rfl)
      refine ⟨g, 0, e, ?_, ?_, ?_, ?_⟩ <;> rw [Nat.zero_add]
      · exact c0
      · obtain ⟨g', e', _, _, h⟩ := row_at (H.rows i hi) (opRow_get ((ops i).map (fewO n)) j 1 o _ ho rfl)
        rw [e] at e'; cases e'; exact h
      · obtain ⟨g', e', _, _, h⟩ := row_at (H.rows i hi) (opRow_get ((ops i).map (fewO n)) j 2 o _ ho rfl)
        rw [e] at e'; cases e'; exact h
      · obtain ⟨g', e', _, _, h⟩ := row_at (H.rows i hi) (opRow_get ((ops i).map (fewO n)) j 3 o _ ho rfl)
        rw [e] at e'; cases e'; exact h
end
end
end Go.Proofs.Ytdcjgmlgmjjogaa
