/- Part 5. -/
import Derived.Test.YtnnakajldnaldaaM4
set_option linter.unusedSimpArgs false
set_option linter.unusedVariables false
set_option maxHeartbeats 8000000
set_option maxRecDepth 100000
namespace Go.Proofs.Ytnnakajldnaldaa
open Go.Conc Go.RowKit Go.Relay
open Go.ConcN (upd upd_ne upd_same)
section
structure AdI (ops : Nat → List OpV) (W w : World) (i : Nat) (oa : Option Addr) (oc : Nat) (ra : Nat → Option Addr) (rc : Nat → Nat) : Prop where
  row : w.ownsRow W.heap.size 34 1 (.slice oa i oc) i ((List.range i).map fun k => .slice (ra k) (ops k).length (rc k))
  rows : ∀ k, k < i → w.ownsRow W.heap.size 46 4 (.slice (ra k) (ops k).length (rc k)) (ops k).length (opRow (ops k))
  apart : ∀ k, k < i → ∀ g, (Value.slice oa i oc).ownBlock = some g → (Value.slice (ra k) (ops k).length (rc k)).ownBlock ≠ some g
  old : ∀ b, b < W.heap.size → w.heap[b]? = W.heap[b]?
  size : W.heap.size ≤ w.heap.size
structure LsIn (lb lo K : Nat) (xa : Nat → Option Addr) (xc : Nat → Nat) (xs : Nat → List Int) (w : World) : Prop where
  hd : ∀ i, i < K → w.cell? ⟨lb, lo + i, none⟩ = some (.slice (xa i) (xs i).length (xc i))
  num : ∀ i, i < K → ∀ (k : Nat) (x : Int), (xs i)[k]? = some x → ∃ b o, xa i = some ⟨b, o, none⟩ ∧ w.cell? ⟨b, o + k, none⟩ = some (.int .i64 x)
def adOps (xs : Nat → List Int) (i : Nat) : List OpV := ((xs i).take 500).map (adO i)
theorem adOps_len (xs : Nat → List Int) (i : Nat) : (adOps xs i).length = min (xs i).length 500 := by unfold adOps; rw [List.length_map, List.length_take]; omega
section
variable {main : Bool}
theorem ad_in (lv : Value) (cs : List Frame) (w : World) :
    Walk Try.prog main (DR (fun _ => none)) (fun g w' => (∃ u, g = G (hdAo lv (.slice none 0 0) 0 0 u) cs) ∧ ∃ d, w' = w.at d)
      (G (Frame.enter Try.prog 23 #[lv] .normal) cs) w := by
  rw [enter_at _ Try.func23 code23_is]
  simp only [Try.ntmps23, List.size_toArray, List.length_cons, List.length_nil, Nat.reduceAdd, Nat.reduceSub, Array.replicate_succ, Array.replicate_zero, List.push_toArray, List.append_toArray, List.nil_append, List.cons_append]
  repeat (first | refine Walk.c rfl ?_ | refine Walk.cRet ?_ | refine Walk.cEnd ?_ | (refine Walk.cReg ?_; simp only [size23_0, size23_1, size23_2, size23_3, size23_4, size23_6, size23_7, size23_8, size23_10, size23_11, size23_12, size23_9, size23_13, size23_5, size23_14, List.range, List.range.loop]) | (refine Walk.oq ?_; try walk_nrm) | (refine Walk.un ?_; walk_nrm))
  refine Walk.ctl rfl (fun w => stepG_loop) ?_
  refine .stop fun d => ⟨at_slots ?_, d, rfl⟩
  simp only [hdAo]
  rfl
theorem ad_go (lb lo n0 lc : Nat) (tv : Value) (t : Int) (i : Nat) (hi : i < n0) (hi63 : i < 63) (u : Nat → Value) (cs : List Frame) (w : World) :
    Walk Try.prog main (DR (fun _ => none)) (fun g w' => (∃ u, g = G (hdAi (.slice (some ⟨lb, lo, none⟩) n0 lc) tv t i (.slice none 0 0) 0 u) cs) ∧ ∃ d, w' = w.at d)
      (G (hdAo (.slice (some ⟨lb, lo, none⟩) n0 lc) tv t i u) cs) w := by
  have hi0 : (0 : Int) ≤ i := by omega
  have hi1 : decide ((i : Int) < n0) = true := by simp; omega
  have hi3 : decide (i < n0) = true := by simp; omega
  have hi4 : (i : Int) < n0 := by omega
  have hi6 : decide ((i : Int) < 63) = true := by simp; omega
  have hi7 : decide (i < 63) = true := by simp; omega
  conv => arg 5; unfold hdAo
  repeat (first | refine Walk.c rfl ?_ | refine Walk.cRet ?_ | refine Walk.cEnd ?_ | (refine Walk.cReg ?_; simp only [size23_0, size23_1, size23_2, size23_3, size23_4, size23_6, size23_7, size23_8, size23_10, size23_11, size23_12, size23_9, size23_13, size23_5, size23_14, List.range, List.range.loop]) | (refine Walk.oq ?_; try walk_nrm) | (refine Walk.un ?_; walk_nrm))
  refine Walk.ctl rfl (fun w => stepG_loop) ?_
  refine .stop fun d => ⟨at_slots ?_, d, rfl⟩
  simp only [hdAi]
  rfl
theorem adI_put {ops : Nat → List OpV} {W w0 w w1 w2 : World} {i : Nat} {oa : Option Addr} {oc : Nat} {ra : Nat → Option Addr} {rc : Nat → Nat} {xa : Option Addr} {xc n6 Q g gcap : Nat} (H : AdI ops W w0 i oa oc ra rc) (R : OwI w0 w (ops i) xa xc) (hn6 : (ops i).length = n6) (hQ : w.heap.size = Q) (p1 : ∀ b, b < Q → w1.heap[b]? = w.heap[b]?) (s1 : w1.heap.size = Q + 1)
    (hown : w2.ownsRow W.heap.size 34 1 (.slice (some ⟨g, 0, none⟩) (i + 1) gcap) (i + 1) (((List.range i).map fun k => Value.slice (ra k) (ops k).length (rc k)) ++ [.slice xa n6 xc])) (hgr : w1.grownBy w2 (Value.slice oa i oc).ownBlock) (hat : (Value.slice oa i oc).ownBlock = some g ∨ g = w1.heap.size) (hltg : g < w2.heap.size) :
    AdI ops W w2 (i + 1) (some ⟨g, 0, none⟩) gcap (upd ra i xa) (upd rc i xc) := by
  have z0 := H.size
  have z1 := R.size
  have s2 := hgr.size
  have hR := R.row
  have hol := R.old
  rw [hn6] at hR
  have hlt := fun b (h : (Value.slice oa i oc).ownBlock = some b) => H.row.lt b h
  have hXlt := fun b (h : (Value.slice xa n6 xc).ownBlock = some b) => hR.lt b h
  have keep : ∀ b, b < Q → (∀ g, (Value.slice oa i oc).ownBlock = some g → b ≠ g) → w2.heap[b]? = w.heap[b]? := fun b hb hne => (hgr.block b (by omega) fun he => hne b he.symm rfl).trans (p1 b hb)
  refine ⟨?_, fun k hk => ?_, fun k hk g' hg' => ?_, fun b hb => ?_, by omega⟩
  · have e : ((List.range (i + 1)).map fun k => (Value.slice (upd ra i xa k) (ops k).length (upd rc i xc k))) = ((List.range i).map fun k => .slice (ra k) (ops k).length (rc k)) ++ [.slice xa n6 xc] := by
      rw [List.range_succ, List.map_append]
      congr 1
      · refine List.map_congr_left fun k hk => ?_
        have hk : k < i := List.mem_range.1 hk
        rw [upd_ne _ _ (by omega), upd_ne _ _ (by omega)]
      · simp only [List.map_cons, List.map_nil, upd_same, hn6]
    rw [e]
    exact hown
  · by_cases e : k = i
    · subst e
      simp only [upd_same, hn6]
      refine row_raise (row_same hR fun b hb => keep b (by have := (hXlt b hb).2; omega) fun g hg he => ?_) fun b hb => Nat.le_trans z0 (hXlt b hb).1
      have h1 := (hXlt b hb).1
      have h2 := (hlt g hg).2
      omega
    · rw [upd_ne _ _ e, upd_ne _ _ e]
      have hk' : k < i := by omega
      have hr := H.rows k hk'
      refine row_same hr fun b hb => (keep b (by have := (hr.lt b hb).2; omega) fun g hg he => H.apart k hk' g hg (he ▸ hb)).trans (hol b (hr.lt b hb).2)
  · have hg' : g = g' := by simpa [Value.ownBlock] using hg'
    subst hg'
    by_cases e : k = i
    · subst e
      simp only [upd_same, hn6]
      intro hb
      have h1 := hXlt g hb
      rcases hat with h | h
      · have h2 := (hlt g h).2
        omega
      · omega
    · rw [upd_ne _ _ e, upd_ne _ _ e]
      have hk' : k < i := by omega
      intro hb
      rcases hat with h | h
      · exact H.apart k hk' g h hb
      · have := ((H.rows k hk').lt g hb).2
        omega
  · exact (keep b (by omega) fun g hg he => by have := (hlt g hg).1; omega).trans ((hol b (by omega)).trans (H.old b hb))
theorem ad_put (lb lo n0 lc : Nat) (t : Int) (ops : Nat → List OpV) (oa : Option Addr) (oc i : Nat) (ra : Nat → Option Addr) (rc : Nat → Nat) (xa : Option Addr) (xc n6 xl zc : Nat) (za : Option Addr) (hn6 : (ops i).length = n6) (hx : n6 = xl) (hi : i < n0) (hn4 : i < 63) (u : Nat → Value) (cs : List Frame) (W w0 w : World)
    (H : AdI ops W w0 i oa oc ra rc) (R : OwI w0 w (ops i) xa xc) (c0 : w.cell? ⟨lb, lo + i, none⟩ = some (.slice za xl zc)) :
    Walk Try.prog main (DR (fun _ => none)) (fun g w' => ∃ oa' oc', (∃ u, g = G (hdAo (.slice (some ⟨lb, lo, none⟩) n0 lc) (.slice oa' (i + 1) oc') t (i + 1) u) cs) ∧ AdI ops W w' (i + 1) oa' oc' (upd ra i xa) (upd rc i xc))
      (G (hdAi (.slice (some ⟨lb, lo, none⟩) n0 lc) (.slice oa i oc) t i (.slice xa n6 xc) n6 u) cs) w := by
  subst hx
  have hk1 : decide ((n6 : Int) < n6) = false := by simp
  have hk3 : decide (n6 < n6) = false := by simp
  have hi0 : (0 : Int) ≤ i := by omega
  have hi4 : (i : Int) < n0 := by omega
  have hw1 : IntKind.wrap .i64 ((i : Int) + 1) = (i : Int) + 1 := by rw [IntKind.wrap_i64]; omega
  have hcc : ((i + 1 : Nat) : Int) = (i : Int) + 1 := by simp
  have hiO := Option.some_get (show (Try.prog.info? 34).isSome = true by kernel_rfl)
  have z0 := H.size
  have z1 := R.size
  have hrow := H.row
  have hlt := fun b (h : (Value.slice oa i oc).ownBlock = some b) => hrow.lt b h
  have hrow1 : w.ownsRow W.heap.size 34 1 (.slice oa i oc) i ((List.range i).map fun k => .slice (ra k) (ops k).length (rc k)) := row_same hrow fun b hb => R.old b (hlt b hb).2
  have hR := R.row
  have hol := R.old
  rw [hn6] at hR
  conv => arg 5; unfold hdAi
  repeat (first | refine Walk.c rfl ?_ | refine Walk.cRet ?_ | refine Walk.cEnd ?_ | (refine Walk.cReg ?_; simp only [size23_0, size23_1, size23_2, size23_3, size23_4, size23_6, size23_7, size23_8, size23_10, size23_11, size23_12, size23_9, size23_13, size23_5, size23_14, List.range, List.range.loop]) | (refine Walk.oq ?_; try walk_nrm) | (refine Walk.un ?_; walk_nrm))
  (refine Walk.oa ?_; try walk_nrm)
  have d1 := heap_alloc_new w (.cells #[.slice xa n6 xc] 34)
  have p1 : ∀ b, b < w.heap.size → (w.alloc (.cells #[.slice xa n6 xc] 34)).heap[b]? = w.heap[b]? := fun b hb => heap_new_lt _ _ hb
  have s1 : (w.alloc (.cells #[.slice xa n6 xc] 34)).heap.size = w.heap.size + 1 := by simp
  have hrow2 : (w.alloc (.cells #[.slice xa n6 xc] 34)).ownsRow W.heap.size 34 1 (.slice oa i oc) i ((List.range i).map fun k => .slice (ra k) (ops k).length (rc k)) := row_same hrow1 fun b hb => p1 b (by have := (hlt b hb).2; omega)
  clear c0
  generalize hQ : w.heap.size = Q at *
  generalize w.alloc (.cells #[.slice xa n6 xc] 34) = w1 at *
  repeat (first | (refine Walk.oq ?_; try walk_nrm) | (refine Walk.un ?_; walk_nrm))
  refine Walk.append (.tmp 61) (.tmp 63) 23 (ho_of (by conv => lhs; whnf) (by kernel_rfl)) (by rfl) (by decide) rfl W.heap.size 34 _ (.slice none 0 0) 1 24 (by kernel_rfl) hiO.symm (by rfl) (by rfl) (by rfl) (by rfl) (by decide) (.slice oa i oc) i ((List.range i).map fun k => .slice (ra k) (ops k).length (rc k)) rfl hrow2 ⟨Q, 0, none⟩ 1 1 [.slice xa n6 xc] rfl (by rfl) (fun y v hv => ?_) (by intro v hv; simp only [List.mem_cons, List.not_mem_nil, or_false] at hv; subst hv; rfl) (by decide) (by simp [maxLen]; omega) (by omega) (by omega) (fun b _ => ap0 b) (fun g gcap w2 hown hgr hat hltg => ?_)
  · rw [add_none, Nat.zero_add]
    refine (cell_of d1 y).trans ?_
    simpa using hv
  have s2 := hgr.size
  have hf : AdI ops W w2 (i + 1) (some ⟨g, 0, none⟩) gcap (upd ra i xa) (upd rc i xc) := adI_put H R hn6 hQ p1 s1 hown hgr hat hltg
  walk_nrm
  repeat (first | refine Walk.c rfl ?_ | refine Walk.cRet ?_ | refine Walk.cEnd ?_ | (refine Walk.cReg ?_; simp only [size23_0, size23_1, size23_2, size23_3, size23_4, size23_6, size23_7, size23_8, size23_10, size23_11, size23_12, size23_9, size23_13, size23_5, size23_14, List.range, List.range.loop]) | (refine Walk.oq ?_; try walk_nrm) | (refine Walk.un ?_; walk_nrm))
  refine Walk.ctl rfl (fun w => stepG_inLoop) ?_
  refine .stop fun d => ⟨some ⟨g, 0, none⟩, gcap, at_slots ?_, ⟨hf.row, hf.rows, hf.apart, hf.old, hf.size⟩⟩
  simp only [hdAo, hcc]
  rfl
theorem ad_put5 (lb lo n0 lc : Nat) (t : Int) (ops : Nat → List OpV) (oa : Option Addr) (oc i : Nat) (ra : Nat → Option Addr) (rc : Nat → Nat) (xa : Option Addr) (xc n6 xl zc : Nat) (za : Option Addr) (hn6 : (ops i).length = n6) (hx : n6 = 500 ∧ 500 < xl) (hi : i < n0) (hn4 : i < 63) (u : Nat → Value) (cs : List Frame) (W w0 w : World)
    (H : AdI ops W w0 i oa oc ra rc) (R : OwI w0 w (ops i) xa xc) (c0 : w.cell? ⟨lb, lo + i, none⟩ = some (.slice za xl zc)) :
    Walk Try.prog main (DR (fun _ => none)) (fun g w' => ∃ oa' oc', (∃ u, g = G (hdAo (.slice (some ⟨lb, lo, none⟩) n0 lc) (.slice oa' (i + 1) oc') t (i + 1) u) cs) ∧ AdI ops W w' (i + 1) oa' oc' (upd ra i xa) (upd rc i xc))
      (G (hdAi (.slice (some ⟨lb, lo, none⟩) n0 lc) (.slice oa i oc) t i (.slice xa n6 xc) n6 u) cs) w := by
  obtain ⟨rfl, hx⟩ := hx
  have hk1 : decide ((500 : Int) < xl) = true := by simp; omega
  have hk3 : decide (500 < xl) = true := by simp; omega
  have hk4 : (((500 : Nat) : Int)) = 500 := rfl
  have hi0 : (0 : Int) ≤ i := by omega
  have hi4 : (i : Int) < n0 := by omega
  have hw1 : IntKind.wrap .i64 ((i : Int) + 1) = (i : Int) + 1 := by rw [IntKind.wrap_i64]; omega
  have hcc : ((i + 1 : Nat) : Int) = (i : Int) + 1 := by simp
  have hiO := Option.some_get (show (Try.prog.info? 34).isSome = true by kernel_rfl)
  have z0 := H.size
  have z1 := R.size
  have hrow := H.row
  have hlt := fun b (h : (Value.slice oa i oc).ownBlock = some b) => hrow.lt b h
  have hrow1 : w.ownsRow W.heap.size 34 1 (.slice oa i oc) i ((List.range i).map fun k => .slice (ra k) (ops k).length (rc k)) := row_same hrow fun b hb => R.old b (hlt b hb).2
  have hR := R.row
  have hol := R.old
  rw [hn6] at hR
  conv => arg 5; unfold hdAi
  repeat (first | refine Walk.c rfl ?_ | refine Walk.cRet ?_ | refine Walk.cEnd ?_ | (refine Walk.cReg ?_; simp only [size23_0, size23_1, size23_2, size23_3, size23_4, size23_6, size23_7, size23_8, size23_10, size23_11, size23_12, size23_9, size23_13, size23_5, size23_14, List.range, List.range.loop]) | (refine Walk.oq ?_; try walk_nrm) | (refine Walk.un ?_; walk_nrm))
  (refine Walk.oa ?_; try walk_nrm)
  have d1 := heap_alloc_new w (.cells #[.slice xa 500 xc] 34)
  have p1 : ∀ b, b < w.heap.size → (w.alloc (.cells #[.slice xa 500 xc] 34)).heap[b]? = w.heap[b]? := fun b hb => heap_new_lt _ _ hb
  have s1 : (w.alloc (.cells #[.slice xa 500 xc] 34)).heap.size = w.heap.size + 1 := by simp
  have hrow2 : (w.alloc (.cells #[.slice xa 500 xc] 34)).ownsRow W.heap.size 34 1 (.slice oa i oc) i ((List.range i).map fun k => .slice (ra k) (ops k).length (rc k)) := row_same hrow1 fun b hb => p1 b (by have := (hlt b hb).2; omega)
  clear c0
  generalize hQ : w.heap.size = Q at *
  generalize w.alloc (.cells #[.slice xa 500 xc] 34) = w1 at *
  repeat (first | (refine Walk.oq ?_; try walk_nrm) | (refine Walk.un ?_; walk_nrm))
  refine Walk.append (.tmp 61) (.tmp 63) 23 (ho_of (by conv => lhs; whnf) (by kernel_rfl)) (by rfl) (by decide) rfl W.heap.size 34 _ (.slice none 0 0) 1 24 (by kernel_rfl) hiO.symm (by rfl) (by rfl) (by rfl) (by rfl) (by decide) (.slice oa i oc) i ((List.range i).map fun k => .slice (ra k) (ops k).length (rc k)) rfl hrow2 ⟨Q, 0, none⟩ 1 1 [.slice xa 500 xc] rfl (by rfl) (fun y v hv => ?_) (by intro v hv; simp only [List.mem_cons, List.not_mem_nil, or_false] at hv; subst hv; rfl) (by decide) (by simp [maxLen]; omega) (by omega) (by omega) (fun b _ => ap0 b) (fun g gcap w2 hown hgr hat hltg => ?_)
  · rw [add_none, Nat.zero_add]
    refine (cell_of d1 y).trans ?_
    simpa using hv
  have s2 := hgr.size
  have hf : AdI ops W w2 (i + 1) (some ⟨g, 0, none⟩) gcap (upd ra i xa) (upd rc i xc) := adI_put H R hn6 hQ p1 s1 hown hgr hat hltg
  walk_nrm
  repeat (first | refine Walk.c rfl ?_ | refine Walk.cRet ?_ | refine Walk.cEnd ?_ | (refine Walk.cReg ?_; simp only [size23_0, size23_1, size23_2, size23_3, size23_4, size23_6, size23_7, size23_8, size23_10, size23_11, size23_12, size23_9, size23_13, size23_5, size23_14, List.range, List.range.loop]) | (refine Walk.oq ?_; try walk_nrm) | (refine Walk.un ?_; walk_nrm))
  refine Walk.ctl rfl (fun w => stepG_inLoop) ?_
  refine .stop fun d => ⟨some ⟨g, 0, none⟩, gcap, at_slots ?_, ⟨hf.row, hf.rows, hf.apart, hf.old, hf.size⟩⟩
  simp only [hdAo, hcc]
  rfl
theorem ad_out (n0 : Nat) (lv : Value) (la : Option Addr) (lc : Nat) (tv : Value) (t : Int) (hlv : lv = .slice la n0 lc) (u : Nat → Value) (fr : Frame) (cs : List Frame) (w : World) :
    Walk Try.prog main (DR (fun _ => none)) (fun g w' => g = G (fr.finish (.tuple #[tv, .int .i64 t])) cs ∧ ∃ d, w' = w.at d) (G (hdAo lv tv t n0 u) (fr :: cs)) w := by
  subst hlv
  have hk1 : decide ((n0 : Int) < n0) = false := by simp
  have hk3 : decide (n0 < n0) = false := by simp
  conv => arg 5; unfold hdAo
  repeat (first | refine Walk.c rfl ?_ | refine Walk.cRet ?_ | refine Walk.cEnd ?_ | (refine Walk.cReg ?_; simp only [size23_0, size23_1, size23_2, size23_3, size23_4, size23_6, size23_7, size23_8, size23_10, size23_11, size23_12, size23_9, size23_13, size23_5, size23_14, List.range, List.range.loop]) | (refine Walk.oq ?_; try walk_nrm) | (refine Walk.un ?_; walk_nrm))
  exact Walk.on2 rfl rfl Try.func23 rfl (.stop fun d => ⟨rfl, d, rfl⟩)
theorem ad_out63 (n0 : Nat) (lv : Value) (la : Option Addr) (lc : Nat) (tv : Value) (t : Int) (hlv : lv = .slice la n0 lc) (hn : 63 < n0) (u : Nat → Value) (fr : Frame) (cs : List Frame) (w : World) :
    Walk Try.prog main (DR (fun _ => none)) (fun g w' => g = G (fr.finish (.tuple #[tv, .int .i64 t])) cs ∧ ∃ d, w' = w.at d) (G (hdAo lv tv t 63 u) (fr :: cs)) w := by
  subst hlv
  have hk1 : decide ((63 : Int) < n0) = true := by simp; omega
  have hk3 : decide (63 < n0) = true := by simp; omega
  have hk4 : (((63 : Nat) : Int)) = 63 := rfl
  conv => arg 5; unfold hdAo
  repeat (first | refine Walk.c rfl ?_ | refine Walk.cRet ?_ | refine Walk.cEnd ?_ | (refine Walk.cReg ?_; simp only [size23_0, size23_1, size23_2, size23_3, size23_4, size23_6, size23_7, size23_8, size23_10, size23_11, size23_12, size23_9, size23_13, size23_5, size23_14, List.range, List.range.loop]) | (refine Walk.oq ?_; try walk_nrm) | (refine Walk.un ?_; walk_nrm))
  exact Walk.on2 rfl rfl Try.func23 rfl (.stop fun d => ⟨rfl, d, rfl⟩)
theorem ad_threads (lb lo n0 lc K : Nat) (hK : K = min n0 63) (xa : Nat → Option Addr) (xc : Nat → Nat) (xs : Nat → List Int) (cs : List Frame) (W : World) (L : LsIn lb lo K xa xc xs W) :
    ∀ (r i : Nat) (t : Int) (oa : Option Addr) (oc : Nat) (ra : Nat → Option Addr) (rc : Nat → Nat) (u : Nat → Value) (w : World), i + r = K → 0 ≤ t → t ≤ 500000 * i → AdI (adOps xs) W w i oa oc ra rc →
    Walk Try.prog main (DR (fun _ => none)) (fun g w' => ∃ t oa oc ra rc, (∃ u, g = G (hdAo (.slice (some ⟨lb, lo, none⟩) n0 lc) (.slice oa K oc) t K u) cs) ∧ AdI (adOps xs) W w' K oa oc ra rc) (G (hdAo (.slice (some ⟨lb, lo, none⟩) n0 lc) (.slice oa i oc) t i u) cs) w := by
  intro r
  induction r with
  | zero =>
    intro i t oa oc ra rc u w hi _ _ H
    obtain rfl : i = K := by omega
    exact .stop fun d => ⟨t, oa, oc, ra, rc, ⟨u, rfl⟩, H.row, H.rows, H.apart, H.old, H.size⟩
  | succ r ih =>
    intro i t oa oc ra rc u w hi ht0 ht1 H
    have hin : i < K := by omega
    have hcell : ∀ {x y : Nat} {v : Value}, W.cell? ⟨x, y, none⟩ = some v → w.cell? ⟨x, y, none⟩ = some v := fun {x y v} h => (World.cell?_of_block (a := ⟨x, y, none⟩) (H.old x (cell_lt' h))).trans h
    have hlen := adOps_len xs i
    refine (ad_go lb lo n0 lc (.slice oa i oc) t i (by omega) (by omega) u cs w).then ?_
    rintro _ _ ⟨⟨u1, rfl⟩, d1, rfl⟩
    refine Walk.back ?_ d1
    obtain ⟨xb, xo, hxa⟩ : ∃ xb xo, 0 < min (xs i).length 500 → xa i = some ⟨xb, xo, none⟩ := by
      by_cases h0 : 0 < min (xs i).length 500
      · obtain ⟨x, hx⟩ : ∃ x, (xs i)[0]? = some x := ⟨_, List.getElem?_eq_getElem (by omega)⟩
        obtain ⟨b, o, e, _⟩ := L.num i hin 0 x hx
        exact ⟨b, o, fun _ => e⟩
      · exact ⟨0, 0, fun h => absurd h h0⟩
    refine (add_ops lb lo n0 lc (.slice oa i oc) i xb xo (xs i).length (xc i) (min (xs i).length 500) (xa i) (xs i) rfl rfl hxa (by omega) (by omega) cs w (hcell (L.hd i hin)) (fun k x hx e => ?_) (min (xs i).length 500) 0 t none 0 u1 w (by omega) ht0 (by omega) ⟨⟨rfl, .inl ⟨rfl, rfl⟩⟩, fun _ _ => rfl, Nat.le_refl _⟩).then ?_
    · obtain ⟨b, o, e', h⟩ := L.num i hin k x hx
      rw [e] at e'
      cases e'
      exact hcell h
    rintro _ w2 ⟨t2, oa2, oc2, ht20, ht21, ⟨u2, rfl⟩, R⟩
    have R : OwI w w2 (adOps xs i) oa2 oc2 := R
    have c0 : w2.cell? ⟨lb, lo + i, none⟩ = some (.slice (xa i) (xs i).length (xc i)) := by
      have h := hcell (L.hd i hin)
      exact (World.cell?_of_block (a := ⟨lb, lo + i, none⟩) (R.old lb (cell_lt' h))).trans h
    by_cases hx : (xs i).length ≤ 500
    · have e : min (xs i).length 500 = (xs i).length := by omega
      rw [e] at hlen ⊢
      refine (ad_put lb lo n0 lc t2 (adOps xs) oa oc i ra rc oa2 oc2 (xs i).length (xs i).length (xc i) (xa i) hlen rfl (by omega) (by omega) u2 cs W w w2 H R c0).then ?_
      rintro _ w3 ⟨oa3, oc3, ⟨u3, rfl⟩, H3⟩
      exact ih (i + 1) t2 oa3 oc3 _ _ u3 w3 (by omega) ht20 (by omega) H3
    · have e : min (xs i).length 500 = 500 := by omega
      rw [e] at hlen ⊢
      refine (ad_put5 lb lo n0 lc t2 (adOps xs) oa oc i ra rc oa2 oc2 500 (xs i).length (xc i) (xa i) hlen ⟨rfl, by omega⟩ (by omega) (by omega) u2 cs W w w2 H R c0).then ?_
      rintro _ w3 ⟨oa3, oc3, ⟨u3, rfl⟩, H3⟩
      exact ih (i + 1) t2 oa3 oc3 _ _ u3 w3 (by omega) ht20 (by omega) H3
theorem adders_w (la : Option Addr) (lb lo n0 lc : Nat) (hla : 0 < n0 → la = some ⟨lb, lo, none⟩) (xa : Nat → Option Addr) (xc : Nat → Nat) (xs : Nat → List Int) (w : World) (L : LsIn lb lo (min n0 63) xa xc xs w) :
    CallW Try.prog main (fun _ => none) 23 #[.slice la n0 lc] w (fun v w' => ∃ t oa oc ra rc, v = .tuple #[.slice oa (min n0 63) oc, .int .i64 t] ∧ AdI (adOps xs) w w' (min n0 63) oa oc ra rc) := by
  intro fr cs
  refine (ad_in (.slice la n0 lc) (fr :: cs) w).then ?_
  rintro _ _ ⟨⟨u1, rfl⟩, d1, rfl⟩
  refine Walk.back ?_ d1
  have H0 : AdI (adOps xs) w w 0 none 0 (fun _ => none) (fun _ => 0) := ⟨⟨rfl, .inl ⟨rfl, rfl⟩⟩, fun k hk => absurd hk (Nat.not_lt_zero _), fun k hk => absurd hk (Nat.not_lt_zero _), fun _ _ => rfl, Nat.le_refl _⟩
  have fin : ∀ {t : Int} {oa : Option Addr} {oc : Nat} {ra : Nat → Option Addr} {rc : Nat → Nat} (u : Nat → Value) (w2 : World), AdI (adOps xs) w w2 (min n0 63) oa oc ra rc → Walk Try.prog main (DR (fun _ => none)) (fun g w' => ∃ v, (∃ t oa oc ra rc, v = .tuple #[.slice oa (min n0 63) oc, .int .i64 t] ∧ AdI (adOps xs) w w' (min n0 63) oa oc ra rc) ∧ g = G (fr.finish v) cs) (G (hdAo (.slice la n0 lc) (.slice oa (min n0 63) oc) t (min n0 63) u) (fr :: cs)) w2 := fun {t oa oc ra rc} u w2 H => by
    have key : Walk Try.prog main (DR (fun _ => none)) (fun g w' => g = G (fr.finish (.tuple #[.slice oa (min n0 63) oc, .int .i64 t])) cs ∧ ∃ d, w' = w2.at d) (G (hdAo (.slice la n0 lc) (.slice oa (min n0 63) oc) t (min n0 63) u) (fr :: cs)) w2 := by
      by_cases h : n0 ≤ 63
      · have e : min n0 63 = n0 := by omega
        rw [e]
        exact ad_out n0 (.slice la n0 lc) la lc _ t rfl u fr cs w2
      · have e : min n0 63 = 63 := by omega
        rw [e]
        exact ad_out63 n0 (.slice la n0 lc) la lc _ t rfl (by omega) u fr cs w2
    refine key.mono ?_
    rintro g w3 ⟨rfl, d, rfl⟩
    exact ⟨_, ⟨t, oa, oc, ra, rc, rfl, H.row, H.rows, H.apart, H.old, H.size⟩, rfl⟩
  by_cases h0 : 0 < n0
  · obtain rfl := hla h0
    refine (ad_threads lb lo n0 lc (min n0 63) rfl xa xc xs (fr :: cs) w L (min n0 63) 0 0 none 0 (fun _ => none) (fun _ => 0) u1 w (by omega) (Int.le_refl _) (by omega) H0).then ?_
    rintro _ w2 ⟨t, oa, oc, ra, rc, ⟨u2, rfl⟩, H⟩
    exact fin u2 w2 H
  · obtain rfl : n0 = 0 := by omega
    exact fin u1 w H0
theorem AdI.ops {K : Nat} {ops : Nat → List OpV} {W w : World} {oa : Option Addr} {oc : Nat} {ra : Nat → Option Addr} {rc : Nat → Nat} (H : AdI ops W w K oa oc ra rc) (hl : ∀ k, k < K → (ops k).length ≤ 65536) :
    ∃ tb, (0 < K → oa = some ⟨tb, 0, none⟩) ∧ OpsIn tb 0 K ra (fun k => (ops k).length) rc ops w := by
  have hx : ∀ i, i < K → ((List.range K).map fun k => Value.slice (ra k) (ops k).length (rc k))[i]? = some (.slice (ra i) (ops i).length (rc i)) := fun i hi => by simp [hi]
  by_cases h0 : K = 0
  · subst h0
    exact ⟨0, fun h => absurd h (Nat.lt_irrefl _), fun i h => absurd h (Nat.not_lt_zero _), fun i h => absurd h (Nat.not_lt_zero _), fun i h => absurd h (Nat.not_lt_zero _), fun i h => absurd h (Nat.not_lt_zero _), fun i h => absurd h (Nat.not_lt_zero _)⟩
  · obtain ⟨tb, rfl, _, _, _⟩ := row_at H.row (hx 0 (by omega))
    refine ⟨tb, fun _ => rfl, fun i hi => ?_, fun i hi => ?_, fun i hi => ?_, fun i hi => ?_, fun i hi j o ho => ?_⟩
    · obtain ⟨g, e, _, _, hc⟩ := row_at H.row (hx i hi)
      cases e
      rw [Nat.zero_add]
      exact hc
    · rcases (H.rows i hi).2 with ⟨e, h⟩ | ⟨g, cap, cur, e, h1, h2, h3, _⟩
      · omega
      · injection e with _ _ e3
        omega
    · rcases (H.rows i hi).2 with ⟨e, h⟩ | ⟨g, cap, cur, e, h1, h2, h3, _⟩
      · injection e with e1 _ e3
        exact .inl ⟨e1, e3⟩
      · injection e with e1 _ _
        exact .inr ⟨_, e1⟩
    · have := hl i hi
      omega
    · obtain ⟨g, e, _, _, c0⟩ := row_at (H.rows i hi) (opRow_get (ops i) j 0 o _ ho rfl)
      refine ⟨g, 0, e, ?_, ?_, ?_, ?_⟩ <;> rw [Nat.zero_add]
      · exact c0
      · obtain ⟨g', e', _, _, h⟩ := row_at (H.rows i hi) (opRow_get (ops i) j 1 o _ ho rfl)
        rw [e] at e'; cases e'; exact h
      · obtain ⟨g', e', _, _, h⟩ := row_at (H.rows i hi) (opRow_get (ops i) j 2 o _ ho rfl)
        rw [e] at e'; cases e'; exact h
      · obtain ⟨g', e', _, _, h⟩ := row_at (H.rows i hi) (opRow_get (ops i) j 3 o _ ho rfl)
        rw [e] at e'; cases e'; exact h
end
end
end Go.Proofs.Ytnnakajldnaldaa
