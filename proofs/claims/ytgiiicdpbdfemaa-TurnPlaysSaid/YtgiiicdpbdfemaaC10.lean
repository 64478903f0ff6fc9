/- Part 10. -/
import Derived.Test.YtgiiicdpbdfemaaC9
set_option linter.unusedSimpArgs false
section
namespace Go.Proofs.Ytgiiicdpbdfemaa
open Go.Conc Go.RowKit Go.Relay
open Go.ConcN (upd upd_ne upd_same)
variable {main : Bool} {V : Nat → Option Wait}
noncomputable def reg76_0 : Array Oper := match Try.f76.body with | some (.seq (.region _ ops _) _) => ops | _ => #[]
theorem size76_0 : reg76_0.size = 1 := by kernel_rfl
noncomputable def reg76_1 : Array Oper := match Try.f76.body with | some (.seq _ (.seq (.region _ ops _) _)) => ops | _ => #[]
theorem size76_1 : reg76_1.size = 5 := by kernel_rfl
theorem code76_is : Try.f76.body = some (.seq (.region 0 reg76_0 false) (.seq (.region 1 reg76_1 false) (.ret))) := by kernel_rfl
noncomputable def reg21_0 : Array Oper := match Try.f21.body with | some (.seq (.region _ ops _) _) => ops | _ => #[]
theorem size21_0 : reg21_0.size = 1 := by kernel_rfl
noncomputable def reg21_1 : Array Oper := match Try.f21.body with | some (.seq _ (.seq (.region _ ops _) _)) => ops | _ => #[]
theorem size21_1 : reg21_1.size = 3 := by kernel_rfl
theorem code21_is : Try.f21.body = some (.seq (.region 0 reg21_0 false) (.seq (.region 1 reg21_1 false) (.ret))) := by kernel_rfl
noncomputable def reg47_0 : Array Oper := match Try.f47.body with | some (.seq (.region _ ops _) _) => ops | _ => #[]
theorem size47_0 : reg47_0.size = 1 := by kernel_rfl
noncomputable def reg47_1 : Array Oper := match Try.f47.body with | some (.seq _ (.seq (.region _ ops _) _)) => ops | _ => #[]
theorem size47_1 : reg47_1.size = 1 := by kernel_rfl
noncomputable def reg47_2 : Array Oper := match Try.f47.body with | some (.seq _ (.seq _ (.seq (.region _ ops _) _))) => ops | _ => #[]
theorem size47_2 : reg47_2.size = 4 := by kernel_rfl
noncomputable def reg47_3 : Array Oper := match Try.f47.body with | some (.seq _ (.seq _ (.seq _ (.seq (.region _ ops _) _)))) => ops | _ => #[]
theorem size47_3 : reg47_3.size = 7 := by kernel_rfl
theorem code47_is : Try.f47.body = some (.seq (.region 0 reg47_0 false) (.seq (.region 1 reg47_1 false) (.seq (.region 2 reg47_2 false) (.seq (.region 3 reg47_3 false) (.ret))))) := by kernel_rfl
theorem rem4 (n : Int) : (IntKind.i64.wrap (n.tmod 4 + 4)).tmod 4 = n % 4 := by
  have h1 := Int.tmod_lt_of_pos n (show (0 : Int) < 4 by decide)
  have h2 := Int.lt_tmod_of_pos n (show (0 : Int) < 4 by decide)
  have h3 := Int.mul_tdiv_add_tmod n 4
  generalize n.tmod 4 = r at *
  generalize n.tdiv 4 = q at *
  have e2 : IntKind.i64.wrap (r + 4) = r + 4 := by rw [IntKind.wrap_i64]; omega
  rw [e2, Int.tmod_eq_emod_of_nonneg (by omega)]
  omega
set_option maxHeartbeats 8000000 in
set_option maxRecDepth 100000 in
theorem reg76_w (n : Int) (w : World) : CallV Try.prog main V 76 #[.int .i64 n] w (.int .i64 (n % 4)) w := by
  refine callW_in Try.func76 code76_is fun fr cs => ?_
  simp only [Try.ntmps76, List.size_toArray, List.length_cons, List.length_nil, Nat.reduceAdd, Nat.reduceSub, Array.replicate_succ, Array.replicate_zero, List.push_toArray, List.append_toArray, List.nil_append, List.cons_append]
  repeat (first | refine Walk.c rfl ?_ | refine Walk.cRet ?_ | refine Walk.cEnd ?_ | (refine Walk.cReg ?_; simp only [size76_0, size76_1, List.range, List.range.loop]) | (refine Walk.oq ?_; try walk_nrm) | (refine Walk.un ?_; walk_nrm))
  exact Walk.ret1 rfl rfl Try.func76 rfl fun d => ⟨by simp [rem4], d, rfl⟩
set_option maxHeartbeats 8000000 in
set_option maxRecDepth 100000 in
theorem threads21_w (n : Int) (w : World) : CallV Try.prog main V 21 #[.int .i64 n] w (.int .i64 (min n 64)) w := by
  have hmn := @events_min_ints Try.prog
  refine callW_in Try.func21 code21_is fun fr cs => ?_
  simp only [Try.ntmps21, List.size_toArray, List.length_cons, List.length_nil, Nat.reduceAdd, Nat.reduceSub, Array.replicate_succ, Array.replicate_zero, List.push_toArray, List.append_toArray, List.nil_append, List.cons_append]
  repeat (first | refine Walk.c rfl ?_ | refine Walk.cRet ?_ | refine Walk.cEnd ?_ | (refine Walk.cReg ?_; simp only [size21_0, size21_1, List.range, List.range.loop]) | (refine Walk.oq ?_; try walk_nrm) | (refine Walk.un ?_; walk_nrm))
  exact Walk.ret1 rfl rfl Try.func21 rfl fun d => ⟨by simp, d, rfl⟩
structure Kept (B : Nat) (sl : List Int) (most : Int) (w w' : World) : Prop where
  all : ∃ la lc, w'.heap[B]? = some (.cells #[.slice la sl.length lc, .int .i64 (min (max most 0) 1048576), .int .i64 0, .int .i64 0, .slice none 0 0] 112) ∧ w'.ownsRow w.heap.size 3 1 (.slice la sl.length lc) sl.length (ints sl) ∧ (Value.slice la sl.length lc).ownBlock ≠ some B
  lt : w.heap.size ≤ B
  old : Old w w'
set_option maxHeartbeats 8000000 in
set_option maxRecDepth 100000 in
theorem newTurns47_w (sa : Option Addr) (sc : Nat) (sl : List Int) (most : Int) (w : World) (hsl : sl.length ≤ 17592186044416) (hnil : sa = none → sl = [] ∧ sc = 0) (hs : ∀ (j : Nat) (z : Int), sl[j]? = some z → ∃ s so, sa = some ⟨s, so, none⟩ ∧ w.cell? ⟨s, so + j, none⟩ = some (.int .i64 z)) :
    CallW Try.prog main (fun _ => none) 47 #[.slice sa sl.length sc, .int .i64 most] w (fun v w' => ∃ B, v = .pointer (some ⟨B, 0, none⟩) ∧ Kept B sl most w w') := by
  have hmx := @events_max_ints Try.prog
  have hmn := @events_min_ints Try.prog
  refine callW_in Try.func47 code47_is fun fr cs => ?_
  simp only [Try.ntmps47, List.size_toArray, List.length_cons, List.length_nil, Nat.reduceAdd, Nat.reduceSub, Array.replicate_succ, Array.replicate_zero, List.push_toArray, List.append_toArray, List.nil_append, List.cons_append]
  repeat (first | refine Walk.c rfl ?_ | refine Walk.cRet ?_ | refine Walk.cEnd ?_ | (refine Walk.cReg ?_; simp only [size47_0, size47_1, size47_2, size47_3, List.range, List.range.loop]) | (refine Walk.oq ?_; try walk_nrm) | (refine Walk.un ?_; walk_nrm))
  have hi3 := Option.some_get (show (Try.prog.info? 3).isSome = true by kernel_rfl)
  refine Walk.appendSl (.tmp 6) (.tmp 7) 24 (ho_of (by conv => lhs; whnf) (by kernel_rfl)) (by rfl) (by decide) rfl w.heap.size 3 _ (.int .i64 0) 1 8 (by kernel_rfl) hi3.symm (by rfl) (by rfl) (by rfl) (by rfl) (by decide) (.slice none 0 0) 0 [] rfl (row_nil w _ _ _) sa sl.length sc (ints sl) rfl (fun e => ⟨by rw [(hnil e).1]; rfl, (hnil e).2⟩) (by simp [ints]) (fun ad e j u hu => ?_) (by simp [ints, Value.oneCell']) (by simp [maxLen]; omega) (by omega) (Nat.le_refl _) (fun g hg => by simp [Value.ownBlock] at hg) fun v w1 hown hg hat => ?_
  · unfold ints at hu
    rw [List.getElem?_map] at hu
    obtain ⟨z, hz, rfl⟩ := Option.map_eq_some_iff.1 hu
    obtain ⟨s, so, e', hc⟩ := hs j z hz
    rw [e] at e'
    cases e'
    rw [add_none]
    exact hc
  clear hi3
  rw [Nat.zero_add, List.nil_append] at hown
  obtain ⟨la, lc, rfl⟩ := row_shape hown
  have hO : Old w w1 := ⟨hg.size, fun b hb => hg.block b hb (by simp [Value.ownBlock])⟩
  clear hg hat
  walk_nrm
  repeat (first | refine Walk.c rfl ?_ | refine Walk.cRet ?_ | refine Walk.cEnd ?_ | (refine Walk.cReg ?_; simp only [size47_0, size47_1, size47_2, size47_3, List.range, List.range.loop]) | (refine Walk.oq ?_; try walk_nrm) | (refine Walk.un ?_; walk_nrm))
  (refine Walk.oa ?_; try walk_nrm)
  have hB := heap_alloc_new w1 (.cells #[.slice la sl.length lc, .int .i64 (min (max most 0) 1048576), .int .i64 0, .int .i64 0, .slice none 0 0] 112)
  have hO2 := hO.trans (old_alloc w1 (.cells #[.slice la sl.length lc, .int .i64 (min (max most 0) 1048576), .int .i64 0, .int .i64 0, .slice none 0 0] 112))
  have hK : Kept w1.heap.size sl most w (w1.alloc (.cells #[.slice la sl.length lc, .int .i64 (min (max most 0) 1048576), .int .i64 0, .int .i64 0, .slice none 0 0] 112)) := by
    refine ⟨⟨la, lc, hB, row_same hown fun g hg => heap_new_lt w1 _ (hown.lt g hg).2, fun e => ?_⟩, hO.size, hO2⟩
    exact absurd (hown.lt _ e).2 (Nat.lt_irrefl _)
  clear hB hO2 hO hown
  generalize w1.alloc _ = w2 at *
  repeat (first | refine Walk.c rfl ?_ | refine Walk.cRet ?_ | refine Walk.cEnd ?_ | (refine Walk.cReg ?_; simp only [size47_0, size47_1, size47_2, size47_3, List.range, List.range.loop]) | (refine Walk.oq ?_; try walk_nrm) | (refine Walk.un ?_; walk_nrm))
  exact Walk.ret1 rfl rfl Try.func47 rfl fun d => ⟨w1.heap.size, by simp, hK.all, hK.lt, ⟨hK.old.size, hK.old.same⟩⟩
end Go.Proofs.Ytgiiicdpbdfemaa
end

section
namespace Go.Proofs.Ytgiiicdpbdfemaa
open Go.Conc Go.RowKit Go.Relay
open Go.ConcN (upd upd_ne upd_same)
variable {main : Bool}
def CodesIn (a : Option Addr) (codes : List Cd) (w : World) : Prop := ∀ j c, codes[j]? = some c → ∃ cb co, a = some ⟨cb, co, none⟩ ∧ ∀ m v, (cdCells c)[m]? = some v → w.cell? ⟨cb, co + j * 5 + m, none⟩ = some v
theorem CodesIn.old {a : Option Addr} {codes : List Cd} {w w' : World} (h : CodesIn a codes w) (hO : Old w w') : CodesIn a codes w' := fun j c e => by
  obtain ⟨cb, co, e1, h1⟩ := h j c e
  exact ⟨cb, co, e1, fun m v hv => old_cell hO (h1 m v hv)⟩
def rtArr (cv : Value) (pc : Int) (R : Nat → Int) (tv : Value) (e : Bool) : Array Value := #[cv, .int .i64 pc, .int .i64 (R 0), .int .i64 (R 1), .int .i64 (R 2), .int .i64 (R 3), tv, .bool e]
theorem rt_get (cv : Value) (pc : Int) (R : Nat → Int) (tv : Value) (e : Bool) {k : Nat} (hk : k < 4) : (rtArr cv pc R tv e)[2 + k]? = some (.int .i64 (R k)) := by
  match k, hk with
  | 0, _ => rfl
  | 1, _ => rfl
  | 2, _ => rfl
  | 3, _ => rfl
theorem rt_set (cv : Value) (pc : Int) (R : Nat → Int) (tv : Value) (e : Bool) {k : Nat} (hk : k < 4) (v : Int) : (rtArr cv pc R tv e).setIfInBounds (2 + k) (.int .i64 v) = rtArr cv pc (upd R k v) tv e := by
  match k, hk with
  | 0, _ => simp [rtArr, upd]
  | 1, _ => simp [rtArr, upd]
  | 2, _ => simp [rtArr, upd]
  | 3, _ => simp [rtArr, upd]
noncomputable def reg74_0 : Array Oper := match Try.f74.body with | some (.seq (.region _ ops _) _) => ops | _ => #[]
theorem size74_0 : reg74_0.size = 1 := by kernel_rfl
noncomputable def reg74_1 : Array Oper := match Try.f74.body with | some (.seq _ (.seq (.region _ ops _) _)) => ops | _ => #[]
theorem size74_1 : reg74_1.size = 12 := by kernel_rfl
noncomputable def reg74_2 : Array Oper := match Try.f74.body with | some (.seq _ (.seq _ (.seq (.region _ ops _) _))) => ops | _ => #[]
theorem size74_2 : reg74_2.size = 20 := by kernel_rfl
theorem code74_is : Try.f74.body = some (.seq (.region 0 reg74_0 false) (.seq (.region 1 reg74_1 true) (.seq (.region 2 reg74_2 false) (.ret)))) := by kernel_rfl
noncomputable def at74 (tv xv : Value) (nw : Nat) (u : Nat → Value) : Frame :=
  (base 74).at { tmps := #[tv, .int .i64 nw, u 2, u 3, .bool false, xv, u 6, u 7, u 8, u 9, u 10, u 11, u 12, u 13, u 14, u 15, u 16, u 17, u 18, u 19, u 20, u 21, u 22, u 23, u 24, u 25, u 26, u 27, u 28, u 29, u 30, u 31, u 32, u 33, u 34], defers := [] } [.code (.seq (.region 2 reg74_2 false) (.ret))]
def cdArr (c : Cd) : Array Value := #[.int .i64 c.d, .int .i64 c.r, .int .i64 c.a, .int .i64 c.b, .int .i64 c.v]
def zeros5 : Obj := .cells #[.int .i64 0, .int .i64 0, .int .i64 0, .int .i64 0, .int .i64 0] 96
set_option maxHeartbeats 8000000 in
set_option maxRecDepth 100000 in
theorem stands74_in (p cb co L cc k nw : Nat) (c : Cd) (cs : List Frame) (w : World) (h0 : w.cell? ⟨p, 0, none⟩ = some (.slice (some ⟨cb, co, none⟩) L cc)) (h1 : w.cell? ⟨p, 1, none⟩ = some (.int .i64 (k : Nat))) (hk : k < L)
    (hc : ∀ m v, (cdCells c)[m]? = some v → w.cell? ⟨cb, co + k * 5 + m, none⟩ = some v) :
    Walk Try.prog main (DR (fun _ => none)) (fun g w' => (∃ u, g = G (at74 (.pointer (some ⟨p, 0, none⟩)) (.pointer (some ⟨w.heap.size, 0, none⟩)) nw u) cs) ∧ ∃ d, w' = (w.alloc (.cells (cdArr c) 96)).at d) (G (Frame.enter Try.prog 74 #[.pointer (some ⟨p, 0, none⟩), .int .i64 nw] .normal) cs) w := by
  have h0' := cell_alloc w zeros5 h0
  have h1' := cell_alloc w zeros5 h1
  have hc' : ∀ w', w' = w ∨ w' = w.alloc zeros5 → ∀ m v, (cdCells c)[m]? = some v → w'.cell? ⟨cb, co + k * 5 + m, none⟩ = some v := fun w' e m v hv => by
    rcases e with rfl | rfl
    · exact hc m v hv
    · exact cell_alloc w _ (hc m v hv)
  obtain ⟨t96, hu96⟩ : ∃ t96, Try.prog.underlying 96 = some (.struct t96) := by
    have h : (match Try.prog.underlying 96 with | some (.struct _) => true | _ => false) = true := by kernel_rfl
    cases e : Try.prog.underlying 96 with
    | none => rw [e] at h; cases h
    | some x => rw [e] at h; cases x <;> first | exact ⟨_, rfl⟩ | cases h
  rw [enter_at _ Try.func74 code74_is]
  simp only [Try.ntmps74, List.size_toArray, List.length_cons, List.length_nil, Nat.reduceAdd, Nat.reduceSub, Array.replicate_succ, Array.replicate_zero, List.push_toArray, List.append_toArray, List.nil_append, List.cons_append]
  repeat (first | refine Walk.c rfl ?_ | refine Walk.cRet ?_ | refine Walk.cEnd ?_ | (refine Walk.cReg ?_; simp only [size74_0, size74_1, size74_2, List.range, List.range.loop]) | (refine Walk.oq ?_; try walk_nrm) | (refine Walk.un ?_; walk_nrm))
  refine Walk.drawnB (w1 := w.alloc (zeros5)) (vm := .pointer (some ⟨w.heap.size, 0, none⟩)) (by kernel_rfl) size74_1 (by kernel_rfl) (by kernel_rfl) (by kernel_rfl) (by decide) (ho_of (by conv => lhs; whnf) (by kernel_rfl)) ?_ ?_
  · intro x rest hr
    (refine Walk.oa ?_; try walk_nrm)
    exact hr _ _ ⟨rfl, _, rfl⟩
  simp only [List.range, List.range.loop]
  repeat (first | (refine Cm.opqB (ho_of (by conv => lhs; whnf) (by kernel_rfl)) (by rfl) (fun dd e he => ?_) (fun dd e he => ?_) ?_; (· (simp [go_sem, *] at he; try (subst he; exact evR_read _ _))); (· (simp [go_sem, *] at he; try (subst he; exact evR_read _ _))); apply Exists.intro; apply And.intro; (· (intro dd K hK; go_simp; exact hK)); apply And.intro; (· (intro dd K hK; go_simp; exact hK))) | (refine Cm.unw (ho_of (by conv => lhs; whnf) (by kernel_rfl)) (by rfl) ?_; walk_nrm))
  refine Cm.loadS 96 (.tmp 14) (ho_of (by conv => lhs; whnf) (by kernel_rfl)) (by rfl) rfl cb (co + k * 5) (cdCells c) _ rfl hc' hu96 rfl (by kernel_rfl) ?_
  clear hc' hc h0 h1 h0' h1'
  walk_nrm
  refine Cm.done ?_
  intro rest hr
  refine Walk.storeS 96 (.tmp 5) (.tmp 15) (ho_of (by conv => lhs; whnf) (by kernel_rfl)) (by rfl) (by decide) rfl w.heap.size (cdArr c) #[.int .i64 0, .int .i64 0, .int .i64 0, .int .i64 0, .int .i64 0] 96 rfl rfl (heap_alloc_new _ _) (by kernel_rfl) rfl (by simp [cdArr, Value.oneCell']) (apart0 _) ?_
  refine hr _ _ ?_
  unfold zeros5
  rw [setRow_alloc]
  walk_nrm
  generalize w.alloc (.cells (cdArr c) 96) = w1 at *
  refine Walk.ctl rfl (fun w => stepG_region_end) ?_
  refine .stop fun d => ⟨at_slots ?_, d, rfl⟩
  simp only [at74]
  rfl
set_option maxHeartbeats 8000000 in
set_option maxRecDepth 100000 in
theorem stands74_out (p X nw : Nat) (c : Cd) (u : Nat → Value) (fr : Frame) (cs : List Frame) (w : World) (hX : w.heap[X]? = some (.cells (cdArr c) 96)) :
    Walk Try.prog main (DR (fun _ => none)) (fun g w' => g = G (fr.finish (.bool (isStepX nw c))) cs ∧ ∃ d, w' = w.at d) (G (at74 (.pointer (some ⟨p, 0, none⟩)) (.pointer (some ⟨X, 0, none⟩)) nw u) (fr :: cs)) w := by
  have x0 : w.cell? ⟨X, 0, none⟩ = some (.int .i64 c.d) := (cell_of hX 0).trans rfl
  have x2 : w.cell? ⟨X, 2, none⟩ = some (.int .i64 c.a) := (cell_of hX 2).trans rfl
  clear hX
  unfold at74
  by_cases k1 : 7 ≤ c.d
  · by_cases k2 : c.d ≤ 11
    · by_cases k3 : 0 ≤ c.a
      · by_cases k4 : c.a < nw
        · have e : isStepX nw c = true := by simp [isStepX, k1, k2, k3, k4]
          rw [e]
          repeat (first | refine Walk.c rfl ?_ | refine Walk.cRet ?_ | refine Walk.cEnd ?_ | (refine Walk.cReg ?_; simp only [size74_0, size74_1, size74_2, List.range, List.range.loop]) | (refine Walk.oq ?_; try walk_nrm) | (refine Walk.un ?_; walk_nrm))
          exact (Walk.ret1 (Post := fun v w' => v = .bool true ∧ ∃ d, w' = w.at d) rfl rfl Try.func74 rfl fun d => ⟨by simp [k1, k2, k3, k4], d, rfl⟩).mono fun g w' ⟨v, ⟨hv, hd⟩, hg⟩ => ⟨by rw [hg, hv], hd⟩
        · have e : isStepX nw c = false := by simp [isStepX, k4]
          rw [e]
          repeat (first | refine Walk.c rfl ?_ | refine Walk.cRet ?_ | refine Walk.cEnd ?_ | (refine Walk.cReg ?_; simp only [size74_0, size74_1, size74_2, List.range, List.range.loop]) | (refine Walk.oq ?_; try walk_nrm) | (refine Walk.un ?_; walk_nrm))
          exact (Walk.ret1 (Post := fun v w' => v = .bool false ∧ ∃ d, w' = w.at d) rfl rfl Try.func74 rfl fun d => ⟨by simp [k4], d, rfl⟩).mono fun g w' ⟨v, ⟨hv, hd⟩, hg⟩ => ⟨by rw [hg, hv], hd⟩
      · have e : isStepX nw c = false := by simp [isStepX, k3]
        rw [e]
        repeat (first | refine Walk.c rfl ?_ | refine Walk.cRet ?_ | refine Walk.cEnd ?_ | (refine Walk.cReg ?_; simp only [size74_0, size74_1, size74_2, List.range, List.range.loop]) | (refine Walk.oq ?_; try walk_nrm) | (refine Walk.un ?_; walk_nrm))
        exact (Walk.ret1 (Post := fun v w' => v = .bool false ∧ ∃ d, w' = w.at d) rfl rfl Try.func74 rfl fun d => ⟨by simp [k3], d, rfl⟩).mono fun g w' ⟨v, ⟨hv, hd⟩, hg⟩ => ⟨by rw [hg, hv], hd⟩
    · have e : isStepX nw c = false := by simp [isStepX, k2]
      rw [e]
      repeat (first | refine Walk.c rfl ?_ | refine Walk.cRet ?_ | refine Walk.cEnd ?_ | (refine Walk.cReg ?_; simp only [size74_0, size74_1, size74_2, List.range, List.range.loop]) | (refine Walk.oq ?_; try walk_nrm) | (refine Walk.un ?_; walk_nrm))
      exact (Walk.ret1 (Post := fun v w' => v = .bool false ∧ ∃ d, w' = w.at d) rfl rfl Try.func74 rfl fun d => ⟨by simp [k2], d, rfl⟩).mono fun g w' ⟨v, ⟨hv, hd⟩, hg⟩ => ⟨by rw [hg, hv], hd⟩
  · have e : isStepX nw c = false := by simp [isStepX, k1]
    rw [e]
    repeat (first | refine Walk.c rfl ?_ | refine Walk.cRet ?_ | refine Walk.cEnd ?_ | (refine Walk.cReg ?_; simp only [size74_0, size74_1, size74_2, List.range, List.range.loop]) | (refine Walk.oq ?_; try walk_nrm) | (refine Walk.un ?_; walk_nrm))
    exact (Walk.ret1 (Post := fun v w' => v = .bool false ∧ ∃ d, w' = w.at d) rfl rfl Try.func74 rfl fun d => ⟨by simp [k1], d, rfl⟩).mono fun g w' ⟨v, ⟨hv, hd⟩, hg⟩ => ⟨by rw [hg, hv], hd⟩
theorem stands74_w (p cb co L cc k nw : Nat) (c : Cd) (w : World) (h0 : w.cell? ⟨p, 0, none⟩ = some (.slice (some ⟨cb, co, none⟩) L cc)) (h1 : w.cell? ⟨p, 1, none⟩ = some (.int .i64 (k : Nat))) (hk : k < L)
    (hc : ∀ m v, (cdCells c)[m]? = some v → w.cell? ⟨cb, co + k * 5 + m, none⟩ = some v) : CallV Try.prog main (fun _ => none) 74 #[.pointer (some ⟨p, 0, none⟩), .int .i64 nw] w (.bool (isStepX nw c)) (w.alloc (.cells (cdArr c) 96)) := by
  intro fr cs
  refine (stands74_in p cb co L cc k nw c (fr :: cs) w h0 h1 hk hc).then ?_
  rintro g w1 ⟨⟨u, rfl⟩, d, rfl⟩
  refine Walk.back ?_ d
  refine (stands74_out p w.heap.size nw c u fr cs _ (heap_alloc_new w _)).mono ?_
  rintro g w' ⟨rfl, d, rfl⟩
  exact ⟨_, ⟨rfl, d, rfl⟩, rfl⟩
end Go.Proofs.Ytgiiicdpbdfemaa
end

section
namespace Go.Proofs.Ytgiiicdpbdfemaa
open Go.Conc Go.RowKit Go.Relay
open Go.ConcN (upd upd_ne upd_same)
variable {main : Bool}
theorem reg76_k (n : Int) (w : World) : CallV Try.prog main (fun _ => none) 76 #[.int .i64 n] w (.int .i64 ((regN n : Nat) : Int)) w := by
  have h : ((regN n : Nat) : Int) = n % 4 := by unfold regN; omega
  rw [h]
  exact reg76_w n w
noncomputable def reg75_0 : Array Oper := match Try.f75.body with | some (.seq (.region _ ops _) _) => ops | _ => #[]
theorem size75_0 : reg75_0.size = 1 := by kernel_rfl
noncomputable def reg75_1 : Array Oper := match Try.f75.body with | some (.seq _ (.seq (.region _ ops _) _)) => ops | _ => #[]
theorem size75_1 : reg75_1.size = 8 := by kernel_rfl
noncomputable def reg75_2 : Array Oper := match Try.f75.body with | some (.seq _ (.seq _ (.seq (.region _ ops _) _))) => ops | _ => #[]
theorem size75_2 : reg75_2.size = 4 := by kernel_rfl
noncomputable def reg75_3 : Array Oper := match Try.f75.body with | some (.seq _ (.seq _ (.seq _ (.seq (.region _ ops _) _)))) => ops | _ => #[]
theorem size75_3 : reg75_3.size = 9 := by kernel_rfl
noncomputable def reg75_4 : Array Oper := match Try.f75.body with | some (.seq _ (.seq _ (.seq _ (.seq _ (.seq (.region _ ops _) _))))) => ops | _ => #[]
theorem size75_4 : reg75_4.size = 9 := by kernel_rfl
noncomputable def reg75_5 : Array Oper := match Try.f75.body with | some (.seq _ (.seq _ (.seq _ (.seq _ (.seq _ (.seq (.region _ ops _) _)))))) => ops | _ => #[]
theorem size75_5 : reg75_5.size = 1 := by kernel_rfl
noncomputable def reg75_6 : Array Oper := match Try.f75.body with | some (.seq _ (.seq _ (.seq _ (.seq _ (.seq _ (.seq _ (.seq (.seq (.region _ ops _) _) _))))))) => ops | _ => #[]
theorem size75_6 : reg75_6.size = 2 := by kernel_rfl
noncomputable def reg75_7 : Array Oper := match Try.f75.body with | some (.seq _ (.seq _ (.seq _ (.seq _ (.seq _ (.seq _ (.seq (.seq _ (.block _ (.seq (.region _ ops _) _))) _))))))) => ops | _ => #[]
theorem size75_7 : reg75_7.size = 2 := by kernel_rfl
noncomputable def reg75_8 : Array Oper := match Try.f75.body with | some (.seq _ (.seq _ (.seq _ (.seq _ (.seq _ (.seq _ (.seq (.seq _ (.block _ (.seq _ (.cond _ (.region _ ops _) _)))) _))))))) => ops | _ => #[]
theorem size75_8 : reg75_8.size = 8 := by kernel_rfl
noncomputable def reg75_9 : Array Oper := match Try.f75.body with | some (.seq _ (.seq _ (.seq _ (.seq _ (.seq _ (.seq _ (.seq (.seq _ (.block _ (.seq _ (.cond _ _ (.seq (.region _ ops _) _))))) _))))))) => ops | _ => #[]
theorem size75_9 : reg75_9.size = 2 := by kernel_rfl
noncomputable def reg75_10 : Array Oper := match Try.f75.body with | some (.seq _ (.seq _ (.seq _ (.seq _ (.seq _ (.seq _ (.seq (.seq _ (.block _ (.seq _ (.cond _ _ (.seq _ (.cond _ (.region _ ops _) _)))))) _))))))) => ops | _ => #[]
theorem size75_10 : reg75_10.size = 7 := by kernel_rfl
noncomputable def reg75_11 : Array Oper := match Try.f75.body with | some (.seq _ (.seq _ (.seq _ (.seq _ (.seq _ (.seq _ (.seq (.seq _ (.block _ (.seq _ (.cond _ _ (.seq _ (.cond _ _ (.seq (.region _ ops _) _))))))) _))))))) => ops | _ => #[]
theorem size75_11 : reg75_11.size = 2 := by kernel_rfl
noncomputable def reg75_12 : Array Oper := match Try.f75.body with | some (.seq _ (.seq _ (.seq _ (.seq _ (.seq _ (.seq _ (.seq (.seq _ (.block _ (.seq _ (.cond _ _ (.seq _ (.cond _ _ (.seq _ (.cond _ (.region _ ops _) _)))))))) _))))))) => ops | _ => #[]
theorem size75_12 : reg75_12.size = 9 := by kernel_rfl
noncomputable def reg75_13 : Array Oper := match Try.f75.body with | some (.seq _ (.seq _ (.seq _ (.seq _ (.seq _ (.seq _ (.seq (.seq _ (.block _ (.seq _ (.cond _ _ (.seq _ (.cond _ _ (.seq _ (.cond _ _ (.seq (.region _ ops _) _))))))))) _))))))) => ops | _ => #[]
theorem size75_13 : reg75_13.size = 2 := by kernel_rfl
noncomputable def reg75_14 : Array Oper := match Try.f75.body with | some (.seq _ (.seq _ (.seq _ (.seq _ (.seq _ (.seq _ (.seq (.seq _ (.block _ (.seq _ (.cond _ _ (.seq _ (.cond _ _ (.seq _ (.cond _ _ (.seq _ (.cond _ (.region _ ops _) _)))))))))) _))))))) => ops | _ => #[]
theorem size75_14 : reg75_14.size = 4 := by kernel_rfl
noncomputable def reg75_15 : Array Oper := match Try.f75.body with | some (.seq _ (.seq _ (.seq _ (.seq _ (.seq _ (.seq _ (.seq (.seq _ (.block _ (.seq _ (.cond _ _ (.seq _ (.cond _ _ (.seq _ (.cond _ _ (.seq _ (.cond _ _ (.seq (.region _ ops _) _))))))))))) _))))))) => ops | _ => #[]
theorem size75_15 : reg75_15.size = 2 := by kernel_rfl
noncomputable def reg75_16 : Array Oper := match Try.f75.body with | some (.seq _ (.seq _ (.seq _ (.seq _ (.seq _ (.seq _ (.seq (.seq _ (.block _ (.seq _ (.cond _ _ (.seq _ (.cond _ _ (.seq _ (.cond _ _ (.seq _ (.cond _ _ (.seq _ (.cond _ (.region _ ops _) _)))))))))))) _))))))) => ops | _ => #[]
theorem size75_16 : reg75_16.size = 4 := by kernel_rfl
noncomputable def reg75_17 : Array Oper := match Try.f75.body with | some (.seq _ (.seq _ (.seq _ (.seq _ (.seq _ (.seq _ (.seq (.seq _ (.block _ (.seq _ (.cond _ _ (.seq _ (.cond _ _ (.seq _ (.cond _ _ (.seq _ (.cond _ _ (.seq _ (.cond _ _ (.seq (.region _ ops _) _))))))))))))) _))))))) => ops | _ => #[]
theorem size75_17 : reg75_17.size = 2 := by kernel_rfl
noncomputable def reg75_18 : Array Oper := match Try.f75.body with | some (.seq _ (.seq _ (.seq _ (.seq _ (.seq _ (.seq _ (.seq (.seq _ (.block _ (.seq _ (.cond _ _ (.seq _ (.cond _ _ (.seq _ (.cond _ _ (.seq _ (.cond _ _ (.seq _ (.cond _ _ (.seq _ (.cond _ (.region _ ops _) _)))))))))))))) _))))))) => ops | _ => #[]
theorem size75_18 : reg75_18.size = 17 := by kernel_rfl
noncomputable def reg75_19 : Array Oper := match Try.f75.body with | some (.seq _ (.seq _ (.seq _ (.seq _ (.seq _ (.seq _ (.seq _ (.seq (.region _ ops _) _)))))))) => ops | _ => #[]
theorem size75_19 : reg75_19.size = 1 := by kernel_rfl
noncomputable def reg75_20 : Array Oper := match Try.f75.body with | some (.seq _ (.seq _ (.seq _ (.seq _ (.seq _ (.seq _ (.seq _ (.seq _ (.cond _ (.seq (.region _ ops _) _) _))))))))) => ops | _ => #[]
theorem size75_20 : reg75_20.size = 4 := by kernel_rfl
noncomputable def reg75_21 : Array Oper := match Try.f75.body with | some (.seq _ (.seq _ (.seq _ (.seq _ (.seq _ (.seq _ (.seq _ (.seq _ (.cond _ (.seq _ (.seq (.region _ ops _) _)) _))))))))) => ops | _ => #[]
theorem size75_21 : reg75_21.size = 13 := by kernel_rfl
noncomputable def reg75_22 : Array Oper := match Try.f75.body with | some (.seq _ (.seq _ (.seq _ (.seq _ (.seq _ (.seq _ (.seq _ (.seq _ (.cond _ (.seq _ (.seq _ (.cond _ (.region _ ops _) _))) _))))))))) => ops | _ => #[]
theorem size75_22 : reg75_22.size = 6 := by kernel_rfl
theorem code75_is : Try.f75.body = some (.seq (.region 0 reg75_0 false) (.seq (.region 1 reg75_1 false) (.seq (.region 2 reg75_2 false) (.seq (.region 3 reg75_3 true) (.seq (.region 4 reg75_4 true) (.seq (.region 5 reg75_5 false) (.seq (.seq (.region 6 reg75_6 false) (.block 0 (.seq (.region 7 reg75_7 false) (.cond (.tmp 36 ) (.region 8 reg75_8 true) (.seq (.region 9 reg75_9 false) (.cond (.tmp 45 ) (.region 10 reg75_10 false) (.seq (.region 11 reg75_11 false) (.cond (.tmp 53 ) (.region 12 reg75_12 false) (.seq (.region 13 reg75_13 false) (.cond (.tmp 63 ) (.region 14 reg75_14 false) (.seq (.region 15 reg75_15 false) (.cond (.tmp 68 ) (.region 16 reg75_16 false) (.seq (.region 17 reg75_17 false) (.cond (.tmp 73 ) (.region 18 reg75_18 true) (.skip))))))))))))))) (.seq (.region 19 reg75_19 false) (.cond (.tmp 91 ) (.seq (.region 20 reg75_20 false) (.seq (.region 21 reg75_21 true) (.cond (.tmp 107 ) (.region 22 reg75_22 false) (.skip)))) (.skip)))))))))) := by kernel_rfl
noncomputable def at75 (p X : Nat) (r a b : Int) (u : Nat → Value) : Frame :=
  (base 75).at { tmps := #[.pointer (some ⟨p, 0, none⟩), u 1, u 2, .pointer (some ⟨X, 0, none⟩), .int .i64 r, .int .i64 a, .int .i64 b, .bool false, u 8, u 9, u 10, u 11, u 12, u 13, u 14, u 15, u 16, u 17, u 18, u 19, u 20, u 21, u 22, u 23, u 24, u 25, u 26, u 27, u 28, u 29, u 30, u 31, u 32, u 33, u 34, u 35, u 36, u 37, u 38, u 39, u 40, u 41, u 42, u 43, u 44, u 45, u 46, u 47, u 48, u 49, u 50, u 51, u 52, u 53, u 54, u 55, u 56, u 57, u 58, u 59, u 60, u 61, u 62, u 63, u 64, u 65, u 66, u 67, u 68, u 69, u 70, u 71, u 72, u 73, u 74, u 75, u 76, u 77, u 78, u 79, u 80, u 81, u 82, u 83, u 84, u 85, u 86, u 87, u 88, u 89, u 90, u 91, u 92, u 93, u 94, u 95, u 96, u 97, u 98, u 99, u 100, u 101, u 102, u 103, u 104, u 105, u 106, u 107, u 108, u 109, u 110, u 111, u 112], defers := [] } [.code (.seq (.seq (.region 6 reg75_6 false) (.block 0 (.seq (.region 7 reg75_7 false) (.cond (.tmp 36 ) (.region 8 reg75_8 true) (.seq (.region 9 reg75_9 false) (.cond (.tmp 45 ) (.region 10 reg75_10 false) (.seq (.region 11 reg75_11 false) (.cond (.tmp 53 ) (.region 12 reg75_12 false) (.seq (.region 13 reg75_13 false) (.cond (.tmp 63 ) (.region 14 reg75_14 false) (.seq (.region 15 reg75_15 false) (.cond (.tmp 68 ) (.region 16 reg75_16 false) (.seq (.region 17 reg75_17 false) (.cond (.tmp 73 ) (.region 18 reg75_18 true) (.skip))))))))))))))) (.seq (.region 19 reg75_19 false) (.cond (.tmp 91 ) (.seq (.region 20 reg75_20 false) (.seq (.region 21 reg75_21 true) (.cond (.tmp 107 ) (.region 22 reg75_22 false) (.skip)))) (.skip))))]
set_option maxHeartbeats 8000000 in
set_option maxRecDepth 100000 in
theorem own75_in (p k : Nat) (cv : Value) (R : Nat → Int) (tv : Value) (e : Bool) (c : Cd) (cs : List Frame) (w : World) (hp : w.heap[p]? = some (.cells (rtArr cv (k : Nat) R tv e) 105)) (hk : k < 4398046511104) :
    Walk Try.prog main (DR (fun _ => none)) (fun g w' => (∃ u, g = G (at75 p w.heap.size (regN c.r : Nat) (R (regN c.a)) (R (regN c.b)) u) cs) ∧ ∃ d, w' = ((w.alloc (.cells (cdArr c) 96)).setCell ⟨p, 1, none⟩ (.int .i64 ((k + 1 : Nat) : Int))).at d)
      (G (Frame.enter Try.prog 75 #[.pointer (some ⟨p, 0, none⟩), .agg (cdArr c)] .normal) cs) w := by
  have hw1 : IntKind.wrap .i64 ((k : Int) + 1) = (k : Int) + 1 := by rw [IntKind.wrap_i64]; omega
  have hck : ((k + 1 : Nat) : Int) = (k : Int) + 1 := by simp
  rw [hck]
  have hl := (Array.getElem?_eq_some_iff.1 hp).1
  obtain ⟨cd, cr, ca, cb, cvv⟩ := c
  simp only [cdArr] at *
  have hf : Free (fun _ => none) ⟨p, 1, none⟩ := (apart0 p).1 _ rfl
  rw [enter_at _ Try.func75 code75_is]
  simp only [Try.ntmps75, List.size_toArray, List.length_cons, List.length_nil, Nat.reduceAdd, Nat.reduceSub, Array.replicate_succ, Array.replicate_zero, List.push_toArray, List.append_toArray, List.nil_append, List.cons_append]
  repeat (first | refine Walk.c rfl ?_ | refine Walk.cRet ?_ | refine Walk.cEnd ?_ | (refine Walk.cReg ?_; simp only [size75_0, size75_1, size75_2, size75_3, size75_4, size75_5, size75_6, size75_7, size75_8, size75_9, size75_10, size75_11, size75_12, size75_13, size75_14, size75_15, size75_16, size75_17, size75_18, size75_19, size75_20, size75_21, size75_22, List.range, List.range.loop]) | (refine Walk.oq ?_; try walk_nrm) | (refine Walk.un ?_; walk_nrm))
  (refine Walk.oa ?_; try walk_nrm)
  have hp1 : (w.alloc (.cells #[.int .i64 cd, .int .i64 cr, .int .i64 ca, .int .i64 cb, .int .i64 cvv] 96)).heap[p]? = some (.cells (rtArr cv (k : Nat) R tv e) 105) := (heap_new_lt w _ hl).trans hp
  have hX := heap_alloc_new w (.cells #[.int .i64 cd, .int .i64 cr, .int .i64 ca, .int .i64 cb, .int .i64 cvv] 96)
  generalize w.alloc (.cells #[.int .i64 cd, .int .i64 cr, .int .i64 ca, .int .i64 cb, .int .i64 cvv] 96) = w1 at *
  generalize w.heap.size = X at *
  have hXp : X ≠ p := by omega
  have h1 : w1.cell? ⟨p, 1, none⟩ = some (.int .i64 (k : Nat)) := (cell_of hp1 1).trans rfl
  have hz1 := frozen_of hp1 1
  repeat (first | refine Walk.c rfl ?_ | refine Walk.cRet ?_ | refine Walk.cEnd ?_ | (refine Walk.cReg ?_; simp only [size75_0, size75_1, size75_2, size75_3, size75_4, size75_5, size75_6, size75_7, size75_8, size75_9, size75_10, size75_11, size75_12, size75_13, size75_14, size75_15, size75_16, size75_17, size75_18, size75_19, size75_20, size75_21, size75_22, List.range, List.range.loop]) | (refine Walk.oq ?_; try walk_nrm) | (refine Walk.un ?_; walk_nrm))
  (refine Walk.os hf h1 ?_; try walk_nrm)
  have hp2 : (w1.setCell ⟨p, 1, none⟩ (.int .i64 ((k : Int) + 1))).heap[p]? = some (.cells (rtArr cv ((k : Int) + 1) R tv e) 105) := by
    rw [heap_set_self _ _ hp1]
    rfl
  have hX2 : (w1.setCell ⟨p, 1, none⟩ (.int .i64 ((k : Int) + 1))).heap[X]? = some (.cells #[.int .i64 cd, .int .i64 cr, .int .i64 ca, .int .i64 cb, .int .i64 cvv] 96) := (heap_set_other _ _ _ _ hXp).trans hX
  clear h1 hz1 hp1 hX hp hl
  generalize w1.setCell ⟨p, 1, none⟩ (.int .i64 ((k : Int) + 1)) = w2 at *
  have x1 : w2.cell? ⟨X, 1, none⟩ = some (.int .i64 cr) := (cell_of hX2 1).trans rfl
  have x2 : w2.cell? ⟨X, 2, none⟩ = some (.int .i64 ca) := (cell_of hX2 2).trans rfl
  have x3 : w2.cell? ⟨X, 3, none⟩ = some (.int .i64 cb) := (cell_of hX2 3).trans rfl
  have ra : w2.cell? ⟨p, 2 + regN ca, none⟩ = some (.int .i64 (R (regN ca))) := (cell_of hp2 _).trans (rt_get _ _ _ _ _ (regN_lt ca))
  have rb : w2.cell? ⟨p, 2 + regN cb, none⟩ = some (.int .i64 (R (regN cb))) := (cell_of hp2 _).trans (rt_get _ _ _ _ _ (regN_lt cb))
  have la : ((regN ca : Nat) : Int) < 4 := by have := regN_lt ca; omega
  have lb : ((regN cb : Nat) : Int) < 4 := by have := regN_lt cb; omega
  repeat (first | refine Walk.c rfl ?_ | refine Walk.cRet ?_ | refine Walk.cEnd ?_ | (refine Walk.cReg ?_; simp only [size75_0, size75_1, size75_2, size75_3, size75_4, size75_5, size75_6, size75_7, size75_8, size75_9, size75_10, size75_11, size75_12, size75_13, size75_14, size75_15, size75_16, size75_17, size75_18, size75_19, size75_20, size75_21, size75_22, List.range, List.range.loop]) | (refine Walk.oq ?_; try walk_nrm) | (refine Walk.un ?_; walk_nrm))
  refine Walk.callV (x := .int .i64 ((regN cr : Nat) : Int)) (W := w2) ?_ (ho_of (by conv => lhs; whnf) (by kernel_rfl)) (by rfl) (by decide) rfl Try.func76 (by kernel_rfl) (by rfl) ?_
  · walk_nrm
    exact reg76_k cr w2
  walk_nrm
  have qa := reg76_k (main := main) ca w2
  have qb := reg76_k (main := main) cb w2
  generalize regN cr = kr at *
  generalize regN ca = ka at *
  generalize regN cb = kb at *
  have hia := fun (a : Addr) (w : World) (es : Array Event) => events_indexAt_array (P := Try.prog) (w := w) (es := es) 103 2 4 a .i64 (ka : Int) (by kernel_rfl) ⟨by omega, la⟩
  have hib := fun (a : Addr) (w : World) (es : Array Event) => events_indexAt_array (P := Try.prog) (w := w) (es := es) 103 2 4 a .i64 (kb : Int) (by kernel_rfl) ⟨by omega, lb⟩
  repeat (first | refine Walk.c rfl ?_ | refine Walk.cRet ?_ | refine Walk.cEnd ?_ | (refine Walk.cReg ?_; simp only [size75_0, size75_1, size75_2, size75_3, size75_4, size75_5, size75_6, size75_7, size75_8, size75_9, size75_10, size75_11, size75_12, size75_13, size75_14, size75_15, size75_16, size75_17, size75_18, size75_19, size75_20, size75_21, size75_22, List.range, List.range.loop]) | (refine Walk.oq ?_; try walk_nrm) | (refine Walk.un ?_; walk_nrm))
  (refine Walk.drawnC (by kernel_rfl) size75_3 (by kernel_rfl) (by kernel_rfl) (by decide) ?_; simp only [List.range, List.range.loop]; repeat (first | (refine Cm.opqA (ho_of (by conv => lhs; whnf) (by kernel_rfl)) (by rfl) (fun dd e he => ?_) ?_; (· (simp [go_sem, *] at he; try (subst he; exact evR_read _ _))); apply Exists.intro; apply And.intro; (· (intro dd K hK; go_simp; exact hK))) | (refine Cm.unw (ho_of (by conv => lhs; whnf) (by kernel_rfl)) (by rfl) ?_; walk_nrm)))
  refine Cm.callV (x := .int .i64 ((ka : Nat) : Int)) ?_ (ho_of (by conv => lhs; whnf) (by kernel_rfl)) (by rfl) rfl Try.func76 (by kernel_rfl) (by rfl) ?_
  · intro w' e
    subst e
    walk_nrm
    exact qa
  walk_nrm
  repeat (first | (refine Cm.opqA (ho_of (by conv => lhs; whnf) (by kernel_rfl)) (by rfl) (fun dd e he => ?_) ?_; (· (simp [go_sem, *] at he; try (subst he; exact evR_read _ _))); apply Exists.intro; apply And.intro; (· (intro dd K hK; go_simp; exact hK))) | (refine Cm.unw (ho_of (by conv => lhs; whnf) (by kernel_rfl)) (by rfl) ?_; walk_nrm))
  refine Cm.done ?_
  repeat (first | refine Walk.c rfl ?_ | refine Walk.cRet ?_ | refine Walk.cEnd ?_ | (refine Walk.cReg ?_; simp only [size75_0, size75_1, size75_2, size75_3, size75_4, size75_5, size75_6, size75_7, size75_8, size75_9, size75_10, size75_11, size75_12, size75_13, size75_14, size75_15, size75_16, size75_17, size75_18, size75_19, size75_20, size75_21, size75_22, List.range, List.range.loop]) | (refine Walk.oq ?_; try walk_nrm) | (refine Walk.un ?_; walk_nrm))
  (refine Walk.drawnC (by kernel_rfl) size75_4 (by kernel_rfl) (by kernel_rfl) (by decide) ?_; simp only [List.range, List.range.loop]; repeat (first | (refine Cm.opqA (ho_of (by conv => lhs; whnf) (by kernel_rfl)) (by rfl) (fun dd e he => ?_) ?_; (· (simp [go_sem, *] at he; try (subst he; exact evR_read _ _))); apply Exists.intro; apply And.intro; (· (intro dd K hK; go_simp; exact hK))) | (refine Cm.unw (ho_of (by conv => lhs; whnf) (by kernel_rfl)) (by rfl) ?_; walk_nrm)))
  refine Cm.callV (x := .int .i64 ((kb : Nat) : Int)) ?_ (ho_of (by conv => lhs; whnf) (by kernel_rfl)) (by rfl) rfl Try.func76 (by kernel_rfl) (by rfl) ?_
  · intro w' e
    subst e
    walk_nrm
    exact qb
  walk_nrm
  repeat (first | (refine Cm.opqA (ho_of (by conv => lhs; whnf) (by kernel_rfl)) (by rfl) (fun dd e he => ?_) ?_; (· (simp [go_sem, *] at he; try (subst he; exact evR_read _ _))); apply Exists.intro; apply And.intro; (· (intro dd K hK; go_simp; exact hK))) | (refine Cm.unw (ho_of (by conv => lhs; whnf) (by kernel_rfl)) (by rfl) ?_; walk_nrm))
  refine Cm.done ?_
  refine Walk.ctl rfl (fun w => stepG_region_end) ?_
  refine Walk.c rfl ?_
  refine Walk.cReg ?_
  simp only [size75_5, List.range, List.range.loop]
  repeat (first | (refine Walk.oq ?_; try walk_nrm) | (refine Walk.un ?_; walk_nrm))
  refine Walk.ctl rfl (fun w => stepG_region_end) ?_
  refine .stop fun d => ⟨at_slots ?_, d, rfl⟩
  simp only [at75]
  rfl
end Go.Proofs.Ytgiiicdpbdfemaa
end

section
namespace Go.Proofs.Ytgiiicdpbdfemaa
open Go.Conc Go.RowKit Go.Relay
open Go.ConcN (upd upd_ne upd_same)
variable {main : Bool}
set_option maxHeartbeats 8000000 in
set_option maxRecDepth 100000 in
theorem own75_set (p X k : Nat) (cv : Value) (R : Nat → Int) (tv : Value) (e : Bool) (kr : Nat) (hkr : kr < 4) (a b cvv : Int) (u : Nat → Value) (c : Frame) (cs : List Frame) (w : World) (hp : w.heap[p]? = some (.cells (rtArr cv (k : Nat) R tv e) 105)) (x0 : w.cell? ⟨X, 0, none⟩ = some (.int .i64 1)) (x4 : w.cell? ⟨X, 4, none⟩ = some (.int .i64 cvv)) :
    Walk Try.prog main (DR (fun _ => none)) (fun g w' => g = G (c.finish (.tuple #[])) cs ∧ ∃ d, w' = (w.setCell ⟨p, 2 + kr, none⟩ (.int .i64 cvv)).at d) (G (at75 p X (kr : Nat) a b u) (c :: cs)) w := by
  have hy := (cell_of hp _).trans (rt_get cv (k : Nat) R tv e hkr)
  have hz := frozen_of hp (2 + kr)
  have hf : Free (fun _ => none) ⟨p, 2 + kr, none⟩ := (apart0 p).1 _ rfl
  have hk4 : (kr : Int) < 4 := by omega
  have hia := fun (a : Addr) (w : World) (es : Array Event) => events_indexAt_array (P := Try.prog) (w := w) (es := es) 103 2 4 a .i64 (kr : Int) (by kernel_rfl) ⟨by omega, hk4⟩
  unfold at75
  repeat (first | refine Walk.c rfl ?_ | refine Walk.cRet ?_ | refine Walk.cEnd ?_ | (refine Walk.cReg ?_; simp only [size75_0, size75_1, size75_2, size75_3, size75_4, size75_5, size75_6, size75_7, size75_8, size75_9, size75_10, size75_11, size75_12, size75_13, size75_14, size75_15, size75_16, size75_17, size75_18, size75_19, size75_20, size75_21, size75_22, List.range, List.range.loop]) | (refine Walk.oq ?_; try walk_nrm) | (refine Walk.un ?_; walk_nrm))
  (refine Walk.drawnL (by kernel_rfl) size75_8 (by kernel_rfl) (by kernel_rfl) (by kernel_rfl) (by decide) ?_; simp only [List.range, List.range.loop]; repeat (first | (refine Cm.opqA (ho_of (by conv => lhs; whnf) (by kernel_rfl)) (by rfl) (fun dd e he => ?_) ?_; (· (simp [go_sem, *] at he; try (subst he; exact evR_read _ _))); apply Exists.intro; apply And.intro; (· (intro dd K hK; go_simp; exact hK))) | (refine Cm.unw (ho_of (by conv => lhs; whnf) (by kernel_rfl)) (by rfl) ?_; walk_nrm)))
  refine Cm.done ?_
  intro rest hr
  (refine Walk.os hf hy ?_; try walk_nrm)
  refine hr _ _ ?_
  generalize w.setCell ⟨p, 2 + kr, none⟩ (.int .i64 cvv) = w1 at *
  repeat (first | refine Walk.c rfl ?_ | refine Walk.cRet ?_ | refine Walk.cEnd ?_ | (refine Walk.cReg ?_; simp only [size75_0, size75_1, size75_2, size75_3, size75_4, size75_5, size75_6, size75_7, size75_8, size75_9, size75_10, size75_11, size75_12, size75_13, size75_14, size75_15, size75_16, size75_17, size75_18, size75_19, size75_20, size75_21, size75_22, List.range, List.range.loop]) | (refine Walk.oq ?_; try walk_nrm) | (refine Walk.un ?_; walk_nrm))
  exact (Walk.ret0 (Post := fun v w' => v = .tuple #[] ∧ ∃ d, w' = w1.at d) rfl rfl Try.func75 rfl fun d => ⟨rfl, d, rfl⟩).mono fun g w' ⟨v, ⟨hv, hd⟩, hg⟩ => ⟨by rw [hg, hv], hd⟩
set_option maxHeartbeats 8000000 in
set_option maxRecDepth 100000 in
theorem own75_move (p X k : Nat) (cv : Value) (R : Nat → Int) (tv : Value) (e : Bool) (kr : Nat) (hkr : kr < 4) (a b : Int) (u : Nat → Value) (c : Frame) (cs : List Frame) (w : World) (hp : w.heap[p]? = some (.cells (rtArr cv (k : Nat) R tv e) 105)) (x0 : w.cell? ⟨X, 0, none⟩ = some (.int .i64 2)) :
    Walk Try.prog main (DR (fun _ => none)) (fun g w' => g = G (c.finish (.tuple #[])) cs ∧ ∃ d, w' = (w.setCell ⟨p, 2 + kr, none⟩ (.int .i64 a)).at d) (G (at75 p X (kr : Nat) a b u) (c :: cs)) w := by
  have hy := (cell_of hp _).trans (rt_get cv (k : Nat) R tv e hkr)
  have hz := frozen_of hp (2 + kr)
  have hf : Free (fun _ => none) ⟨p, 2 + kr, none⟩ := (apart0 p).1 _ rfl
  have hk4 : (kr : Int) < 4 := by omega
  have hia := fun (a : Addr) (w : World) (es : Array Event) => events_indexAt_array (P := Try.prog) (w := w) (es := es) 103 2 4 a .i64 (kr : Int) (by kernel_rfl) ⟨by omega, hk4⟩
  unfold at75
  repeat (first | refine Walk.c rfl ?_ | refine Walk.cRet ?_ | refine Walk.cEnd ?_ | (refine Walk.cReg ?_; simp only [size75_0, size75_1, size75_2, size75_3, size75_4, size75_5, size75_6, size75_7, size75_8, size75_9, size75_10, size75_11, size75_12, size75_13, size75_14, size75_15, size75_16, size75_17, size75_18, size75_19, size75_20, size75_21, size75_22, List.range, List.range.loop]) | (refine Walk.oq ?_; try walk_nrm) | (refine Walk.un ?_; walk_nrm))
  (refine Walk.os hf hy ?_; try walk_nrm)
  generalize w.setCell ⟨p, 2 + kr, none⟩ (.int .i64 a) = w1 at *
  repeat (first | refine Walk.c rfl ?_ | refine Walk.cRet ?_ | refine Walk.cEnd ?_ | (refine Walk.cReg ?_; simp only [size75_0, size75_1, size75_2, size75_3, size75_4, size75_5, size75_6, size75_7, size75_8, size75_9, size75_10, size75_11, size75_12, size75_13, size75_14, size75_15, size75_16, size75_17, size75_18, size75_19, size75_20, size75_21, size75_22, List.range, List.range.loop]) | (refine Walk.oq ?_; try walk_nrm) | (refine Walk.un ?_; walk_nrm))
  exact (Walk.ret0 (Post := fun v w' => v = .tuple #[] ∧ ∃ d, w' = w1.at d) rfl rfl Try.func75 rfl fun d => ⟨rfl, d, rfl⟩).mono fun g w' ⟨v, ⟨hv, hd⟩, hg⟩ => ⟨by rw [hg, hv], hd⟩
set_option maxHeartbeats 8000000 in
set_option maxRecDepth 100000 in
theorem own75_sum (p X k : Nat) (cv : Value) (R : Nat → Int) (tv : Value) (e : Bool) (kr : Nat) (hkr : kr < 4) (a b : Int) (u : Nat → Value) (c : Frame) (cs : List Frame) (w : World) (hp : w.heap[p]? = some (.cells (rtArr cv (k : Nat) R tv e) 105)) (x0 : w.cell? ⟨X, 0, none⟩ = some (.int .i64 3)) :
    Walk Try.prog main (DR (fun _ => none)) (fun g w' => g = G (c.finish (.tuple #[])) cs ∧ ∃ d, w' = (w.setCell ⟨p, 2 + kr, none⟩ (.int .i64 (IntKind.i64.wrap (a + b)))).at d) (G (at75 p X (kr : Nat) a b u) (c :: cs)) w := by
  have hy := (cell_of hp _).trans (rt_get cv (k : Nat) R tv e hkr)
  have hz := frozen_of hp (2 + kr)
  have hf : Free (fun _ => none) ⟨p, 2 + kr, none⟩ := (apart0 p).1 _ rfl
  have hk4 : (kr : Int) < 4 := by omega
  have hia := fun (a : Addr) (w : World) (es : Array Event) => events_indexAt_array (P := Try.prog) (w := w) (es := es) 103 2 4 a .i64 (kr : Int) (by kernel_rfl) ⟨by omega, hk4⟩
  unfold at75
  repeat (first | refine Walk.c rfl ?_ | refine Walk.cRet ?_ | refine Walk.cEnd ?_ | (refine Walk.cReg ?_; simp only [size75_0, size75_1, size75_2, size75_3, size75_4, size75_5, size75_6, size75_7, size75_8, size75_9, size75_10, size75_11, size75_12, size75_13, size75_14, size75_15, size75_16, size75_17, size75_18, size75_19, size75_20, size75_21, size75_22, List.range, List.range.loop]) | (refine Walk.oq ?_; try walk_nrm) | (refine Walk.un ?_; walk_nrm))
  (refine Walk.os hf hy ?_; try walk_nrm)
  generalize w.setCell ⟨p, 2 + kr, none⟩ (.int .i64 (IntKind.i64.wrap (a + b))) = w1 at *
  repeat (first | refine Walk.c rfl ?_ | refine Walk.cRet ?_ | refine Walk.cEnd ?_ | (refine Walk.cReg ?_; simp only [size75_0, size75_1, size75_2, size75_3, size75_4, size75_5, size75_6, size75_7, size75_8, size75_9, size75_10, size75_11, size75_12, size75_13, size75_14, size75_15, size75_16, size75_17, size75_18, size75_19, size75_20, size75_21, size75_22, List.range, List.range.loop]) | (refine Walk.oq ?_; try walk_nrm) | (refine Walk.un ?_; walk_nrm))
  exact (Walk.ret0 (Post := fun v w' => v = .tuple #[] ∧ ∃ d, w' = w1.at d) rfl rfl Try.func75 rfl fun d => ⟨rfl, d, rfl⟩).mono fun g w' ⟨v, ⟨hv, hd⟩, hg⟩ => ⟨by rw [hg, hv], hd⟩
set_option maxHeartbeats 8000000 in
set_option maxRecDepth 100000 in
theorem own75_none (p X : Nat) (kr : Nat) (a b cd : Int) (u : Nat → Value) (c : Frame) (cs : List Frame) (w : World) (x0 : w.cell? ⟨X, 0, none⟩ = some (.int .i64 cd)) (h1 : ¬ cd = 1) (h2 : ¬ cd = 2) (h3 : ¬ cd = 3) (h6 : ¬ cd = 6)
    (h : (cd = 4 ∧ ¬ a = b) ∨ (cd = 5 ∧ ¬ a < b) ∨ (¬ cd = 4 ∧ ¬ cd = 5)) :
    Walk Try.prog main (DR (fun _ => none)) (fun g w' => g = G (c.finish (.tuple #[])) cs ∧ ∃ d, w' = w.at d) (G (at75 p X (kr : Nat) a b u) (c :: cs)) w := by
  unfold at75
  rcases h with ⟨rfl, h⟩ | ⟨rfl, h⟩ | ⟨h4, h5⟩
  · have hab : (a == b) = false := by simpa using h
    repeat (first | refine Walk.c rfl ?_ | refine Walk.cRet ?_ | refine Walk.cEnd ?_ | (refine Walk.cReg ?_; simp only [size75_0, size75_1, size75_2, size75_3, size75_4, size75_5, size75_6, size75_7, size75_8, size75_9, size75_10, size75_11, size75_12, size75_13, size75_14, size75_15, size75_16, size75_17, size75_18, size75_19, size75_20, size75_21, size75_22, List.range, List.range.loop]) | (refine Walk.oq ?_; try walk_nrm) | (refine Walk.un ?_; walk_nrm))
    try simp only [hab]
    repeat (first | refine Walk.c rfl ?_ | refine Walk.cRet ?_ | refine Walk.cEnd ?_ | (refine Walk.cReg ?_; simp only [size75_0, size75_1, size75_2, size75_3, size75_4, size75_5, size75_6, size75_7, size75_8, size75_9, size75_10, size75_11, size75_12, size75_13, size75_14, size75_15, size75_16, size75_17, size75_18, size75_19, size75_20, size75_21, size75_22, List.range, List.range.loop]) | (refine Walk.oq ?_; try walk_nrm) | (refine Walk.un ?_; walk_nrm))
    exact (Walk.ret0 (Post := fun v w' => v = .tuple #[] ∧ ∃ d, w' = w.at d) rfl rfl Try.func75 rfl fun d => ⟨rfl, d, rfl⟩).mono fun g w' ⟨v, ⟨hv, hd⟩, hg⟩ => ⟨by rw [hg, hv], hd⟩
  · have hab : decide (a < b) = false := by simpa using h
    repeat (first | refine Walk.c rfl ?_ | refine Walk.cRet ?_ | refine Walk.cEnd ?_ | (refine Walk.cReg ?_; simp only [size75_0, size75_1, size75_2, size75_3, size75_4, size75_5, size75_6, size75_7, size75_8, size75_9, size75_10, size75_11, size75_12, size75_13, size75_14, size75_15, size75_16, size75_17, size75_18, size75_19, size75_20, size75_21, size75_22, List.range, List.range.loop]) | (refine Walk.oq ?_; try walk_nrm) | (refine Walk.un ?_; walk_nrm))
    exact (Walk.ret0 (Post := fun v w' => v = .tuple #[] ∧ ∃ d, w' = w.at d) rfl rfl Try.func75 rfl fun d => ⟨rfl, d, rfl⟩).mono fun g w' ⟨v, ⟨hv, hd⟩, hg⟩ => ⟨by rw [hg, hv], hd⟩
  · have e1 : (cd == 1) = false := by simpa using h1
    have e2 : (cd == 2) = false := by simpa using h2
    have e3 : (cd == 3) = false := by simpa using h3
    have e4 : (cd == 4) = false := by simpa using h4
    have e5 : (cd == 5) = false := by simpa using h5
    have e6 : (cd == 6) = false := by simpa using h6
    repeat (first | refine Walk.c rfl ?_ | refine Walk.cRet ?_ | refine Walk.cEnd ?_ | (refine Walk.cReg ?_; simp only [size75_0, size75_1, size75_2, size75_3, size75_4, size75_5, size75_6, size75_7, size75_8, size75_9, size75_10, size75_11, size75_12, size75_13, size75_14, size75_15, size75_16, size75_17, size75_18, size75_19, size75_20, size75_21, size75_22, List.range, List.range.loop]) | (refine Walk.oq ?_; try walk_nrm) | (refine Walk.un ?_; walk_nrm))
    exact (Walk.ret0 (Post := fun v w' => v = .tuple #[] ∧ ∃ d, w' = w.at d) rfl rfl Try.func75 rfl fun d => ⟨rfl, d, rfl⟩).mono fun g w' ⟨v, ⟨hv, hd⟩, hg⟩ => ⟨by rw [hg, hv], hd⟩
set_option maxHeartbeats 8000000 in
set_option maxRecDepth 100000 in
theorem own75_jump (p X k L cc : Nat) (ca : Option Addr) (R : Nat → Int) (tv : Value) (e : Bool) (kr : Nat) (a b cd cvv : Int) (u : Nat → Value) (c : Frame) (cs : List Frame) (w : World) (hp : w.heap[p]? = some (.cells (rtArr (.slice ca L cc) (k : Nat) R tv e) 105)) (x0 : w.cell? ⟨X, 0, none⟩ = some (.int .i64 cd)) (x4 : w.cell? ⟨X, 4, none⟩ = some (.int .i64 cvv)) (hX : X ≠ p) (h : (cd = 4 ∧ a = b) ∨ (cd = 5 ∧ a < b)) :
    Walk Try.prog main (DR (fun _ => none)) (fun g w' => g = G (c.finish (.tuple #[])) cs ∧ ∃ d, w' = (if 0 ≤ cvv ∧ cvv < L then (w.setCell ⟨p, 1, none⟩ (.int .i64 (-1))).setCell ⟨p, 1, none⟩ (.int .i64 cvv) else w.setCell ⟨p, 1, none⟩ (.int .i64 (-1))).at d) (G (at75 p X (kr : Nat) a b u) (c :: cs)) w := by
  have hy : w.cell? ⟨p, 1, none⟩ = some (.int .i64 (k : Nat)) := (cell_of hp 1).trans rfl
  have hz := frozen_of hp 1
  have hf : Free (fun _ => none) ⟨p, 1, none⟩ := (apart0 p).1 _ rfl
  have hp1 : (w.setCell ⟨p, 1, none⟩ (.int .i64 (-1))).heap[p]? = some (.cells (rtArr (.slice ca L cc) (-1) R tv e) 105) := by
    rw [heap_set_self _ _ hp]
    rfl
  have x4' : (w.setCell ⟨p, 1, none⟩ (.int .i64 (-1))).cell? ⟨X, 4, none⟩ = some (.int .i64 cvv) := (World.cell?_of_block (a := ⟨X, 4, none⟩) (heap_set_other _ _ _ _ hX)).trans x4
  have hab : (cd = 4 → (a == b) = true) ∧ (cd = 5 → decide (a < b) = true) := by
    rcases h with ⟨rfl, h⟩ | ⟨rfl, h⟩
    · exact ⟨fun _ => by simpa using h, fun e => by cases e⟩
    · exact ⟨(fun e => by cases e), fun _ => by simpa using h⟩
  have two : ∀ (V0 V1 : Prop), (cd = 4 → V0) → (cd = 5 → V1) → (cd = 4 ∧ V0) ∨ (cd = 5 ∧ V1) := fun _ _ g1 g2 => h.imp (fun x => ⟨x.1, g1 x.1⟩) (fun x => ⟨x.1, g2 x.1⟩)
  clear h
  rcases two _ _ hab.1 hab.2 with ⟨rfl, hj⟩ | ⟨rfl, hj⟩
  · clear hab two
    unfold at75
    repeat (first | refine Walk.c rfl ?_ | refine Walk.cRet ?_ | refine Walk.cEnd ?_ | (refine Walk.cReg ?_; simp only [size75_0, size75_1, size75_2, size75_3, size75_4, size75_5, size75_6, size75_7, size75_8, size75_9, size75_10, size75_11, size75_12, size75_13, size75_14, size75_15, size75_16, size75_17, size75_18, size75_19, size75_20, size75_21, size75_22, List.range, List.range.loop]) | (refine Walk.oq ?_; try walk_nrm) | (refine Walk.un ?_; walk_nrm))
    try simp only [hj]
    repeat (first | refine Walk.c rfl ?_ | refine Walk.cRet ?_ | refine Walk.cEnd ?_ | (refine Walk.cReg ?_; simp only [size75_0, size75_1, size75_2, size75_3, size75_4, size75_5, size75_6, size75_7, size75_8, size75_9, size75_10, size75_11, size75_12, size75_13, size75_14, size75_15, size75_16, size75_17, size75_18, size75_19, size75_20, size75_21, size75_22, List.range, List.range.loop]) | (refine Walk.oq ?_; try walk_nrm) | (refine Walk.un ?_; walk_nrm))
    (refine Walk.os hf hy ?_; try walk_nrm)
    clear hy hz hf x0 x4 hp
    generalize w.setCell ⟨p, 1, none⟩ (.int .i64 (-1)) = w1 at *
    have hy : w1.cell? ⟨p, 1, none⟩ = some (.int .i64 (-1)) := (cell_of hp1 1).trans rfl
    have h0 : w1.cell? ⟨p, 0, none⟩ = some (.slice ca L cc) := (cell_of hp1 0).trans rfl
    have hz := frozen_of hp1 1
    have hf : Free (fun _ => none) ⟨p, 1, none⟩ := (apart0 p).1 _ rfl
    repeat (first | refine Walk.c rfl ?_ | refine Walk.cRet ?_ | refine Walk.cEnd ?_ | (refine Walk.cReg ?_; simp only [size75_0, size75_1, size75_2, size75_3, size75_4, size75_5, size75_6, size75_7, size75_8, size75_9, size75_10, size75_11, size75_12, size75_13, size75_14, size75_15, size75_16, size75_17, size75_18, size75_19, size75_20, size75_21, size75_22, List.range, List.range.loop]) | (refine Walk.oq ?_; try walk_nrm) | (refine Walk.un ?_; walk_nrm))
    by_cases h1 : 0 ≤ cvv
    · by_cases h2 : cvv < L
      · rw [if_pos ⟨h1, h2⟩]
        (refine Walk.drawnC (by kernel_rfl) size75_21 (by kernel_rfl) (by kernel_rfl) (by decide) ?_; simp only [List.range, List.range.loop]; repeat (first | (refine Cm.opqA (ho_of (by conv => lhs; whnf) (by kernel_rfl)) (by rfl) (fun dd e he => ?_) ?_; (· (simp [go_sem, *] at he; try (subst he; exact evR_read _ _))); apply Exists.intro; apply And.intro; (· (intro dd K hK; go_simp; exact hK))) | (refine Cm.unw (ho_of (by conv => lhs; whnf) (by kernel_rfl)) (by rfl) ?_; walk_nrm)))
        refine Cm.done ?_
        repeat (first | refine Walk.c rfl ?_ | refine Walk.cRet ?_ | refine Walk.cEnd ?_ | (refine Walk.cReg ?_; simp only [size75_0, size75_1, size75_2, size75_3, size75_4, size75_5, size75_6, size75_7, size75_8, size75_9, size75_10, size75_11, size75_12, size75_13, size75_14, size75_15, size75_16, size75_17, size75_18, size75_19, size75_20, size75_21, size75_22, List.range, List.range.loop]) | (refine Walk.oq ?_; try walk_nrm) | (refine Walk.un ?_; walk_nrm))
        (refine Walk.os hf hy ?_; try walk_nrm)
        generalize w1.setCell ⟨p, 1, none⟩ (.int .i64 cvv) = w2 at *
        repeat (first | refine Walk.c rfl ?_ | refine Walk.cRet ?_ | refine Walk.cEnd ?_ | (refine Walk.cReg ?_; simp only [size75_0, size75_1, size75_2, size75_3, size75_4, size75_5, size75_6, size75_7, size75_8, size75_9, size75_10, size75_11, size75_12, size75_13, size75_14, size75_15, size75_16, size75_17, size75_18, size75_19, size75_20, size75_21, size75_22, List.range, List.range.loop]) | (refine Walk.oq ?_; try walk_nrm) | (refine Walk.un ?_; walk_nrm))
        exact (Walk.ret0 (Post := fun v w' => v = .tuple #[] ∧ ∃ d, w' = w2.at d) rfl rfl Try.func75 rfl fun d => ⟨rfl, d, rfl⟩).mono fun g w' ⟨v, ⟨hv, hd⟩, hg⟩ => ⟨by rw [hg, hv], hd⟩
      · rw [if_neg (fun h => h2 h.2)]
        (refine Walk.drawnC (by kernel_rfl) size75_21 (by kernel_rfl) (by kernel_rfl) (by decide) ?_; simp only [List.range, List.range.loop]; repeat (first | (refine Cm.opqA (ho_of (by conv => lhs; whnf) (by kernel_rfl)) (by rfl) (fun dd e he => ?_) ?_; (· (simp [go_sem, *] at he; try (subst he; exact evR_read _ _))); apply Exists.intro; apply And.intro; (· (intro dd K hK; go_simp; exact hK))) | (refine Cm.unw (ho_of (by conv => lhs; whnf) (by kernel_rfl)) (by rfl) ?_; walk_nrm)))
        refine Cm.done ?_
        repeat (first | refine Walk.c rfl ?_ | refine Walk.cRet ?_ | refine Walk.cEnd ?_ | (refine Walk.cReg ?_; simp only [size75_0, size75_1, size75_2, size75_3, size75_4, size75_5, size75_6, size75_7, size75_8, size75_9, size75_10, size75_11, size75_12, size75_13, size75_14, size75_15, size75_16, size75_17, size75_18, size75_19, size75_20, size75_21, size75_22, List.range, List.range.loop]) | (refine Walk.oq ?_; try walk_nrm) | (refine Walk.un ?_; walk_nrm))
        exact (Walk.ret0 (Post := fun v w' => v = .tuple #[] ∧ ∃ d, w' = w1.at d) rfl rfl Try.func75 rfl fun d => ⟨rfl, d, rfl⟩).mono fun g w' ⟨v, ⟨hv, hd⟩, hg⟩ => ⟨by rw [hg, hv], hd⟩
    · rw [if_neg (fun h => h1 h.1)]
      (refine Walk.drawnC (by kernel_rfl) size75_21 (by kernel_rfl) (by kernel_rfl) (by decide) ?_; simp only [List.range, List.range.loop]; repeat (first | (refine Cm.opqA (ho_of (by conv => lhs; whnf) (by kernel_rfl)) (by rfl) (fun dd e he => ?_) ?_; (· (simp [go_sem, *] at he; try (subst he; exact evR_read _ _))); apply Exists.intro; apply And.intro; (· (intro dd K hK; go_simp; exact hK))) | (refine Cm.unw (ho_of (by conv => lhs; whnf) (by kernel_rfl)) (by rfl) ?_; walk_nrm)))
      refine Cm.done ?_
      repeat (first | refine Walk.c rfl ?_ | refine Walk.cRet ?_ | refine Walk.cEnd ?_ | (refine Walk.cReg ?_; simp only [size75_0, size75_1, size75_2, size75_3, size75_4, size75_5, size75_6, size75_7, size75_8, size75_9, size75_10, size75_11, size75_12, size75_13, size75_14, size75_15, size75_16, size75_17, size75_18, size75_19, size75_20, size75_21, size75_22, List.range, List.range.loop]) | (refine Walk.oq ?_; try walk_nrm) | (refine Walk.un ?_; walk_nrm))
      exact (Walk.ret0 (Post := fun v w' => v = .tuple #[] ∧ ∃ d, w' = w1.at d) rfl rfl Try.func75 rfl fun d => ⟨rfl, d, rfl⟩).mono fun g w' ⟨v, ⟨hv, hd⟩, hg⟩ => ⟨by rw [hg, hv], hd⟩
  · clear hab two
    unfold at75
    repeat (first | refine Walk.c rfl ?_ | refine Walk.cRet ?_ | refine Walk.cEnd ?_ | (refine Walk.cReg ?_; simp only [size75_0, size75_1, size75_2, size75_3, size75_4, size75_5, size75_6, size75_7, size75_8, size75_9, size75_10, size75_11, size75_12, size75_13, size75_14, size75_15, size75_16, size75_17, size75_18, size75_19, size75_20, size75_21, size75_22, List.range, List.range.loop]) | (refine Walk.oq ?_; try walk_nrm) | (refine Walk.un ?_; walk_nrm))
    try simp only [hj]
    repeat (first | refine Walk.c rfl ?_ | refine Walk.cRet ?_ | refine Walk.cEnd ?_ | (refine Walk.cReg ?_; simp only [size75_0, size75_1, size75_2, size75_3, size75_4, size75_5, size75_6, size75_7, size75_8, size75_9, size75_10, size75_11, size75_12, size75_13, size75_14, size75_15, size75_16, size75_17, size75_18, size75_19, size75_20, size75_21, size75_22, List.range, List.range.loop]) | (refine Walk.oq ?_; try walk_nrm) | (refine Walk.un ?_; walk_nrm))
    (refine Walk.os hf hy ?_; try walk_nrm)
    clear hy hz hf x0 x4 hp
    generalize w.setCell ⟨p, 1, none⟩ (.int .i64 (-1)) = w1 at *
    have hy : w1.cell? ⟨p, 1, none⟩ = some (.int .i64 (-1)) := (cell_of hp1 1).trans rfl
    have h0 : w1.cell? ⟨p, 0, none⟩ = some (.slice ca L cc) := (cell_of hp1 0).trans rfl
    have hz := frozen_of hp1 1
    have hf : Free (fun _ => none) ⟨p, 1, none⟩ := (apart0 p).1 _ rfl
    repeat (first | refine Walk.c rfl ?_ | refine Walk.cRet ?_ | refine Walk.cEnd ?_ | (refine Walk.cReg ?_; simp only [size75_0, size75_1, size75_2, size75_3, size75_4, size75_5, size75_6, size75_7, size75_8, size75_9, size75_10, size75_11, size75_12, size75_13, size75_14, size75_15, size75_16, size75_17, size75_18, size75_19, size75_20, size75_21, size75_22, List.range, List.range.loop]) | (refine Walk.oq ?_; try walk_nrm) | (refine Walk.un ?_; walk_nrm))
    by_cases h1 : 0 ≤ cvv
    · by_cases h2 : cvv < L
      · rw [if_pos ⟨h1, h2⟩]
        (refine Walk.drawnC (by kernel_rfl) size75_21 (by kernel_rfl) (by kernel_rfl) (by decide) ?_; simp only [List.range, List.range.loop]; repeat (first | (refine Cm.opqA (ho_of (by conv => lhs; whnf) (by kernel_rfl)) (by rfl) (fun dd e he => ?_) ?_; (· (simp [go_sem, *] at he; try (subst he; exact evR_read _ _))); apply Exists.intro; apply And.intro; (· (intro dd K hK; go_simp; exact hK))) | (refine Cm.unw (ho_of (by conv => lhs; whnf) (by kernel_rfl)) (by rfl) ?_; walk_nrm)))
        refine Cm.done ?_
        repeat (first | refine Walk.c rfl ?_ | refine Walk.cRet ?_ | refine Walk.cEnd ?_ | (refine Walk.cReg ?_; simp only [size75_0, size75_1, size75_2, size75_3, size75_4, size75_5, size75_6, size75_7, size75_8, size75_9, size75_10, size75_11, size75_12, size75_13, size75_14, size75_15, size75_16, size75_17, size75_18, size75_19, size75_20, size75_21, size75_22, List.range, List.range.loop]) | (refine Walk.oq ?_; try walk_nrm) | (refine Walk.un ?_; walk_nrm))
        (refine Walk.os hf hy ?_; try walk_nrm)
        generalize w1.setCell ⟨p, 1, none⟩ (.int .i64 cvv) = w2 at *
        repeat (first | refine Walk.c rfl ?_ | refine Walk.cRet ?_ | refine Walk.cEnd ?_ | (refine Walk.cReg ?_; simp only [size75_0, size75_1, size75_2, size75_3, size75_4, size75_5, size75_6, size75_7, size75_8, size75_9, size75_10, size75_11, size75_12, size75_13, size75_14, size75_15, size75_16, size75_17, size75_18, size75_19, size75_20, size75_21, size75_22, List.range, List.range.loop]) | (refine Walk.oq ?_; try walk_nrm) | (refine Walk.un ?_; walk_nrm))
        exact (Walk.ret0 (Post := fun v w' => v = .tuple #[] ∧ ∃ d, w' = w2.at d) rfl rfl Try.func75 rfl fun d => ⟨rfl, d, rfl⟩).mono fun g w' ⟨v, ⟨hv, hd⟩, hg⟩ => ⟨by rw [hg, hv], hd⟩
      · rw [if_neg (fun h => h2 h.2)]
        (refine Walk.drawnC (by kernel_rfl) size75_21 (by kernel_rfl) (by kernel_rfl) (by decide) ?_; simp only [List.range, List.range.loop]; repeat (first | (refine Cm.opqA (ho_of (by conv => lhs; whnf) (by kernel_rfl)) (by rfl) (fun dd e he => ?_) ?_; (· (simp [go_sem, *] at he; try (subst he; exact evR_read _ _))); apply Exists.intro; apply And.intro; (· (intro dd K hK; go_simp; exact hK))) | (refine Cm.unw (ho_of (by conv => lhs; whnf) (by kernel_rfl)) (by rfl) ?_; walk_nrm)))
        refine Cm.done ?_
        repeat (first | refine Walk.c rfl ?_ | refine Walk.cRet ?_ | refine Walk.cEnd ?_ | (refine Walk.cReg ?_; simp only [size75_0, size75_1, size75_2, size75_3, size75_4, size75_5, size75_6, size75_7, size75_8, size75_9, size75_10, size75_11, size75_12, size75_13, size75_14, size75_15, size75_16, size75_17, size75_18, size75_19, size75_20, size75_21, size75_22, List.range, List.range.loop]) | (refine Walk.oq ?_; try walk_nrm) | (refine Walk.un ?_; walk_nrm))
        exact (Walk.ret0 (Post := fun v w' => v = .tuple #[] ∧ ∃ d, w' = w1.at d) rfl rfl Try.func75 rfl fun d => ⟨rfl, d, rfl⟩).mono fun g w' ⟨v, ⟨hv, hd⟩, hg⟩ => ⟨by rw [hg, hv], hd⟩
    · rw [if_neg (fun h => h1 h.1)]
      (refine Walk.drawnC (by kernel_rfl) size75_21 (by kernel_rfl) (by kernel_rfl) (by decide) ?_; simp only [List.range, List.range.loop]; repeat (first | (refine Cm.opqA (ho_of (by conv => lhs; whnf) (by kernel_rfl)) (by rfl) (fun dd e he => ?_) ?_; (· (simp [go_sem, *] at he; try (subst he; exact evR_read _ _))); apply Exists.intro; apply And.intro; (· (intro dd K hK; go_simp; exact hK))) | (refine Cm.unw (ho_of (by conv => lhs; whnf) (by kernel_rfl)) (by rfl) ?_; walk_nrm)))
      refine Cm.done ?_
      repeat (first | refine Walk.c rfl ?_ | refine Walk.cRet ?_ | refine Walk.cEnd ?_ | (refine Walk.cReg ?_; simp only [size75_0, size75_1, size75_2, size75_3, size75_4, size75_5, size75_6, size75_7, size75_8, size75_9, size75_10, size75_11, size75_12, size75_13, size75_14, size75_15, size75_16, size75_17, size75_18, size75_19, size75_20, size75_21, size75_22, List.range, List.range.loop]) | (refine Walk.oq ?_; try walk_nrm) | (refine Walk.un ?_; walk_nrm))
      exact (Walk.ret0 (Post := fun v w' => v = .tuple #[] ∧ ∃ d, w' = w1.at d) rfl rfl Try.func75 rfl fun d => ⟨rfl, d, rfl⟩).mono fun g w' ⟨v, ⟨hv, hd⟩, hg⟩ => ⟨by rw [hg, hv], hd⟩
end Go.Proofs.Ytgiiicdpbdfemaa
end

section
namespace Go.Proofs.Ytgiiicdpbdfemaa
section
variable {X : Type} {A : Abs X} {F st : X × List Nat} {sl : List Int} {p rd : Nat}
structure Ahead (A : Abs X) (F : X × List Nat) (sl : List Int) (p rd : Nat) (st : X × List Nat) : Prop where
  run : ∃ f x, x ≤ A.n ∧ rd % A.n = x % A.n ∧ F = restA A f ((List.range' x (A.n - x)).foldl (fun st i => stepA A st (i : Nat)) ((sl.drop p).foldl (stepA A) st)) ∧
    A.most ≤ (((List.range' x (A.n - x)).foldl (fun st i => stepA A st (i : Nat)) ((sl.drop p).foldl (stepA A) st)).2.length + f : Nat)
  le : p ≤ sl.length
  short : (st.2.length : Int) ≤ A.most
theorem over_stay (h : overA A st = true) (z : Int) : stepA A st z = st := by
  unfold stepA
  rw [if_neg]
  rintro ⟨h', _⟩
  rw [h] at h'; cases h'
theorem over_folds (h : overA A st = true) : ∀ l : List Int, l.foldl (stepA A) st = st
  | [] => rfl
  | z :: l => by rw [List.foldl_cons, over_stay h]; exact over_folds h l
theorem over_foldn (h : overA A st = true) : ∀ l : List Nat, l.foldl (fun st i => stepA A st (i : Nat)) st = st
  | [] => rfl
  | z :: l => by rw [List.foldl_cons, over_stay h]; exact over_foldn h l
theorem step_yes (h : overA A st = false) {i : Nat} (hi : i < A.n) (ho : A.out st.1 i = none) : stepA A st (i : Nat) = (A.next st.1 i, st.2 ++ [i]) := by
  unfold stepA
  rw [if_pos ⟨h, by omega, by omega, by simpa using ho⟩]
  simp
theorem step_no {z : Int} (h : ¬ (0 ≤ z ∧ z < A.n ∧ A.out st.1 z.toNat = none)) : stepA A st z = st := by
  unfold stepA
  rw [if_neg]
  rintro ⟨_, h'⟩
  exact h h'
theorem over_len (h : overA A st = false) : (st.2.length : Int) < A.most ∧ ∃ j, j < A.n ∧ A.out st.1 j = none := by
  unfold overA at h
  simp only [Bool.or_eq_false_iff, decide_eq_false_iff_not] at h
  refine ⟨by omega, ?_⟩
  have : 0 < goingA A st.1 := by omega
  obtain ⟨j, hj, ho⟩ := List.countP_pos_iff.1 this
  exact ⟨j, List.mem_range.1 hj, by simpa using ho⟩
theorem step_short (h : (st.2.length : Int) ≤ A.most) (z : Int) : ((stepA A st z).2.length : Int) ≤ A.most := by
  unfold stepA
  split
  · next h' => have := (over_len h'.1).1; simp; omega
  · exact h
theorem ahead_start (h0 : 0 ≤ A.most) (x : X) : Ahead A (followA A (x, []) sl) sl 0 0 (x, []) := by
  refine ⟨⟨A.most.toNat, A.n, Nat.le_refl _, by simp, ?_, ?_⟩, Nat.zero_le _, by simpa using h0⟩
  · rw [Nat.sub_self]; rfl
  · rw [Nat.sub_self]
    show A.most ≤ ((_ + A.most.toNat : Nat) : Int)
    omega
theorem Ahead.done (H : Ahead A F sl p rd st) (h : overA A st = true) : F = st := by
  obtain ⟨f, x, _, _, h3, _⟩ := H.run
  rw [h3, over_folds h, over_foldn h]
  cases f with
  | zero => rfl
  | succ f => exact rest_off _ h
theorem Ahead.take (H : Ahead A F sl p rd st) {z : Int} (hz : sl[p]? = some z) : Ahead A F sl (p + 1) rd (stepA A st z) := by
  obtain ⟨f, x, h1, h2, h3, h4⟩ := H.run
  obtain ⟨hl, e⟩ := List.getElem?_eq_some_iff.1 hz
  have ed : sl.drop p = z :: sl.drop (p + 1) := by rw [← e]; exact List.drop_eq_getElem_cons hl
  rw [ed, List.foldl_cons] at h3 h4
  exact ⟨⟨f, x, h1, h2, h3, h4⟩, hl, step_short H.short z⟩
theorem Ahead.here (H : Ahead A F sl sl.length rd st) (h : overA A st = false) : ∃ f x, x < A.n ∧ rd % A.n = x ∧ F = restA A f ((List.range' x (A.n - x)).foldl (fun st i => stepA A st (i : Nat)) st) ∧
    A.most ≤ (((List.range' x (A.n - x)).foldl (fun st i => stepA A st (i : Nat)) st).2.length + f : Nat) := by
  obtain ⟨f, x, h1, h2, h3, h4⟩ := H.run
  have ed : sl.drop sl.length = [] := List.drop_length
  rw [ed] at h3 h4
  simp only [List.foldl_nil] at h3 h4
  obtain ⟨hm, j, hj, _⟩ := over_len h
  by_cases hx : x < A.n
  · exact ⟨f, x, hx, by rw [h2, Nat.mod_eq_of_lt hx], h3, h4⟩
  · have hx : x = A.n := by omega
    subst hx
    rw [Nat.sub_self] at h3 h4
    have h3 : F = restA A f st := h3
    have h4 : A.most ≤ (st.2.length + f : Nat) := h4
    obtain ⟨f', rfl⟩ : ∃ f', f = f' + 1 := ⟨f - 1, by omega⟩
    have e : (List.range' 0 (A.n - 0)).foldl (fun st i => stepA A st (i : Nat)) st = roundA A st := by
      unfold roundA
      rw [Nat.sub_zero, ← List.range_eq_range']
    refine ⟨f', 0, by omega, by rw [h2, Nat.mod_self], ?_, ?_⟩
    · rw [e, h3]; exact rest_on _ h
    · rw [e]
      have := roundA_one A h
      omega
theorem Ahead.turn (H : Ahead A F sl sl.length rd st) (h : overA A st = false) : Ahead A F sl sl.length (rd % A.n + 1) (stepA A st ((rd % A.n : Nat) : Int)) ∧ Ahead A F sl sl.length (rd + 1) (stepA A st ((rd % A.n : Nat) : Int)) := by
  obtain ⟨f, x, h1, h2, h3, h4⟩ := H.here h
  rw [h2]
  have e : List.range' x (A.n - x) = x :: List.range' (x + 1) (A.n - (x + 1)) := by
    obtain ⟨r, hr⟩ : ∃ r, A.n - x = r + 1 := ⟨A.n - x - 1, by omega⟩
    rw [hr, List.range'_succ]
    congr 2
    omega
  rw [e, List.foldl_cons] at h3 h4
  have ed : sl.drop sl.length = [] := List.drop_length
  refine ⟨⟨⟨f, x + 1, by omega, rfl, ?_, ?_⟩, Nat.le_refl _, step_short H.short _⟩, ⟨⟨f, x + 1, by omega, ?_, ?_, ?_⟩, Nat.le_refl _, step_short H.short _⟩⟩
  · rw [ed]; exact h3
  · rw [ed]; exact h4
  · rw [Nat.add_mod, h2, Nat.add_mod x 1, Nat.mod_eq_of_lt h1]
  · rw [ed]; exact h3
  · rw [ed]; exact h4
theorem over_far (h : overA A st = false) (rd : Nat) : ∃ k, k < A.n + A.n ∧ A.out st.1 ((rd + k) % A.n) = none := by
  obtain ⟨_, j, hj, ho⟩ := over_len h
  have hr := Nat.mod_lt rd (show 0 < A.n by omega)
  refine ⟨j + (A.n - rd % A.n), by omega, ?_⟩
  have e : rd + (j + (A.n - rd % A.n)) = j + A.n * (rd / A.n + 1) := by
    have := Nat.div_add_mod rd A.n
    rw [Nat.mul_add, Nat.mul_one]
    omega
  rw [e, Nat.add_mul_mod_self_left, Nat.mod_eq_of_lt hj]
  exact ho
end
end Go.Proofs.Ytgiiicdpbdfemaa
end

section
namespace Go.Proofs.Ytgiiicdpbdfemaa
open Go.Conc Go.RowKit Go.Relay
open Go.ConcN (upd upd_ne upd_same)
variable {main : Bool} {V : Nat → Option Wait}
theorem Walk.ret2 {P : Program} {b : Frame} {a : Act} {cs : List Frame} {w : World} {fn : Func} {todo : List Item} {c : Frame} {t s : Tmp} {Post : Value → World → Prop} (hn : b.kind = .normal) (hd : a.defers = []) (hf : P.funcs[b.fn]? = some fn) (hr : fn.results = #[.tmp t, .tmp s]) (h : ∀ d, Post (.tuple #[a.tmps.getD t undef, a.tmps.getD s undef]) (w.at d)) :
    Walk P main (DR V) (fun g w' => ∃ v, Post v w' ∧ g = G (c.finish v) cs) (G { b.at a todo with mode := .returning } (c :: cs)) w :=
  Walk.ctl rfl (fun w => stepG_leave (v := .tuple #[a.tmps.getD t undef, a.tmps.getD s undef]) hn hd hf (by simp [results, hr]) (by simp [results, hr])) (.stop fun d => ⟨_, h d, rfl⟩)
def BoolsAt (a : Option Addr) (n : Nat) (f : Nat → Bool) (w : World) : Prop := ∀ i, i < n → ∃ b o, a = some ⟨b, o, none⟩ ∧ w.cell? ⟨b, o + i, none⟩ = some (.bool (f i))
noncomputable def reg50_0 : Array Oper := match Try.f50.body with | some (.seq (.region _ ops _) _) => ops | _ => #[]
theorem size50_0 : reg50_0.size = 1 := by kernel_rfl
noncomputable def reg50_1 : Array Oper := match Try.f50.body with | some (.seq _ (.seq (.seq (.region _ ops _) _) _)) => ops | _ => #[]
theorem size50_1 : reg50_1.size = 1 := by kernel_rfl
noncomputable def reg50_2 : Array Oper := match Try.f50.body with | some (.seq _ (.seq (.seq _ (.block _ (.loop (.seq (.seq (.region _ ops _) _) _)))) _)) => ops | _ => #[]
theorem size50_2 : reg50_2.size = 4 := by kernel_rfl
noncomputable def reg50_4 : Array Oper := match Try.f50.body with | some (.seq _ (.seq (.seq _ (.block _ (.loop (.seq _ (.seq (.block _ (.seq (.region _ ops _) _)) _))))) _)) => ops | _ => #[]
theorem size50_4 : reg50_4.size = 5 := by kernel_rfl
noncomputable def reg50_5 : Array Oper := match Try.f50.body with | some (.seq _ (.seq (.seq _ (.block _ (.loop (.seq _ (.seq (.block _ (.seq _ (.cond _ (.seq (.region _ ops _) _) _))) _))))) _)) => ops | _ => #[]
theorem size50_5 : reg50_5.size = 1 := by kernel_rfl
noncomputable def reg50_3 : Array Oper := match Try.f50.body with | some (.seq _ (.seq (.seq _ (.block _ (.loop (.seq _ (.seq _ (.region _ ops _)))))) _)) => ops | _ => #[]
theorem size50_3 : reg50_3.size = 3 := by kernel_rfl
noncomputable def reg50_6 : Array Oper := match Try.f50.body with | some (.seq _ (.seq _ (.seq (.region _ ops _) _))) => ops | _ => #[]
theorem size50_6 : reg50_6.size = 1 := by kernel_rfl
theorem code50_is : Try.f50.body = some (.seq (.region 0 reg50_0 false) (.seq (.seq (.region 1 reg50_1 false) (.block 0 (.loop (.seq (.seq (.region 2 reg50_2 false) (.cond (.tmp 7 ) (.skip) (.exit 0))) (.seq (.block 1 (.seq (.region 4 reg50_4 false) (.cond (.tmp 14 ) (.seq (.region 5 reg50_5 false) (.ret)) (.skip)))) (.region 3 reg50_3 false)))))) (.seq (.region 6 reg50_6 false) (.ret)))) := by kernel_rfl
noncomputable def hd50 (a : Value) (i : Nat) (u : Nat → Value) : Frame :=
  (base 50).at { tmps := #[a, u 1, .bool false, .int .i64 i, u 4, u 5, u 6, u 7, u 8, u 9, u 10, u 11, u 12, u 13, u 14], defers := [] } [.code (.seq (.seq (.region 2 reg50_2 false) (.cond (.tmp 7 ) (.skip) (.exit 0))) (.seq (.block 1 (.seq (.region 4 reg50_4 false) (.cond (.tmp 14 ) (.seq (.region 5 reg50_5 false) (.ret)) (.skip)))) (.region 3 reg50_3 false))), .inLoop (.seq (.seq (.region 2 reg50_2 false) (.cond (.tmp 7 ) (.skip) (.exit 0))) (.seq (.block 1 (.seq (.region 4 reg50_4 false) (.cond (.tmp 14 ) (.seq (.region 5 reg50_5 false) (.ret)) (.skip)))) (.region 3 reg50_3 false))), .inBlock 0, .code (.seq (.region 6 reg50_6 false) (.ret))]
set_option maxHeartbeats 8000000 in
set_option maxRecDepth 100000 in
theorem over50_in (a : Option Addr) (n ca : Nat) (cs : List Frame) (w : World) :
    Walk Try.prog main (DR V) (fun g w' => (∃ u, g = G (hd50 (.slice a n ca) 0 u) cs) ∧ ∃ d, w' = w.at d) (G (Frame.enter Try.prog 50 #[.slice a n ca] .normal) cs) w := by
  rw [enter_at _ Try.func50 code50_is]
  simp only [Try.ntmps50, List.size_toArray, List.length_cons, List.length_nil, Nat.reduceAdd, Nat.reduceSub, Array.replicate_succ, Array.replicate_zero, List.push_toArray, List.append_toArray, List.nil_append, List.cons_append]
  repeat (first | refine Walk.c rfl ?_ | refine Walk.cRet ?_ | refine Walk.cEnd ?_ | (refine Walk.cReg ?_; simp only [size50_0, size50_1, size50_2, size50_4, size50_5, size50_3, size50_6, List.range, List.range.loop]) | (refine Walk.oq ?_; try walk_nrm) | (refine Walk.un ?_; walk_nrm))
  refine Walk.ctl rfl (fun w => stepG_loop) ?_
  refine .stop fun d => ⟨at_slots ?_, d, rfl⟩
  simp only [hd50]
  rfl
set_option maxHeartbeats 8000000 in
set_option maxRecDepth 100000 in
theorem over50_out (a : Option Addr) (n ca : Nat) (u : Nat → Value) (c : Frame) (cs : List Frame) (w : World) :
    Walk Try.prog main (DR V) (fun g w' => g = G (c.finish (.bool true)) cs ∧ ∃ d, w' = w.at d) (G (hd50 (.slice a n ca) n u) (c :: cs)) w := by
  unfold hd50
  repeat (first | refine Walk.c rfl ?_ | refine Walk.cRet ?_ | refine Walk.cEnd ?_ | (refine Walk.cReg ?_; simp only [size50_0, size50_1, size50_2, size50_4, size50_5, size50_3, size50_6, List.range, List.range.loop]) | (refine Walk.oq ?_; try walk_nrm) | (refine Walk.un ?_; walk_nrm))
  exact (Walk.ret1 (Post := fun v w' => v = .bool true ∧ ∃ d, w' = w.at d) rfl rfl Try.func50 rfl fun d => ⟨rfl, d, rfl⟩).mono fun g w' ⟨v, ⟨hv, hd⟩, hg⟩ => ⟨by rw [hg, hv], hd⟩
set_option maxHeartbeats 8000000 in
set_option maxRecDepth 100000 in
theorem over50_no (ab ao n ca i : Nat) (u : Nat → Value) (c : Frame) (cs : List Frame) (w : World) (hi : i < n) (ha : w.cell? ⟨ab, ao + i, none⟩ = some (.bool false)) :
    Walk Try.prog main (DR V) (fun g w' => g = G (c.finish (.bool false)) cs ∧ ∃ d, w' = w.at d) (G (hd50 (.slice (some ⟨ab, ao, none⟩) n ca) i u) (c :: cs)) w := by
  unfold hd50
  repeat (first | refine Walk.c rfl ?_ | refine Walk.cRet ?_ | refine Walk.cEnd ?_ | (refine Walk.cReg ?_; simp only [size50_0, size50_1, size50_2, size50_4, size50_5, size50_3, size50_6, List.range, List.range.loop]) | (refine Walk.oq ?_; try walk_nrm) | (refine Walk.un ?_; walk_nrm))
  exact (Walk.ret1 (Post := fun v w' => v = .bool false ∧ ∃ d, w' = w.at d) rfl rfl Try.func50 rfl fun d => ⟨rfl, d, rfl⟩).mono fun g w' ⟨v, ⟨hv, hd⟩, hg⟩ => ⟨by rw [hg, hv], hd⟩
set_option maxHeartbeats 8000000 in
set_option maxRecDepth 100000 in
theorem over50_go (ab ao n ca i : Nat) (u : Nat → Value) (cs : List Frame) (w : World) (hi : i < n) (hn : n ≤ 17592186044416) (ha : w.cell? ⟨ab, ao + i, none⟩ = some (.bool true)) :
    Walk Try.prog main (DR V) (fun g w' => (∃ u', g = G (hd50 (.slice (some ⟨ab, ao, none⟩) n ca) (i + 1) u') cs) ∧ ∃ d, w' = w.at d) (G (hd50 (.slice (some ⟨ab, ao, none⟩) n ca) i u) cs) w := by
  have hw1 : IntKind.wrap .i64 ((i : Int) + 1) = (i : Int) + 1 := by rw [IntKind.wrap_i64]; omega
  conv => arg 5; unfold hd50
  repeat (first | refine Walk.c rfl ?_ | refine Walk.cRet ?_ | refine Walk.cEnd ?_ | (refine Walk.cReg ?_; simp only [size50_0, size50_1, size50_2, size50_4, size50_5, size50_3, size50_6, List.range, List.range.loop]) | (refine Walk.oq ?_; try walk_nrm) | (refine Walk.un ?_; walk_nrm))
  refine Walk.ctl rfl (fun w => stepG_inLoop) ?_
  refine .stop fun d' => ⟨at_slots ?_, d', rfl⟩
  have hc : ((i + 1 : Nat) : Int) = (i : Int) + 1 := by simp
  simp only [hd50, hc]
  rfl
theorem over50_loop (a : Option Addr) (n ca : Nat) (f : Nat → Bool) (hn : n ≤ 17592186044416) (c : Frame) (cs : List Frame) (w : World) (ha : BoolsAt a n f w) : ∀ (r i : Nat) (u : Nat → Value), i + r = n →
    Walk Try.prog main (DR V) (fun g w' => g = G (c.finish (.bool ((List.range' i r).all f))) cs ∧ ∃ d, w' = w.at d) (G (hd50 (.slice a n ca) i u) (c :: cs)) w := by
  intro r
  induction r with
  | zero =>
    intro i u hi
    have hi : i = n := hi
    subst hi
    exact over50_out a i ca u c cs w
  | succ r ih =>
    intro i u hi
    have hin : i < n := by omega
    obtain ⟨ab, ao, rfl, h1⟩ := ha i hin
    rw [List.range'_succ, List.all_cons]
    cases hf : f i with
    | false =>
      rw [hf] at h1
      exact over50_no ab ao n ca i u c cs w hin h1
    | true =>
      rw [hf] at h1
      refine (over50_go ab ao n ca i u (c :: cs) w hin hn h1).then ?_
      rintro g w' ⟨⟨u', rfl⟩, d, rfl⟩
      exact Walk.back (ih (i + 1) u' (by omega)) d
theorem over50_w (a : Option Addr) (n ca : Nat) (f : Nat → Bool) (hn : n ≤ 17592186044416) (w : World) (ha : BoolsAt a n f w) : CallV Try.prog main V 50 #[.slice a n ca] w (.bool ((List.range n).all f)) w := by
  intro fr cs
  refine (over50_in a n ca (fr :: cs) w).then ?_
  rintro g w1 ⟨⟨u, rfl⟩, d, rfl⟩
  refine Walk.back ?_ d
  refine (over50_loop a n ca f hn fr cs w ha n 0 u (by omega)).mono ?_
  rintro g w' ⟨rfl, d, rfl⟩
  exact ⟨_, ⟨by rw [List.range_eq_range'], d, rfl⟩, rfl⟩
end Go.Proofs.Ytgiiicdpbdfemaa
end

section
namespace Go.Proofs.Ytgiiicdpbdfemaa
open Go.Conc Go.RowKit Go.Relay
open Go.ConcN (upd upd_ne upd_same)
variable {main : Bool} {V : Nat → Option Wait}
noncomputable def reg48_0 : Array Oper := match Try.f48.body with | some (.seq (.region _ ops _) _) => ops | _ => #[]
theorem size48_0 : reg48_0.size = 2 := by kernel_rfl
noncomputable def reg48_1 : Array Oper := match Try.f48.body with | some (.seq _ (.seq (.seq (.region _ ops _) _) _)) => ops | _ => #[]
theorem size48_1 : reg48_1.size = 14 := by kernel_rfl
noncomputable def reg48_2 : Array Oper := match Try.f48.body with | some (.seq _ (.seq (.seq _ (.cond _ (.seq (.region _ ops _) _) _)) _)) => ops | _ => #[]
theorem size48_2 : reg48_2.size = 2 := by kernel_rfl
noncomputable def reg48_3 : Array Oper := match Try.f48.body with | some (.seq _ (.seq _ (.seq (.block _ (.loop (.seq (.seq (.region _ ops _) _) _))) _))) => ops | _ => #[]
theorem size48_3 : reg48_3.size = 10 := by kernel_rfl
noncomputable def reg48_4 : Array Oper := match Try.f48.body with | some (.seq _ (.seq _ (.seq (.block _ (.loop (.seq _ (.block _ (.seq (.region _ ops _) _))))) _))) => ops | _ => #[]
theorem size48_4 : reg48_4.size = 11 := by kernel_rfl
noncomputable def reg48_5 : Array Oper := match Try.f48.body with | some (.seq _ (.seq _ (.seq (.block _ (.loop (.seq _ (.block _ (.seq _ (.seq (.region _ ops _) _)))))) _))) => ops | _ => #[]
theorem size48_5 : reg48_5.size = 8 := by kernel_rfl
noncomputable def reg48_6 : Array Oper := match Try.f48.body with | some (.seq _ (.seq _ (.seq (.block _ (.loop (.seq _ (.block _ (.seq _ (.seq _ (.seq (.region _ ops _) _))))))) _))) => ops | _ => #[]
theorem size48_6 : reg48_6.size = 15 := by kernel_rfl
noncomputable def reg48_7 : Array Oper := match Try.f48.body with | some (.seq _ (.seq _ (.seq (.block _ (.loop (.seq _ (.block _ (.seq _ (.seq _ (.seq _ (.cond _ (.seq (.region _ ops _) _) _)))))))) _))) => ops | _ => #[]
theorem size48_7 : reg48_7.size = 11 := by kernel_rfl
noncomputable def reg48_8 : Array Oper := match Try.f48.body with | some (.seq _ (.seq _ (.seq (.block _ (.loop (.seq _ (.block _ (.seq _ (.seq _ (.seq _ (.cond _ (.seq _ (.seq (.region _ ops _) _)) _)))))))) _))) => ops | _ => #[]
theorem size48_8 : reg48_8.size = 3 := by kernel_rfl
noncomputable def reg48_9 : Array Oper := match Try.f48.body with | some (.seq _ (.seq _ (.seq _ (.seq (.block _ (.loop (.seq (.seq (.region _ ops _) _) _))) _)))) => ops | _ => #[]
theorem size48_9 : reg48_9.size = 10 := by kernel_rfl
noncomputable def reg48_10 : Array Oper := match Try.f48.body with | some (.seq _ (.seq _ (.seq _ (.seq (.block _ (.loop (.seq _ (.block _ (.region _ ops _))))) _)))) => ops | _ => #[]
theorem size48_10 : reg48_10.size = 8 := by kernel_rfl
noncomputable def reg48_11 : Array Oper := match Try.f48.body with | some (.seq _ (.seq _ (.seq _ (.seq _ (.seq (.region _ ops _) _))))) => ops | _ => #[]
theorem size48_11 : reg48_11.size = 8 := by kernel_rfl
noncomputable def reg48_12 : Array Oper := match Try.f48.body with | some (.seq _ (.seq _ (.seq _ (.seq _ (.seq _ (.seq (.region _ ops _) _)))))) => ops | _ => #[]
theorem size48_12 : reg48_12.size = 6 := by kernel_rfl
noncomputable def reg48_13 : Array Oper := match Try.f48.body with | some (.seq _ (.seq _ (.seq _ (.seq _ (.seq _ (.seq _ (.seq (.region _ ops _) _))))))) => ops | _ => #[]
theorem size48_13 : reg48_13.size = 11 := by kernel_rfl
noncomputable def reg48_14 : Array Oper := match Try.f48.body with | some (.seq _ (.seq _ (.seq _ (.seq _ (.seq _ (.seq _ (.seq _ (.seq (.region _ ops _) _)))))))) => ops | _ => #[]
theorem size48_14 : reg48_14.size = 3 := by kernel_rfl
theorem code48_is : Try.f48.body = some (.seq (.region 0 reg48_0 false) (.seq (.seq (.region 1 reg48_1 true) (.cond (.tmp 21 ) (.seq (.region 2 reg48_2 false) (.ret)) (.skip))) (.seq (.block 0 (.loop (.seq (.seq (.region 3 reg48_3 true) (.cond (.tmp 31 ) (.skip) (.exit 0))) (.block 1 (.seq (.region 4 reg48_4 true) (.seq (.region 5 reg48_5 false) (.seq (.region 6 reg48_6 false) (.cond (.tmp 63 ) (.seq (.region 7 reg48_7 false) (.seq (.region 8 reg48_8 false) (.ret))) (.skip))))))))) (.seq (.block 2 (.loop (.seq (.seq (.region 9 reg48_9 false) (.cond (.tmp 84 ) (.skip) (.exit 2))) (.block 3 (.region 10 reg48_10 false))))) (.seq (.region 11 reg48_11 false) (.seq (.region 12 reg48_12 false) (.seq (.region 13 reg48_13 false) (.seq (.region 14 reg48_14 false) (.ret))))))))) := by kernel_rfl
def tuArr (lv : Value) (most : Int) (p rd : Nat) (ov : Value) : Array Value := #[lv, .int .i64 most, .int .i64 (p : Nat), .int .i64 (rd : Nat), ov]
structure Keep (B : Nat) (ov : Value) (w w' : World) : Prop where
  size : w.heap.size ≤ w'.heap.size
  same : ∀ b, b < w.heap.size → b ≠ B → ov.ownBlock ≠ some b → w'.heap[b]? = w.heap[b]?
structure Picked (B : Nat) (lv : Value) (most : Int) (p rd : Nat) (oa : Option Addr) (oc : Nat) (ord : List Nat) (x : Nat) (w w' : World) : Prop where
  all : ∃ oa' oc', w'.heap[B]? = some (.cells (tuArr lv most p rd (.slice oa' (ord ++ [x]).length oc')) 112) ∧ w'.ownsRow 0 3 1 (.slice oa' (ord ++ [x]).length oc') (ord ++ [x]).length (numbs (ord ++ [x])) ∧ (Value.slice oa' (ord ++ [x]).length oc').ownBlock ≠ some B ∧
    ∀ g, (Value.slice oa' (ord ++ [x]).length oc').ownBlock = some g → (Value.slice oa ord.length oc).ownBlock = some g ∨ w.heap.size ≤ g
  keep : Keep B (.slice oa ord.length oc) w w'
theorem picked_of {B : Nat} {lv : Value} {most : Int} {p rd : Nat} {oa : Option Addr} {oc : Nat} {ord : List Nat} {x g cap : Nat} {w wA w3 : World} (hB : w.heap[B]? = some (.cells (tuArr lv most p rd (.slice oa ord.length oc)) 112)) (hne : (Value.slice oa ord.length oc).ownBlock ≠ some B) (hO : Old w wA)
    (hown : w3.ownsRow 0 3 1 (.slice (some ⟨g, 0, none⟩) (ord.length + 1) cap) (ord.length + 1) (numbs ord ++ [.int .i64 (x : Nat)])) (hg : wA.grownBy w3 (Value.slice oa ord.length oc).ownBlock) (hat : (Value.slice oa ord.length oc).ownBlock = some g ∨ g = wA.heap.size) :
    Picked B lv most p rd oa oc ord x w (w3.setCell ⟨B, 4, none⟩ (.slice (some ⟨g, 0, none⟩) (ord.length + 1) cap)) := by
  have lB := (Array.getElem?_eq_some_iff.1 hB).1
  have hsz := hO.size
  have hgs := hg.size
  have hB3 : w3.heap[B]? = some (.cells (tuArr lv most p rd (.slice oa ord.length oc)) 112) := (hg.block B (by omega) (fun e => hne e.symm)).trans ((hO.same B lB).trans hB)
  have hgB : g ≠ B := fun e => by
    rcases hat with h | h
    · exact hne (by rw [h, e])
    · omega
  have hl : (ord ++ [x]).length = ord.length + 1 := by simp
  refine ⟨⟨some ⟨g, 0, none⟩, cap, ?_, ?_, ?_, fun g' hg' => ?_⟩, by rw [size_set]; omega, fun b hb h1 h2 => ?_⟩
  · rw [hl, heap_set_self _ _ hB3]
    simp [tuArr]
  · rw [hl]
    have : numbs (ord ++ [x]) = numbs ord ++ [.int .i64 (x : Nat)] := by simp [numbs]
    rw [this]
    exact row_same hown fun g' hg' => by
      simp only [Value.ownBlock, Option.some.injEq] at hg'
      exact heap_set_other _ _ _ _ (by rw [← hg']; exact hgB)
  · simp [Value.ownBlock, hgB]
  · simp only [Value.ownBlock, Option.some.injEq] at hg'
    subst hg'
    rcases hat with h | h
    · exact .inl h
    · exact .inr (by omega)
  · rw [heap_set_other _ _ _ _ h1]
    exact (hg.block b (by omega) (fun e => h2 e.symm)).trans (hO.same b hb)
noncomputable def hd48 (tv ev : Value) (u : Nat → Value) : Frame :=
  (base 48).at { tmps := #[tv, ev, u 2, u 3, u 4, u 5, u 6, u 7, u 8, u 9, u 10, u 11, u 12, u 13, u 14, u 15, u 16, u 17, u 18, u 19, u 20, u 21, u 22, u 23, u 24, u 25, u 26, u 27, u 28, u 29, u 30, u 31, u 32, u 33, u 34, u 35, u 36, u 37, u 38, u 39, u 40, u 41, u 42, u 43, u 44, u 45, u 46, u 47, u 48, u 49, u 50, u 51, u 52, u 53, u 54, u 55, u 56, u 57, u 58, u 59, u 60, u 61, u 62, u 63, u 64, u 65, u 66, u 67, u 68, u 69, u 70, u 71, u 72, u 73, u 74, u 75, u 76, u 77, u 78, u 79, u 80, u 81, u 82, u 83, u 84, u 85, u 86, u 87, u 88, u 89, u 90, u 91, u 92, u 93, u 94, u 95, u 96, u 97, u 98, u 99, u 100, u 101, u 102, u 103, u 104, u 105, u 106, u 107, u 108, u 109, u 110, u 111, u 112, u 113, u 114], defers := [] } [.code (.seq (.seq (.region 3 reg48_3 true) (.cond (.tmp 31 ) (.skip) (.exit 0))) (.block 1 (.seq (.region 4 reg48_4 true) (.seq (.region 5 reg48_5 false) (.seq (.region 6 reg48_6 false) (.cond (.tmp 63 ) (.seq (.region 7 reg48_7 false) (.seq (.region 8 reg48_8 false) (.ret))) (.skip))))))), .inLoop (.seq (.seq (.region 3 reg48_3 true) (.cond (.tmp 31 ) (.skip) (.exit 0))) (.block 1 (.seq (.region 4 reg48_4 true) (.seq (.region 5 reg48_5 false) (.seq (.region 6 reg48_6 false) (.cond (.tmp 63 ) (.seq (.region 7 reg48_7 false) (.seq (.region 8 reg48_8 false) (.ret))) (.skip))))))), .inBlock 0, .code (.seq (.block 2 (.loop (.seq (.seq (.region 9 reg48_9 false) (.cond (.tmp 84 ) (.skip) (.exit 2))) (.block 3 (.region 10 reg48_10 false))))) (.seq (.region 11 reg48_11 false) (.seq (.region 12 reg48_12 false) (.seq (.region 13 reg48_13 false) (.seq (.region 14 reg48_14 false) (.ret))))))]
noncomputable def hd48b (tv ev : Value) (u : Nat → Value) : Frame :=
  (base 48).at { tmps := #[tv, ev, u 2, u 3, u 4, u 5, u 6, u 7, u 8, u 9, u 10, u 11, u 12, u 13, u 14, u 15, u 16, u 17, u 18, u 19, u 20, u 21, u 22, u 23, u 24, u 25, u 26, u 27, u 28, u 29, u 30, u 31, u 32, u 33, u 34, u 35, u 36, u 37, u 38, u 39, u 40, u 41, u 42, u 43, u 44, u 45, u 46, u 47, u 48, u 49, u 50, u 51, u 52, u 53, u 54, u 55, u 56, u 57, u 58, u 59, u 60, u 61, u 62, u 63, u 64, u 65, u 66, u 67, u 68, u 69, u 70, u 71, u 72, u 73, u 74, u 75, u 76, u 77, u 78, u 79, u 80, u 81, u 82, u 83, u 84, u 85, u 86, u 87, u 88, u 89, u 90, u 91, u 92, u 93, u 94, u 95, u 96, u 97, u 98, u 99, u 100, u 101, u 102, u 103, u 104, u 105, u 106, u 107, u 108, u 109, u 110, u 111, u 112, u 113, u 114], defers := [] } [.code (.seq (.seq (.region 9 reg48_9 false) (.cond (.tmp 84 ) (.skip) (.exit 2))) (.block 3 (.region 10 reg48_10 false))), .inLoop (.seq (.seq (.region 9 reg48_9 false) (.cond (.tmp 84 ) (.skip) (.exit 2))) (.block 3 (.region 10 reg48_10 false))), .inBlock 2, .code (.seq (.region 11 reg48_11 false) (.seq (.region 12 reg48_12 false) (.seq (.region 13 reg48_13 false) (.seq (.region 14 reg48_14 false) (.ret)))))]
set_option maxHeartbeats 8000000 in
set_option maxRecDepth 100000 in
theorem pick48_all (B : Nat) (ea : Option Addr) (n ec : Nat) (f : Nat → Bool) (c : Frame) (cs : List Frame) (w : World) (hn : n ≤ 17592186044416) (ha : BoolsAt ea n f w) (hall : (List.range n).all f = true) :
    Walk Try.prog main (DR V) (fun g w' => g = G (c.finish (.tuple #[.int .i64 0, .bool false])) cs ∧ ∃ d, w' = w.at d) (G (Frame.enter Try.prog 48 #[.pointer (some ⟨B, 0, none⟩), .slice ea n ec] .normal) (c :: cs)) w := by
  rw [enter_at _ Try.func48 code48_is]
  simp only [Try.ntmps48, List.size_toArray, List.length_cons, List.length_nil, Nat.reduceAdd, Nat.reduceSub, Array.replicate_succ, Array.replicate_zero, List.push_toArray, List.append_toArray, List.nil_append, List.cons_append]
  repeat (first | refine Walk.c rfl ?_ | refine Walk.cRet ?_ | refine Walk.cEnd ?_ | (refine Walk.cReg ?_; simp only [size48_0, size48_1, size48_2, size48_3, size48_4, size48_5, size48_6, size48_7, size48_8, size48_9, size48_10, size48_11, size48_12, size48_13, size48_14, List.range, List.range.loop]) | (refine Walk.oq ?_; try walk_nrm) | (refine Walk.un ?_; walk_nrm))
  (refine Walk.drawnC (by kernel_rfl) size48_1 (by kernel_rfl) (by kernel_rfl) (by decide) ?_; simp only [List.range, List.range.loop]; repeat (first | (refine Cm.opqA (ho_of (by conv => lhs; whnf) (by kernel_rfl)) (by rfl) (fun dd e he => ?_) ?_; (· (simp [go_sem, *] at he; try (subst he; exact evR_read _ _))); apply Exists.intro; apply And.intro; (· (intro dd K hK; go_simp; exact hK))) | (refine Cm.unw (ho_of (by conv => lhs; whnf) (by kernel_rfl)) (by rfl) ?_; walk_nrm)))
  refine Cm.callV (x := .bool ((List.range n).all f)) ?_ (ho_of (by conv => lhs; whnf) (by kernel_rfl)) (by rfl) rfl Try.func50 (by kernel_rfl) (by rfl) ?_
  · intro w' e
    subst e
    walk_nrm
    exact over50_w ea n ec f hn w' ha
  rw [hall]
  walk_nrm
  repeat (first | (refine Cm.opqA (ho_of (by conv => lhs; whnf) (by kernel_rfl)) (by rfl) (fun dd e he => ?_) ?_; (· (simp [go_sem, *] at he; try (subst he; exact evR_read _ _))); apply Exists.intro; apply And.intro; (· (intro dd K hK; go_simp; exact hK))) | (refine Cm.unw (ho_of (by conv => lhs; whnf) (by kernel_rfl)) (by rfl) ?_; walk_nrm))
  refine Cm.done ?_
  repeat (first | refine Walk.c rfl ?_ | refine Walk.cRet ?_ | refine Walk.cEnd ?_ | (refine Walk.cReg ?_; simp only [size48_0, size48_1, size48_2, size48_3, size48_4, size48_5, size48_6, size48_7, size48_8, size48_9, size48_10, size48_11, size48_12, size48_13, size48_14, List.range, List.range.loop]) | (refine Walk.oq ?_; try walk_nrm) | (refine Walk.un ?_; walk_nrm))
  exact (Walk.ret2 (Post := fun v w' => v = .tuple #[.int .i64 0, .bool false] ∧ ∃ d, w' = w.at d) rfl rfl Try.func48 rfl fun d => ⟨rfl, d, rfl⟩).mono fun g w' ⟨v, ⟨hv, hd⟩, hg⟩ => ⟨by rw [hg, hv], hd⟩
set_option maxHeartbeats 8000000 in
set_option maxRecDepth 100000 in
theorem pick48_most (B : Nat) (lv : Value) (p rd : Nat) (oa : Option Addr) (ol oc : Nat) (ea : Option Addr) (n ec : Nat) (f : Nat → Bool) (c : Frame) (cs : List Frame) (w : World) (hB : w.heap[B]? = some (.cells (tuArr lv (ol : Nat) p rd (.slice oa ol oc)) 112)) (hn : n ≤ 17592186044416) (ha : BoolsAt ea n f w) (hall : (List.range n).all f = false) :
    Walk Try.prog main (DR V) (fun g w' => g = G (c.finish (.tuple #[.int .i64 0, .bool false])) cs ∧ ∃ d, w' = w.at d) (G (Frame.enter Try.prog 48 #[.pointer (some ⟨B, 0, none⟩), .slice ea n ec] .normal) (c :: cs)) w := by
  have h4 : w.cell? ⟨B, 4, none⟩ = some (.slice oa ol oc) := (cell_of hB 4).trans rfl
  have h1 : w.cell? ⟨B, 1, none⟩ = some (.int .i64 (ol : Nat)) := (cell_of hB 1).trans rfl
  rw [enter_at _ Try.func48 code48_is]
  simp only [Try.ntmps48, List.size_toArray, List.length_cons, List.length_nil, Nat.reduceAdd, Nat.reduceSub, Array.replicate_succ, Array.replicate_zero, List.push_toArray, List.append_toArray, List.nil_append, List.cons_append]
  repeat (first | refine Walk.c rfl ?_ | refine Walk.cRet ?_ | refine Walk.cEnd ?_ | (refine Walk.cReg ?_; simp only [size48_0, size48_1, size48_2, size48_3, size48_4, size48_5, size48_6, size48_7, size48_8, size48_9, size48_10, size48_11, size48_12, size48_13, size48_14, List.range, List.range.loop]) | (refine Walk.oq ?_; try walk_nrm) | (refine Walk.un ?_; walk_nrm))
  (refine Walk.drawnC (by kernel_rfl) size48_1 (by kernel_rfl) (by kernel_rfl) (by decide) ?_; simp only [List.range, List.range.loop]; repeat (first | (refine Cm.opqA (ho_of (by conv => lhs; whnf) (by kernel_rfl)) (by rfl) (fun dd e he => ?_) ?_; (· (simp [go_sem, *] at he; try (subst he; exact evR_read _ _))); apply Exists.intro; apply And.intro; (· (intro dd K hK; go_simp; exact hK))) | (refine Cm.unw (ho_of (by conv => lhs; whnf) (by kernel_rfl)) (by rfl) ?_; walk_nrm)))
  refine Cm.callV (x := .bool ((List.range n).all f)) ?_ (ho_of (by conv => lhs; whnf) (by kernel_rfl)) (by rfl) rfl Try.func50 (by kernel_rfl) (by rfl) ?_
  · intro w' e
    subst e
    walk_nrm
    exact over50_w ea n ec f hn w' ha
  rw [hall]
  walk_nrm
  repeat (first | (refine Cm.opqA (ho_of (by conv => lhs; whnf) (by kernel_rfl)) (by rfl) (fun dd e he => ?_) ?_; (· (simp [go_sem, *] at he; try (subst he; exact evR_read _ _))); apply Exists.intro; apply And.intro; (· (intro dd K hK; go_simp; exact hK))) | (refine Cm.unw (ho_of (by conv => lhs; whnf) (by kernel_rfl)) (by rfl) ?_; walk_nrm))
  refine Cm.done ?_
  repeat (first | refine Walk.c rfl ?_ | refine Walk.cRet ?_ | refine Walk.cEnd ?_ | (refine Walk.cReg ?_; simp only [size48_0, size48_1, size48_2, size48_3, size48_4, size48_5, size48_6, size48_7, size48_8, size48_9, size48_10, size48_11, size48_12, size48_13, size48_14, List.range, List.range.loop]) | (refine Walk.oq ?_; try walk_nrm) | (refine Walk.un ?_; walk_nrm))
  exact (Walk.ret2 (Post := fun v w' => v = .tuple #[.int .i64 0, .bool false] ∧ ∃ d, w' = w.at d) rfl rfl Try.func48 rfl fun d => ⟨rfl, d, rfl⟩).mono fun g w' ⟨v, ⟨hv, hd⟩, hg⟩ => ⟨by rw [hg, hv], hd⟩
set_option maxHeartbeats 8000000 in
set_option maxRecDepth 100000 in
theorem pick48_in (B : Nat) (lv : Value) (most : Int) (p rd : Nat) (oa : Option Addr) (ol oc : Nat) (ea : Option Addr) (n ec : Nat) (f : Nat → Bool) (cs : List Frame) (w : World) (hB : w.heap[B]? = some (.cells (tuArr lv most p rd (.slice oa ol oc)) 112)) (hn : n ≤ 17592186044416) (ha : BoolsAt ea n f w) (hall : (List.range n).all f = false) (hm : ¬ ((ol : Int) = most)) :
    Walk Try.prog main (DR V) (fun g w' => (∃ u, g = G (hd48 (.pointer (some ⟨B, 0, none⟩)) (.slice ea n ec) u) cs) ∧ ∃ d, w' = w.at d) (G (Frame.enter Try.prog 48 #[.pointer (some ⟨B, 0, none⟩), .slice ea n ec] .normal) cs) w := by
  have h4 : w.cell? ⟨B, 4, none⟩ = some (.slice oa ol oc) := (cell_of hB 4).trans rfl
  have h1 : w.cell? ⟨B, 1, none⟩ = some (.int .i64 most) := (cell_of hB 1).trans rfl
  have hm' : ((ol : Int) == most) = false := by simpa using hm
  rw [enter_at _ Try.func48 code48_is]
  simp only [Try.ntmps48, List.size_toArray, List.length_cons, List.length_nil, Nat.reduceAdd, Nat.reduceSub, Array.replicate_succ, Array.replicate_zero, List.push_toArray, List.append_toArray, List.nil_append, List.cons_append]
  repeat (first | refine Walk.c rfl ?_ | refine Walk.cRet ?_ | refine Walk.cEnd ?_ | (refine Walk.cReg ?_; simp only [size48_0, size48_1, size48_2, size48_3, size48_4, size48_5, size48_6, size48_7, size48_8, size48_9, size48_10, size48_11, size48_12, size48_13, size48_14, List.range, List.range.loop]) | (refine Walk.oq ?_; try walk_nrm) | (refine Walk.un ?_; walk_nrm))
  (refine Walk.drawnC (by kernel_rfl) size48_1 (by kernel_rfl) (by kernel_rfl) (by decide) ?_; simp only [List.range, List.range.loop]; repeat (first | (refine Cm.opqA (ho_of (by conv => lhs; whnf) (by kernel_rfl)) (by rfl) (fun dd e he => ?_) ?_; (· (simp [go_sem, *] at he; try (subst he; exact evR_read _ _))); apply Exists.intro; apply And.intro; (· (intro dd K hK; go_simp; exact hK))) | (refine Cm.unw (ho_of (by conv => lhs; whnf) (by kernel_rfl)) (by rfl) ?_; walk_nrm)))
  refine Cm.callV (x := .bool ((List.range n).all f)) ?_ (ho_of (by conv => lhs; whnf) (by kernel_rfl)) (by rfl) rfl Try.func50 (by kernel_rfl) (by rfl) ?_
  · intro w' e
    subst e
    walk_nrm
    exact over50_w ea n ec f hn w' ha
  rw [hall]
  walk_nrm
  repeat (first | (refine Cm.opqA (ho_of (by conv => lhs; whnf) (by kernel_rfl)) (by rfl) (fun dd e he => ?_) ?_; (· (simp [go_sem, *] at he; try (subst he; exact evR_read _ _))); apply Exists.intro; apply And.intro; (· (intro dd K hK; go_simp; exact hK))) | (refine Cm.unw (ho_of (by conv => lhs; whnf) (by kernel_rfl)) (by rfl) ?_; walk_nrm))
  refine Cm.done ?_
  try simp only [hm']
  repeat (first | refine Walk.c rfl ?_ | refine Walk.cRet ?_ | refine Walk.cEnd ?_ | (refine Walk.cReg ?_; simp only [size48_0, size48_1, size48_2, size48_3, size48_4, size48_5, size48_6, size48_7, size48_8, size48_9, size48_10, size48_11, size48_12, size48_13, size48_14, List.range, List.range.loop]) | (refine Walk.oq ?_; try walk_nrm) | (refine Walk.un ?_; walk_nrm))
  refine Walk.ctl rfl (fun w => stepG_loop) ?_
  refine .stop fun d => ⟨at_slots ?_, d, rfl⟩
  simp only [hd48]
  rfl
end Go.Proofs.Ytgiiicdpbdfemaa
end

section
namespace Go.Relay
open Go.Conc Go.RowKit
open Go.ConcN (upd upd_ne upd_same)
section
variable {P : Program} {main : Bool} {V : Nat → Option Wait} {ops : Array Oper} {Z : World → Prop} {w : World} {K : Act → Prop} {i : Nat} {rest : List Nat} {a : Act} {o : Oper}
theorem Cm.opqZ (ho : ops[i]? = some o) (hw : Region.wanted o (yielded ops a.tmps) = true) (he : ∀ w, Z w → ∀ d, ∀ e ∈ (execOp a.eval o).events P (w.at d) #[], EvR V e)
    (h : ∃ a', (∀ w, Z w → ∀ d, ∀ K' : Act → World → Prop, K' a' (w.at d) → uponK o a K' ((execOp a.eval o).run P (w.at d))) ∧ Cm P main V ops Z K rest a') : Cm P main V ops Z K (i :: rest) a := by
  obtain ⟨a', h1, h2⟩ := h
  exact Cm.opq ho hw he h1 h2
theorem pre_skip {q : Nat → Bool} {i : Nat} (h : q i = false) (vals : Nat → Value) (a : Act) : puts ops vals (fun j => decide (j < i + 1) && q j) a = puts ops vals (fun j => decide (j < i) && q j) a :=
  puts_congr (fun j _ => ⟨by
    by_cases e : j = i
    · subst e; simp [h]
    · have : (decide (j < i + 1) : Bool) = decide (j < i) := by by_cases hl : j < i <;> simp [hl] <;> omega
      rw [this], fun _ => rfl⟩) a
theorem pre_take {m : Nat} {q : Nat → Bool} (hc : calmB ops m = true) (hi : i < m) (h : q i = true) (vals : Nat → Value) (ho : ops[i]? = some o) (a : Act) : puts ops vals (fun j => decide (j < i + 1) && q j) a = (puts ops vals (fun j => decide (j < i) && q j) a).put o.dst (vals i) := by
  rw [← puts_upd hc hi vals (f := fun j => decide (j < i) && q j) (by simp) ho a]
  refine puts_congr (fun j _ => ⟨?_, fun _ => rfl⟩) a
  by_cases e : j = i
  · subst e; simp [h, upd_same]
  · rw [upd_ne _ _ e]
    have : (decide (j < i + 1) : Bool) = decide (j < i) := by by_cases hl : j < i <;> simp [hl] <;> omega
    rw [this]
theorem cm_valsQ {m : Nat} {q : Nat → Bool} (hz : Z w) (hc : calmB ops m = true) : ∀ (r i : Nat) (vals : Nat → Value) (a0 : Act), i + r = m → Cm P main V ops Z K ((List.range' i r).filter q) (puts ops vals (fun j => decide (j < i) && q j) a0) →
    ∃ vals', (∀ j, j < i → vals' j = vals j) ∧ (∀ j o, i ≤ j → j < m → q j = true → ops[j]? = some o → CondU P main V ops Z o (puts ops vals' (fun x => decide (x < j) && q x) a0) (vals' j)) ∧ K (puts ops vals' (fun j => decide (j < m) && q j) a0)
  | 0, i, vals, a0, hi, h => by
    have hi : i = m := hi
    refine ⟨vals, fun _ _ => rfl, fun j o hj hjm _ ho => ?_, ?_⟩
    · omega
    · rw [← hi]; exact h
  | r + 1, i, vals, a0, hi, h => by
    rw [List.range'_succ] at h
    cases hq : q i with
    | false =>
      rw [List.filter_cons_of_neg (by simp [hq]), ← pre_skip hq] at h
      obtain ⟨vals', k1, k2, k3⟩ := cm_valsQ hz hc r (i + 1) vals a0 (by omega) h
      refine ⟨vals', fun j hj => k1 j (by omega), fun j o hj hjm hqj ho => ?_, k3⟩
      by_cases e : j = i
      · rw [e, hq] at hqj; cases hqj
      · exact k2 j o (by omega) hjm hqj ho
    | true =>
      rw [List.filter_cons_of_pos hq] at h
      obtain ⟨o, a', ho, hn, hcond⟩ := h
      generalize hX : puts ops vals (fun j => decide (j < i) && q j) a0 = X at *
      obtain ⟨v, hv, hcond⟩ : ∃ v, a' = X.put o.dst v ∧ CondU P main V ops Z o X v := by
        rcases hcond with ⟨h1, h2⟩ | ⟨h1, h2, h3⟩ | ⟨h1, f, fn, args, ats, x, e1, e2, e3, e4, e5, e6⟩
        · exact ⟨undef, h2, .inl ⟨h1, rfl⟩⟩
        · have h0 := h3 w hz 0
          obtain ⟨v, hv⟩ : ∃ v, a' = X.put o.dst v := by
            revert h0
            generalize (execOp _ o).run P (w.at 0) = rr
            intro h0
            unfold uponK at h0
            split at h0
            · exact ⟨_, h0.1.symm⟩
            · exact ⟨_, h0.1.symm⟩
            · exact h0.elim
          exact ⟨v, hv, .inr (.inl ⟨h1, h2, hv ▸ h3⟩)⟩
        · exact ⟨x, e6, .inr (.inr ⟨h1, f, fn, args, ats, e1, e2, e3, e4, e5⟩)⟩
      have hpre : puts ops (upd vals i v) (fun j => decide (j < i) && q j) a0 = X := by
        rw [← hX]
        exact puts_congr (fun j _ => ⟨rfl, fun hd => upd_ne _ _ (by have := of_decide_eq_true (Bool.and_eq_true _ _ ▸ hd : _ ∧ _).1; omega)⟩) a0
      have hs := pre_take hc (by omega) hq (upd vals i v) ho a0
      rw [hpre, upd_same, ← hv] at hs
      rw [← hs] at hn
      obtain ⟨vals', k1, k2, k3⟩ := cm_valsQ hz hc r (i + 1) (upd vals i v) a0 (by omega) hn
      refine ⟨vals', fun j hj => (k1 j (by omega)).trans (upd_ne _ _ (by omega)), fun j o' hj hjm hqj ho' => ?_, k3⟩
      by_cases e : j = i
      · subst e
        rw [ho] at ho'
        cases ho'
        have e1 : puts ops vals' (fun x => decide (x < j) && q x) a0 = X := by
          rw [← hpre]
          exact puts_congr (fun x _ => ⟨rfl, fun hd => k1 x (by have := of_decide_eq_true (Bool.and_eq_true _ _ ▸ hd : _ ∧ _).1; omega)⟩) a0
        have e2 : vals' j = v := (k1 j (by omega)).trans (upd_same _ _ _)
        rw [e1, e2]
        exact hcond
      · exact k2 j o' (by omega) hjm hqj ho'
end
section
variable {P : Program} {main : Bool} {V : Nat → Option Wait} {Stop : Goroutine → World → Prop} {b : Frame} {k : List Item} {cs : List Frame} {ops : Array Oper} {w : World} {a : Act}
theorem Walk.calmOpG {Z : World → Prop} {m i : Nat} (hz : Z w) {o : Oper} {vals : Nat → Value} {f g : Nat → Bool} {rest : List Nat} (hc : calmB ops m = true) (hk : b.kind ≠ .early) (hi : i < m) (ho : ops[i]? = some o) (hd : ∀ e ∈ o.after, Region.binds .any e = true → f e.on = true)
    (hg : ∀ (j : Nat) (p : Oper) (t : Nat), ops[j]? = some p → p.dst = some t → t ∈ o.looksAt ops → j < i → g j = true)
    (hcond : CondU P main V ops Z o (puts ops vals g a) (vals i)) (hr' : Walk P main (DR V) Stop (G (b.at ((puts ops vals f a).put o.dst (vals i)) (.inRegion ops rest :: k)) cs) w) :
    Walk P main (DR V) Stop (G (b.at (puts ops vals f a) (.inRegion ops (i :: rest) :: k)) cs) w := by
  obtain ⟨hsel, ⟨t0, ht0, hself⟩, hdist⟩ := calm_at hc hi ho
  have hlook : ∀ t ∈ o.looksAt ops, (puts ops vals f a).tmps[t]? = (puts ops vals g a).tmps[t]? := fun t ht => slot_congr _ a a rfl fun j hj hjd => by
    have hjl := List.mem_range.1 hj
    have hoj := Array.getElem?_eq_getElem hjl
    have hne : j ≠ i := fun e => by
      subst e
      rw [dst_of ho, ht0] at hjd
      cases hjd
      exact hself ht
    rw [hoj] at hjd
    obtain ⟨h1, h2⟩ := (hdist j _ hoj hne).2 t hjd ht
    exact ⟨(waits_at h2 ho hd).trans (hg j _ t hoj hjd ht h1).symm, rfl⟩
  obtain ⟨s1, s2, s3⟩ := same_look hlook hsel
  have hsz : (puts ops vals f a).tmps.size = (puts ops vals g a).tmps.size := by
    unfold puts
    rw [putsL_size, putsL_size]
  have hput : ∀ v, (puts ops vals g a).put o.dst v = (puts ops vals g a).put o.dst (vals i) → (puts ops vals f a).put o.dst v = (puts ops vals f a).put o.dst (vals i) := fun v e => by
    refine act_ext (fun t => ?_) (by rw [put_defers, put_defers])
    rw [put_slot, put_slot]
    split
    · next e' =>
      have h1 : ((puts ops vals g a).put o.dst v).tmps[t]? = ((puts ops vals g a).put o.dst (vals i)).tmps[t]? := by rw [e]
      rw [put_slot, put_slot, if_pos e', if_pos e'] at h1
      by_cases hl : t < (puts ops vals f a).tmps.size
      · rw [Array.getElem?_eq_getElem (hsz ▸ hl)] at h1
        simp only [Option.map_some] at h1
        rw [Array.getElem?_eq_getElem hl]
        exact h1
      · rw [Array.getElem?_eq_none (by omega)]; rfl
    · rfl
  rcases hcond with ⟨c1, c2⟩ | ⟨c1, c2, c3⟩ | ⟨c1, f', fn, args, ats, e1, e2, e3, e4, e5⟩
  · rw [← s2] at c1
    rw [c2] at hr'
    exact Walk.ctl rfl (fun w => stepG_unwanted ho c1) hr'
  · rw [← s2] at c1
    rw [← s1] at c2 c3
    refine Walk.opq ho c1 hk (c2 w hz) fun d' K hK => ?_
    have h3 := c3 w hz d'
    revert h3
    generalize (execOp (puts ops vals f a).eval o).run P (w.at d') = rr
    intro h3
    unfold uponK at h3 ⊢
    split at h3
    · obtain ⟨x1, rfl⟩ := h3
      refine hK _ ?_
      rw [hput _ x1]; exact hr'
    · obtain ⟨x1, rfl⟩ := h3
      refine hK _ ?_
      rw [hput _ x1]; exact hr'
    · exact h3.elim
  · rw [← s2] at c1
    have hargs : args.map (puts ops vals f a).eval = args.map (puts ops vals g a).eval := Array.map_congr_left fun x hx => s3 x (by rw [e1]; simp [Op.operands, Call.operands, hx])
    rw [← hargs] at e5
    exact Walk.callV (e5 w hz) ho c1 hk e1 e2 e3 e4 hr'
def apartB (ops : Array Oper) (iA iB m : Nat) : Bool := decide (iA < iB) && decide (iB < m) && waitsB ops iB iA && (List.range m).all fun i => decide (i = iA) || decide (i = iB) || (ops[i]?).any fun o =>
  !(o.looksAt ops).any (fun t => (ops[iA]?).bind (·.dst) == some t) && !(o.looksAt ops).any (fun t => (ops[iB]?).bind (·.dst) == some t)
def quietQ (iA iB : Nat) (j : Nat) : Bool := !decide (j = iA) && !decide (j = iB)
theorem look_full {m i : Nat} {o : Oper} {vals vals' : Nat → Value} {f g : Nat → Bool} (hc : calmB ops m = true) (hi : i < m) (ho : ops[i]? = some o) (hd : ∀ e ∈ o.after, Region.binds .any e = true → f e.on = true) (hg : ∀ j, j < i → g j = true ∧ vals j = vals' j) (a : Act) :
    ∀ y ∈ o.op.operands, (puts ops vals f a).eval y = (puts ops vals' g a).eval y := by
  obtain ⟨hsel, ⟨t0, ht0, hself⟩, hdist⟩ := calm_at hc hi ho
  have hlook : ∀ t ∈ o.looksAt ops, (puts ops vals f a).tmps[t]? = (puts ops vals' g a).tmps[t]? := fun t ht => slot_congr _ a a rfl fun j hj hjd => by
    have hjl := List.mem_range.1 hj
    have hoj := Array.getElem?_eq_getElem hjl
    have hne : j ≠ i := fun e => by
      subst e
      rw [dst_of ho, ht0] at hjd
      cases hjd
      exact hself ht
    rw [hoj] at hjd
    obtain ⟨h1, h2⟩ := (hdist j _ hoj hne).2 t hjd ht
    obtain ⟨g1, g2⟩ := hg j h1
    exact ⟨(waits_at h2 ho hd).trans g1.symm, g2⟩
  exact (same_look hlook hsel).2.2
theorem Walk.drawnT {id m iA iB : Nat} {Z : World → Prop} {w1 : World} {oA oB : Oper} {vA : Value} (PB : Value → World → Prop) (hm : P.follows .mixedOrders = true) (hsz : ops.size = m + 1) (hlow : lowB ops = true) (hc : calmB ops m = true) (hl : lastB ops m = true) (hap : apartB ops iA iB m = true) (hk : b.kind ≠ .early)
    (hoA : ops[iA]? = some oA) (hoB : ops[iB]? = some oB) (hz : Z w) (hz1 : Z w1) (hz2 : ∀ v w', PB v w' → Z w')
    (h : Cm P main V ops Z (fun aF => (∀ x, (∀ y ∈ oA.op.operands, x.eval y = aF.eval y) → OpW P main V Stop b k cs ops iA (fun x' w' => x' = x.put oA.dst vA ∧ ∃ d, w' = w1.at d) x w) ∧
      (∀ x, (∀ y ∈ oB.op.operands, x.eval y = (aF.put oA.dst vA).eval y) → OpW P main V Stop b k cs ops iB (fun x' w' => ∃ v w2, PB v w2 ∧ x' = x.put oB.dst v ∧ ∃ d, w' = w2.at d) x w1) ∧
      ∀ v w2, PB v w2 → OpW P main V Stop b k cs ops m (fun a' w' => Walk P main (DR V) Stop (G (b.at a' (.inRegion ops [] :: k)) cs) w') ((aF.put oA.dst vA).put oB.dst v) w2) ((List.range m).filter (quietQ iA iB)) a) :
    Walk P main (DR V) Stop (G (b.at a (.code (.region id ops true) :: k)) cs) w := by
  unfold apartB at hap
  simp only [Bool.and_eq_true, decide_eq_true_eq] at hap
  obtain ⟨⟨⟨hAB, hBm⟩, hBA⟩, hq⟩ := hap
  rw [List.range_eq_range'] at h
  have hzero : puts ops (fun _ => undef) (fun j => decide (j < 0) && quietQ iA iB j) a = a := putsL_none _ a fun j _ => by simp
  rw [← hzero] at h
  obtain ⟨vals, _, hcond, hA, hB, hC⟩ := cm_valsQ (q := quietQ iA iB) hz hc m 0 (fun _ => undef) a (by omega) h
  clear h hzero
  generalize hvA : upd vals iA vA = va
  have hva : ∀ j, j ≠ iA → va j = vals j := fun j hj => by rw [← hvA]; exact upd_ne _ _ hj
  have hvaA : va iA = vA := by rw [← hvA]; exact upd_same _ _ _
  have qA : ∀ j, quietQ iA iB j = true ↔ j ≠ iA ∧ j ≠ iB := fun j => by simp [quietQ]
  have quiet : ∀ (vs : Nat → Value) (f : Nat → Bool) (i : Nat) (o : Oper) (rest : List Nat) (ww : World), (∀ j, j ≠ iA → j ≠ iB → vs j = vals j) → Z ww → i < m → i ≠ iA → i ≠ iB → f i = false → ops[i]? = some o → (∀ e ∈ o.after, Region.binds .any e = true → f e.on = true) →
      Walk P main (DR V) Stop (G (b.at (puts ops vs (upd f i true) a) (.inRegion ops rest :: k)) cs) ww → Walk P main (DR V) Stop (G (b.at (puts ops vs f a) (.inRegion ops (i :: rest) :: k)) cs) ww := by
    intro vs f i o rest ww hvs hzw him h1 h2 hf ho hd hr
    rw [puts_upd hc him vs hf ho a] at hr
    have hcd := hcond i o (Nat.zero_le _) him ((qA i).2 ⟨h1, h2⟩) ho
    have e : puts ops vals (fun x => decide (x < i) && quietQ iA iB x) a = puts ops vs (fun x => decide (x < i) && quietQ iA iB x) a := puts_congr (fun j _ => ⟨rfl, fun hd => by
      have := (qA j).1 (Bool.and_eq_true _ _ ▸ hd : _ ∧ _).2
      exact (hvs j this.1 this.2).symm⟩) a
    rw [e, ← hvs i h1 h2] at hcd
    refine Walk.calmOpG hzw hc hk him ho hd (fun j p t hj ht hm hji => ?_) hcd hr
    have hh := List.all_eq_true.1 hq i (List.mem_range.2 him)
    rw [ho] at hh
    simp only [decide_eq_false h1, decide_eq_false h2, Bool.false_or, Option.any_some, Bool.and_eq_true, Bool.not_eq_true'] at hh
    have hjA : j ≠ iA := fun e' => by
      subst e'
      rw [hj] at hh
      have : (o.looksAt ops).any (fun t => (some p).bind (·.dst) == some t) = true := List.any_eq_true.2 ⟨t, hm, by simp [ht]⟩
      rw [this] at hh
      exact absurd hh.1 (by simp)
    have hjB : j ≠ iB := fun e' => by
      subst e'
      rw [hj] at hh
      have : (o.looksAt ops).any (fun t => (some p).bind (·.dst) == some t) = true := List.any_eq_true.2 ⟨t, hm, by simp [ht]⟩
      rw [this] at hh
      exact absurd hh.2 (by simp)
    simp [hji, (qA j).2 ⟨hjA, hjB⟩]
  have eA : puts ops va (upd (fun j => decide (j < m) && quietQ iA iB j) iA true) a = (puts ops vals (fun j => decide (j < m) && quietQ iA iB j) a).put oA.dst vA := by
    rw [puts_upd hc (by omega) va (by simp [quietQ]) hoA a, hvaA]
    congr 1
    exact puts_congr (fun j _ => ⟨rfl, fun hd => hva j ((qA j).1 (Bool.and_eq_true _ _ ▸ hd : _ ∧ _).2).1⟩) a
  refine Walk.drawnJ (Inv := fun f x w' => (f m = true ∧ (∀ j, j < m → f j = true) ∧ Walk P main (DR V) Stop (G (b.at x (.inRegion ops [] :: k)) cs) w') ∨ (f m = false ∧ f iB = false ∧ x = puts ops va f a ∧ ∃ d, w' = (if f iA then w1 else w).at d) ∨
    (f m = false ∧ f iB = true ∧ f iA = true ∧ ∃ v w2, PB v w2 ∧ x = puts ops (upd va iB v) f a ∧ ∃ d, w' = w2.at d)) hm hlow (fun d => .inr (.inl ⟨rfl, rfl, (puts_zero va a).symm, d, rfl⟩)) ?_ ?_
  · rintro f i o x w' hI hC' hf ho hd rest hr
    have hi : i < m + 1 := by have := (Array.getElem?_eq_some_iff.1 ho).1; omega
    rcases hI with ⟨h1, h2, _⟩ | ⟨h1, h2, rfl, d, rfl⟩ | ⟨h1, h2, h3, v, w2, hPB, rfl, d, rfl⟩
    · exfalso
      by_cases e : i = m
      · rw [e, h1] at hf; cases hf
      · rw [h2 i (by omega)] at hf; cases hf
    · refine Walk.back ?_ d
      by_cases e : i = m
      · subst e
        have := last_all hl hC' ho hd (i - iB) iB (by omega) (by omega)
        rw [h2] at this; cases this
      by_cases eiA : i = iA
      · subst eiA
        rw [hoA] at ho
        cases ho
        rw [hf, if_neg (by simp)]
        refine hA _ (look_full hc (by omega) hoA hd (fun j hj => ⟨by simp [quietQ]; omega, hva j (by omega)⟩) a) rest ?_
        rintro x' w' ⟨rfl, d', rfl⟩
        refine hr _ _ (.inr (.inl ⟨by rw [upd_ne _ _ (by omega)]; exact h1, by rw [upd_ne _ _ (by omega)]; exact h2, ?_, d', by rw [upd_same]; rfl⟩))
        rw [puts_upd hc (by omega) va hf hoA a, hvaA]
      by_cases eiB : i = iB
      · subst eiB
        rw [hoB] at ho
        cases ho
        have hfA : f iA = true := waits_at hBA hoB hd
        rw [hfA, if_pos rfl]
        refine hB _ ?_ rest ?_
        · rw [← eA]
          exact look_full hc hBm hoB hd (fun j hj => ⟨by
            by_cases ej : j = iA
            · rw [ej, upd_same]
            · rw [upd_ne _ _ ej]
              simp [quietQ, ej]; omega, rfl⟩) a
        · rintro x' w' ⟨v, w2, hPB, rfl, d', rfl⟩
          refine hr _ _ (.inr (.inr ⟨by rw [upd_ne _ _ (by omega)]; exact h1, upd_same _ _ _, by rw [upd_ne _ _ (by omega)]; exact hfA, v, w2, hPB, ?_, d', rfl⟩))
          rw [puts_upd hc hBm (upd va i v) hf hoB a, upd_same]
          congr 1
          exact puts_congr (fun j _ => ⟨rfl, fun hj => (upd_ne _ _ (fun e' => by rw [e', hf] at hj; cases hj)).symm⟩) a
      · refine quiet va f i o rest _ (fun j h _ => hva j h) ?_ (by omega) eiA eiB hf ho hd ?_
        · split
          · exact hz1
          · exact hz
        · refine (hr _ (((if f iA then w1 else w)).at ((if f iA then w1 else w)).drawn) (.inr (.inl ⟨by rw [upd_ne _ _ (by omega)]; exact h1, by rw [upd_ne _ _ (Ne.symm eiB)]; exact h2, rfl, _, by rw [upd_ne _ _ (Ne.symm eiA)]⟩)))
    · refine Walk.back ?_ d
      by_cases e : i = m
      · subst e
        have hall := last_all hl hC' ho hd
        have ef : puts ops (upd va iB v) f a = ((puts ops vals (fun j => decide (j < i) && quietQ iA iB j) a).put oA.dst vA).put oB.dst v := by
          have e1 : puts ops va (upd (fun j => decide (j < i) && quietQ iA iB j) iA true) a = puts ops (upd va iB v) (upd (fun j => decide (j < i) && quietQ iA iB j) iA true) a := puts_congr (fun j _ => ⟨rfl, fun hj => (upd_ne _ _ (fun e' => by
            rw [e', upd_ne _ _ (by omega)] at hj
            simp [quietQ] at hj)).symm⟩) a
          have e2 := puts_upd hc hBm (upd va iB v) (f := upd (fun j => decide (j < i) && quietQ iA iB j) iA true) (by rw [upd_ne _ _ (by omega)]; simp [quietQ]) hoB a
          rw [upd_same, ← e1, eA] at e2
          rw [← e2]
          refine puts_congr (fun j hj => ⟨?_, fun _ => rfl⟩) a
          by_cases ej : j = iB
          · rw [ej, upd_same, h2]
          · rw [upd_ne _ _ ej]
            by_cases ej2 : j = iA
            · rw [ej2, upd_same, h3]
            · rw [upd_ne _ _ ej2]
              by_cases hji : j < i
              · rw [hall (i - j) j (by omega) (by omega)]
                simp [hji, quietQ, ej, ej2]
              · have : j = i := by omega
                rw [this, hf]; simp
        rw [ef]
        refine hC v w2 hPB rest fun a' w' hw' => hr a' w' (.inl ⟨upd_same _ _ _, fun j hj => ?_, hw'⟩)
        rw [upd_ne _ _ (by omega)]
        exact hall (i - j) j (by omega) (by omega)
      · have n1 : i ≠ iA := fun e' => by rw [e', h3] at hf; cases hf
        have n2 : i ≠ iB := fun e' => by rw [e', h2] at hf; cases hf
        refine quiet (upd va iB v) f i o rest _ (fun j h h' => (upd_ne _ _ h').trans (hva j h)) (hz2 v w2 hPB) (by omega) n1 n2 hf ho hd ?_
        exact hr _ (w2.at w2.drawn) (.inr (.inr ⟨by rw [upd_ne _ _ (by omega)]; exact h1, by rw [upd_ne _ _ (Ne.symm n2)]; exact h2, by rw [upd_ne _ _ (Ne.symm n1)]; exact h3, v, w2, hPB, rfl, _, rfl⟩))
  · rintro f x w' hI hall
    rcases hI with ⟨_, _, h3⟩ | ⟨h1, _⟩ | ⟨h1, _⟩
    · exact h3
    · rw [hall m (by omega)] at h1; cases h1
    · rw [hall m (by omega)] at h1; cases h1
end
end Go.Relay
end
