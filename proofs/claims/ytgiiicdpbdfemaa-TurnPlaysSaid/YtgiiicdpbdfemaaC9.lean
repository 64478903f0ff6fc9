/- Part 9. -/
import Derived.Test.YtgiiicdpbdfemaaC8
import Derived.Conc.LeavingOf
import Derived.Laws.OwnMore
set_option linter.unusedSimpArgs false
section
namespace Go.Proofs.Ytgiiicdpbdfemaa
open Go.Conc Go.RowKit Go.Relay
open Go.ConcN (upd upd_ne upd_same)
theorem row_cell {w : World} {base : Nat} {e : TypeId} {size : Nat} {v : Value} {n : Nat} {xs : List Value} (h : w.ownsRow base e size v n xs) {j : Nat} {x : Value} (hx : xs[j]? = some x) : ∃ g cap, v = .slice (some ⟨g, 0, none⟩) n cap ∧ n ≤ cap ∧ base ≤ g ∧ g < w.heap.size ∧ w.cell? ⟨g, j, none⟩ = some x := by
  obtain ⟨hl, h⟩ := h
  have hj := (List.getElem?_eq_some_iff.1 hx).1
  rcases h with ⟨_, rfl⟩ | ⟨g, cap, cur, rfl, h1, h2, h3, _, h5, h6⟩
  · omega
  · refine ⟨g, cap, rfl, h3, h1, (Array.getElem?_eq_some_iff.1 h2).1, (cell_of h2 j).trans ?_⟩
    rw [← h6, List.getElem?_take, if_pos (by omega)] at hx
    simpa using hx
theorem row_codes {w : World} {base : Nat} {p : Sl} {c : List Cd} (h : w.ownsRow base 99 5 (slc p) c.length (flatC c)) : CodesAt p.1 c w := by
  intro j d hd
  have hget := fun m (hm : m < 5) => flat_get c j m d hd hm
  obtain ⟨g, cap, e, _, _, _, _⟩ := row_cell h (hget 0 (by omega))
  have e1 : p.1 = some ⟨g, 0, none⟩ := by
    unfold slc at e
    injection e
  refine ⟨g, e1, fun m v hv => ?_⟩
  have hm : m < 5 := (List.getElem?_eq_some_iff.1 hv).1
  obtain ⟨g', cap', e', _, _, _, hc⟩ := row_cell h ((hget m hm).trans hv)
  rw [e] at e'
  injection e' with e' _ _
  injection e' with e'
  injection e' with e'
  subst e'
  exact hc
def PlayOut (progs : List (List Cd)) (ws : List Int) (most : Int) (sl : List Int) (cells : Array Value) (w' : World) : Prop :=
  ∃ (oa : Option Addr) (oc a s : Nat) (tas : Nat → Option Addr) (tcs : Nat → Nat),
    cells = #[.slice (some ⟨a, 0, none⟩) progs.length progs.length, .slice oa (playA progs ws most sl).2.length oc, .slice (some ⟨s, 0, none⟩) ws.length ws.length, .bool (stuckA progs (playA progs ws most sl).1)] ∧
    w'.ownsRow 0 3 1 (.slice oa (playA progs ws most sl).2.length oc) (playA progs ws most sl).2.length ((playA progs ws most sl).2.map fun i => .int .i64 (i : Nat)) ∧
    (∀ j, j < ws.length → w'.cell? ⟨s, j, none⟩ = some (.int .i64 ((playA progs ws most sl).1.words j))) ∧
    (∀ i, i < progs.length → w'.cell? ⟨a, i, none⟩ = some (.slice (tas i) ((playA progs ws most sl).1.th i).told.length (tcs i)) ∧ w'.ownsRow 0 38 3 (.slice (tas i) ((playA progs ws most sl).1.th i).told.length (tcs i)) ((playA progs ws most sl).1.th i).told.length (ansCells ((playA progs ws most sl).1.th i).told))
theorem row_old {w w' : World} {base : Nat} {e : TypeId} {size : Nat} {v : Value} {n : Nat} {xs : List Value} (h : w.ownsRow base e size v n xs) (O : Old w w') : w'.ownsRow base e size v n xs := row_same h fun g hg => O.same g (row_at h hg).2.1
theorem play_coded {w0 wc : World} {Ps : List (List Cd)} {fa : Option Addr} {fc : Nat} {ls : List Sl} (M : Coded w0 wc Ps fa fc Ps.length ls) (hn : 1 ≤ Ps.length) (hm : ∀ c ∈ Ps, c.length ≤ 3518437208883) (wa : Option Addr) (cap : Nat) (sa : Option Addr) (sc : Nat) (most : Int) (ws sl : List Int) (w : World) (O : Old wc w) (hws : ws.length ≤ 17592186044416) (hsl : sl.length ≤ 17592186044416)
    (hw : IntsAt wa ws w) (hsc : IntsAt sa sl w) (hsb : ∀ s, sa = some ⟨s, 0, none⟩ → s < w.heap.size) (c : Frame) (cs : List Frame) :
    Runs (fun g w' => ∃ cells, PlayOut (Ps.take 64) ws most sl cells w' ∧ Old w w' ∧ g = G (c.finish (.agg cells)) cs) (G (Frame.enter Try.prog 14 #[.slice wa ws.length cap, .slice fa Ps.length fc, .slice sa sl.length sc, .int .i64 most] .normal) (c :: cs)) w := by
  obtain ⟨p0, hp0⟩ : ∃ p0, ls[0]? = some p0 := ⟨_, List.getElem?_eq_getElem (by rw [M.len]; omega)⟩
  obtain ⟨fb, fc', e, hcap, _, hlt, _⟩ := row_cell M.row (x := slc p0) (j := 0) (by rw [List.getElem?_map, hp0]; rfl)
  injection e with e1 _ e3
  subst e1 e3
  have hll : (ls.take 64).length = (Ps.take 64).length := by rw [List.length_take, List.length_take, M.len]
  have hl64 : (ls.take 64).length ≤ 64 := by rw [List.length_take]; omega
  have htk : ∀ {α : Type} (l : List α) (i : Nat) (x : α), (l.take 64)[i]? = some x → l[i]? = some x := fun l i x h => by
    rw [List.getElem?_take] at h
    split at h
    · exact h
    · cases h
  have hmin : min Ps.length 64 = (ls.take 64).length := by rw [List.length_take, M.len, Nat.min_comm]
  refine (play_run wa cap fb fc Ps.length sa sc most ws (ls.take 64) (Ps.take 64) sl w hws hsl (by rw [List.length_take, M.len]; omega) hl64 hw hsc hsb (fun w' _ => ?_) (fun j p hj => ?_) hll.symm (fun i p c' hi hc => ?_) c cs).then ?_
  · have := first70_some (main := true) (V := fun _ => none) fb Ps.length fc w' hcap
    rw [hmin] at this
    exact this
  · obtain ⟨g, cap', e, _, _, _, hc⟩ := row_cell M.row (j := j) (x := slc p) (by rw [List.getElem?_map, htk ls j p hj]; rfl)
    injection e with e _ _
    injection e with e
    injection e with e
    subst e
    exact old_cell O hc
  · have hc2 := htk Ps i c' hc
    obtain ⟨h1, h2⟩ := M.rows i p c' (htk ls i p hi) hc2
    have h2' := row_old h2 O
    refine ⟨h1, row_codes h2', by have := hm c' (List.mem_of_getElem? hc2); omega, fun b hb => ?_⟩
    exact (row_at h2' (g := b) (by unfold slc; rw [hb]; rfl)).2.1
  · rintro g w' ⟨cells, H, rfl⟩
    exact .now ⟨cells, H.abs hll.symm, H.old, rfl⟩
end Go.Proofs.Ytgiiicdpbdfemaa
end

section
namespace Go.Proofs.Ytgiiicdpbdfemaa
open Go.Conc Go.RowKit Go.Relay
open Go.ConcN (upd upd_ne upd_same)
theorem apart0 (b : Nat) : Apart (fun _ => none) b := ⟨fun _ _ _ _ h => (by cases h), fun _ _ h => (by cases h)⟩
theorem Runs.go {Post : Goroutine → World → Prop} {g : Goroutine} {w : World} (h : Walk Try.prog true (DR (fun _ => none)) (fun g w => Runs Post g w) g w) : Runs Post g w := Runs.walk h fun _ _ h => h
theorem old_alloc (w : World) (o : Obj) : Old w (w.alloc o) := ⟨by simp, fun _ hb => heap_new_lt w o hb⟩
theorem Old.at {w w' : World} (h : Old w w') (d : Nat) : Old w (w'.at d) := ⟨h.size, h.same⟩
theorem Old.un {w w' : World} (d : Nat) (h : Old (w.at d) w') : Old w w' := ⟨h.size, h.same⟩
theorem Walk.slots {P : Program} {main : Bool} {D : World → World → Array Event → Prop} {Stop : Goroutine → World → Prop} {b : Frame} {A : Array Value} {todo : List Item} {cs : List Frame} {w : World} {F : (Nat → Value) → Goroutine} (h : ∀ u, Walk P main D Stop (F u) w) (e : G (b.at ⟨A, []⟩ todo) cs = F (fun k => A.getD k undef)) : Walk P main D Stop (G (b.at ⟨A, []⟩ todo) cs) w := e ▸ h _
noncomputable def tail13 : Code := match Try.f13.body with | some (.seq _ (.seq _ (.seq _ (.seq _ (.seq _ c))))) => c | _ => .skip
noncomputable def opsA13 : Array Oper := match tail13 with | .seq (.seq (.region _ ops _) _) _ => ops | _ => #[]
noncomputable def no13 : Code := match tail13 with | .seq (.seq _ (.cond _ c _)) _ => c | _ => .skip
noncomputable def opsB13 : Array Oper := match tail13 with | .seq _ (.seq (.region _ ops _) _) => ops | _ => #[]
theorem tail13_is : tail13 = .seq (.seq (.region 5 opsA13 false) (.cond (.tmp 41) no13 .skip)) (.seq (.region 7 opsB13 false) .ret) := by kernel_rfl
theorem sizeA13 : opsA13.size = 22 := by kernel_rfl
theorem sizeB13 : opsB13.size = 34 := by kernel_rfl
noncomputable def hd13 (pv : Value) (TA TB TC : Nat) (u : Nat → Value) : Frame :=
  (base 13).at { tmps := #[.bool false, pv, .pointer (some ⟨TA, 0, none⟩), .pointer (some ⟨TB, 0, none⟩), .pointer (some ⟨TC, 0, none⟩), u 5, u 6, u 7, u 8, u 9, u 10, u 11, u 12, u 13, u 14, u 15, u 16, u 17, u 18, u 19, u 20, u 21, u 22, u 23, u 24, u 25, u 26, u 27, u 28, u 29, u 30, u 31, u 32, u 33, u 34, u 35, u 36, u 37, u 38, u 39, u 40, u 41, u 42, u 43, u 44, u 45, u 46, u 47, u 48, u 49, u 50, u 51, u 52, u 53, u 54, u 55, u 56, u 57, u 58, u 59, u 60, u 61, u 62, u 63, u 64, u 65, u 66, u 67, u 68, u 69, u 70, u 71, u 72, u 73, u 74], defers := [] } [.code tail13]
set_option maxHeartbeats 8000000 in
set_option maxRecDepth 100000 in
theorem awake_tail (pv : Value) (TA TB TC a1 a2 s1 s2 oc1 oc3 : Nat) (oa1 oa3 : Option Addr) (u : Nat → Value) (c : Frame) (cs : List Frame) (w : World)
    (u10 : w.cell? ⟨TA, 0, none⟩ = some (.slice (some ⟨a1, 0, none⟩) 2 2)) (u11 : w.cell? ⟨TA, 1, none⟩ = some (.slice oa1 4 oc1)) (u12 : w.cell? ⟨TA, 2, none⟩ = some (.slice (some ⟨s1, 0, none⟩) 1 1)) (u13 : w.cell? ⟨TA, 3, none⟩ = some (.bool false))
    (u20 : w.cell? ⟨TB, 0, none⟩ = some (.slice (some ⟨a2, 0, none⟩) 2 2)) (u22 : w.cell? ⟨TB, 2, none⟩ = some (.slice (some ⟨s2, 0, none⟩) 1 1))
    (u31 : w.cell? ⟨TC, 1, none⟩ = some (.slice oa3 3 oc3)) (u33 : w.cell? ⟨TC, 3, none⟩ = some (.bool true)) (hs1 : w.cell? ⟨s1, 0, none⟩ = some (.int .i64 1)) (hs2 : w.cell? ⟨s2, 0, none⟩ = some (.int .i64 2)) :
    Walk Try.prog true (DR (fun _ => none)) (fun g w' => g = G (c.finish (.bool true)) cs ∧ ∃ d, w' = w.at d) (G (hd13 pv TA TB TC u) (c :: cs)) w := by
  unfold hd13
  rw [tail13_is]
  refine Walk.ctl rfl (fun w => stepG_seq) ?_
  refine Walk.ctl rfl (fun w => stepG_seq) ?_
  refine Walk.ctl rfl (fun w => stepG_region) ?_
  rw [sizeA13]
  simp only [List.range, List.range.loop]
  repeat (first | (refine Walk.oq ?_; try walk_nrm) | (refine Walk.un ?_; walk_nrm))
  refine Walk.ctl rfl (fun w => stepG_region_end) ?_
  refine Walk.ctl rfl (fun w => stepG_cond (t := false) rfl) ?_
  simp only [Bool.false_eq_true, if_false]
  refine Walk.ctl rfl (fun w => stepG_skip) ?_
  refine Walk.ctl rfl (fun w => stepG_seq) ?_
  refine Walk.ctl rfl (fun w => stepG_region) ?_
  rw [sizeB13]
  simp only [List.range, List.range.loop]
  repeat (first | (refine Walk.oq ?_; try walk_nrm) | (refine Walk.un ?_; walk_nrm))
  repeat (first | refine Walk.c rfl ?_ | refine Walk.cR ?_ | refine Walk.cRet ?_ | refine Walk.cEnd ?_ | (refine Walk.oq ?_; try walk_nrm) | (refine Walk.un ?_; walk_nrm))
  exact (Walk.ret1 (Post := fun v w' => v = .bool true ∧ ∃ d, w' = w.at d) rfl rfl Try.func13 rfl fun d => ⟨rfl, d, rfl⟩).mono fun g w' ⟨v, ⟨hv, hd⟩, hg⟩ => ⟨by rw [hg, hv], hd⟩
end Go.Proofs.Ytgiiicdpbdfemaa
end

section
namespace Go.Proofs.Ytgiiicdpbdfemaa
open Go.Conc Go.RowKit Go.Relay
variable {main : Bool} {V : Nat → Option Wait}
set_option maxHeartbeats 8000000 in
set_option maxRecDepth 100000 in
theorem first70_none (w : World) : CallV Try.prog main V 70 #[.slice none 0 0] w (.slice none 0 0) w := by
  refine callW_in Try.func70 rfl fun fr cs => ?_
  simp only [Try.ntmps70, List.size_toArray, List.length_cons, List.length_nil, Nat.reduceAdd, Nat.reduceSub, Array.replicate_succ, Array.replicate_zero, List.push_toArray, List.append_toArray, List.nil_append, List.cons_append]
  have hmn := @events_min_ints Try.prog
  have hi := Option.some_get (show (Try.prog.info? 94).isSome = true by kernel_rfl)
  have hs := fun w => (run_sl0_of hu30 hi.symm w #[]).1
  have hse := fun w es => (run_sl0_of hu30 hi.symm w es).2
  clear hi
  have hmin : min (0 : Int) 64 = 0 := by decide
  repeat (first | refine Walk.c rfl ?_ | refine Walk.cR ?_ | refine Walk.cRet ?_ | refine Walk.cEnd ?_ | (refine Walk.oq ?_; try walk_nrm) | (refine Walk.un ?_; walk_nrm))
  simp only [hmin]
  repeat (first | refine Walk.c rfl ?_ | refine Walk.cR ?_ | refine Walk.cRet ?_ | refine Walk.cEnd ?_ | (refine Walk.oq ?_; try walk_nrm) | (refine Walk.un ?_; walk_nrm))
  exact Walk.ret1 rfl rfl Try.func70 rfl fun d => ⟨by simp, d, rfl⟩
theorem walkers40_none (sw nw : Nat) (w : World) : CallV Try.prog main V 40 #[.slice (some ⟨sw, 0, none⟩) nw nw, .slice none 0 0] w (.slice none 0 0) w := by
  intro fr cs
  refine (walkers_in sw nw (.slice none 0 0) none 0 0 (fr :: cs) w (first70_none w)).then ?_
  rintro g w1 ⟨rfl, d, rfl⟩
  refine Walk.back ?_ d
  refine (walkers_out sw nw 0 0 _ _ none _ fr cs w).mono ?_
  rintro g w1 ⟨rfl, d, rfl⟩
  exact ⟨_, ⟨rfl, d, rfl⟩, rfl⟩
theorem told42_none (w : World) : CallW Try.prog main V 42 #[.slice none 0 0] w (fun v w' => v = .slice (some ⟨w.heap.size, 0, none⟩) 0 0 ∧ ∃ d, w' = (w.alloc (.cells (madeCells #[.slice none 0 0] 0) 36)).at d) := by
  intro fr cs
  refine (told_in none 0 0 (fr :: cs) w (by decide)).then ?_
  rintro g w1 ⟨rfl, d, rfl⟩
  refine Walk.back ?_ d
  refine (told_out none 0 w.heap.size 0 _ fr cs _).mono ?_
  rintro g w1 ⟨rfl, d, rfl⟩
  exact ⟨_, ⟨rfl, d, rfl⟩, rfl⟩
set_option maxHeartbeats 8000000 in
set_option maxRecDepth 100000 in
theorem begin_zero' (B tc : Nat) (ta : Option Addr) (c : Frame) (cs : List Frame) (w : World) (h0 : w.cell? ⟨B, 0, none⟩ = some (.slice none 0 0)) :
    Walk Try.prog main (DR V) (fun g w' => g = G (c.finish (.tuple #[])) cs ∧ ∃ d, w' = w.at d) (G (Frame.enter Try.prog 54 #[.pointer (some ⟨B, 0, none⟩), .slice ta 0 tc] .normal) (c :: cs)) w := by
  rw [enter_at _ Try.func54 rfl]
  simp only [Try.f54, List.size_toArray, List.length_cons, List.length_nil, Nat.reduceAdd, Nat.reduceSub, Array.replicate_succ, Array.replicate_zero, List.push_toArray, List.append_toArray, List.nil_append, List.cons_append]
  repeat (first | refine Walk.c rfl ?_ | refine Walk.cR ?_ | refine Walk.cRet ?_ | refine Walk.cEnd ?_ | (refine Walk.oq ?_; try walk_nrm) | (refine Walk.un ?_; walk_nrm))
  refine Walk.ctl rfl (fun w => stepG_loop) ?_
  repeat (first | refine Walk.c rfl ?_ | refine Walk.cR ?_ | refine Walk.cRet ?_ | refine Walk.cEnd ?_ | (refine Walk.oq ?_; try walk_nrm) | (refine Walk.un ?_; walk_nrm))
  exact Walk.ctl rfl (fun w => stepG_leave rfl rfl Try.func54 (results_none rfl _ _ w) (events_results_none rfl _ _)) (.stop fun d => ⟨rfl, d, rfl⟩)
theorem over_zero' (sa : Option Addr) (m sc tc : Nat) (ta : Option Addr) (most : Int) (og : Value) (c : Frame) (cs : List Frame) (w : World) (hog : CallV Try.prog main V 52 #[og] w (.slice ta 0 tc) w)
    (hs : 0 < m → ∃ s so x, sa = some ⟨s, so, none⟩ ∧ w.cell? ⟨s, so, none⟩ = some (.int .i64 x)) :
    Walk Try.prog main (DR V) (fun g w' => g = G (c.finish (.tuple #[.slice none 0 0, .bool false, .slice (some ⟨w.heap.size + 1, 0, none⟩) 0 0])) cs ∧ ∃ d, w' = ((turnW w 0 most).alloc (.cells (madeCells #[.bool false] 0) 4)).at d)
      (G (Frame.enter Try.prog 23 #[og, .slice sa m sc, .int .i64 most] .normal) (c :: cs)) w := by
  have hs1 : (turnW w 0 most).heap.size = w.heap.size + 1 := by simp [turnW]
  have ht : ∀ i, (turnW w 0 most).cell? ⟨w.heap.size, i, none⟩ = (#[.slice none 0 0, .int .i64 (0 : Nat), .int .i64 (min (max most 0) 1048576), .slice none 0 0] : Array Value)[i]? := fun i => cell_of (heap_alloc_new w _) i
  have t0 := (ht 0).trans rfl
  have t1 := (ht 1).trans rfl
  have t2 := (ht 2).trans rfl
  have t3 := (ht 3).trans rfl
  clear ht
  refine (over_in 0 tc m sc ta sa og most (c :: cs) w hog (nt_in 0 tc ta most (fr23t 0 tc m sc ta sa og most :: c :: cs) w)).then ?_
  rintro _ _ ⟨rfl, d1, rfl⟩
  refine Walk.back ?_ d1
  refine (nt_out w.heap.size 0 tc ta most _ (fr23t 0 tc m sc ta sa og most) (c :: cs) _).then ?_
  rintro _ _ ⟨rfl, d2, rfl⟩
  refine Walk.back ?_ d2
  refine (over_begin w.heap.size 0 tc m sc ta sa og most (c :: cs) _ (begin_zero' w.heap.size tc ta _ (c :: cs) _ t0)).then ?_
  rintro _ _ ⟨rfl, d3, rfl⟩
  refine Walk.back ?_ d3
  refine (over_follow w.heap.size 0 tc m sc ta sa og most (c :: cs) _ (follow_in w.heap.size sa m sc _ _)).then ?_
  rintro _ _ ⟨⟨u4, rfl⟩, d4, rfl⟩
  refine Walk.back ?_ d4
  have back : Walk Try.prog main (DR V) (fun g w' => g = G ((fr23b w.heap.size 0 tc m sc ta sa og most).finish (.tuple #[])) (c :: cs) ∧ ∃ d, w' = (turnW w 0 most).at d) (G (hd55 w.heap.size sa m sc 0 u4) (fr23b w.heap.size 0 tc m sc ta sa og most :: c :: cs)) (turnW w 0 most) := by
    rcases Nat.eq_zero_or_pos m with hm | hm
    · subst hm
      refine (follow_past w.heap.size sa 0 sc u4 _ _).then ?_
      rintro _ _ ⟨⟨u5, rfl⟩, d5, rfl⟩
      refine Walk.back ?_ d5
      exact round_over w.heap.size sa 0 sc (0 : Nat) _ none 0 0 u5 _ (c :: cs) _ t1 t2 t3 (by simp)
    · obtain ⟨s, so, x, rfl, hc⟩ := hs hm
      refine follow_over w.heap.size s so m sc 0 x (0 : Nat) _ none 0 0 u4 _ (c :: cs) _ hm ?_ t1 t2 t3 (by simp)
      exact cell_alloc w _ hc
  refine back.then ?_
  rintro _ _ ⟨rfl, d5, rfl⟩
  refine Walk.back ?_ d5
  refine (over_end w.heap.size 0 tc m sc ta sa og most (0 : Nat) (c :: cs) _ t1 (end_zero w.heap.size _ (c :: cs) _ t0)).then ?_
  rintro _ _ ⟨rfl, d6, rfl⟩
  refine Walk.back ?_ d6
  have t3' := cell_alloc _ (.cells (madeCells #[.bool false] 0) 4) t3
  rw [hs1]
  refine (over_out w.heap.size (w.heap.size + 1) 0 tc m sc ta sa og most (0 : Nat) none 0 0 c cs _ t3').mono ?_
  rintro _ _ ⟨rfl, d7, rfl⟩
  exact ⟨by simp, d7, rfl⟩
noncomputable def reg14_0 : Array Oper := match Try.f14.body with | some (.seq (.region _ ops _) _) => ops | _ => #[]
theorem size14_0 : reg14_0.size = 1 := by kernel_rfl
noncomputable def reg14_1 : Array Oper := match Try.f14.body with | some (.seq _ (.seq (.region _ ops _) _)) => ops | _ => #[]
theorem size14_1 : reg14_1.size = 3 := by kernel_rfl
noncomputable def reg14_2 : Array Oper := match Try.f14.body with | some (.seq _ (.seq _ (.seq (.region _ ops _) _))) => ops | _ => #[]
theorem size14_2 : reg14_2.size = 4 := by kernel_rfl
noncomputable def reg14_3 : Array Oper := match Try.f14.body with | some (.seq _ (.seq _ (.seq _ (.seq (.region _ ops _) _)))) => ops | _ => #[]
theorem size14_3 : reg14_3.size = 4 := by kernel_rfl
noncomputable def reg14_4 : Array Oper := match Try.f14.body with | some (.seq _ (.seq _ (.seq _ (.seq _ (.seq (.seq (.region _ ops _) _) _))))) => ops | _ => #[]
theorem size14_4 : reg14_4.size = 3 := by kernel_rfl
noncomputable def reg14_5 : Array Oper := match Try.f14.body with | some (.seq _ (.seq _ (.seq _ (.seq _ (.seq (.seq _ (.block _ (.loop (.seq (.region _ ops _) _)))) _))))) => ops | _ => #[]
theorem size14_5 : reg14_5.size = 1 := by kernel_rfl
noncomputable def reg14_6 : Array Oper := match Try.f14.body with | some (.seq _ (.seq _ (.seq _ (.seq _ (.seq (.seq _ (.block _ (.loop (.seq _ (.seq _ (.seq (.block _ (.seq (.region _ ops _) _)) _)))))) _))))) => ops | _ => #[]
theorem size14_6 : reg14_6.size = 5 := by kernel_rfl
noncomputable def reg14_7 : Array Oper := match Try.f14.body with | some (.seq _ (.seq _ (.seq _ (.seq _ (.seq (.seq _ (.block _ (.loop (.seq _ (.seq _ (.seq (.block _ (.seq _ (.region _ ops _))) _)))))) _))))) => ops | _ => #[]
theorem size14_7 : reg14_7.size = 6 := by kernel_rfl
noncomputable def reg14_8 : Array Oper := match Try.f14.body with | some (.seq _ (.seq _ (.seq _ (.seq _ (.seq (.seq _ (.block _ (.loop (.seq _ (.seq _ (.seq _ (.region _ ops _))))))) _))))) => ops | _ => #[]
theorem size14_8 : reg14_8.size = 2 := by kernel_rfl
noncomputable def reg14_9 : Array Oper := match Try.f14.body with | some (.seq _ (.seq _ (.seq _ (.seq _ (.seq _ (.seq (.region _ ops _) _)))))) => ops | _ => #[]
theorem size14_9 : reg14_9.size = 11 := by kernel_rfl
noncomputable def reg14_10 : Array Oper := match Try.f14.body with | some (.seq _ (.seq _ (.seq _ (.seq _ (.seq _ (.seq _ (.seq (.region _ ops _) _))))))) => ops | _ => #[]
theorem size14_10 : reg14_10.size = 8 := by kernel_rfl
theorem code14_is : Try.f14.body = some (.seq (.region 0 reg14_0 false) (.seq (.region 1 reg14_1 false) (.seq (.region 2 reg14_2 false) (.seq (.region 3 reg14_3 false) (.seq (.seq (.region 4 reg14_4 false) (.block 0 (.loop (.seq (.region 5 reg14_5 false) (.seq (.cond (.tmp 28 ) (.skip) (.exit 0)) (.seq (.block 1 (.seq (.region 6 reg14_6 false) (.region 7 reg14_7 false))) (.region 8 reg14_8 false))))))) (.seq (.region 9 reg14_9 false) (.seq (.region 10 reg14_10 false) (.ret)))))))) := by kernel_rfl
set_option maxHeartbeats 8000000 in
set_option maxRecDepth 100000 in
theorem play_none (wa : Option Addr) (cap : Nat) (ws : List Int) (sa : Option Addr) (m sc : Nat) (most : Int) (c : Frame) (cs : List Frame) (w : World) (hws : ws.length ≤ 17592186044416) (hw : IntsAt wa ws w) (hs : 0 < m → ∃ s so x, sa = some ⟨s, so, none⟩ ∧ w.cell? ⟨s, so, none⟩ = some (.int .i64 x)) :
    Walk Try.prog main (DR (fun _ => none)) (fun g w' => ∃ a s, Old w w' ∧ (∀ j, j < ws.length → w'.cell? ⟨s, j, none⟩ = some (.int .i64 (ws.getD j 0))) ∧ g = G (c.finish (.agg #[.slice (some ⟨a, 0, none⟩) 0 0, .slice none 0 0, .slice (some ⟨s, 0, none⟩) ws.length ws.length, .bool false])) cs)
      (G (Frame.enter Try.prog 14 #[.slice wa ws.length cap, .slice none 0 0, .slice sa m sc, .int .i64 most] .normal) (c :: cs)) w := by
  have hT := heap_alloc_new w (.cells #[.slice none 0 0, .slice none 0 0, .slice none 0 0, .bool false] 28)
  have hO := old_alloc w (.cells #[.slice none 0 0, .slice none 0 0, .slice none 0 0, .bool false] 28)
  have hTl : w.heap.size < (w.alloc (.cells #[.slice none 0 0, .slice none 0 0, .slice none 0 0, .bool false] 28)).heap.size := by simp
  rw [enter_at _ Try.func14 code14_is]
  simp only [Try.ntmps14, List.size_toArray, List.length_cons, List.length_nil, Nat.reduceAdd, Nat.reduceSub, Array.replicate_succ, Array.replicate_zero, List.push_toArray, List.append_toArray, List.nil_append, List.cons_append]
  repeat (first | refine Walk.c rfl ?_ | refine Walk.cRet ?_ | refine Walk.cEnd ?_ | (refine Walk.cReg ?_; simp only [size14_0, size14_1, size14_2, size14_3, size14_4, size14_5, size14_6, size14_7, size14_8, size14_9, size14_10, List.range, List.range.loop]) | (refine Walk.oq ?_; try walk_nrm) | (refine Walk.un ?_; walk_nrm))
  (refine Walk.oa ?_; try walk_nrm)
  generalize w.alloc (.cells #[.slice none 0 0, .slice none 0 0, .slice none 0 0, .bool false] 28) = w1 at *
  generalize hTT : w.heap.size = T at *
  have hw1 := hw.old hO.same
  repeat (first | refine Walk.c rfl ?_ | refine Walk.cRet ?_ | refine Walk.cEnd ?_ | (refine Walk.cReg ?_; simp only [size14_0, size14_1, size14_2, size14_3, size14_4, size14_5, size14_6, size14_7, size14_8, size14_9, size14_10, List.range, List.range.loop]) | (refine Walk.oq ?_; try walk_nrm) | (refine Walk.un ?_; walk_nrm))
  refine Walk.callW (Post := fun v w' => v = .slice (some ⟨w1.heap.size, 0, none⟩) ws.length ws.length ∧ Old w1 w' ∧ w1.heap.size < w'.heap.size ∧ WsIs w1.heap.size ws.length (fun j => ws.getD j 0) w') ?_ (ho_of (by conv => lhs; whnf) (by kernel_rfl)) (by rfl) (by decide) rfl Try.func39 (by kernel_rfl) (by rfl) ?_
  · walk_nrm
    exact share_w wa cap ws hws w1 hw1 (apart0 _)
  rintro v w2 ⟨rfl, O2, hsw, W2⟩
  have hO2 := hO.trans O2
  have hT2 := (O2.same T hTl).trans hT
  have hswT : T ≠ w1.heap.size := by omega
  generalize w1.heap.size = sw at *
  clear hw1 hT O2 hO hw
  walk_nrm
  repeat (first | refine Walk.c rfl ?_ | refine Walk.cRet ?_ | refine Walk.cEnd ?_ | (refine Walk.cReg ?_; simp only [size14_0, size14_1, size14_2, size14_3, size14_4, size14_5, size14_6, size14_7, size14_8, size14_9, size14_10, List.range, List.range.loop]) | (refine Walk.oq ?_; try walk_nrm) | (refine Walk.un ?_; walk_nrm))
  refine Walk.callV (x := .slice none 0 0) (W := w2) ?_ (ho_of (by conv => lhs; whnf) (by kernel_rfl)) (by rfl) (by decide) rfl Try.func40 (by kernel_rfl) (by rfl) ?_
  · walk_nrm
    exact walkers40_none sw ws.length w2
  walk_nrm
  repeat (first | refine Walk.c rfl ?_ | refine Walk.cRet ?_ | refine Walk.cEnd ?_ | (refine Walk.cReg ?_; simp only [size14_0, size14_1, size14_2, size14_3, size14_4, size14_5, size14_6, size14_7, size14_8, size14_9, size14_10, List.range, List.range.loop]) | (refine Walk.oq ?_; try walk_nrm) | (refine Walk.un ?_; walk_nrm))
  have hi67 := Option.some_get (show (Try.prog.info? 67).isSome = true by kernel_rfl)
  refine Walk.make 53 (.tmp 23) (.tmp 23) (ho_of (by conv => lhs; whnf) (by kernel_rfl)) (by rfl) (by decide) rfl 67 _ .nilFunc 1 8 (by kernel_rfl) hi67.symm (by kernel_rfl) (by kernel_rfl) (by kernel_rfl) 0 (by rfl) (by rfl) (by omega) (by omega) ?_
  clear hi67
  walk_nrm
  simp only [Value.cells, Nat.mul_one]
  have O3 := old_alloc w2 (.cells (madeCells #[.nilFunc] 0) 67)
  have hO3 := hO2.trans O3
  have hT3 := (O3.same T (by have := (Array.getElem?_eq_some_iff.1 hT2).1; omega)).trans hT2
  have W3 : WsIs sw ws.length (fun j => ws.getD j 0) (w2.alloc (.cells (madeCells #[.nilFunc] 0) 67)) := by
    obtain ⟨arr, a1, a2⟩ := W2
    exact ⟨arr, (O3.same sw hsw).trans a1, a2⟩
  have hs3 : 0 < m → ∃ s so x, sa = some ⟨s, so, none⟩ ∧ (w2.alloc (.cells (madeCells #[.nilFunc] 0) 67)).cell? ⟨s, so, none⟩ = some (.int .i64 x) := fun h => by
    obtain ⟨s, so, x, e, hc⟩ := hs h
    exact ⟨s, so, x, e, old_cell hO3 hc⟩
  have hsw3 : sw < (w2.alloc (.cells (madeCells #[.nilFunc] 0) 67)).heap.size := by have := O3.size; omega
  generalize w2.alloc (.cells (madeCells #[.nilFunc] 0) 67) = w3 at *
  clear hT2 W2 O3 hO2 hs hsw
  repeat (first | refine Walk.c rfl ?_ | refine Walk.cRet ?_ | refine Walk.cEnd ?_ | (refine Walk.cReg ?_; simp only [size14_0, size14_1, size14_2, size14_3, size14_4, size14_5, size14_6, size14_7, size14_8, size14_9, size14_10, List.range, List.range.loop]) | (refine Walk.oq ?_; try walk_nrm) | (refine Walk.un ?_; walk_nrm))
  refine Walk.ctl rfl (fun w => stepG_loop) ?_
  repeat (first | refine Walk.c rfl ?_ | refine Walk.cRet ?_ | refine Walk.cEnd ?_ | (refine Walk.cReg ?_; simp only [size14_0, size14_1, size14_2, size14_3, size14_4, size14_5, size14_6, size14_7, size14_8, size14_9, size14_10, List.range, List.range.loop]) | (refine Walk.oq ?_; try walk_nrm) | (refine Walk.un ?_; walk_nrm))
  refine Walk.callW (Post := fun v w' => v = .tuple #[.slice none 0 0, .bool false, .slice (some ⟨w3.heap.size + 1, 0, none⟩) 0 0] ∧ ∃ d, w' = ((turnW w3 0 most).alloc (.cells (madeCells #[.bool false] 0) 4)).at d) ?_ (ho_of (by conv => lhs; whnf) (by kernel_rfl)) (by rfl) (by decide) rfl Try.func23 (by kernel_rfl) (by rfl) ?_
  · walk_nrm
    intro fr cs'
    refine (over_zero' (main := main) (V := fun _ => none) sa m sc 0 (some ⟨w2.heap.size, 0, none⟩) most _ fr cs' w3 ?_ hs3).mono ?_
    · have := first_some (main := main) (V := fun _ => none) w2.heap.size 0 0 w3 (Nat.le_refl _)
      simpa using this
    · rintro g w' ⟨h1, h2⟩
      exact ⟨_, ⟨rfl, h2⟩, h1⟩
  rintro v w4' ⟨rfl, d4, rfl⟩
  refine Walk.back ?_ d4
  have O4 : Old w3 ((turnW w3 0 most).alloc (.cells (madeCells #[.bool false] 0) 4)) := (old_alloc w3 _).trans (old_alloc _ _)
  have hO4 := hO3.trans O4
  have hT4 := (O4.same T (Array.getElem?_eq_some_iff.1 hT3).1).trans hT3
  have W4 : WsIs sw ws.length (fun j => ws.getD j 0) ((turnW w3 0 most).alloc (.cells (madeCells #[.bool false] 0) 4)) := by
    obtain ⟨arr, a1, a2⟩ := W3
    exact ⟨arr, (O4.same sw hsw3).trans a1, a2⟩
  have hsw4 : sw < ((turnW w3 0 most).alloc (.cells (madeCells #[.bool false] 0) 4)).heap.size := by have := O4.size; omega
  generalize (turnW w3 0 most).alloc (.cells (madeCells #[.bool false] 0) 4) = w4 at *
  clear hT3 W3 O4 hO3 hs3 hsw3
  walk_nrm
  repeat (first | refine Walk.c rfl ?_ | refine Walk.cRet ?_ | refine Walk.cEnd ?_ | (refine Walk.cReg ?_; simp only [size14_0, size14_1, size14_2, size14_3, size14_4, size14_5, size14_6, size14_7, size14_8, size14_9, size14_10, List.range, List.range.loop]) | (refine Walk.oq ?_; try walk_nrm) | (refine Walk.un ?_; walk_nrm))
  refine Walk.callW (Post := fun v w' => v = .slice (some ⟨w4.heap.size, 0, none⟩) 0 0 ∧ ∃ d, w' = (w4.alloc (.cells (madeCells #[.slice none 0 0] 0) 36)).at d) ?_ (ho_of (by conv => lhs; whnf) (by kernel_rfl)) (by rfl) (by decide) rfl Try.func42 (by kernel_rfl) (by rfl) ?_
  · walk_nrm
    exact told42_none w4
  rintro v w5' ⟨rfl, d5, rfl⟩
  refine Walk.back ?_ d5
  have O5 := old_alloc w4 (.cells (madeCells #[.slice none 0 0] 0) 36)
  have hO5 := hO4.trans O5
  have hT5 := (O5.same T (Array.getElem?_eq_some_iff.1 hT4).1).trans hT4
  have W5 : WsIs sw ws.length (fun j => ws.getD j 0) (w4.alloc (.cells (madeCells #[.slice none 0 0] 0) 36)) := by
    obtain ⟨arr, a1, a2⟩ := W4
    exact ⟨arr, (O5.same sw hsw4).trans a1, a2⟩
  generalize w4.alloc (.cells (madeCells #[.slice none 0 0] 0) 36) = w5 at *
  clear hT4 W4 O5 hO4 hsw4
  walk_nrm
  repeat (first | refine Walk.c rfl ?_ | refine Walk.cRet ?_ | refine Walk.cEnd ?_ | (refine Walk.cReg ?_; simp only [size14_0, size14_1, size14_2, size14_3, size14_4, size14_5, size14_6, size14_7, size14_8, size14_9, size14_10, List.range, List.range.loop]) | (refine Walk.oq ?_; try walk_nrm) | (refine Walk.un ?_; walk_nrm))
  refine Walk.callW (Post := fun v w' => v = .slice (some ⟨w5.heap.size, 0, none⟩) ws.length ws.length ∧ Laid w5 w' 2 ws.length ws.length (fun i => .int .i64 (ws.getD i 0))) ?_ (ho_of (by conv => lhs; whnf) (by kernel_rfl)) (by rfl) (by decide) rfl Try.func43 (by kernel_rfl) (by rfl) ?_
  · walk_nrm
    exact values_w sw ws.length (fun j => ws.getD j 0) hws w5 W5 (apart0 _)
  rintro v w6 ⟨rfl, L6⟩
  have hO6 := hO5.trans L6.old
  have hT6 := (L6.old.same T (Array.getElem?_eq_some_iff.1 hT5).1).trans hT5
  obtain ⟨arr, a1, a2, a3⟩ := L6.row
  have hq : w5.heap.size ≠ T := by have := (Array.getElem?_eq_some_iff.1 hT5).1; omega
  have hc6 : ∀ j, j < ws.length → w6.cell? ⟨w5.heap.size, j, none⟩ = some (.int .i64 (ws.getD j 0)) := fun j hj => (cell_of a1 j).trans (a3 j hj)
  generalize w5.heap.size = q at *
  clear hT5 W5 hO5 L6 a1 a2 a3
  walk_nrm
  repeat (first | refine Walk.c rfl ?_ | refine Walk.cRet ?_ | refine Walk.cEnd ?_ | (refine Walk.cReg ?_; simp only [size14_0, size14_1, size14_2, size14_3, size14_4, size14_5, size14_6, size14_7, size14_8, size14_9, size14_10, List.range, List.range.loop]) | (refine Walk.oq ?_; try walk_nrm) | (refine Walk.un ?_; walk_nrm))
  refine Walk.storeS 28 (.tmp 8) (.tmp 52) (ho_of (by conv => lhs; whnf) (by kernel_rfl)) (by rfl) (by decide) rfl T #[.slice (some ⟨w4.heap.size, 0, none⟩) 0 0, .slice none 0 0, .slice (some ⟨q, 0, none⟩) ws.length ws.length, .bool false] _ 28 rfl rfl hT6 (by kernel_rfl) (by rfl) (by simp [Value.oneCell']) (apart0 T) ?_
  have hT7 := setRow_self w6 T #[.slice (some ⟨w4.heap.size, 0, none⟩) 0 0, .slice none 0 0, .slice (some ⟨q, 0, none⟩) ws.length ws.length, .bool false] _ hT6
  have hO7 : Old w (w6.setRow T #[.slice (some ⟨w4.heap.size, 0, none⟩) 0 0, .slice none 0 0, .slice (some ⟨q, 0, none⟩) ws.length ws.length, .bool false]) := ⟨by have := hO6.size; simp [World.setRow]; omega, fun b hb => (setRow_other _ _ _ _ (by omega)).trans (hO6.same b hb)⟩
  have hc7 : ∀ j, j < ws.length → (w6.setRow T #[.slice (some ⟨w4.heap.size, 0, none⟩) 0 0, .slice none 0 0, .slice (some ⟨q, 0, none⟩) ws.length ws.length, .bool false]).cell? ⟨q, j, none⟩ = some (.int .i64 (ws.getD j 0)) := fun j hj => (World.cell?_of_block (a := ⟨q, j, none⟩) (setRow_other _ _ _ _ hq)).trans (hc6 j hj)
  generalize w6.setRow T #[.slice (some ⟨w4.heap.size, 0, none⟩) 0 0, .slice none 0 0, .slice (some ⟨q, 0, none⟩) ws.length ws.length, .bool false] = w7 at *
  clear hT6 hO6 hc6
  walk_nrm
  repeat (first | refine Walk.c rfl ?_ | refine Walk.cRet ?_ | refine Walk.cEnd ?_ | (refine Walk.cReg ?_; simp only [size14_0, size14_1, size14_2, size14_3, size14_4, size14_5, size14_6, size14_7, size14_8, size14_9, size14_10, List.range, List.range.loop]) | (refine Walk.oq ?_; try walk_nrm) | (refine Walk.un ?_; walk_nrm))
  refine (play_leave (V := fun _ => none) (main := main) (c := c) (cs := cs) (T := T) (w := w7) rfl rfl rfl rfl rfl hT7 rfl).mono ?_
  rintro g w8 ⟨rfl, d8, rfl⟩
  exact ⟨_, q, hO7.at d8, hc7, rfl⟩
end Go.Proofs.Ytgiiicdpbdfemaa
end

section
namespace Go.Proofs.Ytgiiicdpbdfemaa
open Go.Conc Go.RowKit Go.Relay
open Go.ConcN (upd upd_ne upd_same)
theorem two_src (w : World) : Src (some ⟨w.heap.size + 2, 0, none⟩) [(some ⟨w.heap.size, 0, none⟩, 5, 5), (some ⟨w.heap.size + 1, 0, none⟩, 5, 5)] [adderL, adderL]
    (((w.alloc (.cells adderCells 96)).alloc (.cells adderCells 96)).alloc (.cells #[.slice (some ⟨w.heap.size, 0, none⟩) 5 5, .slice (some ⟨w.heap.size + 1, 0, none⟩) 5 5] 85)) := by
  have h1 : (w.alloc (.cells adderCells 96)).heap.size = w.heap.size + 1 := by simp
  have h2 : ((w.alloc (.cells adderCells 96)).alloc (.cells adderCells 96)).heap.size = w.heap.size + 2 := by simp
  have b0 : (((w.alloc (.cells adderCells 96)).alloc (.cells adderCells 96)).alloc (.cells #[.slice (some ⟨w.heap.size, 0, none⟩) 5 5, .slice (some ⟨w.heap.size + 1, 0, none⟩) 5 5] 85)).heap[w.heap.size]? = some (.cells adderCells 96) :=
    (heap_new_lt _ _ (by omega)).trans ((heap_new_lt _ _ (by omega)).trans (heap_alloc_new w _))
  have b1 : (((w.alloc (.cells adderCells 96)).alloc (.cells adderCells 96)).alloc (.cells #[.slice (some ⟨w.heap.size, 0, none⟩) 5 5, .slice (some ⟨w.heap.size + 1, 0, none⟩) 5 5] 85)).heap[w.heap.size + 1]? = some (.cells adderCells 96) :=
    (heap_new_lt _ _ (by omega)).trans (by rw [← h1]; exact heap_alloc_new _ _)
  have b2 : (((w.alloc (.cells adderCells 96)).alloc (.cells adderCells 96)).alloc (.cells #[.slice (some ⟨w.heap.size, 0, none⟩) 5 5, .slice (some ⟨w.heap.size + 1, 0, none⟩) 5 5] 85)).heap[w.heap.size + 2]? = some (.cells #[.slice (some ⟨w.heap.size, 0, none⟩) 5 5, .slice (some ⟨w.heap.size + 1, 0, none⟩) 5 5] 85) := by
    rw [← h2]; exact heap_alloc_new _ _
  generalize ((w.alloc (.cells adderCells 96)).alloc (.cells adderCells 96)).alloc (.cells #[.slice (some ⟨w.heap.size, 0, none⟩) 5 5, .slice (some ⟨w.heap.size + 1, 0, none⟩) 5 5] 85) = w3 at b0 b1 b2 ⊢
  have hcs : ∀ (b : Nat), w3.heap[b]? = some (.cells adderCells 96) → ∀ (k : Nat) (d : Cd), adderL[k]? = some d → ∀ m v, (cdCells d)[m]? = some v → w3.cell? ⟨b, 0 + k * 5 + m, none⟩ = some v := fun b hb k d hd m v hv => by
    have hm : m < 5 := (List.getElem?_eq_some_iff.1 hv).1
    have := flat_get adderL k m d hd hm
    rw [hv] at this
    rw [Nat.zero_add]
    refine (cell_of hb _).trans ?_
    have e : adderCells = (flatC adderL).toArray := rfl
    rw [e, List.getElem?_toArray]
    exact this
  refine ⟨rfl, fun i p hp => ⟨w.heap.size + 2, 0, rfl, (cell_of b2 _).trans ?_⟩, fun i p c hp hc => ?_⟩
  · rw [Nat.zero_add]
    match i, hp with
    | 0, hp => cases hp; rfl
    | 1, hp => cases hp; rfl
    | i + 2, hp => cases hp
  · match i, hp, hc with
    | 0, hp, hc => cases hp; cases hc; exact ⟨rfl, fun k d hd => ⟨_, 0, rfl, hcs _ b0 k d hd⟩⟩
    | 1, hp, hc => cases hp; cases hc; exact ⟨rfl, fun k d hd => ⟨_, 0, rfl, hcs _ b1 k d hd⟩⟩
    | i + 2, hp, hc => cases hp
theorem ints_new (w : World) (l : List Int) (ty : TypeId) : IntsAt (some ⟨w.heap.size, 0, none⟩) l (w.alloc (.cells (l.map (Value.int .i64 ·)).toArray ty)) := fun j x hx => ⟨_, rfl, (cell_of (heap_alloc_new w _) j).trans (by simp [hx])⟩
theorem out_a {cells : Array Value} {w' : World} (H : PlayOut ([adderL, adderL].take 64) [0] 100 [0, 1, 0, 1] cells w') : ∃ a oa oc s, cells = #[.slice (some ⟨a, 0, none⟩) 2 2, .slice oa 4 oc, .slice (some ⟨s, 0, none⟩) 1 1, .bool false] ∧ w'.cell? ⟨s, 0, none⟩ = some (.int .i64 1) := by
  obtain ⟨oa, oc, a, s, tas, tcs, h1, _, h3, _⟩ := H
  have e : ([adderL, adderL] : List (List Cd)).take 64 = [adderL, adderL] := rfl
  rw [e] at h1 h3
  obtain ⟨e1, e2, e3⟩ := awake_a
  rw [e2, e3] at h1
  refine ⟨a, oa, oc, s, h1, ?_⟩
  have := h3 0 (by simp)
  rw [e1] at this
  exact this
theorem out_b {cells : Array Value} {w' : World} (H : PlayOut ([adderL, adderL].take 64) [0] 100 [0, 0, 1, 1] cells w') : ∃ a oa on oc s st, cells = #[.slice (some ⟨a, 0, none⟩) 2 2, .slice oa on oc, .slice (some ⟨s, 0, none⟩) 1 1, .bool st] ∧ w'.cell? ⟨s, 0, none⟩ = some (.int .i64 2) := by
  obtain ⟨oa, oc, a, s, tas, tcs, h1, _, h3, _⟩ := H
  have e : ([adderL, adderL] : List (List Cd)).take 64 = [adderL, adderL] := rfl
  rw [e] at h1 h3
  refine ⟨a, oa, _, oc, s, _, h1, ?_⟩
  have := h3 0 (by simp)
  rw [awake_b] at this
  exact this
theorem out_c {cells : Array Value} {w' : World} (H : PlayOut ([adderL, adderL].take 64) [0] 3 [] cells w') : ∃ a oa oc s, cells = #[.slice (some ⟨a, 0, none⟩) 2 2, .slice oa 3 oc, .slice (some ⟨s, 0, none⟩) 1 1, .bool true] := by
  obtain ⟨oa, oc, a, s, tas, tcs, h1, _, _, _⟩ := H
  have e : ([adderL, adderL] : List (List Cd)).take 64 = [adderL, adderL] := rfl
  rw [e] at h1
  obtain ⟨e2, e3⟩ := awake_c
  rw [e2, e3] at h1
  exact ⟨a, oa, oc, s, h1⟩
def TrIs (T : Nat) (x0 x1 x2 x3 : Value) (w : World) : Prop := w.cell? ⟨T, 0, none⟩ = some x0 ∧ w.cell? ⟨T, 1, none⟩ = some x1 ∧ w.cell? ⟨T, 2, none⟩ = some x2 ∧ w.cell? ⟨T, 3, none⟩ = some x3
theorem tr_new (w : World) (x0 x1 x2 x3 : Value) : TrIs w.heap.size x0 x1 x2 x3 (w.alloc (.cells #[x0, x1, x2, x3] 28)) := by
  have h := heap_alloc_new w (.cells #[x0, x1, x2, x3] 28)
  exact ⟨(cell_of h 0).trans rfl, (cell_of h 1).trans rfl, (cell_of h 2).trans rfl, (cell_of h 3).trans rfl⟩
theorem TrIs.old {T : Nat} {x0 x1 x2 x3 : Value} {w w' : World} (h : TrIs T x0 x1 x2 x3 w) (O : Old w w') : TrIs T x0 x1 x2 x3 w' := ⟨old_cell O h.1, old_cell O h.2.1, old_cell O h.2.2.1, old_cell O h.2.2.2⟩
set_option maxHeartbeats 8000000 in
set_option maxRecDepth 100000 in
theorem awake_run (c : Frame) (cs : List Frame) (w : World) : Runs (fun g w' => Old w w' ∧ g = G (c.finish (.bool true)) cs) (G (Frame.enter Try.prog 13 #[] .normal) (c :: cs)) w := by
  refine Runs.go ?_
  rw [enter_at _ Try.func13 rfl]
  simp only [Try.f13, List.size_toArray, List.length_cons, List.length_nil, Nat.reduceAdd, Nat.reduceSub, Array.replicate_succ, Array.replicate_zero, List.push_toArray, List.append_toArray, List.nil_append, List.cons_append]
  repeat (first | refine Walk.c rfl ?_ | refine Walk.cR ?_ | refine Walk.cRet ?_ | refine Walk.cEnd ?_ | (refine Walk.oq ?_; try walk_nrm) | (refine Walk.un ?_; walk_nrm))
  refine Walk.callV (x := .slice (some ⟨w.heap.size, 0, none⟩) 5 5) (W := w.alloc (.cells adderCells 96)) ?_ rfl (by rfl) (by decide) rfl Try.func38 (by kernel_rfl) (by rfl) ?_
  · walk_nrm
    exact adder_w w
  walk_nrm
  refine Walk.callV (x := .slice (some ⟨w.heap.size + 1, 0, none⟩) 5 5) (W := (w.alloc (.cells adderCells 96)).alloc (.cells adderCells 96)) ?_ rfl (by rfl) (by decide) rfl Try.func38 (by kernel_rfl) (by rfl) ?_
  · have := adder_w (main := true) (V := fun _ => none) (w.alloc (.cells adderCells 96))
    have h1 : (w.alloc (.cells adderCells 96)).heap.size = w.heap.size + 1 := by simp
    rw [h1] at this
    walk_nrm
    exact this
  walk_nrm
  have hS := two_src w
  have O1 := (old_alloc w (.cells adderCells 96)).trans ((old_alloc _ (.cells adderCells 96)).trans (old_alloc _ (.cells #[.slice (some ⟨w.heap.size, 0, none⟩) 5 5, .slice (some ⟨w.heap.size + 1, 0, none⟩) 5 5] 85)))
  have hsz : ((w.alloc (.cells adderCells 96)).alloc (.cells adderCells 96)).heap.size = w.heap.size + 2 := by simp
  (refine Walk.oa ?_; try walk_nrm)
  generalize ((w.alloc (.cells adderCells 96)).alloc (.cells adderCells 96)).alloc (.cells #[.slice (some ⟨w.heap.size, 0, none⟩) 5 5, .slice (some ⟨w.heap.size + 1, 0, none⟩) 5 5] 85) = w3 at hS O1 ⊢
  refine Walk.callW (Post := fun v w' => ∃ fa fc ls, v = .slice fa 2 fc ∧ Coded w3 w' [adderL, adderL] fa fc 2 ls) ?_ rfl (by rfl) (by decide) rfl Try.func15 (by kernel_rfl) (by rfl) ?_
  · walk_nrm
    exact codes_w (some ⟨w.heap.size + 2, 0, none⟩) 2 _ [adderL, adderL] w3 hS (by simp) (by simp [adderL]) (fun b _ => apart0 b)
  rintro v w4 ⟨fa, fc, ls, rfl, M⟩
  have O4 := O1.trans M.old
  walk_nrm
  repeat (first | refine Walk.c rfl ?_ | refine Walk.cR ?_ | refine Walk.cRet ?_ | refine Walk.cEnd ?_ | (refine Walk.oq ?_; try walk_nrm) | (refine Walk.un ?_; walk_nrm))
  (refine Walk.oa ?_; try walk_nrm)
  repeat (first | refine Walk.c rfl ?_ | refine Walk.cR ?_ | refine Walk.cRet ?_ | refine Walk.cEnd ?_ | (refine Walk.oq ?_; try walk_nrm) | (refine Walk.un ?_; walk_nrm))
  (refine Walk.oa ?_; try walk_nrm)
  have hsz4 : (w4.alloc (.cells #[.int .i64 0] 2)).heap.size = w4.heap.size + 1 := by simp
  have O6 := (old_alloc w4 (.cells #[.int .i64 0] 2)).trans (old_alloc _ (.cells #[.int .i64 0, .int .i64 1, .int .i64 0, .int .i64 1] 3))
  have I1 : IntsAt (some ⟨w4.heap.size, 0, none⟩) [0] ((w4.alloc (.cells #[.int .i64 0] 2)).alloc (.cells #[.int .i64 0, .int .i64 1, .int .i64 0, .int .i64 1] 3)) := (ints_new w4 [0] 2).old (old_alloc _ _).same
  have I2 : IntsAt (some ⟨w4.heap.size + 1, 0, none⟩) [0, 1, 0, 1] ((w4.alloc (.cells #[.int .i64 0] 2)).alloc (.cells #[.int .i64 0, .int .i64 1, .int .i64 0, .int .i64 1] 3)) := by
    have := ints_new (w4.alloc (.cells #[.int .i64 0] 2)) [0, 1, 0, 1] 3
    rw [hsz4] at this
    exact this
  have L2 : w4.heap.size + 1 < ((w4.alloc (.cells #[.int .i64 0] 2)).alloc (.cells #[.int .i64 0, .int .i64 1, .int .i64 0, .int .i64 1] 3)).heap.size := by simp
  generalize (w4.alloc (.cells #[.int .i64 0] 2)).alloc (.cells #[.int .i64 0, .int .i64 1, .int .i64 0, .int .i64 1] 3) = w6 at O6 I1 I2 L2 ⊢
  refine Walk.callE rfl (by rfl) (by decide) rfl Try.func14 (by kernel_rfl) (by rfl) ?_
  refine .stop fun d => ?_
  walk_nrm
  refine Runs.then (play_coded M (by simp) (by simp [adderL]) (some ⟨w4.heap.size, 0, none⟩) 1 (some ⟨w4.heap.size + 1, 0, none⟩) 4 100 [0] [0, 1, 0, 1] (w6.at d) (O6.at d) (by simp) (by simp) I1 I2 (fun s e => by cases e; exact L2) _ _) ?_
  rintro _ w7 ⟨cells, hP, O7, rfl⟩
  obtain ⟨a1, oa1, oc1, s1, rfl, hs1⟩ := out_a hP
  have O7' := O6.trans (Old.un d O7)
  clear O6 I1 I2 L2 hP O7
  refine Runs.go ?_
  rw [Frame.finish_at]
  walk_nrm
  (refine Walk.oa ?_; try walk_nrm)
  refine Walk.storeS 28 (.tmp 2) (.tmp 12) rfl (by rfl) (by decide) rfl w7.heap.size #[.slice (some ⟨a1, 0, none⟩) 2 2, .slice oa1 4 oc1, .slice (some ⟨s1, 0, none⟩) 1 1, .bool false] _ 28 rfl rfl (heap_alloc_new w7 _) (by kernel_rfl) (by rfl) (by simp [Value.oneCell']) (apart0 _) ?_
  rw [setRow_alloc]
  have T1 := tr_new w7 (.slice (some ⟨a1, 0, none⟩) 2 2) (.slice oa1 4 oc1) (.slice (some ⟨s1, 0, none⟩) 1 1) (.bool false)
  have hs1 := old_cell (old_alloc w7 (.cells #[.slice (some ⟨a1, 0, none⟩) 2 2, .slice oa1 4 oc1, .slice (some ⟨s1, 0, none⟩) 1 1, .bool false] 28)) hs1
  have O8 := O7'.trans (old_alloc w7 (.cells #[.slice (some ⟨a1, 0, none⟩) 2 2, .slice oa1 4 oc1, .slice (some ⟨s1, 0, none⟩) 1 1, .bool false] 28))
  clear O7'
  generalize w7.heap.size = TA at *
  generalize w7.alloc (.cells #[.slice (some ⟨a1, 0, none⟩) 2 2, .slice oa1 4 oc1, .slice (some ⟨s1, 0, none⟩) 1 1, .bool false] 28) = w8 at *
  walk_nrm
  repeat (first | refine Walk.c rfl ?_ | refine Walk.cR ?_ | refine Walk.cRet ?_ | refine Walk.cEnd ?_ | (refine Walk.oq ?_; try walk_nrm) | (refine Walk.un ?_; walk_nrm))
  (refine Walk.oa ?_; try walk_nrm)
  repeat (first | refine Walk.c rfl ?_ | refine Walk.cR ?_ | refine Walk.cRet ?_ | refine Walk.cEnd ?_ | (refine Walk.oq ?_; try walk_nrm) | (refine Walk.un ?_; walk_nrm))
  (refine Walk.oa ?_; try walk_nrm)
  have hsz8 : (w8.alloc (.cells #[.int .i64 0] 2)).heap.size = w8.heap.size + 1 := by simp
  have P6 := (old_alloc w8 (.cells #[.int .i64 0] 2)).trans (old_alloc _ (.cells #[.int .i64 0, .int .i64 0, .int .i64 1, .int .i64 1] 3))
  have I1 : IntsAt (some ⟨w8.heap.size, 0, none⟩) [0] ((w8.alloc (.cells #[.int .i64 0] 2)).alloc (.cells #[.int .i64 0, .int .i64 0, .int .i64 1, .int .i64 1] 3)) := (ints_new w8 [0] 2).old (old_alloc _ _).same
  have I2 : IntsAt (some ⟨w8.heap.size + 1, 0, none⟩) [0, 0, 1, 1] ((w8.alloc (.cells #[.int .i64 0] 2)).alloc (.cells #[.int .i64 0, .int .i64 0, .int .i64 1, .int .i64 1] 3)) := by
    have := ints_new (w8.alloc (.cells #[.int .i64 0] 2)) [0, 0, 1, 1] 3
    rw [hsz8] at this
    exact this
  have L2 : w8.heap.size + 1 < ((w8.alloc (.cells #[.int .i64 0] 2)).alloc (.cells #[.int .i64 0, .int .i64 0, .int .i64 1, .int .i64 1] 3)).heap.size := by simp
  generalize (w8.alloc (.cells #[.int .i64 0] 2)).alloc (.cells #[.int .i64 0, .int .i64 0, .int .i64 1, .int .i64 1] 3) = w9 at P6 I1 I2 L2 ⊢
  refine Walk.callE rfl (by rfl) (by decide) rfl Try.func14 (by kernel_rfl) (by rfl) ?_
  refine .stop fun d9 => ?_
  walk_nrm
  refine Runs.then (play_coded M (by simp) (by simp [adderL]) (some ⟨w8.heap.size, 0, none⟩) 1 (some ⟨w8.heap.size + 1, 0, none⟩) 4 100 [0] [0, 0, 1, 1] (w9.at d9) ((O8.trans P6).at d9) (by simp) (by simp) I1 I2 (fun s e => by cases e; exact L2) _ _) ?_
  rintro _ w10 ⟨cells, hP, O10, rfl⟩
  obtain ⟨a2, oa2, on2, oc2, s2, st2, rfl, hs2⟩ := out_b hP
  have Q8 := P6.trans (Old.un d9 O10)
  have O11 := O8.trans Q8
  have T1 := T1.old Q8
  have hs1 := old_cell Q8 hs1
  clear P6 I1 I2 L2 hP O10 Q8 O8
  refine Runs.go ?_
  rw [Frame.finish_at]
  walk_nrm
  (refine Walk.oa ?_; try walk_nrm)
  refine Walk.storeS 28 (.tmp 3) (.tmp 16) rfl (by rfl) (by decide) rfl w10.heap.size #[.slice (some ⟨a2, 0, none⟩) 2 2, .slice oa2 on2 oc2, .slice (some ⟨s2, 0, none⟩) 1 1, .bool st2] _ 28 rfl rfl (heap_alloc_new w10 _) (by kernel_rfl) (by rfl) (by simp [Value.oneCell']) (apart0 _) ?_
  rw [setRow_alloc]
  have T2 := tr_new w10 (.slice (some ⟨a2, 0, none⟩) 2 2) (.slice oa2 on2 oc2) (.slice (some ⟨s2, 0, none⟩) 1 1) (.bool st2)
  have R8 := old_alloc w10 (.cells #[.slice (some ⟨a2, 0, none⟩) 2 2, .slice oa2 on2 oc2, .slice (some ⟨s2, 0, none⟩) 1 1, .bool st2] 28)
  have hs2 := old_cell R8 hs2
  have hs1 := old_cell R8 hs1
  have T1 := T1.old R8
  have O12 := O11.trans R8
  clear O11 R8
  generalize w10.heap.size = TB at *
  generalize w10.alloc (.cells #[.slice (some ⟨a2, 0, none⟩) 2 2, .slice oa2 on2 oc2, .slice (some ⟨s2, 0, none⟩) 1 1, .bool st2] 28) = w12 at *
  walk_nrm
  repeat (first | refine Walk.c rfl ?_ | refine Walk.cR ?_ | refine Walk.cRet ?_ | refine Walk.cEnd ?_ | (refine Walk.oq ?_; try walk_nrm) | (refine Walk.un ?_; walk_nrm))
  (refine Walk.oa ?_; try walk_nrm)
  repeat (first | refine Walk.c rfl ?_ | refine Walk.cR ?_ | refine Walk.cRet ?_ | refine Walk.cEnd ?_ | (refine Walk.oq ?_; try walk_nrm) | (refine Walk.un ?_; walk_nrm))
  have P6 := old_alloc w12 (.cells #[.int .i64 0] 2)
  have I1 : IntsAt (some ⟨w12.heap.size, 0, none⟩) [0] (w12.alloc (.cells #[.int .i64 0] 2)) := ints_new w12 [0] 2
  have I2 : IntsAt none [] (w12.alloc (.cells #[.int .i64 0] 2)) := fun j x h => by simp at h
  generalize w12.alloc (.cells #[.int .i64 0] 2) = w13 at P6 I1 I2 ⊢
  refine Walk.callE rfl (by rfl) (by decide) rfl Try.func14 (by kernel_rfl) (by rfl) ?_
  refine .stop fun d13 => ?_
  walk_nrm
  refine Runs.then (play_coded M (by simp) (by simp [adderL]) (some ⟨w12.heap.size, 0, none⟩) 1 none 0 3 [0] [] (w13.at d13) ((O12.trans P6).at d13) (by simp) (by simp) I1 I2 (fun s e => by cases e) _ _) ?_
  rintro _ w14 ⟨cells, hP, O14, rfl⟩
  obtain ⟨a3, oa3, oc3, s3, rfl⟩ := out_c hP
  have Q8 := P6.trans (Old.un d13 O14)
  have O15 := O12.trans Q8
  have T1 := T1.old Q8
  have T2 := T2.old Q8
  have hs1 := old_cell Q8 hs1
  have hs2 := old_cell Q8 hs2
  clear P6 I1 I2 hP O14 Q8 O12
  refine Runs.go ?_
  rw [Frame.finish_at]
  walk_nrm
  (refine Walk.oa ?_; try walk_nrm)
  refine Walk.storeS 28 (.tmp 4) (.tmp 19) rfl (by rfl) (by decide) rfl w14.heap.size #[.slice (some ⟨a3, 0, none⟩) 2 2, .slice oa3 3 oc3, .slice (some ⟨s3, 0, none⟩) 1 1, .bool true] _ 28 rfl rfl (heap_alloc_new w14 _) (by kernel_rfl) (by rfl) (by simp [Value.oneCell']) (apart0 _) ?_
  rw [setRow_alloc]
  have T3 := tr_new w14 (.slice (some ⟨a3, 0, none⟩) 2 2) (.slice oa3 3 oc3) (.slice (some ⟨s3, 0, none⟩) 1 1) (.bool true)
  have R8 := old_alloc w14 (.cells #[.slice (some ⟨a3, 0, none⟩) 2 2, .slice oa3 3 oc3, .slice (some ⟨s3, 0, none⟩) 1 1, .bool true] 28)
  have hs2 := old_cell R8 hs2
  have hs1 := old_cell R8 hs1
  have T1 := T1.old R8
  have T2 := T2.old R8
  have O16 := O4.trans (O15.trans R8)
  clear R8 O15 O4 O1 M hS
  generalize w14.heap.size = TC at *
  generalize w14.alloc (.cells #[.slice (some ⟨a3, 0, none⟩) 2 2, .slice oa3 3 oc3, .slice (some ⟨s3, 0, none⟩) 1 1, .bool true] 28) = w16 at *
  obtain ⟨u10, u11, u12, u13⟩ := T1
  obtain ⟨u20, u21, u22, u23⟩ := T2
  obtain ⟨u30, u31, u32, u33⟩ := T3
  walk_nrm
  refine Walk.ctl rfl (fun w => stepG_region_end) ?_
  refine Walk.slots (F := fun u => G (hd13 (.slice fa 2 fc) TA TB TC u) (c :: cs)) (fun u => (awake_tail (.slice fa 2 fc) TA TB TC a1 a2 s1 s2 oc1 oc3 oa1 oa3 u c cs w16 u10 u11 u12 u13 u20 u22 u31 u33 hs1 hs2).mono ?_) ?_
  · rintro g w' ⟨rfl, d, rfl⟩
    exact .now ⟨O16.at d, rfl⟩
  · simp only [hd13, tail13, Try.f13]
    rfl
end Go.Proofs.Ytgiiicdpbdfemaa
end

section
namespace Go.Proofs.Ytgiiicdpbdfemaa
open Go.Conc Go.RowKit Go.Relay
open Go.ConcN (upd upd_ne upd_same)
structure Closing (f : FuncId) (t : Tmp) (v : Value) (g : Goroutine) : Prop where
  all : ∃ fr, g = G fr [] ∧ fr.mode = .returning ∧ fr.kind = .normal ∧ fr.defers = [] ∧ fr.fn = f ∧ fr.tmps.getD t undef = v
theorem stepG_done {P : Program} {fr : Frame} {w : World} {fn : Func} {v : Value} (hm : fr.mode = .returning) (hn : fr.kind = .normal) (hd : fr.defers = []) (hf : P.funcs[fr.fn]? = some fn) (hr : (results fn fr.tmps).run P w = .ok v w) (he : (results fn fr.tmps).events P w #[] = #[]) (hi : P.inits.idxOf? fr.fn = none) :
    stepG P true (G fr []) w = .ended (.done v) w #[] := by
  simp [G, stepG, unwind, doReturn, hm, hd, hn, hf, hr, he, hi, GStep.after, seen_none]
theorem run_claim {f : FuncId} {fn : Func} {args : Array Value} {W : World} {Post : Value → World → Prop} {v : Value} {t : Tmp} (hf : Try.prog.funcs[f]? = some fn) (hres : fn.results = #[.tmp t]) (hi : Try.prog.inits.idxOf? f = none)
    (h : Runs (fun g w' => Closing f t v g ∧ (OsSame W w' → ∀ d, Post v (w'.at d))) (G (Frame.enter Try.prog f args .normal) []) W) :
    ∃ M last o w' t', runNT Try.prog (M + 1) (solo (G (Frame.enter Try.prog f args .normal) []) W) #[] = (.ended o w', t') ∧ runN Try.prog M (solo (G (Frame.enter Try.prog f args .normal) []) W) = .next last ∧ step Try.prog last = .ended o w' ∧ Go.Conc.Good Try.prog Post last o w' t' := by
  rw [solo_eq_crowd]
  have A0 := at_begin (P := Try.prog) (gs := #[G (Frame.enter Try.prog f args .normal) []]) (a := G (Frame.enter Try.prog f args .normal) []) (sl := none) (w := W) rfl (leavers_one Try.prog _) past_nil
  obtain ⟨N1, m1, T1, r1, ⟨nG, g1, w1, _, ⟨⟨fr, rfl, hm, hn, hd, hfn, hv⟩, hP⟩, A1⟩, ho⟩ := h 1 _ _ (Nat.le_refl _) A0
  obtain ⟨gs, sl, q, B, rfl, _, hg0, hL, hPast⟩ := A1.ends (fun _ => rfl)
  have hP := hP ho
  have hs : ∀ d, stepG Try.prog true (G fr []) (w1.at d) = .ended (.done v) (w1.at d) #[] := fun d =>
    stepG_done hm hn hd (by rw [hfn]; exact hf) (by rw [results_tmp hres, hv]) (events_results_tmp hres _ _) (by rw [hfn]; exact hi)
  have hG : Goes Try.prog true AtRel (fun _ _ es => ∀ e ∈ es, EvL (fun _ => False) B e) (AtEnd Try.prog (fun _ => False) B Post) 0 (G fr []) w1 := by
    rintro _ ⟨d, rfl⟩
    exact ⟨rfl, v, #[], hs d, by simp, hP d⟩
  obtain ⟨M8, last, o, w', t', e1, e2, e3, e4⟩ := beside_ends (P := Try.prog) (Post := Post) (sl := sl) (fun _ _ _ h => h) hg0 hL hPast hG
  refine ⟨N1 + M8, last, o, w', t', ?_, ?_, e3, e4⟩
  · rw [Nat.add_assoc, runNT_add, r1]; exact e1
  · rw [runN_add, ← runNT_fst Try.prog _ _ #[], r1]; exact e2
theorem Walk.finish {P : Program} {main : Bool} {D : World → World → Array Event → Prop} {Stop : Goroutine → World → Prop} {w : World} {b : Frame} {a : Act} {k : List Item} {cs : List Frame} {ops : Array Oper} {i : Nat} {rest : List Nat} {o : Oper} {v : Value} (ho : ops[i]? = some o)
    (h : Walk P main D Stop (G (b.at (a.put o.dst v) (.inRegion ops rest :: k)) cs) w) : Walk P main D Stop (G ((b.at a (.inRegion ops (i :: rest) :: k)).finish v) cs) w := by
  rw [Frame.finish_at, ho]
  exact h
end Go.Proofs.Ytgiiicdpbdfemaa
end

section
namespace Go.Proofs.Ytgiiicdpbdfemaa
open Go.Conc Go.RowKit Go.Relay
open Go.ConcN (upd upd_ne upd_same)
variable {main : Bool} {V : Nat → Option Wait}
theorem slots_walk {P : Program} {D : World → World → Array Event → Prop} {Stop : Goroutine → World → Prop} {b : Frame} {A : Array Value} {todo : List Item} {cs : List Frame} {w : World} {F : (Nat → Value) → Goroutine} (h : ∀ u, Walk P main D Stop (F u) w) (e : G (b.at ⟨A, []⟩ todo) cs = F (fun k => A.getD k undef)) : Walk P main D Stop (G (b.at ⟨A, []⟩ todo) cs) w := e ▸ h _
def badW (steps after : Int) : Bool := decide (0 ≤ after) && decide (after ≤ steps)
def numW (steps after : Int) : Int := if badW steps after then after else steps
end Go.Proofs.Ytgiiicdpbdfemaa
end

section
namespace Go.Proofs.Ytgiiicdpbdfemaa
open Go.Conc Go.RowKit Go.Relay
open Go.ConcN (upd upd_ne upd_same)
variable {main : Bool} {V : Nat → Option Wait}
def NumsAt (a : Option Addr) (n : Nat) (f : Nat → Int) (w : World) : Prop := ∀ i, i < n → ∃ b o, a = some ⟨b, o, none⟩ ∧ w.cell? ⟨b, o + i, none⟩ = some (.int .i64 (f i))
end Go.Proofs.Ytgiiicdpbdfemaa
end

section
namespace Go.Proofs.Ytgiiicdpbdfemaa
open Go.Conc Go.RowKit Go.Relay
open Go.ConcN (upd upd_ne upd_same)
variable {main : Bool} {V : Nat → Option Wait}
noncomputable def reg57_1 : Array Oper := match Try.f57.body with | some (.seq (.seq _ (.block _ (.loop (.seq (.seq (.region _ ops _) _) _)))) _) => ops | _ => #[]
noncomputable def reg57_3 : Array Oper := match Try.f57.body with | some (.seq (.seq _ (.block _ (.loop (.seq _ (.seq (.block _ (.seq (.seq (.region _ ops _) _) _)) _))))) _) => ops | _ => #[]
noncomputable def reg57_4 : Array Oper := match Try.f57.body with | some (.seq (.seq _ (.block _ (.loop (.seq _ (.seq (.block _ (.seq (.seq _ (.cond _ (.region _ ops _) _)) _)) _))))) _) => ops | _ => #[]
noncomputable def reg57_5 : Array Oper := match Try.f57.body with | some (.seq (.seq _ (.block _ (.loop (.seq _ (.seq (.block _ (.seq _ (.seq (.region _ ops _) _))) _))))) _) => ops | _ => #[]
noncomputable def reg57_6 : Array Oper := match Try.f57.body with | some (.seq (.seq _ (.block _ (.loop (.seq _ (.seq (.block _ (.seq _ (.seq _ (.cond _ (.seq (.region _ ops _) _) _)))) _))))) _) => ops | _ => #[]
noncomputable def reg57_7 : Array Oper := match Try.f57.body with | some (.seq (.seq _ (.block _ (.loop (.seq _ (.seq (.block _ (.seq _ (.seq _ (.cond _ (.seq _ (.region _ ops _)) _)))) _))))) _) => ops | _ => #[]
noncomputable def reg57_2 : Array Oper := match Try.f57.body with | some (.seq (.seq _ (.block _ (.loop (.seq _ (.seq _ (.region _ ops _)))))) _) => ops | _ => #[]
noncomputable def reg57_8 : Array Oper := match Try.f57.body with | some (.seq _ (.seq (.region _ ops _) _)) => ops | _ => #[]
noncomputable def reg57_9 : Array Oper := match Try.f57.body with | some (.seq _ (.seq _ (.cond _ (.region _ ops _) _))) => ops | _ => #[]
structure Note (V : Nat → Option Wait) (W B n0 : Nat) (n : Int) (la : Option Addr) (len cap : Nat) (xs : List Value) (w : World) : Prop where
  w0 : w.cell? ⟨W, 0, none⟩ = some (.pointer (some ⟨B, 0, none⟩))
  w1 : w.cell? ⟨W, 1, none⟩ = some (.int .i64 n)
  b0 : w.cell? ⟨B, 0, none⟩ = some (.slice la len cap)
  bz : w.frozen? ⟨B, 0, none⟩ = false
  row : w.ownsRow n0 3 1 (.slice la len cap) len xs
  free : Free V ⟨B, 0, none⟩
  ap : ∀ g, (Value.slice la len cap).ownBlock = some g → Apart V g
  rW : (Value.slice la len cap).ownBlock ≠ some W
  rB : (Value.slice la len cap).ownBlock ≠ some B
  len : len ≤ 1099511627776
  base : n0 ≤ w.heap.size
structure Noted (n0 : Nat) (n : Int) (la : Option Addr) (len cap : Nat) (xs : List Value) (w : World) (g cap' : Nat) (w3 : World) : Prop where
  row : w3.ownsRow n0 3 1 (.slice (some ⟨g, 0, none⟩) (len + 1) cap') (len + 1) (xs ++ [.int .i64 n])
  grown : (w.alloc (.cells #[.int .i64 n] 3)).grownBy w3 (Value.slice la len cap).ownBlock
  at_ : (Value.slice la len cap).ownBlock = some g ∨ g = (w.alloc (.cells #[.int .i64 n] 3)).heap.size
  lt : g < w3.heap.size
def Ph57 (B n0 : Nat) (n : Int) (la : Option Addr) (len cap : Nat) (xs : List Value) (w : World) (f15 f16 f19 : Bool) (v : Value) (w' : World) : Prop :=
  (f15 = false ∧ f16 = false ∧ f19 = false ∧ ∃ d, w' = w.at d) ∨
  (f15 = true ∧ f16 = false ∧ f19 = false ∧ ∃ d, w' = (w.alloc (.cells #[.int .i64 n] 3)).at d) ∨
  (f16 = true ∧ f15 = true ∧ f19 = false ∧ ∃ g cap' w3 d, Noted n0 n la len cap xs w g cap' w3 ∧ v = .slice (some ⟨g, 0, none⟩) (len + 1) cap' ∧ w' = w3.at d) ∨
  (f19 = true ∧ f15 = true ∧ f16 = true ∧ ∃ g cap' w3 d, Noted n0 n la len cap xs w g cap' w3 ∧ w' = (w3.setCell ⟨B, 0, none⟩ (.slice (some ⟨g, 0, none⟩) (len + 1) cap')).at d)
section
variable {W B n0 : Nat} {n : Int} {la : Option Addr} {len cap : Nat} {xs : List Value} {w : World}
theorem Note.keep (H : Note V W B n0 n la len cap xs w) {g cap' : Nat} {w3 : World} (A : Noted n0 n la len cap xs w g cap' w3) {b : Nat} (hb : b < w.heap.size) (hne : (Value.slice la len cap).ownBlock ≠ some b) : w3.heap[b]? = w.heap[b]? := by
  have hs1 : (w.alloc (.cells #[.int .i64 n] 3)).heap.size = w.heap.size + 1 := by simp
  have := H.base
  exact (A.grown.block b (by omega) (fun e => hne e.symm)).trans (heap_new_lt w _ hb)
theorem Note.grown (H : Note V W B n0 n la len cap xs w) {g cap' : Nat} {w3 : World} (A : Noted n0 n la len cap xs w g cap' w3) : w3.cell? ⟨W, 0, none⟩ = some (.pointer (some ⟨B, 0, none⟩)) ∧ w3.cell? ⟨W, 1, none⟩ = some (.int .i64 n) ∧ w3.cell? ⟨B, 0, none⟩ = some (.slice la len cap) ∧ w3.frozen? ⟨B, 0, none⟩ = false := by
  have hW := H.keep A (cell_lt w H.w0) H.rW
  have hB := H.keep A (cell_lt w H.b0) H.rB
  refine ⟨(World.cell?_of_block (a := ⟨W, 0, none⟩) hW).trans H.w0, (World.cell?_of_block (a := ⟨W, 1, none⟩) hW).trans H.w1, (World.cell?_of_block (a := ⟨B, 0, none⟩) hB).trans H.b0, ?_⟩
  have := H.bz
  unfold World.frozen? at this ⊢
  rw [hB]; exact this
theorem Note.reads (H : Note V W B n0 n la len cap xs w) {f15 f16 f19 : Bool} {v : Value} {w' : World} (hp : Ph57 B n0 n la len cap xs w f15 f16 f19 v w') (h19 : f19 ≠ true) : w'.cell? ⟨W, 0, none⟩ = some (.pointer (some ⟨B, 0, none⟩)) ∧ w'.cell? ⟨W, 1, none⟩ = some (.int .i64 n) ∧ w'.cell? ⟨B, 0, none⟩ = some (.slice la len cap) := by
  rcases hp with ⟨_, _, _, d, rfl⟩ | ⟨_, _, _, d, rfl⟩ | ⟨_, _, _, g, cap', w3, d, A, _, rfl⟩ | ⟨h, _⟩
  · exact ⟨H.w0, H.w1, H.b0⟩
  · exact ⟨old_cell (⟨by simp, fun _ hb => heap_new_lt w _ hb⟩) H.w0, old_cell (⟨by simp, fun _ hb => heap_new_lt w _ hb⟩) H.w1, old_cell (⟨by simp, fun _ hb => heap_new_lt w _ hb⟩) H.b0⟩
  · exact ⟨(H.grown A).1, (H.grown A).2.1, (H.grown A).2.2.1⟩
  · exact absurd h h19
end
end Go.Proofs.Ytgiiicdpbdfemaa
end

section
namespace Go.Proofs.Ytgiiicdpbdfemaa
open Go.Conc Go.RowKit Go.Relay
open Go.ConcN (upd upd_ne upd_same)
variable {main : Bool} {V : Nat → Option Wait}
noncomputable def at57 (W : Nat) (S : Value) (i : Int) (u : Nat → Value) : Act := ⟨#[.pointer (some ⟨W, 0, none⟩), S, u 2, u 3, .int .i64 i, u 5, u 6, u 7, u 8, u 9, u 10, u 11, u 12, u 13, u 14, u 15, u 16, u 17, u 18, u 19, u 20, u 21, u 22, u 23, u 24, u 25, u 26, u 27, u 28, S, u 30, u 31, u 32, u 33, u 34, u 35, u 36, u 37, u 38, u 39, u 40, u 41, u 42, u 43, u 44, u 45, u 46, u 47, u 48, u 49, u 50, u 51, u 52, u 53, u 54, u 55, u 56, u 57, u 58, u 59, u 60, u 61, u 62, u 63, u 64, u 65, u 66], []⟩
noncomputable def todo57 : List Item := [.code (.seq (.seq (.region 1 reg57_1 false) (.cond (.tmp 10 ) (.skip) (.exit 0))) (.seq (.block 1 (.seq (.seq (.region 3 reg57_3 false) (.cond (.tmp 18 ) (.region 4 reg57_4 false) (.skip))) (.seq (.region 5 reg57_5 false) (.cond (.tmp 28 ) (.seq (.region 6 reg57_6 false) (.region 7 reg57_7 true)) (.skip))))) (.region 2 reg57_2 false))), .inLoop (.seq (.seq (.region 1 reg57_1 false) (.cond (.tmp 10 ) (.skip) (.exit 0))) (.seq (.block 1 (.seq (.seq (.region 3 reg57_3 false) (.cond (.tmp 18 ) (.region 4 reg57_4 false) (.skip))) (.seq (.region 5 reg57_5 false) (.cond (.tmp 28 ) (.seq (.region 6 reg57_6 false) (.region 7 reg57_7 true)) (.skip))))) (.region 2 reg57_2 false))), .inBlock 0, .code (.seq (.region 8 reg57_8 true) (.cond (.tmp 58 ) (.region 9 reg57_9 false) (.skip)))]
noncomputable def k57 : List Item := [.code (.region 7 reg57_7 true), .inBlock 1, .code (.region 2 reg57_2 false)] ++ todo57.drop 1
end Go.Proofs.Ytgiiicdpbdfemaa
end

section
namespace Go.Proofs.Ytgiiicdpbdfemaa
open Go.Conc Go.RowKit Go.Relay
open Go.ConcN (upd upd_ne upd_same)
structure Wlk where
  nl : Nat → Bool
  st : Nat → Int
  af : Nat → Int
structure WG where
  n : Nat
  B : Nat
  W : Nat → Nat
  s : Wlk
  ro : Nat → Option Obj
structure WX where
  dn : Nat → Nat
  out : Nat → Option Bool
  cnt : Nat
  list : List Nat
inductive WR where
  | wk (i : Nat)
  | bd
  | bl
  | ro
structure WInv (g : WG) (S : Stile) (h : Option Nat) (k : Nat) (o : Nat → Option Role) (x : WX) (cs : Nat → List Frame) (w : World) (κ : Nat → Option WR) (la : Option Addr) (cap : Nat) (us : Nat → Nat → Value) : Prop where
  lt : ∀ b r, κ b = some r → o b = none ∧ b < w.heap.size
  n : S.n = g.n
  wk : ∀ i, i < g.n → g.s.nl i = false → w.heap[g.W i]? = some (.cells #[.pointer (some ⟨g.B, 0, none⟩), .int .i64 i, .int .i64 (g.s.st i), .int .i64 (g.s.af i)] 127)
  bd : w.heap[g.B]? = some (.cells #[.slice la x.list.length cap] 49)
  row : w.ownsRow 0 3 1 (.slice la x.list.length cap) x.list.length (x.list.map fun i => .int .i64 (i : Nat))
  rW : ∀ i, i < g.n → g.s.nl i = false → κ (g.W i) = some (.wk i)
  rB : κ g.B = some .bd
  rL : ∀ b, (Value.slice la x.list.length cap).ownBlock = some b → κ b = some .bl
  rT : κ S.tb = some .ro
  tb : ∀ i, i < g.n → w.cell? ⟨S.tb, i, none⟩ = some (S.F i)
  sch : ∀ (j : Nat) (z : Int), S.sl[j]? = some z → ∃ s so, S.sa = some ⟨s, so, none⟩ ∧ κ s = some .ro ∧ w.cell? ⟨s, so + j, none⟩ = some (.int .i64 z)
  F : ∀ i, i < g.n → S.F i = if g.s.nl i then .nilFunc else .func (.func 57) #[.pointer (some ⟨g.W i, 0, none⟩)] #[]
  st0 : ∀ i, 0 ≤ g.s.st i ∧ g.s.st i < 32
  len : x.list.length = x.cnt
  stands : ∀ i, h ≠ some i → i < k → i < g.n → x.out i = none → g.s.nl i = false ∧ (x.dn i : Int) < numW (g.s.st i) (g.s.af i) ∧
    cs i = [(base 57).at (at57 (g.W i) (.iface 161 (.pointer (some ⟨S.p i, 0, none⟩))) (x.dn i) (us i)) (.inRegion reg57_6 [1] :: k57)]
  fresh : ∀ i, k ≤ i → h ≠ some i → x.dn i = 0
  kn : k ≤ g.n
  rr : ∀ b ob, g.ro b = some ob → κ b = some .ro ∧ w.heap[b]? = some ob
section
variable {V : Nat → Option Wait} {g : WG} {S : Stile} {h : Option Nat} {k : Nat} {o : Nat → Option Role} {x : WX} {cs : Nat → List Frame} {w : World} {κ : Nat → Option WR} {la : Option Addr} {cap : Nat} {us : Nat → Nat → Value}
theorem WInv.two (_ : WInv g S h k o x cs w κ la cap us) {b b' : Nat} {r r' : WR} (h : κ b = some r) (h' : κ b' = some r') (hr : r ≠ r') : b ≠ b' := by
  rintro rfl
  rw [h] at h'
  exact hr (Option.some.inj h')
theorem WInv.at (P : WInv g S h k o x cs w κ la cap us) (d : Nat) : WInv g S h k o x cs (w.at d) κ la cap us :=
  ⟨P.lt, P.n, P.wk, P.bd, P.row, P.rW, P.rB, P.rL, P.rT, P.tb, P.sch, P.F, P.st0, P.len, P.stands, P.fresh, P.kn, P.rr⟩
end
end Go.Proofs.Ytgiiicdpbdfemaa
end

section
namespace Go.Proofs.Ytgiiicdpbdfemaa
open Go.ConcN (sumTo sumTo_le upd sumTo_upd upd_ne upd_same)
structure PW (s : Wlk) (n : Nat) (st : WX × List Nat) : Prop where
  list : st.1.list = st.2
  run : ∀ i, i < n → st.1.out i = none → s.nl i = false ∧ (st.1.dn i : Int) < numW (s.st i) (s.af i)
  le : ∀ i, i < n → st.1.dn i ≤ 31
  len : st.2.length = sumTo n st.1.dn
  lt : ∀ i, i ∈ st.2 → i < n
section
variable {s : Wlk} {n : Nat}
theorem PW.short {st : WX × List Nat} (P : PW s n st) (hn : n ≤ 64) : st.2.length ≤ 1984 := by
  have := sumTo_le (f := st.1.dn) (c := 31) (j := n) P.le
  have := P.len
  omega
end
end Go.Proofs.Ytgiiicdpbdfemaa
end

section
namespace Go.Proofs.Ytgiiicdpbdfemaa
open Go.Conc Go.RowKit Go.Relay
open Go.ConcN (upd upd_ne upd_same)
variable {main : Bool} {V : Nat → Option Wait}
def wkr (B i : Nat) (st af : Int) : Array Value := #[.pointer (some ⟨B, 0, none⟩), .int .i64 i, .int .i64 (st % 32), .int .i64 af]
def thrV (W : Nat) : Value := .func (.func 57) #[.pointer (some ⟨W, 0, none⟩)] #[]
end Go.Proofs.Ytgiiicdpbdfemaa
end

section
namespace Go.Proofs.Ytgiiicdpbdfemaa
open Go.Conc Go.RowKit Go.Relay
open Go.ConcN (upd upd_ne upd_same)
def WalksAt (a : Option Addr) (n : Nat) (st af : Nat → Int) (nl : Nat → Bool) (w : World) : Prop := ∀ i, i < n → ∃ b o, a = some ⟨b, o, none⟩ ∧ w.cell? ⟨b, o + i * 3, none⟩ = some (.int .i64 (st i)) ∧ w.cell? ⟨b, o + i * 3 + 1, none⟩ = some (.int .i64 (af i)) ∧ w.cell? ⟨b, o + i * 3 + 2, none⟩ = some (.bool (nl i))
theorem WalksAt.old {a : Option Addr} {n : Nat} {st af : Nat → Int} {nl : Nat → Bool} {w w' : World} (h : WalksAt a n st af nl w) (O : Old w w') : WalksAt a n st af nl w' := fun i hi => by
  obtain ⟨b, o, e, h1, h2, h3⟩ := h i hi
  exact ⟨b, o, e, old_cell O h1, old_cell O h2, old_cell O h3⟩
def thrOf (nl : Nat → Bool) (W : Nat → Nat) (i : Nat) : Value := if nl i then .nilFunc else thrV (W i)
structure Mde (B : Nat) (st af : Nat → Int) (nl : Nat → Bool) (w0 w : World) (oa : Option Addr) (oc i : Nat) (W : Nat → Nat) : Prop where
  old : Old w0 w
  row : w.ownsRow w0.heap.size 67 1 (.slice oa i oc) i ((List.range i).map (thrOf nl W))
  wk : ∀ j, j < i → nl j = false → w.heap[W j]? = some (.cells (wkr B j (st j) (af j)) 127) ∧ w0.heap.size ≤ W j
  inj : ∀ j k, j < i → k < i → nl j = false → nl k = false → W j = W k → j = k
  z : i = 0 → oa = none ∧ oc = 0
theorem Mde.ne {B : Nat} {st af : Nat → Int} {nl : Nat → Bool} {w0 w : World} {oa : Option Addr} {oc i : Nat} {W : Nat → Nat} (M : Mde B st af nl w0 w oa oc i W) {j b : Nat} (hj : j < i) (hn : nl j = false) (hb : (Value.slice oa i oc).ownBlock = some b) : W j ≠ b := by
  rintro rfl
  obtain ⟨_, _, cur, h⟩ := row_at M.row hb
  rw [(M.wk j hj hn).1] at h
  injection h with h
  injection h with _ h _
  cases h
end Go.Proofs.Ytgiiicdpbdfemaa
end

section
namespace Go.Proofs.Ytgiiicdpbdfemaa
open Go.Conc Go.RowKit Go.Relay
open Go.ConcN (upd upd_ne upd_same)
def numbs (l : List Nat) : List Value := l.map fun i => .int .i64 (i : Nat)
section
variable {B : Nat} {st af : Nat → Int} {nl : Nat → Bool}
theorem Mde.grow {w0 w w' : World} {oa : Option Addr} {oc i : Nat} {W : Nat → Nat} (M : Mde B st af nl w0 w oa oc i W) (O : Old w w') : Mde B st af nl w0 w' oa oc i W :=
  ⟨M.old.trans O, row_same M.row fun g hg => O.same g (row_at M.row hg).2.1, fun j hj hn => ⟨(O.same _ (Array.getElem?_eq_some_iff.1 (M.wk j hj hn).1).1).trans (M.wk j hj hn).1, (M.wk j hj hn).2⟩, M.inj, M.z⟩
end
theorem numb_get {l : List Nat} {i x : Nat} (h : l[i]? = some x) : (numbs l)[i]? = some (.int .i64 (x : Nat)) := by
  unfold numbs
  rw [List.getElem?_map, h]; rfl
theorem nums_row {w : World} {base : Nat} {a : Option Addr} {n cap X : Nat} {l : List Nat} (h : w.ownsRow base 3 1 (.slice a n cap) n (numbs l)) (f : Nat → Int) (hX : ∀ i, i < X → ∃ x : Nat, l[i]? = some x ∧ f i = x) : NumsAt a X f w := fun i hi => by
  obtain ⟨x, hx, hf⟩ := hX i hi
  obtain ⟨g, cap', e, _, _, _, hc⟩ := row_cell h (numb_get hx)
  injection e with e _ _
  rw [hf]
  exact ⟨g, 0, e, by rw [Nat.zero_add]; exact hc⟩
end Go.Proofs.Ytgiiicdpbdfemaa
end

section
namespace Go.Proofs.Ytgiiicdpbdfemaa
open Go.Conc Go.RowKit Go.Relay
section
variable {P : Program}
theorem eqIn_bool (d : Nat) (t : TypeId) (x y : Bool) (w : World) (es : Array Event) (hu : P.underlying t = some .bool) : (Op.equalIn (d + 1) t (.bool x) (.bool y)).run P w = .ok (x == y) w ∧ (Op.equalIn (d + 1) t (.bool x) (.bool y)).events P w es = es := by
  constructor <;> simp [Op.equalIn, run_underlying hu]
theorem run_neq_bool (t : TypeId) (hu : P.underlying t = some .bool) (x y : Bool) (w : World) : (binOp .neq t (.bool x) (.bool y)).run P w = .ok (.bool (x != y)) w := by
  simp only [binOp]
  simp [Op.equal, Op.maxDepth, (eqIn_bool 9999 t x y w #[] hu).1, bne]
theorem ev_neq_bool (t : TypeId) (hu : P.underlying t = some .bool) (x y : Bool) (w : World) (es : Array Event) : (binOp .neq t (.bool x) (.bool y)).events P w es = es := by
  simp only [binOp]
  simp [Op.equal, Op.maxDepth, (eqIn_bool 9999 t x y w #[] hu).1, (eqIn_bool 9999 t x y w es hu).2]
end
theorem und4 : Try.prog.underlying 4 = some .bool := by kernel_rfl
end Go.Proofs.Ytgiiicdpbdfemaa
end

section
namespace Go.Relay
open Go.Conc Go.RowKit
section
variable {P : Program} {main : Bool} {V : Nat → Option Wait} {Stop : Goroutine → World → Prop} {w : World} {b : Frame} {a : Act} {k : List Item} {cs : List Frame} {ops : Array Oper} {i : Nat} {rest : List Nat} {o : Oper}
theorem Walk.appendAny (s x : Operand) (t : TypeId) (ho : ops[i]? = some o) (hw : Region.wanted o (yielded ops a.tmps) = true) (hk : b.kind ≠ .early) (hop : o.op = .call { callee := .builtin .append, args := #[s, x], argTypes := #[t, t] })
    (base : Nat) (e : TypeId) (ti : TypeInfo) (z : Value) (size bytes : Nat) (ht : P.underlying t = some (.slice e)) (hi : P.info? e = some ti) (hz : ti.zero = some z) (hsize : ti.size = size) (hby : ti.bytes = bytes) (hzs : z.cells.size = size) (hsz : 0 < size)
    (v : Value) (n : Nat) (xs : List Value) (hs : a.eval s = v) (hown : w.ownsRow base e size v n xs)
    (ad : Addr) (m c : Nat) (news : List Value) (hx : a.eval x = .slice (some ad) m c) (hl : news.length = m * size) (hnews : ∀ j u, news[j]? = some u → w.cell? (ad.add j) = some u) (h1 : ∀ u ∈ news, u.oneCell' = true)
    (h63 : n + m ≤ maxLen) (hbytes : (n + m) * bytes ≤ 140737488355328) (hbase : base ≤ w.heap.size) (hap : ∀ g, v.ownBlock = some g → Apart V g)
    (h : ∀ v' w', w'.ownsRow base e size v' (n + m) (xs ++ news) → w.grownBy w' v.ownBlock → (v'.ownBlock = v.ownBlock ∨ v'.ownBlock = some w.heap.size) → Walk P main (DR V) Stop (G (b.at (a.put o.dst v') (.inRegion ops rest :: k)) cs) w') :
    Walk P main (DR V) Stop (G (b.at a (.inRegion ops (i :: rest) :: k)) cs) w := by
  refine Walk.go rfl fun d => goes_oper_k ho hw hk fun K hK => ?_
  obtain ⟨v', w', hr, hown', hg, _, hat⟩ := run_append_own_at (P := P) (w.at d) base t o.type e ti z size bytes ht hi hz hsize hby hzs hsz v n xs hown ad m c news hl hnews h1 h63 hbytes hbase
  refine uponK_append s x t hop hs hx hr (hK _ _ ⟨DR.grown hg hap fun ev hev => ?_, h v' w' hown' ⟨hg.os, hg.tape, hg.output, hg.size, hg.block⟩ hat⟩)
  have hm' := mem_listed hev
  rw [events_append_op s x t hop hs hx] at hm'
  rcases events_append_own (w.at d) base t o.type e ti z size bytes ht hi hz hsize hby v n xs hown ad m c news hl hnews h1 h63 hbytes ev hm' with h' | ⟨ad', h', hb⟩ | ⟨mk, h', hn⟩
  · exact evR_isRead h'
  · exact evR_cell h' ((hap _ hb.symm).1 ad' rfl)
  · rw [h', show mk = .noRoom from hn]; exact evR_noRoom
theorem events_append_owned_none (w : World) (base : Nat) (t ty e : TypeId) (ti : TypeInfo) (size : Nat) (ht : P.underlying t = some (.slice e)) (hi : P.info? e = some ti) (v : Value) (n : Nat) (xs : List Value) (hown : w.ownsRow base e size v n xs) (es : Array Event) :
    (Builtin.append_ #[t, t] ty #[v, .slice none 0 0]).events P w es = es := by
  rcases hown.2 with ⟨rfl, rfl⟩ | ⟨g, cap, cur, rfl, _, _, hnc, _⟩
  · simp [Builtin.append_, run_underlying ht, sizeOf, typeInfo, hi, Builtin.lenOf, Builtin.firstCells]
  · simp [Builtin.append_, run_underlying ht, sizeOf, typeInfo, hi, Builtin.lenOf, Builtin.firstCells, hnc, storeCells]
theorem Walk.appendNone (s x : Operand) (t : TypeId) (ho : ops[i]? = some o) (hw : Region.wanted o (yielded ops a.tmps) = true) (hk : b.kind ≠ .early) (hop : o.op = .call { callee := .builtin .append, args := #[s, x], argTypes := #[t, t] })
    (base : Nat) (e : TypeId) (ti : TypeInfo) (size : Nat) (ht : P.underlying t = some (.slice e)) (hi : P.info? e = some ti)
    (v : Value) (n : Nat) (xs : List Value) (hs : a.eval s = v) (hown : w.ownsRow base e size v n xs) (hx : a.eval x = .slice none 0 0)
    (h : Walk P main (DR V) Stop (G (b.at (a.put o.dst v) (.inRegion ops rest :: k)) cs) w) :
    Walk P main (DR V) Stop (G (b.at a (.inRegion ops (i :: rest) :: k)) cs) w := by
  refine Walk.go rfl fun d => goes_oper_k ho hw hk fun K hK => ?_
  have hr := run_append_owned_none (P := P) (w := w.at d) base t o.type e ti size ht hi v n xs hown
  refine uponK_append s x t hop hs hx hr (hK _ _ ⟨⟨fun i v e hK => hK, fun i v o e ho _ => ho, fun ev hev => ?_, OsSame.refl _⟩, h.back d⟩)
  have hm' := mem_listed hev
  rw [events_append_op s x t hop hs hx, events_append_owned_none (w.at d) base t o.type e ti size ht hi v n xs hown] at hm'
  simp at hm'
theorem Walk.appendSl (s x : Operand) (t : TypeId) (ho : ops[i]? = some o) (hw : Region.wanted o (yielded ops a.tmps) = true) (hk : b.kind ≠ .early) (hop : o.op = .call { callee := .builtin .append, args := #[s, x], argTypes := #[t, t] })
    (base : Nat) (e : TypeId) (ti : TypeInfo) (z : Value) (size bytes : Nat) (ht : P.underlying t = some (.slice e)) (hi : P.info? e = some ti) (hz : ti.zero = some z) (hsize : ti.size = size) (hby : ti.bytes = bytes) (hzs : z.cells.size = size) (hsz : 0 < size)
    (v : Value) (n : Nat) (xs : List Value) (hs : a.eval s = v) (hown : w.ownsRow base e size v n xs)
    (xa : Option Addr) (m c : Nat) (news : List Value) (hx : a.eval x = .slice xa m c) (hnil : xa = none → m = 0 ∧ c = 0) (hl : news.length = m * size) (hnews : ∀ ad, xa = some ad → ∀ j u, news[j]? = some u → w.cell? (ad.add j) = some u) (h1 : ∀ u ∈ news, u.oneCell' = true)
    (h63 : n + m ≤ maxLen) (hbytes : (n + m) * bytes ≤ 140737488355328) (hbase : base ≤ w.heap.size) (hap : ∀ g, v.ownBlock = some g → Apart V g)
    (h : ∀ v' w', w'.ownsRow base e size v' (n + m) (xs ++ news) → w.grownBy w' v.ownBlock → (v'.ownBlock = v.ownBlock ∨ v'.ownBlock = some w.heap.size) → Walk P main (DR V) Stop (G (b.at (a.put o.dst v') (.inRegion ops rest :: k)) cs) w') :
    Walk P main (DR V) Stop (G (b.at a (.inRegion ops (i :: rest) :: k)) cs) w := by
  cases xa with
  | none =>
    obtain ⟨rfl, rfl⟩ := hnil rfl
    have hn : news = [] := List.eq_nil_of_length_eq_zero (by simpa using hl)
    subst hn
    refine Walk.appendNone s x t ho hw hk hop base e ti size ht hi v n xs hs hown hx (h v w ?_ ⟨rfl, rfl, rfl, Nat.le_refl _, fun _ _ _ => rfl⟩ (.inl rfl))
    rw [Nat.add_zero, List.append_nil]; exact hown
  | some ad => exact Walk.appendAny s x t ho hw hk hop base e ti z size bytes ht hi hz hsize hby hzs hsz v n xs hs hown ad m c news hx hl (hnews ad rfl) h1 h63 hbytes hbase hap h
theorem row_shape {w : World} {base : Nat} {e : TypeId} {size : Nat} {v : Value} {n : Nat} {xs : List Value} (h : w.ownsRow base e size v n xs) : ∃ a cap, v = .slice a n cap := by
  rcases h.2 with ⟨rfl, rfl⟩ | ⟨g, cap, cur, rfl, _⟩
  · exact ⟨none, 0, rfl⟩
  · exact ⟨_, _, rfl⟩
end
end Go.Relay
end

section
namespace Go.Proofs.Ytgiiicdpbdfemaa
open Go.Conc Go.RowKit Go.Relay
open Go.ConcN (upd upd_ne upd_same)
theorem Mde.at' {B : Nat} {st af : Nat → Int} {nl : Nat → Bool} {w0 w : World} {oa : Option Addr} {oc i : Nat} {W : Nat → Nat} (M : Mde B st af nl w0 w oa oc i W) (d : Nat) : Mde B st af nl w0 (w.at d) oa oc i W := ⟨⟨M.old.size, M.old.same⟩, M.row, M.wk, M.inj, M.z⟩
def ints (l : List Int) : List Value := l.map fun z => .int .i64 z
theorem ints_get {l : List Int} {j : Nat} {z : Int} (h : l[j]? = some z) : (ints l)[j]? = some (.int .i64 z) := by
  unfold ints
  rw [List.getElem?_map, h]; rfl
end Go.Proofs.Ytgiiicdpbdfemaa
end

section
namespace Go.Relay
open Go.Conc Go.RowKit
open Go.ConcN (upd upd_ne upd_same)
def waitsB (ops : Array Oper) (i j : Nat) : Bool := (ops[i]?).any fun o => o.after.any fun e => decide (e.on = j) && Region.binds .any e
def calmB (ops : Array Oper) (m : Nat) : Bool := decide (m ≤ ops.size) && (List.range m).all fun i => (ops[i]?).any fun o => (match o.op with | .select _ _ => false | _ => true) && o.dst.isSome &&
  (List.range ops.size).all fun j => decide (j = i) && !(o.looksAt ops).any (fun t => o.dst == some t) ||
    (ops[j]?).any fun p => (o.dst != p.dst) && (!(o.looksAt ops).any (fun t => p.dst == some t) || decide (j < i) && waitsB ops i j)
section
variable (P : Program) (main : Bool) (V : Nat → Option Wait) (ops : Array Oper) (Z : World → Prop)
def Cm (K : Act → Prop) : List Nat → Act → Prop
  | [], a => K a
  | i :: rest, a => ∃ o a', ops[i]? = some o ∧ Cm K rest a' ∧
    ((Region.wanted o (yielded ops a.tmps) = false ∧ a' = a.put o.dst undef) ∨
     (Region.wanted o (yielded ops a.tmps) = true ∧ (∀ w, Z w → ∀ d, ∀ e ∈ (execOp a.eval o).events P (w.at d) #[], EvR V e) ∧ ∀ w, Z w → ∀ d, uponK o a (fun x w' => x = a' ∧ w' = w.at d) ((execOp a.eval o).run P (w.at d))) ∨
     (Region.wanted o (yielded ops a.tmps) = true ∧ ∃ (f : FuncId) (fn : Func) (args : Array Operand) (ats : Array TypeId) (x : Value), o.op = .call { callee := .value (.func f), args, argTypes := ats } ∧ P.funcs[f]? = some fn ∧ (fn.name == "runtime.NumGoroutine") = false ∧ fn.body.isNone = false ∧
      (∀ w, Z w → CallV P main V f (args.map a.eval) w x w) ∧ a' = a.put o.dst x))
end
section
variable {P : Program} {main : Bool} {V : Nat → Option Wait} {ops : Array Oper} {Z : World → Prop} {w : World} {K : Act → Prop} {i : Nat} {rest : List Nat} {a : Act} {o : Oper}
theorem Cm.opq {a' : Act} (ho : ops[i]? = some o) (hw : Region.wanted o (yielded ops a.tmps) = true) (he : ∀ w, Z w → ∀ d, ∀ e ∈ (execOp a.eval o).events P (w.at d) #[], EvR V e)
    (h : ∀ w, Z w → ∀ d, ∀ K' : Act → World → Prop, K' a' (w.at d) → uponK o a K' ((execOp a.eval o).run P (w.at d))) (hn : Cm P main V ops Z K rest a') : Cm P main V ops Z K (i :: rest) a :=
  ⟨o, a', ho, hn, .inr (.inl ⟨hw, he, fun w hz d => h w hz d _ ⟨rfl, rfl⟩⟩)⟩
theorem Cm.opqA (ho : ops[i]? = some o) (hw : Region.wanted o (yielded ops a.tmps) = true) (he : ∀ d, ∀ e ∈ (execOp a.eval o).events P (w.at d) #[], EvR V e)
    (h : ∃ a', (∀ d, ∀ K' : Act → World → Prop, K' a' (w.at d) → uponK o a K' ((execOp a.eval o).run P (w.at d))) ∧ Cm P main V ops (· = w) K rest a') : Cm P main V ops (· = w) K (i :: rest) a := by
  obtain ⟨a', h1, h2⟩ := h
  exact Cm.opq ho hw (fun _ e => e ▸ he) (fun _ e => e ▸ h1) h2
theorem Cm.opqB {w1 : World} (ho : ops[i]? = some o) (hw : Region.wanted o (yielded ops a.tmps) = true) (he : ∀ d, ∀ e ∈ (execOp a.eval o).events P (w.at d) #[], EvR V e) (he' : ∀ d, ∀ e ∈ (execOp a.eval o).events P (w1.at d) #[], EvR V e)
    (h : ∃ a', (∀ d, ∀ K' : Act → World → Prop, K' a' (w.at d) → uponK o a K' ((execOp a.eval o).run P (w.at d))) ∧ (∀ d, ∀ K' : Act → World → Prop, K' a' (w1.at d) → uponK o a K' ((execOp a.eval o).run P (w1.at d))) ∧ Cm P main V ops (fun x => x = w ∨ x = w1) K rest a') : Cm P main V ops (fun x => x = w ∨ x = w1) K (i :: rest) a := by
  obtain ⟨a', h1, h1', h2⟩ := h
  refine Cm.opq ho hw (fun x e => ?_) (fun x e => ?_) h2
  · rcases e with rfl | rfl
    · exact he
    · exact he'
  · rcases e with rfl | rfl
    · exact h1
    · exact h1'
theorem Cm.unw (ho : ops[i]? = some o) (hw : Region.wanted o (yielded ops a.tmps) = false) (h : Cm P main V ops Z K rest (a.put o.dst undef)) : Cm P main V ops Z K (i :: rest) a :=
  ⟨o, _, ho, h, .inl ⟨hw, rfl⟩⟩
theorem Cm.callV {f : FuncId} {fn : Func} {args : Array Operand} {ats : Array TypeId} {x : Value} (hc : ∀ w, Z w → CallV P main V f (args.map a.eval) w x w) (ho : ops[i]? = some o) (hw : Region.wanted o (yielded ops a.tmps) = true) (hop : o.op = .call { callee := .value (.func f), args, argTypes := ats })
    (hf : P.funcs[f]? = some fn) (hname : (fn.name == "runtime.NumGoroutine") = false) (hb : fn.body.isNone = false) (h : Cm P main V ops Z K rest (a.put o.dst x)) : Cm P main V ops Z K (i :: rest) a :=
  ⟨o, _, ho, h, .inr (.inr ⟨hw, f, fn, args, ats, x, hop, hf, hname, hb, hc, rfl⟩)⟩
theorem Cm.loadS (t : TypeId) (x : Operand) (ho : ops[i]? = some o) (hw : Region.wanted o (yielded ops a.tmps) = true) (hop : o.op = .load t x) (g off : Nat) (vals : List Value) (d : TypeDesc) (hx : a.eval x = .pointer (some ⟨g, off, none⟩)) (hc : ∀ w, Z w → ∀ j v, vals[j]? = some v → w.cell? ⟨g, off + j, none⟩ = some v)
    (hu : P.underlying t = some d) (hd : (match d with | .struct _ | .array _ _ => true | _ => false) = true) (hi : (P.info? t).map (·.size) = some vals.length) (h : Cm P main V ops Z K rest (a.put o.dst (.agg vals.toArray))) : Cm P main V ops Z K (i :: rest) a := by
  refine Cm.opq ho hw (fun w hz dd e he => ?_) (fun w hz dd K hK => ?_) h
  · refine evR_isRead (events_loadVar_reads (P := P) (w.at dd) ⟨g, off, none⟩ t hu hd hi e ?_)
    unfold execOp at he
    simpa [hop, hx, Instr.loadAt, Instr.sureAddr, Sem.events_bind] using he
  · unfold execOp
    simp only [hop, hx, Instr.loadAt, Instr.sureAddr, Sem.run_bind, Sem.run_pure, Result.andThen_ok, run_loadVar_at (P := P) (w.at dd) g off t vals d (hc w hz) hu hd hi]
    exact hK
theorem Cm.done (h : K a) : Cm P main V ops Z K [] a := h
def putsL (ops : Array Oper) (vals : Nat → Value) (f : Nat → Bool) (l : List Nat) (a : Act) : Act := l.foldl (fun a j => if f j then a.put ((ops[j]?).bind (·.dst)) (vals j) else a) a
def puts (ops : Array Oper) (vals : Nat → Value) (f : Nat → Bool) (a : Act) : Act := putsL ops vals f (List.range ops.size) a
theorem put_defers (a : Act) (x : Option Tmp) (v : Value) : (a.put x v).defers = a.defers := by cases x <;> rfl
theorem put_size (a : Act) (x : Option Tmp) (v : Value) : (a.put x v).tmps.size = a.tmps.size := by cases x <;> simp [Act.put]
theorem put_slot (a : Act) (x : Option Tmp) (v : Value) (t : Nat) : (a.put x v).tmps[t]? = if x = some t then (a.tmps[t]?).map (fun _ => v) else a.tmps[t]? := by
  cases x with
  | none => rfl
  | some d =>
    simp only [Act.put, Option.some.injEq]
    by_cases e : d = t
    · subst e
      rw [if_pos rfl]
      by_cases hl : d < a.tmps.size
      · rw [Array.getElem?_setIfInBounds_self_of_lt hl, Array.getElem?_eq_getElem hl]; rfl
      · have h1 : (a.tmps.setIfInBounds d v)[d]? = none := Array.getElem?_eq_none (by simpa using hl)
        have h2 : a.tmps[d]? = none := Array.getElem?_eq_none (Nat.not_lt.1 hl)
        rw [h1, h2]; rfl
    · rw [if_neg e, Array.getElem?_setIfInBounds_ne e]
theorem putsL_defers (vals : Nat → Value) (f : Nat → Bool) : ∀ (l : List Nat) (a : Act), (putsL ops vals f l a).defers = a.defers
  | [], _ => rfl
  | j :: l, a => by
    show (putsL ops vals f l (if f j then a.put ((ops[j]?).bind (·.dst)) (vals j) else a)).defers = _
    rw [putsL_defers vals f l]
    split
    · exact put_defers _ _ _
    · rfl
theorem slot_congr {vals vals' : Nat → Value} {f f' : Nat → Bool} {t : Nat} : ∀ (l : List Nat) (a a' : Act), a.tmps[t]? = a'.tmps[t]? → (∀ j ∈ l, (ops[j]?).bind (·.dst) = some t → f j = f' j ∧ vals j = vals' j) → (putsL ops vals f l a).tmps[t]? = (putsL ops vals' f' l a').tmps[t]?
  | [], _, _, h, _ => h
  | j :: l, a, a', h, hf => by
    refine slot_congr l (if f j then a.put ((ops[j]?).bind (·.dst)) (vals j) else a) (if f' j then a'.put ((ops[j]?).bind (·.dst)) (vals' j) else a') ?_ fun k hk => hf k (List.mem_cons_of_mem _ hk)
    by_cases hd : (ops[j]?).bind (·.dst) = some t
    · obtain ⟨h1, h2⟩ := hf j (List.mem_cons_self ..) hd
      rw [h1, h2]
      split
      · rw [put_slot, put_slot, h]
      · exact h
    · have e : ∀ (x : Bool) (v : Value) (b : Act), (if x then b.put ((ops[j]?).bind (·.dst)) v else b).tmps[t]? = b.tmps[t]? := fun x v b => by
        cases x with
        | true => rw [if_pos rfl, put_slot, if_neg hd]
        | false => rfl
      rw [e, e]; exact h
theorem puts_congr {vals vals' : Nat → Value} {f f' : Nat → Bool} (h : ∀ j, j < ops.size → f j = f' j ∧ (f j = true → vals j = vals' j)) (a : Act) : puts ops vals f a = puts ops vals' f' a := by
  unfold puts
  have : ∀ (l : List Nat) (a : Act), (∀ j ∈ l, j < ops.size) → putsL ops vals f l a = putsL ops vals' f' l a := fun l => by
    induction l with
    | nil => intro a _; rfl
    | cons j l ih =>
      intro a hl
      obtain ⟨h1, h2⟩ := h j (hl j (List.mem_cons_self ..))
      have e : (if f j then a.put ((ops[j]?).bind (·.dst)) (vals j) else a) = (if f' j then a.put ((ops[j]?).bind (·.dst)) (vals' j) else a) := by
        rw [← h1]
        cases hf : f j with
        | true => rw [h2 hf]
        | false => rfl
      show putsL ops vals f l (if f j then a.put ((ops[j]?).bind (·.dst)) (vals j) else a) = putsL ops vals' f' l (if f' j then a.put ((ops[j]?).bind (·.dst)) (vals' j) else a)
      rw [e]
      exact ih _ fun k hk => hl k (List.mem_cons_of_mem _ hk)
  exact this _ a fun j hj => List.mem_range.1 hj
theorem putsL_none {vals : Nat → Value} {f : Nat → Bool} : ∀ (l : List Nat) (a : Act), (∀ j ∈ l, f j = false) → putsL ops vals f l a = a
  | [], _, _ => rfl
  | j :: l, a, h => by
    show putsL ops vals f l (if f j then _ else a) = a
    rw [h j (List.mem_cons_self ..)]
    exact putsL_none l a fun k hk => h k (List.mem_cons_of_mem _ hk)
theorem puts_zero (vals : Nat → Value) (a : Act) : puts ops vals (fun _ => false) a = a := putsL_none _ a fun _ _ => rfl
theorem puts_succ (vals : Nat → Value) {i : Nat} (hi : i < ops.size) (a : Act) : puts ops vals (fun j => decide (j < i + 1)) a = (puts ops vals (fun j => decide (j < i)) a).put ((ops[i]?).bind (·.dst)) (vals i) := by
  have e : List.range ops.size = List.range i ++ (i :: List.range' (i + 1) (ops.size - (i + 1))) := by
    rw [List.range_eq_range', List.range_eq_range', ← List.range'_succ]
    have : ops.size - (i + 1) + 1 = ops.size - i := by omega
    rw [this, show (List.range' i (ops.size - i)) = List.range' (0 + 1 * i) (ops.size - i) by simp, List.range'_append]
    congr 1
    omega
  unfold puts
  rw [e]
  unfold putsL
  rw [List.foldl_append, List.foldl_append, List.foldl_cons, List.foldl_cons]
  have h1 : ∀ a : Act, (List.range' (i + 1) (ops.size - (i + 1))).foldl (fun a j => if (fun j => decide (j < i + 1)) j then a.put ((ops[j]?).bind (·.dst)) (vals j) else a) a = a := fun a => putsL_none (f := fun j => decide (j < i + 1)) _ a fun j hj => by
    have := List.mem_range'_1.1 hj
    exact decide_eq_false (by omega)
  have h2 : ∀ a : Act, (List.range' (i + 1) (ops.size - (i + 1))).foldl (fun a j => if (fun j => decide (j < i)) j then a.put ((ops[j]?).bind (·.dst)) (vals j) else a) a = a := fun a => putsL_none (f := fun j => decide (j < i)) _ a fun j hj => by
    have := List.mem_range'_1.1 hj
    exact decide_eq_false (by omega)
  rw [h1, h2]
  have h3 : ∀ (l : List Nat) (a : Act), (∀ j ∈ l, j < i) → l.foldl (fun a j => if (fun j => decide (j < i + 1)) j then a.put ((ops[j]?).bind (·.dst)) (vals j) else a) a = l.foldl (fun a j => if (fun j => decide (j < i)) j then a.put ((ops[j]?).bind (·.dst)) (vals j) else a) a := fun l => by
    induction l with
    | nil => intro a _; rfl
    | cons j l ih =>
      intro a hl
      have hj := hl j (List.mem_cons_self ..)
      rw [List.foldl_cons, List.foldl_cons]
      have e1 : decide (j < i + 1) = true := decide_eq_true (by omega)
      have e2 : decide (j < i) = true := decide_eq_true hj
      simp only [e1, e2]
      exact ih _ fun k hk => hl k (List.mem_cons_of_mem _ hk)
  rw [h3 _ a fun j hj => List.mem_range.1 hj]
  simp
theorem calm_at {m : Nat} (hc : calmB ops m = true) {i : Nat} {o : Oper} (hi : i < m) (ho : ops[i]? = some o) : (∀ cs b, o.op ≠ .select cs b) ∧ (∃ t, o.dst = some t ∧ t ∉ o.looksAt ops) ∧ ∀ (j : Nat) (p : Oper), ops[j]? = some p → j ≠ i → o.dst ≠ p.dst ∧ ∀ t, p.dst = some t → t ∈ o.looksAt ops → j < i ∧ waitsB ops i j = true := by
  have hc := (Bool.and_eq_true _ _ ▸ hc : _ ∧ _)
  have h := List.all_eq_true.1 hc.2 i (List.mem_range.2 hi)
  rw [ho] at h
  simp only [Option.any_some, Bool.and_eq_true] at h
  obtain ⟨⟨h1, h2⟩, h3⟩ := h
  refine ⟨(fun cs b e => by rw [e] at h1; cases h1), ?_, fun j p hj hne => ?_⟩
  · have h := List.all_eq_true.1 h3 i (List.mem_range.2 (Array.getElem?_eq_some_iff.1 ho).1)
    rw [ho] at h
    obtain ⟨t, ht⟩ := Option.isSome_iff_exists.1 h2
    refine ⟨t, ht, fun hm => ?_⟩
    have hl : (o.looksAt ops).any (fun t => o.dst == some t) = true := List.any_eq_true.2 ⟨t, hm, by simp [ht]⟩
    simp [hl] at h
  · have h := List.all_eq_true.1 h3 j (List.mem_range.2 (Array.getElem?_eq_some_iff.1 hj).1)
    rw [hj] at h
    have hd : decide (j = i) = false := decide_eq_false hne
    rw [hd] at h
    simp only [Bool.false_and, Bool.false_or, Option.any_some, Bool.and_eq_true, bne_iff_ne, ne_eq] at h
    refine ⟨h.1, fun t ht hm => ?_⟩
    have hl : (o.looksAt ops).any (fun t => p.dst == some t) = true := List.any_eq_true.2 ⟨t, hm, by simp [ht]⟩
    rw [hl] at h
    simpa using h.2
theorem waits_at {i j : Nat} {o : Oper} {f : Nat → Bool} (h : waitsB ops i j = true) (ho : ops[i]? = some o) (hd : ∀ e ∈ o.after, Region.binds .any e = true → f e.on = true) : f j = true := by
  unfold waitsB at h
  rw [ho] at h
  simp only [Option.any_some] at h
  obtain ⟨x, hx, hb⟩ := Array.any_eq_true.1 h
  simp only [Bool.and_eq_true, decide_eq_true_eq] at hb
  exact hb.1 ▸ hd _ (Array.getElem_mem hx) hb.2
theorem same_look {a a' : Act} (h : ∀ t ∈ o.looksAt ops, a.tmps[t]? = a'.tmps[t]?) (hs : ∀ cs b, o.op ≠ .select cs b) : execOp a.eval o = execOp a'.eval o ∧ Region.wanted o (yielded ops a.tmps) = Region.wanted o (yielded ops a'.tmps) ∧ ∀ x ∈ o.op.operands, a.eval x = a'.eval x := by
  have hx : ∀ x ∈ o.op.operands, a.eval x = a'.eval x := fun x hx => by
    cases x with
    | tmp t =>
      have := h t (List.mem_append_left _ (List.mem_filterMap.2 ⟨.tmp t, by simpa using hx, rfl⟩))
      show a.tmps.getD t undef = a'.tmps.getD t undef
      rw [Array.getD_eq_getD_getElem?, Array.getD_eq_getD_getElem?, this]
    | _ => rfl
  refine ⟨execOp_congr o hs hx, ?_, hx⟩
  unfold Region.wanted
  cases hg : o.guard with
  | none => rfl
  | some gw =>
    obtain ⟨g, want⟩ := gw
    have hy : yielded ops a.tmps g = yielded ops a'.tmps g := by
      unfold yielded
      cases ht : (ops[g]?).bind (·.dst) with
      | none => rfl
      | some t =>
        have := h t (List.mem_append_right _ (by simp [hg, ht]))
        simp only [Option.bind_some, this]
    simp only [hy]
theorem putsL_size (vals : Nat → Value) (f : Nat → Bool) : ∀ (l : List Nat) (a : Act), (putsL ops vals f l a).tmps.size = a.tmps.size
  | [], _ => rfl
  | j :: l, a => by
    show (putsL ops vals f l (if f j then a.put ((ops[j]?).bind (·.dst)) (vals j) else a)).tmps.size = _
    rw [putsL_size vals f l]
    split
    · exact put_size _ _ _
    · rfl
theorem slot_keep {vals : Nat → Value} {f : Nat → Bool} {t i : Nat} {X : Option Value} : ∀ (l : List Nat) (a : Act), (∀ j ∈ l, (ops[j]?).bind (·.dst) = some t → j = i) → a.tmps[t]? = X.map (fun _ => vals i) → (putsL ops vals f l a).tmps[t]? = X.map (fun _ => vals i)
  | [], _, _, h => h
  | j :: l, a, hl, h => by
    refine slot_keep l (if f j then a.put ((ops[j]?).bind (·.dst)) (vals j) else a) (fun k hk => hl k (List.mem_cons_of_mem _ hk)) ?_
    split
    · rw [put_slot]
      split
      · next e =>
        have := hl j (List.mem_cons_self ..) e
        rw [h, this]
        cases X <;> rfl
      · exact h
    · exact h
theorem slot_only {vals : Nat → Value} {f : Nat → Bool} {t i : Nat} (hf : f i = true) (hd : (ops[i]?).bind (·.dst) = some t) : ∀ (l : List Nat) (a : Act), (∀ j ∈ l, (ops[j]?).bind (·.dst) = some t → j = i) → i ∈ l → (putsL ops vals f l a).tmps[t]? = (a.tmps[t]?).map (fun _ => vals i)
  | [], _, _, h => by cases h
  | j :: l, a, hl, hm => by
    by_cases e : j = i
    · subst e
      refine slot_keep l (if f j then a.put ((ops[j]?).bind (·.dst)) (vals j) else a) (fun k hk => hl k (List.mem_cons_of_mem _ hk)) ?_
      rw [hf, if_pos rfl, put_slot, if_pos hd]
    · have hm : i ∈ l := by
        rcases List.mem_cons.1 hm with h | h
        · exact absurd h.symm e
        · exact h
      have := slot_only (vals := vals) hf hd l (if f j then a.put ((ops[j]?).bind (·.dst)) (vals j) else a) (fun k hk => hl k (List.mem_cons_of_mem _ hk)) hm
      refine this.trans ?_
      have hne : (ops[j]?).bind (·.dst) ≠ some t := fun h => e (hl j (List.mem_cons_self ..) h)
      split
      · rw [put_slot, if_neg hne]
      · rfl
theorem act_ext {a b : Act} (ht : ∀ t : Nat, a.tmps[t]? = b.tmps[t]?) (hd : a.defers = b.defers) : a = b := by
  obtain ⟨x, y⟩ := a
  obtain ⟨x', y'⟩ := b
  have : x = x' := Array.ext_getElem? ht
  subst this
  have hd : y = y' := hd
  subst hd
  rfl
theorem dst_of (ho : ops[i]? = some o) : (ops[i]?).bind (·.dst) = o.dst := by rw [ho]; rfl
theorem puts_upd {m : Nat} (hc : calmB ops m = true) (hm : i < m) (vals : Nat → Value) {f : Nat → Bool} (hf : f i = false) (ho : ops[i]? = some o) (a : Act) : puts ops vals (upd f i true) a = (puts ops vals f a).put o.dst (vals i) := by
  have hi := (Array.getElem?_eq_some_iff.1 ho).1
  obtain ⟨_, ⟨t0, ht0, _⟩, hdist⟩ := calm_at hc hm ho
  have only : ∀ j ∈ List.range ops.size, (ops[j]?).bind (·.dst) = some t0 → j = i := fun j hj h => by
    refine Classical.byContradiction fun hne => ?_
    have hjl := List.mem_range.1 hj
    have hoj := Array.getElem?_eq_getElem hjl
    rw [hoj] at h
    exact (hdist j _ hoj hne).1 (ht0.trans h.symm)
  refine act_ext (fun t => ?_) ?_
  · rw [put_slot, ht0]
    by_cases e : t0 = t
    · subst e
      rw [if_pos rfl]
      have h1 := slot_only (vals := vals) (f := upd f i true) (upd_same _ _ _) ((dst_of ho).trans ht0) (List.range ops.size) a only (List.mem_range.2 hi)
      have h2 : (puts ops vals f a).tmps[t0]? = a.tmps[t0]? := by
        have : (putsL ops vals f (List.range ops.size) a).tmps[t0]? = (putsL ops vals (fun _ => false) (List.range ops.size) a).tmps[t0]? := slot_congr _ a a rfl fun j hj h => by
          have := only j hj h
          subst this
          exact ⟨hf, rfl⟩
        rw [putsL_none _ a fun _ _ => rfl] at this
        exact this
      rw [h2]
      exact h1
    · rw [if_neg (by simpa using e)]
      exact slot_congr _ a a rfl fun j _ h => by
        have hne : j ≠ i := fun h' => by
          subst h'
          rw [dst_of ho, ht0] at h
          exact e (Option.some.inj h)
        exact ⟨upd_ne _ _ hne, rfl⟩
  · rw [put_defers]
    unfold puts
    rw [putsL_defers, putsL_defers]
def CondU (P : Program) (main : Bool) (V : Nat → Option Wait) (ops : Array Oper) (Z : World → Prop) (o : Oper) (a : Act) (v : Value) : Prop :=
  (Region.wanted o (yielded ops a.tmps) = false ∧ v = undef) ∨
  (Region.wanted o (yielded ops a.tmps) = true ∧ (∀ w, Z w → ∀ d, ∀ e ∈ (execOp a.eval o).events P (w.at d) #[], EvR V e) ∧ ∀ w, Z w → ∀ d, uponK o a (fun x w' => x = a.put o.dst v ∧ w' = w.at d) ((execOp a.eval o).run P (w.at d))) ∨
  (Region.wanted o (yielded ops a.tmps) = true ∧ ∃ (f : FuncId) (fn : Func) (args : Array Operand) (ats : Array TypeId), o.op = .call { callee := .value (.func f), args, argTypes := ats } ∧ P.funcs[f]? = some fn ∧ (fn.name == "runtime.NumGoroutine") = false ∧ fn.body.isNone = false ∧ ∀ w, Z w → CallV P main V f (args.map a.eval) w v w)
theorem cm_vals {m : Nat} (hz : Z w) (hm : m ≤ ops.size) : ∀ (r i : Nat) (vals : Nat → Value) (a0 : Act), i + r = m → Cm P main V ops Z K (List.range' i r) (puts ops vals (fun j => decide (j < i)) a0) →
    ∃ vals', (∀ j, j < i → vals' j = vals j) ∧ (∀ j o, i ≤ j → j < m → ops[j]? = some o → CondU P main V ops Z o (puts ops vals' (fun x => decide (x < j)) a0) (vals' j)) ∧ K (puts ops vals' (fun j => decide (j < m)) a0)
  | 0, i, vals, a0, hi, h => by
    have hi : i = m := hi
    refine ⟨vals, fun _ _ => rfl, fun j o hj hjm ho => ?_, ?_⟩
    · omega
    · rw [← hi]; exact h
  | r + 1, i, vals, a0, hi, h => by
    have his : i < ops.size := by omega
    obtain ⟨o, a', ho, hn, hc⟩ := h
    obtain ⟨v, hv, hcond⟩ : ∃ v, a' = (puts ops vals (fun j => decide (j < i)) a0).put o.dst v ∧ CondU P main V ops Z o (puts ops vals (fun j => decide (j < i)) a0) v := by
      rcases hc with ⟨h1, h2⟩ | ⟨h1, h2, h3⟩ | ⟨h1, f, fn, args, ats, x, e1, e2, e3, e4, e5, e6⟩
      · exact ⟨undef, h2, .inl ⟨h1, rfl⟩⟩
      · have h0 := h3 w hz 0
        obtain ⟨v, hv⟩ : ∃ v, a' = (puts ops vals (fun j => decide (j < i)) a0).put o.dst v := by
          revert h0
          generalize (execOp _ o).run P (w.at 0) = rr
          intro h0
          unfold uponK at h0
          split at h0
          · exact ⟨_, h0.1.symm⟩
          · exact ⟨_, h0.1.symm⟩
          · exact h0.elim
        exact ⟨v, hv, .inr (.inl ⟨h1, h2, hv ▸ h3⟩)⟩
      · exact ⟨x, e6, .inr (.inr ⟨h1, f, fn, args, ats, e1, e2, e3, e4, e5⟩)⟩
    have hpre : puts ops (upd vals i v) (fun j => decide (j < i)) a0 = puts ops vals (fun j => decide (j < i)) a0 := puts_congr (fun j _ => ⟨rfl, fun hd => upd_ne _ _ (by have := of_decide_eq_true hd; omega)⟩) a0
    have hs := puts_succ (ops := ops) (upd vals i v) his a0
    rw [hpre, upd_same, dst_of ho, ← hv] at hs
    rw [← hs] at hn
    obtain ⟨vals', k1, k2, k3⟩ := cm_vals hz hm r (i + 1) (upd vals i v) a0 (by omega) hn
    refine ⟨vals', fun j hj => (k1 j (by omega)).trans (upd_ne _ _ (by omega)), fun j o' hj hjm ho' => ?_, k3⟩
    by_cases e : j = i
    · subst e
      rw [ho] at ho'
      cases ho'
      have e1 : puts ops vals' (fun x => decide (x < j)) a0 = puts ops vals (fun x => decide (x < j)) a0 := by
        rw [← hpre]
        exact puts_congr (fun x _ => ⟨rfl, fun hd => k1 x (by have := of_decide_eq_true hd; omega)⟩) a0
      have e2 : vals' j = v := (k1 j (by omega)).trans (upd_same _ _ _)
      rw [e1, e2]
      exact hcond
    · exact k2 j o' (by omega) hjm ho'
end
section
variable {P : Program} {main : Bool} {V : Nat → Option Wait} {Stop : Goroutine → World → Prop} {b : Frame} {k : List Item} {cs : List Frame} {ops : Array Oper} {w : World} {a : Act}
theorem Walk.calmOp {Z : World → Prop} {m i : Nat} (hz : Z w) {o : Oper} {vals : Nat → Value} {f : Nat → Bool} {rest : List Nat} (hc : calmB ops m = true) (hk : b.kind ≠ .early) (hi : i < m) (ho : ops[i]? = some o) (hd : ∀ e ∈ o.after, Region.binds .any e = true → f e.on = true)
    (hcond : CondU P main V ops Z o (puts ops vals (fun x => decide (x < i)) a) (vals i)) (hr' : Walk P main (DR V) Stop (G (b.at ((puts ops vals f a).put o.dst (vals i)) (.inRegion ops rest :: k)) cs) w) :
    Walk P main (DR V) Stop (G (b.at (puts ops vals f a) (.inRegion ops (i :: rest) :: k)) cs) w := by
  obtain ⟨hsel, ⟨t0, ht0, hself⟩, hdist⟩ := calm_at hc hi ho
  have hlook : ∀ t ∈ o.looksAt ops, (puts ops vals f a).tmps[t]? = (puts ops vals (fun j => decide (j < i)) a).tmps[t]? := fun t ht => slot_congr _ a a rfl fun j hj hjd => by
    have hjl := List.mem_range.1 hj
    have hoj := Array.getElem?_eq_getElem hjl
    have hne : j ≠ i := fun e => by
      subst e
      rw [dst_of ho, ht0] at hjd
      cases hjd
      exact hself ht
    rw [hoj] at hjd
    obtain ⟨h1, h2⟩ := (hdist j _ hoj hne).2 t hjd ht
    exact ⟨(waits_at h2 ho hd).trans (decide_eq_true h1).symm, rfl⟩
  obtain ⟨s1, s2, s3⟩ := same_look hlook hsel
  have hsz : (puts ops vals f a).tmps.size = (puts ops vals (fun j => decide (j < i)) a).tmps.size := by
    unfold puts
    rw [putsL_size, putsL_size]
  have hput : ∀ v, (puts ops vals (fun j => decide (j < i)) a).put o.dst v = (puts ops vals (fun j => decide (j < i)) a).put o.dst (vals i) → (puts ops vals f a).put o.dst v = (puts ops vals f a).put o.dst (vals i) := fun v e => by
    refine act_ext (fun t => ?_) (by rw [put_defers, put_defers])
    rw [put_slot, put_slot]
    split
    · next e' =>
      have h1 : ((puts ops vals (fun j => decide (j < i)) a).put o.dst v).tmps[t]? = ((puts ops vals (fun j => decide (j < i)) a).put o.dst (vals i)).tmps[t]? := by rw [e]
      rw [put_slot, put_slot, if_pos e', if_pos e'] at h1
      by_cases hl : t < (puts ops vals f a).tmps.size
      · rw [Array.getElem?_eq_getElem (hsz ▸ hl)] at h1
        simp only [Option.map_some] at h1
        rw [Array.getElem?_eq_getElem hl]
        exact h1
      · rw [Array.getElem?_eq_none (by omega)]; rfl
    · rfl
  rcases hcond with ⟨c1, c2⟩ | ⟨c1, c2, c3⟩ | ⟨c1, f', fn, args, ats, e1, e2, e3, e4, e5⟩
  · rw [← s2] at c1
    rw [c2] at hr'
    exact Walk.ctl rfl (fun w => stepG_unwanted ho c1) hr'
  · rw [← s2] at c1
    rw [← s1] at c2 c3
    refine Walk.opq ho c1 hk (c2 w hz) fun d' K hK => ?_
    have h3 := c3 w hz d'
    revert h3
    generalize (execOp (puts ops vals f a).eval o).run P (w.at d') = rr
    intro h3
    unfold uponK at h3 ⊢
    split at h3
    · obtain ⟨x1, rfl⟩ := h3
      refine hK _ ?_
      rw [hput _ x1]; exact hr'
    · obtain ⟨x1, rfl⟩ := h3
      refine hK _ ?_
      rw [hput _ x1]; exact hr'
    · exact h3.elim
  · rw [← s2] at c1
    have hargs : args.map (puts ops vals f a).eval = args.map (puts ops vals (fun j => decide (j < i)) a).eval := Array.map_congr_left fun x hx => s3 x (by rw [e1]; simp [Op.operands, Call.operands, hx])
    rw [← hargs] at e5
    exact Walk.callV (e5 w hz) ho c1 hk e1 e2 e3 e4 hr'
theorem Walk.drawnC {id m : Nat} (hm : P.follows .mixedOrders = true) (hsz : ops.size = m) (hlow : lowB ops = true) (hc : calmB ops m = true) (hk : b.kind ≠ .early)
    (h : Cm P main V ops (· = w) (fun a => Walk P main (DR V) Stop (G (b.at a (.inRegion ops [] :: k)) cs) w) (List.range m) a) : Walk P main (DR V) Stop (G (b.at a (.code (.region id ops true) :: k)) cs) w := by
  rw [List.range_eq_range'] at h
  have h0 : Cm P main V ops (· = w) (fun a => Walk P main (DR V) Stop (G (b.at a (.inRegion ops [] :: k)) cs) w) (List.range' 0 m) (puts ops (fun _ => undef) (fun j => decide (j < 0)) a) := by
    have : puts ops (fun _ => undef) (fun j => decide (j < 0)) a = a := putsL_none _ a fun j _ => decide_eq_false (Nat.not_lt_zero j)
    rw [this]; exact h
  obtain ⟨vals, _, hcond, hend⟩ := cm_vals (Z := (· = w)) (w := w) rfl (Nat.le_of_eq hsz.symm) m 0 (fun _ => undef) a (by omega) h0
  refine Walk.drawnI (Inv := fun f x w' => x = puts ops vals f a ∧ ∃ d, w' = w.at d) hm hlow (fun d => ⟨(puts_zero vals a).symm, d, rfl⟩) ?_ ?_
  · rintro f i o _ _ ⟨rfl, d, rfl⟩ hf ho hd rest hr
    have hi : i < m := by have := (Array.getElem?_eq_some_iff.1 ho).1; omega
    refine Walk.back ?_ d
    refine Walk.calmOp (Z := (· = w)) rfl hc hk hi ho hd (hcond i o (Nat.zero_le _) hi ho) ?_
    rw [← puts_upd hc hi vals hf ho a]
    exact hr _ (w.at w.drawn) ⟨rfl, w.drawn, rfl⟩
  · rintro f _ _ ⟨rfl, d, rfl⟩ hall
    refine Walk.back ?_ d
    have : puts ops vals f a = puts ops vals (fun j => decide (j < m)) a := puts_congr (fun j hj => ⟨(hall j hj).trans (decide_eq_true (hsz ▸ hj)).symm, fun _ => rfl⟩) a
    rw [this]
    exact hend
def lastB (ops : Array Oper) (m : Nat) : Bool := (List.range m).all fun j => (List.range (m + 1)).any fun i => decide (j < i) && waitsB ops i j
theorem last_all {m : Nat} {o : Oper} {f : Nat → Bool} (hl : lastB ops m = true) (hC : Closed ops f) (ho : ops[m]? = some o) (hd : ∀ e ∈ o.after, Region.binds .any e = true → f e.on = true) : ∀ (r j : Nat), j + r = m → 0 < r → f j = true := by
  intro r
  induction r using Nat.strongRecOn with
  | _ r ih =>
    intro j hj hr
    have h := List.all_eq_true.1 hl j (List.mem_range.2 (by omega))
    obtain ⟨i, hi, h2⟩ := List.any_eq_true.1 h
    have hi := List.mem_range.1 hi
    simp only [Bool.and_eq_true, decide_eq_true_eq] at h2
    obtain ⟨h3, h4⟩ := h2
    by_cases e : i = m
    · subst e
      exact waits_at h4 ho hd
    · have hfi := ih (m - i) (by omega) i (by omega) (by omega)
      unfold waitsB at h4
      cases hoi : ops[i]? with
      | none => rw [hoi] at h4; cases h4
      | some oi =>
        rw [hoi] at h4
        simp only [Option.any_some] at h4
        obtain ⟨x, hx, hb⟩ := Array.any_eq_true.1 h4
        simp only [Bool.and_eq_true, decide_eq_true_eq] at hb
        exact hb.1 ▸ hC i oi hoi hfi _ (Array.getElem_mem hx) hb.2
theorem Walk.drawnL {id m : Nat} (hm : P.follows .mixedOrders = true) (hsz : ops.size = m + 1) (hlow : lowB ops = true) (hc : calmB ops m = true) (hl : lastB ops m = true) (hk : b.kind ≠ .early)
    (h : Cm P main V ops (· = w) (fun a => OpW P main V Stop b k cs ops m (fun a' w' => Walk P main (DR V) Stop (G (b.at a' (.inRegion ops [] :: k)) cs) w') a w) (List.range m) a) : Walk P main (DR V) Stop (G (b.at a (.code (.region id ops true) :: k)) cs) w := by
  rw [List.range_eq_range'] at h
  have h0 : Cm P main V ops (· = w) (fun a => OpW P main V Stop b k cs ops m (fun a' w' => Walk P main (DR V) Stop (G (b.at a' (.inRegion ops [] :: k)) cs) w') a w) (List.range' 0 m) (puts ops (fun _ => undef) (fun j => decide (j < 0)) a) := by
    have : puts ops (fun _ => undef) (fun j => decide (j < 0)) a = a := putsL_none _ a fun j _ => decide_eq_false (Nat.not_lt_zero j)
    rw [this]; exact h
  obtain ⟨vals, _, hcond, hend⟩ := cm_vals (Z := (· = w)) (ops := ops) (m := m) (w := w) rfl (by omega) m 0 (fun _ => undef) a (by omega) h0
  refine Walk.drawnJ (Inv := fun f x w' => (f m = true ∧ (∀ j, j < m → f j = true) ∧ Walk P main (DR V) Stop (G (b.at x (.inRegion ops [] :: k)) cs) w') ∨ (f m = false ∧ x = puts ops vals f a ∧ ∃ d, w' = w.at d)) hm hlow (fun d => .inr ⟨rfl, (puts_zero vals a).symm, d, rfl⟩) ?_ ?_
  · rintro f i o x w' hI hC hf ho hd rest hr
    have hi : i < m + 1 := by have := (Array.getElem?_eq_some_iff.1 ho).1; omega
    rcases hI with ⟨h1, h2, _⟩ | ⟨h1, rfl, d, rfl⟩
    · exfalso
      by_cases e : i = m
      · rw [e, h1] at hf; cases hf
      · rw [h2 i (by omega)] at hf; cases hf
    · refine Walk.back ?_ d
      by_cases e : i = m
      · subst e
        have hall := last_all hl hC ho hd
        have : puts ops vals f a = puts ops vals (fun j => decide (j < i)) a := puts_congr (fun j hj => ⟨by
          by_cases hji : j < i
          · rw [hall (i - j) j (by omega) (by omega)]; exact (decide_eq_true hji).symm
          · have : j = i := by omega
            rw [this, hf]; simp, fun _ => rfl⟩) a
        rw [this]
        refine hend rest fun a' w' hw' => hr a' w' (.inl ⟨upd_same _ _ _, fun j hj => ?_, hw'⟩)
        rw [upd_ne _ _ (by omega)]
        exact hall (i - j) j (by omega) (by omega)
      · have him : i < m := by omega
        refine Walk.calmOp (Z := (· = w)) rfl hc hk him ho hd (hcond i o (Nat.zero_le _) him ho) ?_
        rw [← puts_upd hc him vals hf ho a]
        exact hr _ (w.at w.drawn) (.inr ⟨by rw [upd_ne _ _ (Ne.symm e)]; exact h1, rfl, w.drawn, rfl⟩)
  · rintro f x w' hI hall
    rcases hI with ⟨_, _, h3⟩ | ⟨h1, _⟩
    · exact h3
    · rw [hall m (by omega)] at h1; cases h1
theorem Walk.drawnB {id m : Nat} {w1 : World} {om : Oper} {vm : Value} (hm : P.follows .mixedOrders = true) (hsz : ops.size = m + 2) (hlow : lowB ops = true) (hc : calmB ops (m + 1) = true) (hl : lastB ops (m + 1) = true) (hk : b.kind ≠ .early) (hom : ops[m]? = some om)
    (hal : ∀ x, OpW P main V Stop b k cs ops m (fun x' w' => x' = x.put om.dst vm ∧ ∃ d, w' = w1.at d) x w)
    (h : Cm P main V ops (fun x => x = w ∨ x = w1) (fun a => OpW P main V Stop b k cs ops (m + 1) (fun a' w' => Walk P main (DR V) Stop (G (b.at a' (.inRegion ops [] :: k)) cs) w') (a.put om.dst vm) w1) (List.range m) a) : Walk P main (DR V) Stop (G (b.at a (.code (.region id ops true) :: k)) cs) w := by
  rw [List.range_eq_range'] at h
  generalize hZ : (fun x : World => x = w ∨ x = w1) = Z at h
  have hz0 : Z w := hZ ▸ .inl rfl
  have hz1 : Z w1 := hZ ▸ .inr rfl
  have h0 : Cm P main V ops Z (fun a => OpW P main V Stop b k cs ops (m + 1) (fun a' w' => Walk P main (DR V) Stop (G (b.at a' (.inRegion ops [] :: k)) cs) w') (a.put om.dst vm) w1) (List.range' 0 m) (puts ops (fun _ => undef) (fun j => decide (j < 0)) a) := by
    have : puts ops (fun _ => undef) (fun j => decide (j < 0)) a = a := putsL_none _ a fun j _ => decide_eq_false (Nat.not_lt_zero j)
    rw [this]; exact h
  have hcm : calmB ops m = true := by
    unfold calmB at hc ⊢
    simp only [Bool.and_eq_true, decide_eq_true_eq] at hc ⊢
    exact ⟨by omega, List.all_eq_true.2 fun x hx => List.all_eq_true.1 hc.2 x (List.mem_range.2 (by have := List.mem_range.1 hx; omega))⟩
  obtain ⟨vals0, _, hcond0, hend0⟩ := cm_vals (ops := ops) (m := m) (w := w) hz0 (by omega) m 0 (fun _ => undef) a (by omega) h0
  generalize hvals : upd vals0 m vm = vals
  have hv : ∀ j, j < m → vals j = vals0 j := fun j hj => by rw [← hvals]; exact upd_ne _ _ (by omega)
  have hvm : vals m = vm := by rw [← hvals]; exact upd_same _ _ _
  have hpre : ∀ i, i ≤ m → puts ops vals (fun j => decide (j < i)) a = puts ops vals0 (fun j => decide (j < i)) a := fun i hi => puts_congr (fun j _ => ⟨rfl, fun hd => hv j (by have := of_decide_eq_true hd; omega)⟩) a
  have hcond : ∀ i o, i < m → ops[i]? = some o → CondU P main V ops Z o (puts ops vals (fun x => decide (x < i)) a) (vals i) := fun i o hi ho => by
    rw [hpre i (by omega), hv i hi]
    exact hcond0 i o (Nat.zero_le _) hi ho
  have hend : OpW P main V Stop b k cs ops (m + 1) (fun a' w' => Walk P main (DR V) Stop (G (b.at a' (.inRegion ops [] :: k)) cs) w') (puts ops vals (fun j => decide (j < m + 1)) a) w1 := by
    rw [puts_succ vals (by omega) a, hpre m (Nat.le_refl m), dst_of hom, hvm]
    exact hend0
  refine Walk.drawnJ (Inv := fun f x w' => (f (m + 1) = true ∧ (∀ j, j < m + 1 → f j = true) ∧ Walk P main (DR V) Stop (G (b.at x (.inRegion ops [] :: k)) cs) w') ∨ (f (m + 1) = false ∧ x = puts ops vals f a ∧ ∃ d, w' = (if f m then w1 else w).at d)) hm hlow (fun d => .inr ⟨rfl, (puts_zero vals a).symm, d, rfl⟩) ?_ ?_
  · rintro f i o x w' hI hC hf ho hd rest hr
    have hi : i < m + 2 := by have := (Array.getElem?_eq_some_iff.1 ho).1; omega
    rcases hI with ⟨h1, h2, _⟩ | ⟨h1, rfl, d, rfl⟩
    · exfalso
      by_cases e : i = m + 1
      · rw [e, h1] at hf; cases hf
      · rw [h2 i (by omega)] at hf; cases hf
    · refine Walk.back ?_ d
      by_cases e : i = m + 1
      · subst e
        have hall := last_all hl hC ho hd
        have hfm : f m = true := hall 1 m (by omega) (by omega)
        rw [hfm, if_pos rfl]
        have : puts ops vals f a = puts ops vals (fun j => decide (j < m + 1)) a := puts_congr (fun j hj => ⟨by
          by_cases hji : j < m + 1
          · rw [hall (m + 1 - j) j (by omega) (by omega)]; exact (decide_eq_true hji).symm
          · have : j = m + 1 := by omega
            rw [this, hf]; simp, fun _ => rfl⟩) a
        rw [this]
        refine hend rest fun a' w' hw' => hr a' w' (.inl ⟨upd_same _ _ _, fun j hj => ?_, hw'⟩)
        rw [upd_ne _ _ (by omega)]
        exact hall (m + 1 - j) j (by omega) (by omega)
      · by_cases e2 : i = m
        · subst e2
          rw [hom] at ho
          cases ho
          rw [hf, if_neg (by simp)]
          refine hal _ rest ?_
          rintro x' w' ⟨rfl, d', rfl⟩
          refine hr _ _ (.inr ⟨by rw [upd_ne _ _ (by omega)]; exact h1, ?_, d', by rw [upd_same]; rfl⟩)
          rw [puts_upd hc (Nat.lt_succ_self _) vals hf hom a, hvm]
        · have him : i < m := by omega
          generalize hWW : (if f m then w1 else w) = ww at *
          have hz : Z ww := by
            rw [← hWW]
            split
            · exact hz1
            · exact hz0
          refine Walk.calmOp (Z := Z) hz hcm hk him ho hd (hcond i o him ho) ?_
          rw [← puts_upd hcm him vals hf ho a]
          exact hr _ (ww.at ww.drawn) (.inr ⟨by rw [upd_ne _ _ (by omega)]; exact h1, rfl, ww.drawn, by rw [upd_ne _ _ (by omega), hWW]⟩)
  · rintro f x w' hI hall
    rcases hI with ⟨_, _, h3⟩ | ⟨h1, _⟩
    · exact h3
    · rw [hall (m + 1) (by omega)] at h1; cases h1
end
end Go.Relay
end
